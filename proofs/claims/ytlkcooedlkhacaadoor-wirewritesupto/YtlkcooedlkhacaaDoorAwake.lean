/- The walk of the statements' fixed question: the program answers it. -/
import Derived.Test.YtlkcooedlkhacaaDoorNum
import Derived.Test.YtlkcooedlkhacaaDoorSum
import Derived.Test.YtlkcooedlkhacaaDoorApp
import Derived.Lib.SlBytesConst
namespace Go.Proofs.YtlkcooedlkhacaaDoor
open Go.RowKit

theorem Ints.three (w : World) (a b c : Int) (t : TypeId) : Ints (w.alloc (.cells #[.int .i64 a, .int .i64 b, .int .i64 c] t)) (.slice (some ⟨w.heap.size, 0, none⟩) 3 3) [a, b, c] := by
  refine ⟨_, 3, rfl, Nat.le_refl _, by decide, fun _ => ⟨_, 0, rfl, fun k x hx => ?_⟩⟩
  match k, hx with
  | 0, hx => obtain rfl : a = x := by simpa using hx
             simp [go_sem]
  | 1, hx => obtain rfl : b = x := by simpa using hx
             simp [go_sem]
  | 2, hx => obtain rfl : c = x := by simpa using hx
             simp [go_sem]
theorem Ints.one (w : World) (a : Int) (t : TypeId) : Ints (w.alloc (.cells #[.int .i64 a] t)) (.slice (some ⟨w.heap.size, 0, none⟩) 1 1) [a] := by
  refine ⟨_, 1, rfl, Nat.le_refl _, by decide, fun _ => ⟨_, 0, rfl, fun k x hx => ?_⟩⟩
  match k, hx with
  | 0, hx => obtain rfl : a = x := by simpa using hx
             simp [go_sem]
/-- A text's bytes, as the conversion of a constant lays them. -/
theorem Bts.const (w : World) (l : List UInt8) (hl : l.length ≤ maxLen) (n : Nat) (hn : n = l.length) (t : TypeId) (fz : Nat × Nat) : Bts (w.alloc (.cells (Lib.byteCells l).toArray t fz)) (.slice (some ⟨w.heap.size, 0, none⟩) n n) l := by
  subst hn
  refine ⟨_, l.length, rfl, Nat.le_refl _, hl, fun _ => ⟨_, 0, rfl, fun k x hx => ?_⟩⟩
  have := cell_of_row (w.alloc (.cells (Lib.byteCells l).toArray t fz)) w.heap.size k (Lib.byteCells l).toArray t fz (heap_alloc_new w _)
  rw [Nat.zero_add, this]
  simp [Lib.byteCells, hx]

theorem awake_nums : numsRes [0, 127, 128] = [0, 127, 128, 1] ∧ numsErr [0, 127, 128] = 0 := by decide +kernel

set_option maxRecDepth 100000 in
set_option maxHeartbeats 400000 in
theorem awake_any (w : World) : Calls Tryd.prog 17 #[] w fun e w' => e = .returned (.bool true) ∧ Kept w w' := by
  have kc := fun (w : World) (C : Array Value) (n c : Nat) => Lib.run_convert_bytes_const (P := Tryd.prog) w 23 5 C n c Tryd.underlying23 Tryd.underlying5
  go_enter Tryd.func17, Tryd.ntmps17
  go_wp2_with fail
  refine (numbers_any [0, 127, 128] _ _ (Ints.three w 0 127 128 _) (by decide)).mono ?_
  rintro e w1 ⟨v, rfl, h1, h2⟩
  rw [awake_nums.1] at h1
  rw [awake_nums.2]
  have hb := Bts.of_own h1
  have hcv := conv_run hb
  have hk := ((Kept.refl w).alloc _).trans h2
  obtain ⟨A, c, rfl, -, -, -⟩ := id hb
  rw [show ([0, 127, 128, 1] : List UInt8).length = 4 from rfl] at hcv
  rw [show ([0, 127, 128, 1] : List UInt8).length = 4 from rfl]
  clear h1 h2 hb
  go_wp2_with fail
  refine (sum_any [49, 50, 51, 52, 53, 54, 55, 56, 57] _ _ (Bts.const w1 [49, 50, 51, 52, 53, 54, 55, 56, 57] (by decide) 9 rfl _ _)).mono ?_
  rintro e w2 ⟨rfl, hk2⟩
  rw [crc_awake]
  have hk3 := (hk.alloc _).trans hk2
  clear hcv
  go_wp2
  go_ret
  exact ⟨rfl, hk3⟩
end Go.Proofs.YtlkcooedlkhacaaDoor
