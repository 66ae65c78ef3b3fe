/- The walk of awake. -/
import Derived.Test.YtnpenabkmpoafaaQNWkb
import Derived.Lib.SlBytesConst
set_option linter.unusedSimpArgs false
set_option linter.unusedVariables false
namespace Go.Proofs.Ytnpenabkmpoafaa
open Go.RowKit
set_option maxRecDepth 100000 in
set_option maxHeartbeats 1000000 in
theorem awake_any (w : World) : Calls Try.prog 7 #[] w fun e w' => e = .returned (.bool true) ∧ Kept w w' := by
  have HN := Lib.hid (new_good 2 2 w (by omega) (by omega))
  have kc := fun (w : World) (C : Array Value) (n c : Nat) => Lib.run_convert_bytes_const (P := Try.prog) w 54 5 C n c Try.underlying54 Try.underlying5
  go_enter Try.func7, Try.ntmps7
  go_wp2_with fail
  refine HN.out.mono ?_
  rintro e w1 ⟨nb, m, rfl, hn, hk⟩
  have HN1 := Lib.hid hn
  have HK1 := Lib.hid hk
  clear hn hk
  have kc2 := kc (w1.alloc (.cells #[.int .u8 97] 5 (1, 2))) #[.int .u8 98] 1 1
  rw [show (w1.alloc (.cells #[.int .u8 97] 5 (1, 2))).heap.size = w1.heap.size + 1 by simp] at kc2
  go_wp2_with fail
  have hka := (Kept.refl w1).alloc (.cells #[.int .u8 97] 5 (1, 2))
  have hkb := (Kept.refl (w1.alloc (.cells #[.int .u8 97] 5 (1, 2)))).alloc (.cells #[.int .u8 98] 5 (1, 2))
  have hkc := (Kept.refl ((w1.alloc (.cells #[.int .u8 97] 5 (1, 2))).alloc (.cells #[.int .u8 98] 5 (1, 2)))).alloc (.cells #[.slice (some ⟨w1.heap.size, 0, none⟩) 1 1, .slice (some ⟨w1.heap.size + 1, 0, none⟩) 1 1] 54)
  have s1 : (w1.alloc (.cells #[.int .u8 97] 5 (1, 2))).heap.size = w1.heap.size + 1 := by simp
  have s2 : ((w1.alloc (.cells #[.int .u8 97] 5 (1, 2))).alloc (.cells #[.int .u8 98] 5 (1, 2))).heap.size = w1.heap.size + 1 + 1 := by simp
  have na := heap_alloc_new w1 (.cells #[.int .u8 97] 5 (1, 2))
  have nb' := heap_alloc_new (w1.alloc (.cells #[.int .u8 97] 5 (1, 2))) (.cells #[.int .u8 98] 5 (1, 2))
  have nc := heap_alloc_new ((w1.alloc (.cells #[.int .u8 97] 5 (1, 2))).alloc (.cells #[.int .u8 98] 5 (1, 2))) (.cells #[.slice (some ⟨w1.heap.size, 0, none⟩) 1 1, .slice (some ⟨w1.heap.size + 1, 0, none⟩) 1 1] 54)
  rw [s1] at nb'
  rw [s2] at nc
  have na := (hkb.trans hkc).block' na
  have nb' := hkc.block' nb'
  have hkabc := (hka.trans hkb).trans hkc
  generalize ((w1.alloc (.cells #[.int .u8 97] 5 (1, 2))).alloc (.cells #[.int .u8 98] 5 (1, 2))).alloc (.cells #[.slice (some ⟨w1.heap.size, 0, none⟩) 1 1, .slice (some ⟨w1.heap.size + 1, 0, none⟩) 1 1] 54) = w4 at *
  have hF : ∀ g, w1.heap.size ≤ g → ¬ fresh w w1 g := fun g hg x => by
    rcases x with x | x
    · exact x
    · omega
  have hpar : ∀ W, Chg (fresh w w1) w4 W → Parts W (.slice (some ⟨w1.heap.size + 1 + 1, 0, none⟩) 2 2) [[97], [98]] := fun W c => by
    have na := c.block' na (hF _ (Nat.le_refl _))
    have nb' := c.block' nb' (hF _ (by omega))
    have nc := c.block' nc (hF _ (by omega))
    have one : ∀ (g : Nat) (x : UInt8), W.heap[g]? = some (.cells #[.int .u8 (x.toNat : Int)] 5 (1, 2)) → Bts W (.slice (some ⟨g, 0, none⟩) 1 1) [x] := fun g x hg => by
      refine ⟨_, 1, rfl, Nat.le_refl _, by decide, fun _ => ⟨_, 0, rfl, fun k y hy => ?_⟩⟩
      match k, hy with
      | 0, hy =>
        obtain rfl : x = y := by simpa using hy
        rw [Nat.zero_add, cell_at hg]
        rfl
    refine ⟨_, 2, rfl, Nat.le_refl _, by decide, fun _ => ⟨_, 0, rfl, fun k y hy => ?_⟩⟩
    match k, hy with
    | 0, hy =>
      obtain rfl : [97] = y := by simpa using hy
      exact ⟨_, by rw [Nat.zero_add, cell_at nc]; rfl, one _ 97 na⟩
    | 1, hy =>
      obtain rfl : [98] = y := by simpa using hy
      exact ⟨_, by rw [Nat.zero_add, cell_at nc]; rfl, one _ 98 nb'⟩
  have hse : sendE (NS.new 2 2) 0 1 ([[97], [98]] : List (List UInt8)).length = 0 := by decide
  have HS := Lib.hid (send_F w4 nb m (NS.new 2 2) 0 (fresh w w1) (HN1.out.kept hkabc) 0 1 [[97], [98]] _ hpar (by intro x hx; simp at hx; rcases hx with rfl | rfl <;> decide) (by decide))
  rw [hse] at HS
  clear hpar na nb' nc hse kc2
  refine HS.out.mono ?_
  rintro e w5 ⟨rfl, ⟨m5, hn5⟩, hc5⟩
  have HN5 := Lib.hid hn5
  have hk5 : Kept w w5 := hc5.kept (HK1.out.trans hkabc) (fun g x => by
    rcases x with x | x
    · exact x.elim
    · exact x.1)
  clear hn5
  have HD := Lib.hid (deliver_any w5 nb m5 _ 1 _ HN5.out 0 1 1 (by decide))
  have hwe : waitE (sendS (NS.new 2 2) 0 1 [[97], [98]]) 0 1 1 = 0 := by decide
  have hms : msgS (sendS (NS.new 2 2) 0 1 [[97], [98]]) 0 1 1 = [98] := by decide
  rw [hwe, hms] at HD
  clear hwe hms
  go_wp2_with fail
  refine HD.out.mono ?_
  rintro e w6 ⟨v6, rfl, ho6, -, -, hc6⟩
  have hcv := conv_run (Bts.of_own ho6)
  obtain ⟨A6, c6, rfl⟩ := own_form ho6
  have hk6 : Kept w w6 := hc6.kept hk5 (fun g x => by
    rcases x with x | x
    · rcases x with x | x
      · exact x.elim
      · exact x.1
    · have := hkabc.size
      have := HK1.out.size
      omega)
  have HC := Lib.hid hk6
  clear ho6 hc6 hk6
  simp only [List.length_cons, List.length_nil, Nat.zero_add] at hcv ⊢
  go_wp2
  go_ret
  exact ⟨rfl, HC.out⟩
end Go.Proofs.Ytnpenabkmpoafaa
