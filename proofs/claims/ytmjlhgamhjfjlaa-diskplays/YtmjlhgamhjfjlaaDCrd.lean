/- The walk of crashed. -/
import Derived.Test.YtmjlhgamhjfjlaaDRen
import Derived.Test.YtmjlhgamhjfjlaaMem2
set_option linter.unusedSimpArgs false
set_option linter.unusedVariables false
namespace Go.Proofs.Ytmjlhgamhjfjlaa
open Go.RowKit
theorem Bts.take {w : World} {A : Option Addr} {n c : Nat} {l : List UInt8} (h : Bts w (.slice A n c) l) (m : Nat) (hm : m ≤ l.length) : Bts w (.slice A m c) (l.take m) := by
  obtain ⟨A', c', hv, h1, h2, h3⟩ := h
  obtain ⟨rfl, -, rfl⟩ : A = A' ∧ n = l.length ∧ c = c' := by simpa using hv
  have hl : (l.take m).length = m := by simp; omega
  refine ⟨A, c, by rw [hl], by omega, h2, fun hp => ?_⟩
  rw [hl] at hp
  obtain ⟨b, o, e, hc⟩ := h3 (by omega)
  refine ⟨b, o, e, fun k x hk => hc k x ?_⟩
  have hkm : k < m := by
    have := (List.getElem?_eq_some_iff.1 hk).1
    omega
  rw [List.getElem?_take_of_lt hkm] at hk
  exact hk
set_option maxRecDepth 100000 in
set_option maxHeartbeats 4000000 in
theorem crashed_any (fb : List UInt8) (s : Nat) (A : Option Addr) (c : Nat) (cut : Int) (w : World) (ho : Bts w (.slice A fb.length c) fb) (hs : s ≤ fb.length) (hl : fb.length ≤ 1073741824) :
    Calls Try.prog 41 #[.agg #[.slice A fb.length c, .int .i64 (s : Int)], .int .i64 cut] w fun e w' => ∃ v, e = .returned (.agg #[v, .int .i64 (keptN (fb, s) cut : Int)]) ∧ w'.ownsRow w.heap.size 5 1 v (keptN (fb, s) cut) (Lib.byteCells (fb.take (keptN (fb, s) cut))) ∧ Kept w w' := by
  have HO := Lib.hid ho
  obtain ⟨A', c', hv', hc1, hc2, -⟩ := id ho
  obtain ⟨rfl, -, rfl⟩ : A = A' ∧ fb.length = fb.length ∧ c = c' := by simpa using hv'
  clear ho hv'
  unfold maxLen at hc2
  have hk : keptN (fb, s) cut = s + min (max cut 0).toNat (fb.length - s) := rfl
  have hkl : keptN (fb, s) cut ≤ fb.length := by rw [hk]; omega
  have hki : (keptN (fb, s) cut : Int) = (s : Int) + min (max cut 0) ((fb.length : Int) - (s : Int)) := by rw [hk]; omega
  have HK := Lib.hid hki
  generalize keptN (fb, s) cut = kn at *
  clear hk hki
  go_enter Try.func41, Try.ntmps41
  go_wp2_with fail
  rw [← HK.out, Int.toNat_natCast]
  have hK := ((Kept.refl w).alloc (.cells #[.slice A fb.length c, .int .i64 (s : Int)] 72)).alloc (.cells #[.slice none 0 0, .int .i64 0] 72)
  have hlt : (fb.take kn).length = kn := by simp; omega
  refine (bclone_any (fb.take kn) _ _ ((HO.out.kept hK).take kn hkl) (by omega)).mono ?_
  rintro e w3 ⟨v3, rfl, h3, k3⟩
  rw [hlt] at h3
  obtain ⟨A3, c3, rfl⟩ := own_form h3
  have hb3 := k3.block' (heap_alloc_new (w.alloc (.cells #[.slice A fb.length c, .int .i64 (s : Int)] 72)) (.cells #[.slice none 0 0, .int .i64 0] 72))
  have hz : (w.alloc (.cells #[.slice A fb.length c, .int .i64 (s : Int)] 72)).heap.size = w.heap.size + 1 := by simp
  rw [hz] at hb3
  have q0 := frozen_at hb3 0
  have q1 := frozen_at hb3 1
  have q2 := cell_at hb3 0
  have q3 := cell_at hb3 1
  simp only [List.getElem?_toArray, List.getElem?_cons_zero, List.getElem?_cons_succ] at q2 q3
  have hkk := hK.trans k3
  have h3w : w3.ownsRow w.heap.size 5 1 (.slice A3 kn c3) kn (Lib.byteCells (fb.take kn)) := own_base h3 (by simp; omega)
  have hg3 : ∀ g, (Value.slice A3 kn c3).ownBlock = some g → g ≠ w.heap.size + 1 := fun g hg => by have := (h3.lt g hg).1; simp at this; omega
  have H3 := Lib.hid h3w
  have HB := Lib.hid hb3
  clear h3 h3w hb3 hz hlt
  go_wp2
  have hC : Chg (fun g => g = w.heap.size + 1) w3 ((w3.setCell ⟨w.heap.size + 1, 0, none⟩ (.slice A3 kn c3)).setCell ⟨w.heap.size + 1, 1, none⟩ (.int .i64 (kn : Int))) := ((Chg.refl (fun g => g = w.heap.size + 1) w3).setCell _ (fun _ => rfl)).setCell _ (fun _ => rfl)
  exact bodyPost_ret (v := .agg #[.slice A3 kn c3, .int .i64 (kn : Int)]) (by simp [results, Try.results41, go_sem, q0, q1, q2, q3]) rfl ⟨_, rfl, own_chg H3.out hC (fun g hg => hg3 g hg), hC.kept hkk (fun g hg => by omega)⟩
end Go.Proofs.Ytmjlhgamhjfjlaa
