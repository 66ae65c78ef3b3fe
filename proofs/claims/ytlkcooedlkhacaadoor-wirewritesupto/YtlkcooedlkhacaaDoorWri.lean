/- The walks of the program's writer: number, Nums, NewWriter, Out, Numbers. -/
import Derived.Test.YtlkcooedlkhacaaDoorBufW
import Derived.Test.YtlkcooedlkhacaaDoorPut
import Derived.Deep.QuietTactic
import Derived.BigQuiet
namespace Go.Proofs.YtlkcooedlkhacaaDoor
open Go.RowKit

/-- Marking the writer as bad. -/
theorem IsW.mark {w : World} {b : Nat} {bad : Bool} {l : List UInt8} (h : IsW w b bad l) : IsW (w.setCell ⟨b, 3, none⟩ (.bool true)) b true l ∧ WFr b w (w.setCell ⟨b, 3, none⟩ (.bool true)) := by
  obtain ⟨⟨hB, v, lr, ⟨cs, hb, h0, h1, h2, hr⟩, hown, hne⟩, hrow⟩ := h
  have hc : ∀ w2 : World, w2.cell? ⟨b, 0, none⟩ = w.cell? ⟨b, 0, none⟩ → rowOf w2 b = rowOf w b := fun w2 e => by unfold rowOf; rw [e]
  have hsame := hc (w.setCell ⟨b, 3, none⟩ (.bool true)) (World.cell?_setCell_other w _ _ _ (by intro e; cases e))
  have hs : cs.size = 4 := by
    have a := hr 3 (by omega); have c := hr 4 (by omega)
    simp [badCell] at a c
    obtain ⟨a, -⟩ := Array.getElem?_eq_some_iff.1 a
    omega
  refine ⟨⟨⟨hB, v, lr, ⟨_, Lib.heap_setCell_same (i := 3) hb _, ?_, ?_, ?_, ?_⟩, hown.kept (Lib.grownBy_setCell w b 3 _) (Or.inr hne), hne⟩, fun e => hsame.trans (hrow e)⟩, ?_⟩
  · rw [Array.getElem?_setIfInBounds_ne (by omega)]; exact h0
  · rw [Array.getElem?_setIfInBounds_ne (by omega)]; exact h1
  · rw [Array.getElem?_setIfInBounds_ne (by omega)]; exact h2
  · intro i hi
    by_cases e : i = 3
    · subst e; simp [badCell, hs]
    · rw [Array.getElem?_setIfInBounds_ne (by omega), hr i hi]; simp [badCell, e]
  · exact WFr.of_grown (Lib.grownBy_setCell w b 3 _) (fun k hk => .inl (hsame.symm.trans hk))
theorem IsW.c3 {w : World} {b : Nat} {bad : Bool} {l : List UInt8} (h : IsW w b bad l) : w.cell? ⟨b, 3, none⟩ = some (.bool bad) := by
  obtain ⟨⟨hB, v, lr, h3, hown, hne⟩, -⟩ := h
  rw [h3.rest 3 (by omega)]; rfl
theorem IsW.frozen {w : World} {b : Nat} {bad : Bool} {l : List UInt8} (h : IsW w b bad l) (i : Nat) : w.frozen? ⟨b, i, none⟩ = false := by
  obtain ⟨⟨hB, v, lr, h3, hown, hne⟩, -⟩ := h
  exact h3.f i

set_option maxRecDepth 100000 in
set_option maxHeartbeats 400000 in
theorem number_bad (b : Nat) (bad : Bool) (l : List UInt8) (n : Int) (w : World) (h : IsW w b bad l) (hn : n < 0 ∨ 4611686018427387903 < n) :
    Calls Tryd.prog 50 #[.pointer (some ⟨b, 0, none⟩), .int .i64 n] w fun e w' => e = .returned (.tuple #[]) ∧ IsW w' b true l ∧ WFr b w w' := by
  have c3 := h.c3
  have f3 := h.frozen 3
  obtain ⟨r1, r2⟩ := h.mark
  have R1 := Lib.hid r1
  have R2 := Lib.hid r2
  clear r1 r2 h
  rcases hn with hn | hn
  · go_enter Tryd.func50, Tryd.ntmps50
    go_wp2
    exact bodyPost_ret (v := .tuple #[]) (by simp [results, Tryd.results50, go_sem]) rfl ⟨rfl, R1.out, R2.out⟩
  · have hn' : ¬ n < 0 := by omega
    go_enter Tryd.func50, Tryd.ntmps50
    go_wp2
    exact bodyPost_ret (v := .tuple #[]) (by simp [results, Tryd.results50, go_sem]) rfl ⟨rfl, R1.out, R2.out⟩

set_option maxRecDepth 100000 in
set_option maxHeartbeats 400000 in
theorem number_good (b : Nat) (bad : Bool) (l : List UInt8) (n : Nat) (w : World) (h : IsW w b bad l) (hn : n ≤ 4611686018427387903) (hlim : l.length + 9 ≤ 140737488355328) :
    Calls Tryd.prog 50 #[.pointer (some ⟨b, 0, none⟩), .int .i64 (n : Int)] w fun e w' => e = .returned (.tuple #[]) ∧ IsW w' b bad (l ++ put n) ∧ WFr b w w' := by
  have hn0 : ¬ (n : Int) < 0 := by omega
  have hn1 : ¬ 4611686018427387903 < (n : Int) := by omega
  have H := Lib.hid h
  clear h
  go_enter Tryd.func50, Tryd.ntmps50
  go_wp2
  go_loopw [1] (fun t W => ∃ k m : Nat, ∃ done : List UInt8, t = .int .i64 (m : Int) ∧ m < 128 ^ (k + 1) ∧ m ≤ n ∧ done.length + (k + 1) = 9 ∧ put n = done ++ putF (k + 1) m ∧ IsW W b bad (l ++ done) ∧ WFr b w W) (fun t _ => (intOf t).toNat)
  case atStart => exact ⟨8, n, [], rfl, by have : (128 : Nat) ^ (8 + 1) = 9223372036854775808 := by decide
                                           omega, Nat.le_refl _, rfl, rfl, by simpa using H.out, WFr.refl _ _⟩
  case round =>
    obtain ⟨k, m, done, rfl, hm, hmn, hd, hp, hI, hF⟩ := hrel
    have HP := Lib.hid hp
    have HM := Lib.hid hm
    have HD := Lib.hid hd
    have hd9 : done.length ≤ 8 := by omega
    clear hp hm hd
    by_cases hlt : m < 128
    · have hfin : l ++ done ++ [UInt8.ofNat m] = l ++ put n := by rw [HP.out, putF_short hlt, List.append_assoc]
      have HFIN := Lib.hid hfin
      clear hfin
      go_wp2_with fail
      refine (wByteI b bad (l ++ done) _ _ (by omega) (by omega) hI (by simp; omega)).mono ?_
      rintro e w2 ⟨rfl, hI2, hF2⟩
      rw [Int.toNat_natCast, HFIN.out] at hI2
      go_wp2
      go_end0
      exact ⟨rfl, hI2, hF.trans hF2⟩
    · have hb := or_more m
      go_wp2_with fail
      refine (wByteI b bad (l ++ done) _ _ (by omega) (by omega) hI (by simp; omega)).mono ?_
      rintro e w2 ⟨rfl, hI2, hF2⟩
      rw [show (128 + (m : Int) % 128).toNat = 128 + m % 128 by omega] at hI2
      go_wp2
      go_roundw
      case rel =>
        have hm := HM.out
        have hd := HD.out
        have hp := HP.out
        rw [putF_long hlt] at hp
        match k, hm, hd, hp with
        | 0, hm, _, _ => exact absurd hm (by simpa using hlt)
        | k + 1, hm, hd, hp => exact ⟨k, m / 128, done ++ [UInt8.ofNat (128 + m % 128)], by go_num, pow_step hm, by omega, by simp; omega, by rw [hp, List.append_assoc]; rfl, by rw [← List.append_assoc]; exact hI2, hF.trans hF2⟩
      case measure => simp [intOf]; omega
end Go.Proofs.YtlkcooedlkhacaaDoor
