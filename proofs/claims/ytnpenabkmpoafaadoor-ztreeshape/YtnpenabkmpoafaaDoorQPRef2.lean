/- The walks of the document's Parent, Base, Home and SameTexts. -/
import Derived.Test.YtnpenabkmpoafaaDoorQPRefMake
namespace Go.Proofs.YtnpenabkmpoafaaDoor
open Go.RowKit
theorem flat_init (ls : List (List UInt8)) (h : okNames ls = true) : (flat (ls.take (ls.length - 1))).length ≤ 1000000 := by
  have h1 := (okNames_all h).2.2
  have h2 := congrArg List.length (flat_append (ls.take (ls.length - 1)) (ls.drop (ls.length - 1)))
  rw [List.take_append_drop, List.length_append] at h2
  omega
theorem parts_ne {l : List UInt8} {ls : List (List UInt8)} (h : names l = some ls) (hz : ls ≠ []) : parentOf l = some (mk (ls.take (ls.length - 1))) ∧ baseOf l = some (ls.getLast hz) ∧ 1 ≤ ls.length ∧ ls.length ≤ 8 ∧ okNames ls = true := by
  refine ⟨?_, ?_, ?_, (okNames_all (names_some h).1).2.1, (names_some h).1⟩
  · unfold parentOf; rw [h]; simp only; rw [if_neg hz, List.dropLast_eq_take]
  · unfold baseOf; rw [h]; exact List.getLast?_eq_some_getLast hz
  · cases ls with
    | nil => exact absurd rfl hz
    | cons x t => simp
set_option maxRecDepth 100000 in
set_option maxHeartbeats 1000000 in
theorem refParent_any (l : List UInt8) (w : World) :
    Calls Tryd.prog 10 #[.string ⟨l.toArray⟩] w fun e w' => e = .returned (.tuple #[.string ⟨(strO (parentOf l)).toArray⟩, .bool (parentOf l).isSome]) ∧ Kept w w' := by
  have HP := Lib.hid (refParts_any l w)
  unfold PDone at HP
  cases h : names l with
  | none =>
    rw [h] at HP
    have hp : parentOf l = none := by unfold parentOf; rw [h]
    rw [hp]
    clear hp h
    go_enter Tryd.func10, Tryd.ntmps10
    go_wp2_with fail
    refine HP.out.mono ?_
    rintro e w' ⟨v, rfl, hT, hk⟩
    obtain ⟨A, c, hv, d1, d2⟩ := hT.form
    subst hv
    clear hT
    go_wp2
    go_ret2
    exact ⟨rfl, hk⟩
  | some ls =>
    rw [h] at HP
    by_cases hz : ls = []
    · subst hz
      have hp : parentOf l = none := by unfold parentOf; rw [h]; simp
      rw [hp]
      clear hp h
      go_enter Tryd.func10, Tryd.ntmps10
      go_wp2_with fail
      refine HP.out.mono ?_
      rintro e w' ⟨v, rfl, hT, hk⟩
      rw [Option.isSome_some]
      rw [Option.getD_some] at hT
      obtain ⟨A, c, hv, d1, d2⟩ := hT.form
      subst hv
      clear hT
      go_wp2
      go_ret2
      exact ⟨rfl, hk⟩
    · obtain ⟨f1, -, f3, f4, f5⟩ := parts_ne h hz
      rw [f1]
      have t0 : ((ls.length : Int) == 0) = false := by rw [beq_eq_false_iff_ne]; omega
      have g1 : (0 : Int) ≤ (ls.length : Int) - 1 := by omega
      have HF := Lib.hid (flat_init ls f5)
      clear h hz f1 f5
      go_enter Tryd.func10, Tryd.ntmps10
      go_wp2_with fail
      refine HP.out.mono ?_
      rintro e w1 ⟨v, rfl, hT, hk⟩
      rw [Option.isSome_some]
      rw [Option.getD_some] at hT
      obtain ⟨A, c, hv, d1, d2⟩ := hT.form
      subst hv
      unfold maxLen at d2
      obtain ⟨b0, o0, hA, -⟩ := hT.at (k := 0) (by omega)
      subst hA
      have HT := Lib.hid (hT.take (ls.length - 1) (by omega))
      clear hT
      go_wp2_with fail
      refine (make_any _ _ _ HT.out HF.out).mono ?_
      rintro e w2 ⟨rfl, rfl⟩
      go_wp2
      go_ret2
      exact ⟨rfl, hk⟩

end Go.Proofs.YtnpenabkmpoafaaDoor
