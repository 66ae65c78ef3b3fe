/- The walks of the document's Parent, Base, Home and SameTexts. -/
import Derived.Test.YtoapfjcohnddaaaDoorPRefMake
namespace Go.Proofs.YtoapfjcohnddaaaDoor
open Go.RowKit
theorem flat_init (ls : List (List UInt8)) (h : okNames ls = true) : (flat (ls.take (ls.length - 1))).length ≤ 1000000 := by
  have h1 := (okNames_all h).2.2
  have h2 := congrArg List.length (flat_append (ls.take (ls.length - 1)) (ls.drop (ls.length - 1)))
  rw [List.take_append_drop, List.length_append] at h2
  omega
theorem parts_ne {l : List UInt8} {ls : List (List UInt8)} (h : names l = some ls) (hz : ls ≠ []) : parentOf l = some (mk (ls.take (ls.length - 1))) ∧ baseOf l = some (ls.getLast hz) ∧ 1 ≤ ls.length ∧ ls.length ≤ 8 ∧ okNames ls = true := by
  refine ⟨?_, ?_, ?_, (okNames_all (names_some h).1).2.1, (names_some h).1⟩
  · unfold parentOf; rw [h]; simp only; rw [if_neg hz, List.dropLast_eq_take]
  · unfold baseOf; rw [h]; exact List.getLast?_eq_some_getLast hz
  · cases ls with
    | nil => exact absurd rfl hz
    | cons x t => simp
set_option maxRecDepth 100000 in
set_option maxHeartbeats 1000000 in
theorem refParent_any (l : List UInt8) (w : World) :
    Calls Tryd.prog 9 #[.string ⟨l.toArray⟩] w fun e w' => e = .returned (.tuple #[.string ⟨(strO (parentOf l)).toArray⟩, .bool (parentOf l).isSome]) ∧ Kept w w' := by
  have HP := Lib.hid (refParts_any l w)
  unfold PDone at HP
  cases h : names l with
  | none =>
    rw [h] at HP
    have hp : parentOf l = none := by unfold parentOf; rw [h]
    rw [hp]
    clear hp h
    go_enter Tryd.func9, Tryd.ntmps9
    go_wp2_with fail
    refine HP.out.mono ?_
    rintro e w' ⟨v, rfl, hT, hk⟩
    obtain ⟨A, c, hv, d1, d2⟩ := hT.form
    subst hv
    clear hT
    go_wp2
    go_ret2
    exact ⟨rfl, hk⟩
  | some ls =>
    rw [h] at HP
    by_cases hz : ls = []
    · subst hz
      have hp : parentOf l = none := by unfold parentOf; rw [h]; simp
      rw [hp]
      clear hp h
      go_enter Tryd.func9, Tryd.ntmps9
      go_wp2_with fail
      refine HP.out.mono ?_
      rintro e w' ⟨v, rfl, hT, hk⟩
      rw [Option.isSome_some]
      rw [Option.getD_some] at hT
      obtain ⟨A, c, hv, d1, d2⟩ := hT.form
      subst hv
      clear hT
      go_wp2
      go_ret2
      exact ⟨rfl, hk⟩
    · obtain ⟨f1, -, f3, f4, f5⟩ := parts_ne h hz
      rw [f1]
      have t0 : ((ls.length : Int) == 0) = false := by rw [beq_eq_false_iff_ne]; omega
      have g1 : (0 : Int) ≤ (ls.length : Int) - 1 := by omega
      have HF := Lib.hid (flat_init ls f5)
      clear h hz f1 f5
      go_enter Tryd.func9, Tryd.ntmps9
      go_wp2_with fail
      refine HP.out.mono ?_
      rintro e w1 ⟨v, rfl, hT, hk⟩
      rw [Option.isSome_some]
      rw [Option.getD_some] at hT
      obtain ⟨A, c, hv, d1, d2⟩ := hT.form
      subst hv
      unfold maxLen at d2
      obtain ⟨b0, o0, hA, -⟩ := hT.at (k := 0) (by omega)
      subst hA
      have HT := Lib.hid (hT.take (ls.length - 1) (by omega))
      clear hT
      go_wp2_with fail
      refine (make_any _ _ _ HT.out HF.out).mono ?_
      rintro e w2 ⟨rfl, rfl⟩
      go_wp2
      go_ret2
      exact ⟨rfl, hk⟩

set_option maxRecDepth 100000 in
set_option maxHeartbeats 1000000 in
theorem refBase_any (l : List UInt8) (w : World) :
    Calls Tryd.prog 11 #[.string ⟨l.toArray⟩] w fun e w' => e = .returned (.tuple #[.string ⟨(strO (baseOf l)).toArray⟩, .bool (baseOf l).isSome]) ∧ Kept w w' := by
  have HP := Lib.hid (refParts_any l w)
  unfold PDone at HP
  cases h : names l with
  | none =>
    rw [h] at HP
    have hp : baseOf l = none := by unfold baseOf; rw [h]
    rw [hp]
    clear hp h
    go_enter Tryd.func11, Tryd.ntmps11
    go_wp2_with fail
    refine HP.out.mono ?_
    rintro e w' ⟨v, rfl, hT, hk⟩
    obtain ⟨A, c, hv, d1, d2⟩ := hT.form
    subst hv
    clear hT
    go_wp2
    go_ret2
    exact ⟨rfl, hk⟩
  | some ls =>
    rw [h] at HP
    by_cases hz : ls = []
    · subst hz
      have hp : baseOf l = none := by unfold baseOf; rw [h]; rfl
      rw [hp]
      clear hp h
      go_enter Tryd.func11, Tryd.ntmps11
      go_wp2_with fail
      refine HP.out.mono ?_
      rintro e w' ⟨v, rfl, hT, hk⟩
      rw [Option.isSome_some]
      rw [Option.getD_some] at hT
      obtain ⟨A, c, hv, d1, d2⟩ := hT.form
      subst hv
      clear hT
      go_wp2
      go_ret2
      exact ⟨rfl, hk⟩
    · obtain ⟨-, f2, f3, f4, -⟩ := parts_ne h hz
      rw [f2, List.getLast_eq_getElem hz]
      obtain ⟨n, hn⟩ : ∃ n, ls.length = n + 1 := ⟨ls.length - 1, by omega⟩
      have hlt : n < ls.length := by omega
      have hx : ls[ls.length - 1]'(by omega) = ls[n] := by congr 1; omega
      rw [hx]
      have t0 : (((n + 1 : Nat) : Int) == 0) = false := by rw [beq_eq_false_iff_ne]; omega
      have HN := Lib.hid hn
      clear h hz f2 hx
      generalize hxx : ls[n] = x
      have HX := Lib.hid hxx
      clear hxx
      go_enter Tryd.func11, Tryd.ntmps11
      go_wp2_with fail
      refine HP.out.mono ?_
      rintro e w1 ⟨v, rfl, hT, hk⟩
      rw [Option.isSome_some]
      rw [Option.getD_some] at hT
      obtain ⟨A, c, hv, d1, d2⟩ := hT.form
      subst hv
      unfold maxLen at d2
      obtain ⟨b0, o0, hA, hcell⟩ := hT.at hlt
      subst hA
      clear hT
      rw [HN.out]
      rw [hn] at d1 f3 f4
      rw [HX.out] at hcell
      clear hn
      go_wp2
      go_ret2
      exact ⟨rfl, hk⟩

set_option maxRecDepth 100000 in
set_option maxHeartbeats 1000000 in
theorem refHome_any (l : List UInt8) (w : World) :
    Calls Tryd.prog 13 #[.string ⟨l.toArray⟩] w fun e w' => e = .returned (.tuple #[.string ⟨(strO (homeOf l)).toArray⟩, .bool (homeOf l).isSome]) ∧ Kept w w' := by
  have HP := Lib.hid (refParts_any l w)
  unfold PDone at HP
  cases h : names l with
  | none =>
    rw [h] at HP
    have hp : homeOf l = none := by unfold homeOf; rw [h]
    rw [hp]
    clear hp h
    go_enter Tryd.func13, Tryd.ntmps13
    go_wp2_with fail
    refine HP.out.mono ?_
    rintro e w' ⟨v, rfl, hT, hk⟩
    obtain ⟨A, c, hv, d1, d2⟩ := hT.form
    subst hv
    clear hT
    go_wp2
    go_ret2
    exact ⟨rfl, hk⟩
  | some ls =>
    rw [h] at HP
    have hp : homeOf l = some (ls.headD []) := by unfold homeOf; rw [h]
    rw [hp]
    have h8 := (okNames_all (names_some h).1).2.1
    clear hp h
    cases ls with
    | nil =>
      go_enter Tryd.func13, Tryd.ntmps13
      go_wp2_with fail
      refine HP.out.mono ?_
      rintro e w' ⟨v, rfl, hT, hk⟩
      rw [Option.isSome_some]
      rw [Option.getD_some] at hT
      obtain ⟨A, c, hv, d1, d2⟩ := hT.form
      subst hv
      clear hT
      go_wp2
      go_ret2
      exact ⟨rfl, hk⟩
    | cons x t =>
      rw [List.headD_cons]
      have t0 : (((t.length + 1 : Nat) : Int) == 0) = false := by rw [beq_eq_false_iff_ne]; omega
      have t1 : (0 : Int) < ((t.length + 1 : Nat) : Int) := by omega
      go_enter Tryd.func13, Tryd.ntmps13
      go_wp2_with fail
      refine HP.out.mono ?_
      rintro e w1 ⟨v, rfl, hT, hk⟩
      rw [Option.isSome_some]
      rw [Option.getD_some] at hT
      obtain ⟨A, c, hv, d1, d2⟩ := hT.form
      subst hv
      unfold maxLen at d2
      obtain ⟨b0, o0, hA, hcell⟩ := hT.at (k := 0) (by simp)
      subst hA
      rw [List.getElem_cons_zero, Nat.add_zero] at hcell
      clear hT
      rw [List.length_cons] at d1
      rw [List.length_cons]
      generalize hn : t.length + 1 = n at *
      clear hn HP h8
      go_wp2
      go_ret2
      exact ⟨rfl, hk⟩

set_option maxRecDepth 100000 in
set_option maxHeartbeats 1000000 in
theorem sameTexts_any (ls : List (List UInt8)) (v u : Value) (w : World) (hv : Txts w v ls) (hu : Txts w u ls) :
    Calls Tryd.prog 19 #[v, u] w fun e w' => e = .returned (.bool true) ∧ Kept w w' := by
  have HV := Lib.hid hv
  have HU := Lib.hid hu
  obtain ⟨A, c, rfl, d1, d2⟩ := hv.form
  obtain ⟨A', c', rfl, d3, d4⟩ := hu.form
  unfold maxLen at d2 d4
  clear hv hu
  go_enter Tryd.func19, Tryd.ntmps19
  go_wp2
  go_loopw [5] (fun i W => ∃ k : Nat, i = .int .i64 (k : Int) ∧ k ≤ ls.length ∧ Kept w W) (fun i _ => ls.length - (intOf i).toNat)
  case atStart => exact ⟨0, rfl, Nat.zero_le _, Kept.refl _⟩
  case round =>
    obtain ⟨k, rfl, hk, hK⟩ := hrel
    by_cases hlt : k < ls.length
    · obtain ⟨b1, o1, rfl, hc1⟩ := (HV.out.kept hK).at hlt
      obtain ⟨b2, o2, rfl, hc2⟩ := (HU.out.kept hK).at hlt
      have g1 : (k : Int) < (ls.length : Int) := by omega
      generalize ls[k] = x at *
      go_wp2
      go_quiet (fail)
      go_wp2
      go_roundw
      case rel => exact ⟨k + 1, by go_num, by omega, hK.drewN _⟩
      case measure => simp [intOf]; omega
    · obtain rfl : k = ls.length := by omega
      go_wp2
      go_ret
      exact ⟨rfl, hK⟩
end Go.Proofs.YtoapfjcohnddaaaDoor
