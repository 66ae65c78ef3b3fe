/- The walk of the statement PathBack. -/
import Derived.Test.YtoapfjcohnddaaaPJoin
namespace Go.Proofs.Ytoapfjcohnddaaa
open Go.RowKit
theorem back_facts {l : List UInt8} {init : List (List UInt8)} {b : List UInt8} (h : names l = some (init ++ [b])) :
    parentOf l = some (mk init) ∧ baseOf l = some b ∧ joinOf (mk init) [b] = some l ∧ (∃ x, homeOf l = some x ∧ under (47 :: x) l = true ∧ x.length ≤ 128) ∧ under (mk init) l = true ∧ under [47] l = true ∧ under l (mk init) = false ∧ (mk init).length ≤ 128 := by
  obtain ⟨h1, h2⟩ := names_some h
  have hi := okNames_prefix h1
  have hni := names_mk_ok hi
  refine ⟨by unfold parentOf; rw [h]; simp, by unfold baseOf; rw [h]; simp, ?_, ?_, ?_, ?_, ?_, (mk_len hi).2⟩
  · unfold joinOf; rw [hni]; simp only; rw [if_pos h1, ← h2]
  · cases hs : init ++ [b] with
    | nil => simp at hs
    | cons x t =>
      rw [hs] at h h1
      have hx : okNames [x] = true := okNames_prefix (a := [x]) (b := t) h1
      have hnx := names_mk_ok hx
      rw [mk_cons, flat_one] at hnx
      refine ⟨x, by unfold homeOf; rw [h]; rfl, ?_, ?_⟩
      · unfold under; rw [hnx, h]; simp [List.isPrefixOf]
      · have := (isName_len ((okNames_all hx).1 x (by simp))).2; omega
  · unfold under; rw [hni, h]; simp
  · unfold under; rw [h, show names [47] = some [] from rfl]; rfl
  · unfold under; rw [h, hni]; simp only
    rw [← Bool.not_eq_true, List.isPrefixOf_iff_prefix]
    intro hx
    have := hx.length_le
    simp at this
    omega

set_option maxRecDepth 100000 in
set_option maxHeartbeats 2000000 in
theorem pathBack_walk (l : List UInt8) (w : World) :
    Calls Try.prog 4 #[.string ⟨l.toArray⟩] w fun e w' => e = .returned (.bool true) ∧ Kept w w' := by
  have HP := Lib.hid (parent_any l w)
  rcases path_cases l with h | rfl | ⟨init, b, h, hfl, hb, hi, hne⟩
  · have hp : parentOf l = none := by unfold parentOf; rw [h]
    rw [hp] at HP
    have HC := Lib.hid (show ∀ w, _ from fun w => check_any l w)
    rw [chk_none h] at HC
    have t0 : (l == [47]) = false := by
      rw [beq_eq_false_iff_ne]
      rintro rfl
      simp [names] at h
    clear hp h
    go_enter Try.func4, Try.ntmps4
    go_wp2_with fail
    refine HP.out.mono ?_
    rintro e w1 ⟨rfl, hk1⟩
    rw [show errO none = 20 from rfl]
    go_wp2_with fail
    refine (HC.out _).mono ?_
    rintro e w2 ⟨rfl, hk2⟩
    have hk3 := hk1.trans hk2
    clear hk1 hk2
    go_wp2_with fail
    refine (awake_any _).mono ?_
    rintro e w4 ⟨rfl, hk4⟩
    have hk5 := hk3.trans hk4
    clear hk3 hk4
    go_wp2
    go_ret
    exact ⟨rfl, hk5⟩
  · rw [show parentOf [47] = none from rfl] at HP
    go_enter Try.func4, Try.ntmps4
    go_wp2_with fail
    refine HP.out.mono ?_
    rintro e w1 ⟨rfl, hk1⟩
    rw [show errO none = 20 from rfl]
    go_wp2_with fail
    refine (awake_any _).mono ?_
    rintro e w4 ⟨rfl, hk4⟩
    have hk5 := hk1.trans hk4
    clear hk1 hk4
    go_wp2
    go_ret
    exact ⟨rfl, hk5⟩
  · obtain ⟨f1, f2, f3, ⟨x, f4, f5, f6⟩, f7, f8, f9, f10⟩ := back_facts h
    rw [f1] at HP
    have HB := Lib.hid (show ∀ w, _ from fun w => base_any l w)
    rw [f2] at HB
    have HJ := Lib.hid (show ∀ v w, Txts w v [b] → _ from fun v w hv => join_any (mk init) [b] v w hv)
    rw [f3] at HJ
    have HH := Lib.hid (show ∀ w, _ from fun w => home_any l w)
    rw [f4] at HH
    have HX := Lib.hid (show ∀ w, _ from fun w => under_any (mk init) l w)
    rw [f7] at HX
    have HY := Lib.hid (show ∀ w, _ from fun w => under_any (47 :: x) l w)
    rw [f5] at HY
    have HZ := Lib.hid (show ∀ w, _ from fun w => under_any [47] l w)
    rw [f8] at HZ
    have HW := Lib.hid (show ∀ w, _ from fun w => under_any l (mk init) w)
    rw [f9] at HW
    clear f1 f2 f3 f4 f5 f7 f8 f9 h hfl hne
    generalize mk init = up at *
    go_enter Try.func4, Try.ntmps4
    go_wp2_with fail
    refine HP.out.mono ?_
    rintro e w1 ⟨rfl, hk1⟩
    rw [show errO (some up) = 0 from rfl, show strO (some up) = up from rfl]
    go_wp2_with fail
    refine (HB.out _).mono ?_
    rintro e w2 ⟨rfl, hk2⟩
    have hk3 := hk1.trans hk2
    clear hk1 hk2
    rw [show errO (some b) = 0 from rfl, show strO (some b) = b from rfl]
    go_wp2_with fail
    refine (HJ.out _ _ (Txts.one _ b _)).mono ?_
    rintro e w4 ⟨rfl, hk4⟩
    have hk5 := (hk3.alloc _).trans hk4
    clear hk3 hk4
    rw [show errO (some l) = 0 from rfl, show strO (some l) = l from rfl]
    go_wp2_with fail
    refine (HH.out _).mono ?_
    rintro e w6 ⟨rfl, hk6⟩
    have hk7 := hk5.trans hk6
    clear hk5 hk6
    rw [show errO (some x) = 0 from rfl, show strO (some x) = x from rfl]
    go_wp2_with fail
    refine (HX.out _).mono ?_
    generalize errB (bothP up l) = e1 at *
    rintro e w8 ⟨rfl, hk8⟩
    have hk9 := hk7.trans hk8
    clear hk7 hk8
    go_wp2_with fail
    rw [str_cons]
    refine (HY.out _).mono ?_
    generalize errB (bothP (47 :: x) l) = e2 at *
    rintro e w10 ⟨rfl, hk10⟩
    have hk11 := hk9.trans hk10
    clear hk9 hk10
    go_wp2_with fail
    refine (HZ.out _).mono ?_
    generalize errB (bothP [47] l) = e3 at *
    rintro e w12 ⟨rfl, hk12⟩
    have hk13 := hk11.trans hk12
    clear hk11 hk12
    go_wp2_with fail
    refine (HW.out _).mono ?_
    generalize errB (bothP l up) = e4 at *
    rintro e w14 ⟨rfl, hk14⟩
    have hk15 := hk13.trans hk14
    clear hk13 hk14
    go_wp2_with fail
    refine (awake_any _).mono ?_
    rintro e w16 ⟨rfl, hk16⟩
    have hk17 := hk15.trans hk16
    clear hk15 hk16
    go_wp2
    go_ret
    exact ⟨rfl, hk17⟩
end Go.Proofs.Ytoapfjcohnddaaa
