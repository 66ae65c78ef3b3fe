/- The walk of the statement PathChecks. -/
import Derived.Test.YtoapfjcohnddaaaDoorPRef2
import Derived.Test.YtoapfjcohnddaaaDoorPParts
namespace Go.Proofs.YtoapfjcohnddaaaDoor
open Go.RowKit
theorem errO_errB' (o : Option (List UInt8)) : errO o = errB o.isSome := rfl
theorem chk_errB (l : List UInt8) : chk l = errB (names l).isSome := rfl
set_option maxRecDepth 100000 in
set_option maxHeartbeats 4000000 in
theorem pathChecks_walk (l : List UInt8) (m : Int) (w : World) (hm : w.cell? ⟨0, 0, none⟩ = some (.int .i64 m)) :
    Calls Tryd.prog 3 #[.string ⟨l.toArray⟩] w fun e w' => e = .returned (.bool true) ∧ Kept w w' := by
  have H1 := Lib.hid (refParts_any l w)
  have H2 := Lib.hid (show ∀ W, Kept w W → _ from fun W hW => parts_any l m W (hW.cell hm))
  have H3 := Lib.hid (show ∀ W, _ from fun W => parent_any l W)
  have H4 := Lib.hid (show ∀ W, _ from fun W => refParent_any l W)
  have H5 := Lib.hid (show ∀ W, _ from fun W => base_any l W)
  have H6 := Lib.hid (show ∀ W, _ from fun W => refBase_any l W)
  have H7 := Lib.hid (show ∀ W, _ from fun W => home_any l W)
  have H8 := Lib.hid (show ∀ W, _ from fun W => refHome_any l W)
  have H9 := Lib.hid (show ∀ W, _ from fun W => name_any l W)
  have H10 := Lib.hid (show ∀ W, _ from fun W => refName_any l W)
  have H11 := Lib.hid (show ∀ W, _ from fun W => check_any l W)
  unfold PDone at H1
  unfold QDone partsOf at H2
  rw [errO_errB'] at H3 H5 H7
  rw [chk_errB] at H2 H11
  clear hm
  generalize names l = ns at *
  generalize parentOf l = pa at *
  generalize baseOf l = ba at *
  generalize homeOf l = ho at *
  generalize isName l = nm at *
  have K1 := Lib.hid (show ∀ W, _ from fun W => told_any ns.isSome W)
  have K2 := Lib.hid (show ∀ W, _ from fun W => told_any pa.isSome W)
  have K3 := Lib.hid (show ∀ W, _ from fun W => told_any ba.isSome W)
  have K4 := Lib.hid (show ∀ W, _ from fun W => told_any ho.isSome W)
  generalize ns.isSome = zn at *
  generalize pa.isSome = zp at *
  generalize ba.isSome = zb at *
  generalize ho.isSome = zh at *
  generalize ns.getD [] = ls at *
  generalize strO pa = sp' at *
  generalize strO ba = sb at *
  generalize strO ho = sh at *
  go_enter Tryd.func3, Tryd.ntmps3
  go_wp2_with fail
  refine H1.out.mono ?_
  rintro e w1 ⟨v1, rfl, hT1, k1⟩
  obtain ⟨A1, c1, hv1, -, -⟩ := hT1.form
  subst hv1
  have HT1 := Lib.hid hT1
  clear hT1
  go_wp2_with fail
  refine (H2.out _ k1).mono ?_
  rintro e w2 ⟨v2, rfl, hT2, k2⟩
  obtain ⟨A2, c2, hv2, -, -⟩ := hT2.form
  subst hv2
  have HT2 := Lib.hid hT2
  clear hT2
  have HT1 := Lib.hid (HT1.out.kept k2)
  have j2 := k1.trans k2
  clear k1 k2
  have jj2 := Kept.refl w2
  go_wp2_with fail
  refine (H3.out _).mono ?_
  rintro e w3 ⟨rfl, k3⟩
  have j3 := j2.trans k3
  have jj3 := jj2.trans k3
  clear k3
  go_wp2_with fail
  refine (H4.out _).mono ?_
  rintro e w4 ⟨rfl, k4⟩
  have j4 := j3.trans k4
  have jj4 := jj3.trans k4
  clear k4 j3 jj3
  go_wp2_with fail
  refine (H5.out _).mono ?_
  rintro e w5 ⟨rfl, k5⟩
  have j5 := j4.trans k5
  have jj5 := jj4.trans k5
  clear k5 j4 jj4
  go_wp2_with fail
  refine (H6.out _).mono ?_
  rintro e w6 ⟨rfl, k6⟩
  have j6 := j5.trans k6
  have jj6 := jj5.trans k6
  clear k6 j5 jj5
  go_wp2_with fail
  refine (H7.out _).mono ?_
  rintro e w7 ⟨rfl, k7⟩
  have j7 := j6.trans k7
  have jj7 := jj6.trans k7
  clear k7 j6 jj6
  go_wp2_with fail
  refine (H8.out _).mono ?_
  rintro e w8 ⟨rfl, k8⟩
  have j8 := j7.trans k8
  have jj8 := jj7.trans k8
  clear k8 j7 jj7
  go_wp2_with fail
  refine (awake_any _).mono ?_
  rintro e w9 ⟨rfl, k9⟩
  have j9 := j8.trans k9
  have jj9 := jj8.trans k9
  clear k9 j8 jj8
  go_wp2_with fail
  refine (H9.out _).mono ?_
  rintro e w10 ⟨rfl, k10⟩
  have j10 := j9.trans k10
  have jj10 := jj9.trans k10
  clear k10 j9 jj9
  go_wp2_with fail
  refine (H10.out _).mono ?_
  rintro e w11 ⟨rfl, rfl⟩
  go_wp2_with fail
  refine (H11.out _).mono ?_
  rintro e w12 ⟨rfl, k12⟩
  have j12 := j10.trans k12
  have jj12 := jj10.trans k12
  clear k12 j10 jj10
  go_wp2_with fail
  refine (K1.out _).mono ?_
  rintro e w13 ⟨rfl, rfl⟩
  go_wp2_with fail
  refine (K1.out _).mono ?_
  rintro e w13 ⟨rfl, rfl⟩
  go_wp2_with fail
  refine (sameTexts_any ls _ _ _ (HT1.out.kept jj12) (HT2.out.kept jj12)).mono ?_
  rintro e w14 ⟨rfl, k14⟩
  have j14 := j12.trans k14
  clear k14 j12
  go_wp2_with fail
  refine (K2.out _).mono ?_
  rintro e w15 ⟨rfl, rfl⟩
  go_wp2_with fail
  refine (K3.out _).mono ?_
  rintro e w15 ⟨rfl, rfl⟩
  go_wp2_with fail
  refine (K4.out _).mono ?_
  rintro e w15 ⟨rfl, rfl⟩
  go_wp2
  go_ret
  exact ⟨rfl, j14⟩
end Go.Proofs.YtoapfjcohnddaaaDoor
