/- The walk of the statement PathJoins. -/
import Derived.Test.YtoapfjcohnddaaaPRefJoin
namespace Go.Proofs.Ytoapfjcohnddaaa
open Go.RowKit
theorem errO_errB (o : Option (List UInt8)) : errO o = errB o.isSome := rfl
set_option maxRecDepth 100000 in
set_option maxHeartbeats 2000000 in
theorem pathJoins_walk (p q : List UInt8) (ns : List (List UInt8)) (v : Value) (w : World) (hv : Txts w v ns) :
    Calls Try.prog 3 #[.string ⟨p.toArray⟩, .string ⟨q.toArray⟩, v] w fun e w' => e = .returned (.bool true) ∧ Kept w w' := by
  have HV := Lib.hid hv
  obtain ⟨A, c, rfl, hc1, hc2⟩ := hv.form
  clear hv
  have H1 := Lib.hid (join_any p ns _ w HV.out)
  have H2 := Lib.hid (show ∀ W, Kept w W → _ from fun W hW => refJoin_any p ns _ W (HV.out.kept hW))
  rw [errO_errB] at H1
  generalize joinOf p ns = j at *
  have H3 := Lib.hid (show ∀ W, _ from fun W => under_any p q W)
  have H4 := Lib.hid (show ∀ W, _ from fun W => refUnder_any p q W)
  generalize under p q = u at *
  generalize bothP p q = b at *
  have H5 := Lib.hid (show ∀ W, _ from fun W => told_any j.isSome W)
  generalize j.isSome = z at *
  generalize strO j = s at *
  have H6 := Lib.hid (show ∀ W, _ from fun W => told_any b W)
  go_enter Try.func3, Try.ntmps3
  go_wp2_with fail
  refine H1.out.mono ?_
  rintro e w1 ⟨rfl, k1⟩
  go_wp2_with fail
  refine (H2.out _ k1).mono ?_
  rintro e w2 ⟨rfl, k2⟩
  have k3 := k1.trans k2
  clear k1 k2
  go_wp2_with fail
  refine (H3.out _).mono ?_
  rintro e w4 ⟨rfl, k4⟩
  have k5 := k3.trans k4
  clear k3 k4
  go_wp2_with fail
  refine (H4.out _).mono ?_
  rintro e w6 ⟨rfl, k6⟩
  have k7 := k5.trans k6
  clear k5 k6
  go_wp2_with fail
  refine (awake_any _).mono ?_
  rintro e w8 ⟨rfl, k8⟩
  have k9 := k7.trans k8
  clear k7 k8
  go_wp2_with fail
  refine (H5.out _).mono ?_
  rintro e w10 ⟨rfl, rfl⟩
  go_wp2_with fail
  refine (H6.out _).mono ?_
  rintro e w11 ⟨rfl, rfl⟩
  go_wp2
  go_ret
  exact ⟨rfl, k9⟩
end Go.Proofs.Ytoapfjcohnddaaa
