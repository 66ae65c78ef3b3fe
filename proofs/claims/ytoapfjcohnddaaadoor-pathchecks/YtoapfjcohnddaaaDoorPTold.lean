/- The walks of told and of the statements' fixed question. -/
import Derived.Test.YtoapfjcohnddaaaDoorPProg
namespace Go.Proofs.YtoapfjcohnddaaaDoor
open Go.RowKit
def errB (b : Bool) : Int := if b then 0 else 20
theorem str_append (l m : List UInt8) : (⟨l.toArray⟩ : ByteArray) ++ ⟨m.toArray⟩ = ⟨(l ++ m).toArray⟩ := by
  apply ByteArray.ext
  simp
theorem str_snoc (l : List UInt8) (c : UInt8) : (⟨l.toArray⟩ : ByteArray) ++ ⟨#[c]⟩ = ⟨(l ++ [c]).toArray⟩ := str_append l [c]
theorem str_cons (l : List UInt8) (c : UInt8) : (⟨#[c]⟩ : ByteArray) ++ ⟨l.toArray⟩ = ⟨(c :: l).toArray⟩ := str_append [c] l
set_option maxHeartbeats 400000 in
theorem told_any (b : Bool) (w : World) : Calls Tryd.prog 17 #[.int .i64 (errB b), .bool b] w fun e w' => e = .returned (.bool true) ∧ w = w' := by
  cases b with
  | true =>
    rw [show errB true = 0 from rfl]
    go_enter Tryd.func17, Tryd.ntmps17
    go_wp2
    go_ret
    exact ⟨rfl, rfl⟩
  | false =>
    rw [show errB false = 20 from rfl]
    go_enter Tryd.func17, Tryd.ntmps17
    go_wp2
    go_ret
    exact ⟨rfl, rfl⟩
theorem awake_facts : strO (parentOf [47, 97, 47, 98, 45, 49]) = [47, 97] ∧ errO (parentOf [47, 97, 47, 98, 45, 49]) = 0 ∧ strO (homeOf [47, 97, 47, 98, 45, 49]) = [97] ∧ errO (homeOf [47, 97, 47, 98, 45, 49]) = 0 ∧ chk [47, 65] = 20 := by decide +kernel
set_option maxHeartbeats 400000 in
theorem awake_any (w : World) : Calls Tryd.prog 14 #[] w fun e w' => e = .returned (.bool true) ∧ Kept w w' := by
  have H1 := Lib.hid fun w => parent_any [47, 97, 47, 98, 45, 49] w
  have H2 := Lib.hid fun w => home_any [47, 97, 47, 98, 45, 49] w
  have H3 := Lib.hid fun w => check_any [47, 65] w
  obtain ⟨f1, f2, f3, f4, f5⟩ := awake_facts
  rw [f1, f2] at H1
  rw [f3, f4] at H2
  rw [f5] at H3
  clear f1 f2 f3 f4 f5
  go_enter Tryd.func14, Tryd.ntmps14
  go_wp2_with fail
  refine (H1.out _).mono ?_
  rintro e w1 ⟨rfl, hk1⟩
  go_wp2_with fail
  refine (H2.out _).mono ?_
  rintro e w2 ⟨rfl, hk2⟩
  have hk3 := hk1.trans hk2
  clear hk1 hk2
  go_wp2_with fail
  refine (H3.out _).mono ?_
  rintro e w3 ⟨rfl, hk4⟩
  have hk5 := hk3.trans hk4
  clear hk3 hk4
  go_wp2
  go_ret
  exact ⟨rfl, hk5⟩
end Go.Proofs.YtoapfjcohnddaaaDoor
