/- The walk of awake. -/
import Derived.Test.YtgmpbalibdlhdaaQIAt
set_option linter.unusedSimpArgs false
set_option linter.unusedVariables false
namespace Go.Proofs.Ytgmpbalibdlhdaa
open Go.RowKit
def cmA : Cm := ⟨1, [97], none, 0, 0⟩
def itA : It := ⟨cmA, 0, 1, 1⟩
theorem awake_add : addE (Int.toNat 2) itA = 0 ∧ addL (Int.toNat 2) itA [] = [itA] := ⟨rfl, rfl⟩
theorem awake_att : attS cmA [itA] = 2 ∧ attD (Int.toNat 2) cmA [itA] = [1, 0] ∧ attE cmA = 0 := by decide
set_option maxRecDepth 100000 in
set_option maxHeartbeats 1000000 in
theorem awake_any (w : World) : Calls Try.prog 8 #[] w fun e w' => e = .returned (.bool true) ∧ Kept w w' := by
  have HA := Lib.hid awake_add
  have HT := Lib.hid awake_att
  go_enter Try.func8, Try.ntmps8
  go_wp2_with fail
  refine (new_any 2 _).mono ?_
  rintro e w1 h1
  rcases h1 with ⟨h, -⟩ | ⟨-, xb, mb, rfl, hx, hx1, hm1, k1⟩
  · omega
  have HK1 := Lib.hid k1
  have HX := Lib.hid hx
  clear hx
  go_wp2_with fail
  refine (add_any HX.out itA (by decide) (by decide)).mono ?_
  rintro e w2 ⟨rfl, ⟨st2, hx2⟩, c2⟩
  rw [HA.out.2] at hx2
  rw [HA.out.1]
  have HX2 := Lib.hid hx2
  have HK2 := Lib.hid (c2.kept HK1.out (fun g x => by rcases x with rfl | rfl <;> omega))
  clear hx2 c2
  go_wp2_with fail
  refine (attr_any HX2.out cmA (by decide)).mono ?_
  rintro e w3 ⟨v, rfl, ho, k3⟩
  rw [HT.out.2.1] at ho
  rw [HT.out.1, HT.out.2.2]
  have HK3 := Lib.hid (HK2.out.trans k3)
  obtain ⟨g, c, rfl, -, -, hc1, hc2⟩ := row_form (n := 2) ho (by omega)
  unfold maxLen at hc2
  obtain ⟨r0, -⟩ := row_at (n := 2) ho (k := 0) (by decide)
  simp only [List.getElem_cons_zero, List.getElem_cons_succ] at r0
  clear ho k3
  go_wp2
  go_ret
  exact ⟨rfl, HK3.out⟩
end Go.Proofs.Ytgmpbalibdlhdaa
