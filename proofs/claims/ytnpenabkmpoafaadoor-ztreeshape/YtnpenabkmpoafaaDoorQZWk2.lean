/- The walk of place. -/
import Derived.Test.YtnpenabkmpoafaaDoorQZWk1
set_option linter.unusedSimpArgs false
set_option linter.unusedVariables false
namespace Go.Proofs.YtnpenabkmpoafaaDoor
open Go.RowKit
def TbZ (w : World) : Prop := Lib.TabIs Tryd.prog w "internal/strconv.uint64pow10" .u64 Lib.pow10Tab
theorem TbZ.kept {w w' : World} (h : TbZ w) (k : Kept w w') : TbZ w' := Lib.tabBelow_of_tabIs h w' k
set_option maxRecDepth 100000 in
set_option maxHeartbeats 1000000 in
theorem place_any (e : ZE) (w : World) (p : Pth) (seq : Bool) (h : NodeAt w e) (htab : TbZ w) (hp : p.length ≤ 128) :
    Calls Tryd.prog 32 #[ptrZ e.nb, .string ⟨p.toArray⟩, .bool seq] w fun x w' => x = .returned (.tuple #[.string ⟨(placeQ e.nd p seq).2.toArray⟩, .int .i64 (placeQ e.nd p seq).1]) ∧ Kept w w' := by
  obtain ⟨nb, dv, nd⟩ := e
  have c1 := cell_at h.1 1
  have c2 := cell_at h.1 2
  simp only [List.getElem?_toArray, List.getElem?_cons_zero, List.getElem?_cons_succ] at c1 c2
  clear h
  unfold placeQ ptrZ
  simp only
  by_cases h1 : nd.own = 0
  · rw [h1] at c2
    rw [if_neg (by simp [h1])]
    by_cases h2 : 9999999999 < nd.ctr
    · have t2 : decide ((9999999999 : Int) < (nd.ctr : Int)) = true := by simp; omega
      rw [if_pos h2]
      clear h1 h2 htab
      go_enter Tryd.func32, Tryd.ntmps32
      go_wp2
      go_ret2
      exact ⟨rfl, Kept.refl _⟩
    · have t2 : decide ((9999999999 : Int) < (nd.ctr : Int)) = false := by simp; omega
      rw [if_neg h2]
      cases seq with
      | true =>
        have HS := Lib.hid (suffix_any p (nd.ctr : Int) w htab)
        simp only [if_true]
        clear h1 h2 htab
        generalize sufOf p (nd.ctr : Int) = so at *
        cases so with
        | none =>
          go_enter Tryd.func32, Tryd.ntmps32
          go_wp2_with fail
          refine HS.out.mono ?_
          rintro e w1 ⟨rfl, hk⟩
          go_wp2
          go_ret2
          exact ⟨rfl, hk⟩
        | some q =>
          go_enter Tryd.func32, Tryd.ntmps32
          go_wp2_with fail
          refine HS.out.mono ?_
          rintro e w1 ⟨rfl, hk⟩
          go_wp2
          go_ret2
          exact ⟨rfl, hk⟩
      | false =>
        have HS := Lib.hid (clone_any p w (by omega))
        simp only [Bool.false_eq_true, if_false]
        clear h1 h2 htab
        go_enter Tryd.func32, Tryd.ntmps32
        go_wp2_with fail
        refine HS.out.mono ?_
        rintro e w1 ⟨rfl, hk⟩
        go_wp2
        go_ret2
        exact ⟨rfl, hk⟩
  · have t1 : ((nd.own : Int) == 0) = false := by simpa using h1
    have t1' : ((nd.own : Int) != 0) = true := by simpa using h1
    rw [if_pos h1]
    clear h1 htab
    go_enter Tryd.func32, Tryd.ntmps32
    go_wp2
    go_ret2
    exact ⟨rfl, Kept.refl _⟩
end Go.Proofs.YtnpenabkmpoafaaDoor
