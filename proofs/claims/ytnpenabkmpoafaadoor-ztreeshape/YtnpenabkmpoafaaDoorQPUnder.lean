/- The walk of Under. -/
import Derived.Test.YtnpenabkmpoafaaDoorQPTold
namespace Go.Proofs.YtnpenabkmpoafaaDoor
open Go.RowKit
/-- Are both paths? -/
def bothP (p q : List UInt8) : Bool := (names p).isSome && (names q).isSome
theorem under_some {p q : List UInt8} {a b : List (List UInt8)} (ha : names p = some a) (hb : names q = some b) : under p q = ((p == [47]) || (p == q) || (p ++ [47]).isPrefixOf q) := by
  obtain ⟨h1, h2⟩ := names_some ha
  obtain ⟨h3, h4⟩ := names_some hb
  unfold under
  rw [ha, hb]
  simp only
  rw [under_iff h1 h3, ← h2, ← h4]

set_option maxHeartbeats 1000000 in
theorem under_any (p q : List UInt8) (w : World) :
    Calls Tryd.prog 22 #[.string ⟨p.toArray⟩, .string ⟨q.toArray⟩] w fun e w' => e = .returned (.tuple #[.bool (under p q), .int .i64 (errB (bothP p q))]) ∧ Kept w w' := by
  have HC := Lib.hid (check_any p w)
  have HC2 := Lib.hid fun w => check_any q w
  cases ha : names p with
  | none =>
    have h1 : under p q = false := by unfold under; rw [ha]
    have h2 : bothP p q = false := by unfold bothP; rw [ha]; rfl
    rw [h1, h2]
    have hc := chk_none ha
    rw [hc] at HC
    clear ha h1 h2 hc
    go_enter Tryd.func22, Tryd.ntmps22
    go_wp2_with fail
    refine HC.out.mono ?_
    rintro e w' ⟨rfl, hk⟩
    go_wp2
    go_ret2
    exact ⟨rfl, hk⟩
  | some a =>
    have hc := chk_some ha
    rw [hc] at HC
    cases hb : names q with
    | none =>
      have h1 : under p q = false := by unfold under; rw [ha, hb]
      have h2 : bothP p q = false := by unfold bothP; rw [hb]; simp
      rw [h1, h2]
      have hc2 := chk_none hb
      rw [hc2] at HC2
      clear ha hb h1 h2 hc hc2
      go_enter Tryd.func22, Tryd.ntmps22
      go_wp2_with fail
      refine HC.out.mono ?_
      rintro e w' ⟨rfl, hk⟩
      go_wp2_with fail
      refine (HC2.out _).mono ?_
      rintro e w1 ⟨rfl, hk1⟩
      have hk2 := hk.trans hk1
      clear hk hk1
      go_wp2
      go_ret2
      exact ⟨rfl, hk2⟩
    | some b =>
      have hc2 := chk_some hb
      rw [hc2] at HC2
      have hu := under_some ha hb
      have h2 : bothP p q = true := by unfold bothP; rw [ha, hb]; rfl
      rw [h2]
      have hpl := (names_len ha).2
      clear ha hb hc hc2 h2
      by_cases h3 : p = [47]
      · subst h3
        have hu' : under [47] q = true := by rw [hu]; simp
        rw [hu']
        clear hu hu'
        go_enter Tryd.func22, Tryd.ntmps22
        go_wp2_with fail
        refine HC.out.mono ?_
        rintro e w' ⟨rfl, hk⟩
        go_wp2_with fail
        refine (HC2.out _).mono ?_
        rintro e w1 ⟨rfl, hk1⟩
        have hk2 := hk.trans hk1
        clear hk hk1
        go_wp2
        go_ret2
        exact ⟨rfl, hk2⟩
      by_cases h4 : p = q
      · subst h4
        have hu' : under p p = true := by rw [hu]; simp
        rw [hu']
        have t0 : (p == [47]) = false := by simpa using h3
        clear hu hu' h3
        go_enter Tryd.func22, Tryd.ntmps22
        go_wp2_with fail
        refine HC.out.mono ?_
        rintro e w' ⟨rfl, hk⟩
        go_wp2_with fail
        refine (HC2.out _).mono ?_
        rintro e w1 ⟨rfl, hk1⟩
        have hk2 := hk.trans hk1
        clear hk hk1
        go_wp2
        go_ret2
        exact ⟨rfl, hk2⟩
      have t0 : (p == [47]) = false := by simpa using h3
      have t1 : (p == q) = false := by simpa using h4
      rw [t0, t1, Bool.false_or, Bool.false_or] at hu
      rw [hu]
      clear hu h3 h4
      have HX := Lib.hid fun w => hasPrefix_any q (p ++ [47]) w
      generalize (p ++ [47]).isPrefixOf q = x at *
      go_enter Tryd.func22, Tryd.ntmps22
      go_wp2_with fail
      refine HC.out.mono ?_
      rintro e w' ⟨rfl, hk⟩
      go_wp2_with fail
      refine (HC2.out _).mono ?_
      rintro e w1 ⟨rfl, hk1⟩
      have hk2 := hk.trans hk1
      clear hk hk1
      go_wp2_with fail
      rw [str_snoc]
      refine (HX.out _).mono ?_
      rintro e w2 ⟨rfl, rfl⟩
      go_wp2
      go_ret2
      exact ⟨rfl, hk2⟩
end Go.Proofs.YtnpenabkmpoafaaDoor
