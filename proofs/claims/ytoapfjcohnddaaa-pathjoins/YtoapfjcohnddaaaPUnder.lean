/- The walks of Under, Join, of the statements' fixed question and of told. -/
import Derived.Test.YtoapfjcohnddaaaPProg
namespace Go.Proofs.Ytoapfjcohnddaaa
open Go.RowKit
/-- Are both paths? -/
def bothP (p q : List UInt8) : Bool := (names p).isSome && (names q).isSome
def errB (b : Bool) : Int := if b then 0 else 20
theorem under_some {p q : List UInt8} {a b : List (List UInt8)} (ha : names p = some a) (hb : names q = some b) : under p q = ((p == [47]) || (p == q) || (p ++ [47]).isPrefixOf q) := by
  obtain ⟨h1, h2⟩ := names_some ha
  obtain ⟨h3, h4⟩ := names_some hb
  unfold under
  rw [ha, hb]
  simp only
  rw [under_iff h1 h3, ← h2, ← h4]

theorem str_append (l m : List UInt8) : (⟨l.toArray⟩ : ByteArray) ++ ⟨m.toArray⟩ = ⟨(l ++ m).toArray⟩ := by
  apply ByteArray.ext
  simp
theorem str_snoc (l : List UInt8) (c : UInt8) : (⟨l.toArray⟩ : ByteArray) ++ ⟨#[c]⟩ = ⟨(l ++ [c]).toArray⟩ := str_append l [c]
theorem str_cons (l : List UInt8) (c : UInt8) : (⟨#[c]⟩ : ByteArray) ++ ⟨l.toArray⟩ = ⟨(c :: l).toArray⟩ := str_append [c] l
set_option maxHeartbeats 1000000 in
theorem under_any (p q : List UInt8) (w : World) :
    Calls Try.prog 7 #[.string ⟨p.toArray⟩, .string ⟨q.toArray⟩] w fun e w' => e = .returned (.tuple #[.bool (under p q), .int .i64 (errB (bothP p q))]) ∧ Kept w w' := by
  have HC := Lib.hid (check_any p w)
  have HC2 := Lib.hid fun w => check_any q w
  cases ha : names p with
  | none =>
    have h1 : under p q = false := by unfold under; rw [ha]
    have h2 : bothP p q = false := by unfold bothP; rw [ha]; rfl
    rw [h1, h2]
    have hc := chk_none ha
    rw [hc] at HC
    clear ha h1 h2 hc
    go_enter Try.func7, Try.ntmps7
    go_wp2_with fail
    refine HC.out.mono ?_
    rintro e w' ⟨rfl, hk⟩
    go_wp2
    go_ret2
    exact ⟨rfl, hk⟩
  | some a =>
    have hc := chk_some ha
    rw [hc] at HC
    cases hb : names q with
    | none =>
      have h1 : under p q = false := by unfold under; rw [ha, hb]
      have h2 : bothP p q = false := by unfold bothP; rw [hb]; simp
      rw [h1, h2]
      have hc2 := chk_none hb
      rw [hc2] at HC2
      clear ha hb h1 h2 hc hc2
      go_enter Try.func7, Try.ntmps7
      go_wp2_with fail
      refine HC.out.mono ?_
      rintro e w' ⟨rfl, hk⟩
      go_wp2_with fail
      refine (HC2.out _).mono ?_
      rintro e w1 ⟨rfl, hk1⟩
      have hk2 := hk.trans hk1
      clear hk hk1
      go_wp2
      go_ret2
      exact ⟨rfl, hk2⟩
    | some b =>
      have hc2 := chk_some hb
      rw [hc2] at HC2
      have hu := under_some ha hb
      have h2 : bothP p q = true := by unfold bothP; rw [ha, hb]; rfl
      rw [h2]
      have hpl := (names_len ha).2
      clear ha hb hc hc2 h2
      by_cases h3 : p = [47]
      · subst h3
        have hu' : under [47] q = true := by rw [hu]; simp
        rw [hu']
        clear hu hu'
        go_enter Try.func7, Try.ntmps7
        go_wp2_with fail
        refine HC.out.mono ?_
        rintro e w' ⟨rfl, hk⟩
        go_wp2_with fail
        refine (HC2.out _).mono ?_
        rintro e w1 ⟨rfl, hk1⟩
        have hk2 := hk.trans hk1
        clear hk hk1
        go_wp2
        go_ret2
        exact ⟨rfl, hk2⟩
      by_cases h4 : p = q
      · subst h4
        have hu' : under p p = true := by rw [hu]; simp
        rw [hu']
        have t0 : (p == [47]) = false := by simpa using h3
        clear hu hu' h3
        go_enter Try.func7, Try.ntmps7
        go_wp2_with fail
        refine HC.out.mono ?_
        rintro e w' ⟨rfl, hk⟩
        go_wp2_with fail
        refine (HC2.out _).mono ?_
        rintro e w1 ⟨rfl, hk1⟩
        have hk2 := hk.trans hk1
        clear hk hk1
        go_wp2
        go_ret2
        exact ⟨rfl, hk2⟩
      have t0 : (p == [47]) = false := by simpa using h3
      have t1 : (p == q) = false := by simpa using h4
      rw [t0, t1, Bool.false_or, Bool.false_or] at hu
      rw [hu]
      clear hu h3 h4
      have HX := Lib.hid fun w => hasPrefix_any q (p ++ [47]) w
      generalize (p ++ [47]).isPrefixOf q = x at *
      go_enter Try.func7, Try.ntmps7
      go_wp2_with fail
      refine HC.out.mono ?_
      rintro e w' ⟨rfl, hk⟩
      go_wp2_with fail
      refine (HC2.out _).mono ?_
      rintro e w1 ⟨rfl, hk1⟩
      have hk2 := hk.trans hk1
      clear hk hk1
      go_wp2_with fail
      rw [str_snoc]
      refine (HX.out _).mono ?_
      rintro e w2 ⟨rfl, rfl⟩
      go_wp2
      go_ret2
      exact ⟨rfl, hk2⟩
set_option maxHeartbeats 400000 in
theorem told_any (b : Bool) (w : World) : Calls Try.prog 10 #[.int .i64 (errB b), .bool b] w fun e w' => e = .returned (.bool true) ∧ w = w' := by
  cases b with
  | true =>
    rw [show errB true = 0 from rfl]
    go_enter Try.func10, Try.ntmps10
    go_wp2
    go_ret
    exact ⟨rfl, rfl⟩
  | false =>
    rw [show errB false = 20 from rfl]
    go_enter Try.func10, Try.ntmps10
    go_wp2
    go_ret
    exact ⟨rfl, rfl⟩
theorem awake_facts : strO (parentOf [47, 97, 47, 98, 45, 49]) = [47, 97] ∧ errO (parentOf [47, 97, 47, 98, 45, 49]) = 0 ∧ strO (homeOf [47, 97, 47, 98, 45, 49]) = [97] ∧ errO (homeOf [47, 97, 47, 98, 45, 49]) = 0 ∧ chk [47, 65] = 20 := by decide +kernel
set_option maxHeartbeats 400000 in
theorem awake_any (w : World) : Calls Try.prog 9 #[] w fun e w' => e = .returned (.bool true) ∧ Kept w w' := by
  have H1 := Lib.hid fun w => parent_any [47, 97, 47, 98, 45, 49] w
  have H2 := Lib.hid fun w => home_any [47, 97, 47, 98, 45, 49] w
  have H3 := Lib.hid fun w => check_any [47, 65] w
  obtain ⟨f1, f2, f3, f4, f5⟩ := awake_facts
  rw [f1, f2] at H1
  rw [f3, f4] at H2
  rw [f5] at H3
  clear f1 f2 f3 f4 f5
  go_enter Try.func9, Try.ntmps9
  go_wp2_with fail
  refine (H1.out _).mono ?_
  rintro e w1 ⟨rfl, hk1⟩
  go_wp2_with fail
  refine (H2.out _).mono ?_
  rintro e w2 ⟨rfl, hk2⟩
  have hk3 := hk1.trans hk2
  clear hk1 hk2
  go_wp2_with fail
  refine (H3.out _).mono ?_
  rintro e w3 ⟨rfl, hk4⟩
  have hk5 := hk3.trans hk4
  clear hk3 hk4
  go_wp2
  go_ret
  exact ⟨rfl, hk5⟩
end Go.Proofs.Ytoapfjcohnddaaa
