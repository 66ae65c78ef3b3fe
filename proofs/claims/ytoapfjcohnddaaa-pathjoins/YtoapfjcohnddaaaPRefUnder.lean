/- The walk of the document's Under. -/
import Derived.Test.YtoapfjcohnddaaaPRefMake
namespace Go.Proofs.Ytoapfjcohnddaaa
open Go.RowKit
theorem prefix_take {a b : List (List UInt8)} : a.isPrefixOf b = true ↔ a.take a.length = b.take a.length := by
  rw [List.isPrefixOf_iff_prefix, List.take_length]
  exact ⟨fun hx => (List.prefix_iff_eq_take.1 hx), fun hx => List.prefix_iff_eq_take.2 hx⟩
theorem prefix_long {a b : List (List UInt8)} (h : b.length < a.length) : a.isPrefixOf b = false := by
  rw [← Bool.not_eq_true, List.isPrefixOf_iff_prefix]
  intro hx
  have := hx.length_le
  omega
theorem prefix_diff {a b : List (List UInt8)} {k : Nat} (ha : k < a.length) (hb : k < b.length) (h : a[k] ≠ b[k]) : a.isPrefixOf b = false := by
  rw [← Bool.not_eq_true, List.isPrefixOf_iff_prefix]
  rintro ⟨t, rfl⟩
  exact h (by rw [List.getElem_append_left ha])
theorem ret_bools {a b c d : Bool} (h : a = c) (k : b = d) : Ending.returned (.tuple #[.bool a, .bool b]) = .returned (.tuple #[.bool c, .bool d]) := by rw [h, k]

set_option maxRecDepth 100000 in
set_option maxHeartbeats 2000000 in
theorem refUnder_any (p q : List UInt8) (w : World) :
    Calls Try.prog 8 #[.string ⟨p.toArray⟩, .string ⟨q.toArray⟩] w fun e w' => e = .returned (.tuple #[.bool (under p q), .bool (bothP p q)]) ∧ Kept w w' := by
  have HP := Lib.hid (refParts_any p w)
  have HQ := Lib.hid (show ∀ w, _ from fun w => refParts_any q w)
  have HU := Lib.hid (show under p q = match names p, names q with | some a, some b => a.isPrefixOf b | _, _ => false from rfl)
  have HB := Lib.hid (show bothP p q = ((names p).isSome && (names q).isSome) from rfl)
  go_enter Try.func8, Try.ntmps8
  go_wp2_with fail
  refine HP.out.mono ?_
  rintro e w1 ⟨v1, rfl, h1, k1⟩
  obtain ⟨A1, c1, hv1, d1, d2⟩ := h1.form
  subst hv1
  have H1 := Lib.hid h1
  clear h1
  go_wp2_with fail
  refine (HQ.out _).mono ?_
  rintro e w2 ⟨v2, rfl, h2, k2⟩
  obtain ⟨A2, c2, hv2, d3, d4⟩ := h2.form
  subst hv2
  have H1 := Lib.hid (H1.out.kept k2)
  have H2 := Lib.hid h2
  have hK := k1.trans k2
  clear h2 k1 k2
  unfold maxLen at d2 d4
  cases hp : names p with
  | none =>
    rw [hp] at HU HB
    clear hp
    go_wp2
    go_ret2
    exact ⟨ret_bools HU.out.symm HB.out.symm, hK⟩
  | some a =>
    cases hq : names q with
    | none =>
      rw [hp, hq] at HU HB
      clear hp hq
      go_wp2
      go_ret2
      exact ⟨ret_bools HU.out.symm HB.out.symm, hK⟩
    | some b =>
      rw [hp, hq] at HU HB
      rw [hp] at H1 d1
      rw [hq] at H2 d3
      clear hp hq
      rw [Option.getD_some] at H1 H2 d1 d3
      rw [show (some a : Option (List (List UInt8))).isSome = true from rfl, show (some b : Option (List (List UInt8))).isSome = true from rfl, Option.getD_some, Option.getD_some]
      by_cases hlong : b.length < a.length
      · have t0 : decide (((b.length : Nat) : Int) < (a.length : Int)) = true := by simp; omega
        have HU2 := Lib.hid (HU.out.trans (prefix_long hlong))
        go_wp2
        go_ret2
        exact ⟨ret_bools HU2.out.symm HB.out.symm, hK⟩
      · have t0 : decide (((b.length : Nat) : Int) < (a.length : Int)) = false := by simp; omega
        go_wp2
        go_loopw [10] (fun i W => ∃ k : Nat, i = .int .i64 (k : Int) ∧ k ≤ a.length ∧ a.take k = b.take k ∧ Kept w2 W) (fun i _ => a.length - (intOf i).toNat)
        case atStart => exact ⟨0, rfl, Nat.zero_le _, rfl, Kept.refl _⟩
        case round =>
          obtain ⟨k, rfl, hk, htk, hKW⟩ := hrel
          by_cases hlt : k < a.length
          · have hltb : k < b.length := by omega
            obtain ⟨b1, o1, rfl, hc1⟩ := (H1.out.kept hKW).at hlt
            obtain ⟨b2, o2, rfl, hc2⟩ := (H2.out.kept hKW).at hltb
            have g1 : (k : Int) < (a.length : Int) := by omega
            have g2 : (k : Int) < (b.length : Int) := by omega
            have HT := Lib.hid htk
            clear htk
            by_cases he : a[k] = b[k]
            · have ht2 : a.take (k + 1) = b.take (k + 1) := by rw [List.take_succ_eq_append_getElem hlt, List.take_succ_eq_append_getElem hltb, HT.out, he]
              have HT2 := Lib.hid ht2
              rw [← he] at hc2
              clear ht2 he
              generalize a[k] = x at *
              go_wp2
              go_quiet (fail)
              go_wp2
              go_roundw
              case rel => exact ⟨k + 1, by go_num, by omega, HT2.out, hKW.drewN _⟩
              case measure => simp [intOf]; omega
            · have HU2 := Lib.hid (HU.out.trans (prefix_diff hlt hltb he))
              have s1 : (a[k] == b[k]) = false := by simpa using he
              clear he
              generalize a[k] = x at *
              generalize b[k] = y at *
              go_wp2
              go_quiet (fail)
              go_wp2
              go_ret2
              exact ⟨ret_bools HU2.out.symm HB.out.symm, hK.trans (hKW.drewN _)⟩
          · obtain rfl : k = a.length := by omega
            have HU2 := Lib.hid (HU.out.trans (prefix_take.2 htk))
            clear htk
            go_wp2
            go_ret2
            exact ⟨ret_bools HU2.out.symm HB.out.symm, hK.trans hKW⟩
end Go.Proofs.Ytoapfjcohnddaaa
