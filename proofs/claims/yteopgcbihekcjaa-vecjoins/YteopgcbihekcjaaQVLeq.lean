/- The walks of Leq and of the document's Leq. -/
import Derived.Test.YteopgcbihekcjaaQVSam
set_option linter.unusedSimpArgs false
set_option linter.unusedVariables false
namespace Go.Proofs.Yteopgcbihekcjaa
open Go.RowKit
/-- No number of the first k is above the other's. -/
def LeTo (a b : List Int) (k : Nat) : Prop := ∀ j (h1 : j < a.length) (h2 : j < b.length), j < k → a[j] ≤ b[j]
theorem LeTo.more {a b : List Int} {k : Nat} (h : LeTo a b k) (h1 : k < a.length) (h2 : k < b.length) (hx : a[k] ≤ b[k]) : LeTo a b (k + 1) := fun j g1 g2 hj => by
  by_cases e : j = k
  · subst e; exact hx
  · exact h j g1 g2 (by omega)
theorem LeTo.all {a b : List Int} (h : LeTo a b a.length) (hl : a.length = b.length) : below a b = true := (below_at hl).2 (fun k h1 h2 => h k h1 h2 h1)
set_option maxRecDepth 100000 in
set_option maxHeartbeats 1000000 in
theorem leq_any (a b : List Int) (v u : Value) (w : World) (hv : Ints w v a) (hu : Ints w u b) : Calls Try.prog 22 #[v, u] w fun e w' => e = .returned (.bool (leqT a b)) ∧ w = w' := by
  obtain ⟨A, c, rfl, hc1, hc2⟩ := hv.form
  obtain ⟨B, d, rfl, hd1, hd2⟩ := hu.form
  unfold maxLen at hc2 hd2
  have HV := Lib.hid hv
  have HU := Lib.hid hu
  clear hv hu
  by_cases hlen : a.length = b.length
  · have t1 : ((a.length : Int) != (b.length : Int)) = false := by simp [hlen]
    cases hva : vok a with
    | false =>
      rw [leqT_bad (.inl hva)]
      have HE := Lib.hid (vE_no hva)
      clear hva hlen
      go_enter Try.func22, Try.ntmps22
      go_wp2_with fail
      refine (vcheck_any a _ _ HV.out).mono ?_
      rintro e w1 ⟨rfl, rfl⟩
      rw [HE.out]
      go_wp2
      go_ret
      exact ⟨rfl, rfl⟩
    | true =>
      have HE := Lib.hid (vE_ok hva)
      cases hvb : vok b with
      | false =>
        rw [leqT_bad (.inr hvb)]
        have HF := Lib.hid (vE_no hvb)
        clear hva hlen hvb
        go_enter Try.func22, Try.ntmps22
        go_wp2_with fail
        refine (vcheck_any a _ _ HV.out).mono ?_
        rintro e w1 ⟨rfl, rfl⟩
        rw [HE.out]
        go_wp2_with fail
        refine (vcheck_any b _ _ HU.out).mono ?_
        rintro e w1 ⟨rfl, rfl⟩
        rw [HF.out]
        go_wp2
        go_ret
        exact ⟨rfl, rfl⟩
      | true =>
        rw [leqT_ok hlen hva hvb]
        have HF := Lib.hid (vE_ok hvb)
        have HL := Lib.hid hlen
        have hle : a.length ≤ b.length := by omega
        have hge : b.length ≤ a.length := by omega
        clear hva hlen hvb
        go_enter Try.func22, Try.ntmps22
        go_wp2_with fail
        refine (vcheck_any a _ _ HV.out).mono ?_
        rintro e w1 ⟨rfl, rfl⟩
        rw [HE.out]
        go_wp2_with fail
        refine (vcheck_any b _ _ HU.out).mono ?_
        rintro e w1 ⟨rfl, rfl⟩
        rw [HF.out]
        go_wp2
        go_loop [24] (fun i => ∃ k : Nat, i = .int .i64 (k : Int) ∧ k ≤ a.length ∧ LeTo a b k) (fun i => a.length - (intOf i).toNat)
        case atStart => exact ⟨0, rfl, Nat.zero_le _, fun j _ _ h => absurd h (Nat.not_lt_zero _)⟩
        case round =>
          obtain ⟨k, rfl, hk, hall⟩ := hrel
          have HALL := Lib.hid hall
          clear hall
          by_cases hlt : k < a.length
          · obtain ⟨bb, o, rfl, hcell⟩ := HV.out.atI hlt
            obtain ⟨b', o', rfl, hcell'⟩ := HU.out.atI (show k < b.length by omega)
            have g1 : (k : Int) < (a.length : Int) := by omega
            have g2 : (k : Int) < (b.length : Int) := by omega
            by_cases hx : a[k] ≤ b[k]
            · have t2 : decide (b[k] < a[k]) = false := decide_eq_false (by omega)
              have HT := Lib.hid (HALL.out.more hlt (by omega) hx)
              have HX := Lib.hid hx
              clear hx
              generalize a[k] = x at *
              generalize b[k] = y at *
              go_wp2
              go_round
              case rel => exact ⟨k + 1, by go_num, by omega, HT.out⟩
              case measure => simp [intOf]; omega
            · have t2 : decide (b[k] < a[k]) = true := decide_eq_true (by omega)
              have HN := Lib.hid (below_bad HL.out hlt (by omega) (by omega))
              clear hx
              generalize a[k] = x at *
              generalize b[k] = y at *
              go_wp2
              go_ret
              exact ⟨ret_b HN.out.symm, rfl⟩
          · obtain rfl : k = a.length := by omega
            have HE2 := Lib.hid (HALL.out.all HL.out)
            go_wp2
            go_ret
            exact ⟨ret_b HE2.out.symm, rfl⟩
  · have t1 : ((a.length : Int) != (b.length : Int)) = true := by simp; omega
    rw [leqT_len hlen]
    go_enter Try.func22, Try.ntmps22
    go_wp2
    go_ret
    exact ⟨rfl, rfl⟩
set_option maxRecDepth 100000 in
set_option maxHeartbeats 1000000 in
theorem refLeq_any (a b : List Int) (v u : Value) (w : World) (hv : Ints w v a) (hu : Ints w u b) : Calls Try.prog 23 #[v, u] w fun e w' => e = .returned (.bool (leqT a b)) ∧ Kept w w' := by
  obtain ⟨A, c, rfl, hc1, hc2⟩ := hv.form
  obtain ⟨B, d, rfl, hd1, hd2⟩ := hu.form
  unfold maxLen at hc2 hd2
  have HV := Lib.hid hv
  have HU := Lib.hid hu
  clear hv hu
  cases hva : vok a with
  | false =>
    rw [leqT_bad (.inl hva)]
    have HE := Lib.hid (show (!vok a) = true by rw [hva]; rfl)
    clear hva
    go_enter Try.func23, Try.ntmps23
    go_wp2_with fail
    refine (badvec_any a _ _ HV.out).mono ?_
    rintro e w1 ⟨rfl, rfl⟩
    rw [HE.out]
    go_wp2
    go_ret
    exact ⟨rfl, Kept.refl w⟩
  | true =>
    have HE := Lib.hid (show (!vok a) = false by rw [hva]; rfl)
    cases hvb : vok b with
    | false =>
      rw [leqT_bad (.inr hvb)]
      have HF := Lib.hid (show (!vok b) = true by rw [hvb]; rfl)
      clear hva hvb
      go_enter Try.func23, Try.ntmps23
      go_wp2_with fail
      refine (badvec_any a _ _ HV.out).mono ?_
      rintro e w1 ⟨rfl, rfl⟩
      rw [HE.out]
      go_wp2_with fail
      refine (badvec_any b _ _ HU.out).mono ?_
      rintro e w1 ⟨rfl, rfl⟩
      rw [HF.out]
      go_wp2
      go_ret
      exact ⟨rfl, Kept.refl w⟩
    | true =>
      have HF := Lib.hid (show (!vok b) = false by rw [hvb]; rfl)
      by_cases hlen : a.length = b.length
      · have t1 : ((a.length : Int) != (b.length : Int)) = false := by simp [hlen]
        rw [leqT_ok hlen hva hvb]
        have HL := Lib.hid hlen
        have hle : a.length ≤ b.length := by omega
        have hge : b.length ≤ a.length := by omega
        clear hva hlen hvb
        go_enter Try.func23, Try.ntmps23
        go_wp2_with fail
        refine (badvec_any a _ _ HV.out).mono ?_
        rintro e w1 ⟨rfl, rfl⟩
        rw [HE.out]
        go_wp2_with fail
        refine (badvec_any b _ _ HU.out).mono ?_
        rintro e w1 ⟨rfl, rfl⟩
        rw [HF.out]
        go_wp2
        go_loopw [5] (fun i W => ∃ k : Nat, i = .int .i64 (k : Int) ∧ k ≤ a.length ∧ LeTo a b k ∧ Kept w W) (fun i _ => a.length - (intOf i).toNat)
        case atStart => exact ⟨0, rfl, Nat.zero_le _, fun j _ _ h => absurd h (Nat.not_lt_zero _), Kept.refl w⟩
        case round =>
          obtain ⟨k, rfl, hk, hall, hkk⟩ := hrel
          have HALL := Lib.hid hall
          have HK := Lib.hid hkk
          clear hall hkk
          by_cases hlt : k < a.length
          · obtain ⟨bb, o, rfl, hcell⟩ := (HV.out.kept HK.out).atI hlt
            obtain ⟨b', o', rfl, hcell'⟩ := (HU.out.kept HK.out).atI (show k < b.length by omega)
            have g1 : (k : Int) < (a.length : Int) := by omega
            have g2 : (k : Int) < (b.length : Int) := by omega
            by_cases hx : a[k] ≤ b[k]
            · have t2 : decide (b[k] < a[k]) = false := decide_eq_false (by omega)
              have HT := Lib.hid (HALL.out.more hlt (by omega) hx)
              have HX := Lib.hid hx
              clear hx
              generalize a[k] = x at *
              generalize b[k] = y at *
              go_wp2
              go_region
              all_goals go_wp2
              go_roundw
              case rel => exact ⟨k + 1, by go_num, by omega, HT.out, by first | exact HK.out.drew | exact HK.out.drewN _ | exact HK.out⟩
              case measure => simp [intOf]; omega
            · have t2 : decide (b[k] < a[k]) = true := decide_eq_true (by omega)
              have HN := Lib.hid (below_bad HL.out hlt (by omega) (by omega))
              clear hx
              generalize a[k] = x at *
              generalize b[k] = y at *
              go_wp2
              go_region
              all_goals go_wp2
              go_ret
              exact ⟨ret_b HN.out.symm, by first | exact HK.out.drew | exact HK.out.drewN _ | exact HK.out⟩
          · obtain rfl : k = a.length := by omega
            have HE2 := Lib.hid (HALL.out.all HL.out)
            go_wp2
            go_ret
            exact ⟨ret_b HE2.out.symm, HK.out⟩
      · have t1 : ((a.length : Int) != (b.length : Int)) = true := by simp; omega
        rw [leqT_len hlen]
        clear hva hvb
        go_enter Try.func23, Try.ntmps23
        go_wp2_with fail
        refine (badvec_any a _ _ HV.out).mono ?_
        rintro e w1 ⟨rfl, rfl⟩
        rw [HE.out]
        go_wp2_with fail
        refine (badvec_any b _ _ HU.out).mono ?_
        rintro e w1 ⟨rfl, rfl⟩
        rw [HF.out]
        go_wp2
        go_ret
        exact ⟨rfl, Kept.refl w⟩
end Go.Proofs.Yteopgcbihekcjaa
