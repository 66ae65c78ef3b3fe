/- The walks of Interfere with one other, and of the document's. -/
import Derived.Test.YtgmpbalibdlhdaaQIMt
set_option linter.unusedSimpArgs false
set_option linter.unusedVariables false
namespace Go.Proofs.Ytgmpbalibdlhdaa
open Go.RowKit
def okR (k : Int) : Bool := decide (1 ≤ k ∧ k ≤ 2)
theorem itf_no {a b : Cm} (h : okR a.kind = false ∨ okR b.kind = false) : itf a b = false := by
  unfold itf metC okK okR at *
  have hd : (¬ (1 ≤ a.kind ∧ a.kind ≤ 2)) ∨ ¬ (1 ≤ b.kind ∧ b.kind ≤ 2) := by
    rcases h with h | h
    · exact .inl (of_decide_eq_false h)
    · exact .inr (of_decide_eq_false h)
  by_cases h1 : a.kind = 0
  · simp [h1]
  · by_cases h2 : b.kind = 0
    · simp [h2]
    · rcases hd with hd | hd
      · rw [show decide (0 ≤ a.kind ∧ a.kind ≤ 2) = false from decide_eq_false (by omega)]; rfl
      · rw [show decide (0 ≤ b.kind ∧ b.kind ≤ 2) = false from decide_eq_false (by omega)]; simp
theorem itf_yes {a b : Cm} (h1 : okR a.kind = true) (h2 : okR b.kind = true) : itf a b = m1 a b := by
  have g1 := of_decide_eq_true h1
  have g2 := of_decide_eq_true h2
  unfold itf
  rw [metC_yes (by omega) (by omega), show okK a.kind = true from decide_eq_true (by omega), show okK b.kind = true from decide_eq_true (by omega)]
  simp
set_option maxRecDepth 100000 in
set_option maxHeartbeats 1000000 in
theorem refItf_any (a b : Cm) (w : World) : Calls Try.prog 23 #[a.v, b.v] w fun e w' => e = .returned (.bool (itf a b)) ∧ Kept w w' := by
  have HK := Lib.hid (fun o o' => ((Kept.refl w).alloc o).alloc o')
  have HN := Lib.hid (fun h => (@itf_no a b h).symm)
  have HY := Lib.hid (fun h1 h2 => (@itf_yes a b h1 h2).symm)
  generalize itf a b = r at *
  unfold m1 okR at *
  obtain ⟨ka, ha, ada, adn, adc⟩ := a
  obtain ⟨kb, hb, bda, bdn, bdc⟩ := b
  unfold Cm.v Cm.dv
  simp only at *
  by_cases h1 : ka < 1
  · have t1 : decide (ka < 1) = true := decide_eq_true h1
    obtain rfl := HN.out (.inl (decide_eq_false (by omega)))
    go_enter Try.func23, Try.ntmps23
    go_wp2
    go_ret
    exact ⟨rfl, HK.out _ _⟩
  · have t1 : decide (ka < 1) = false := decide_eq_false h1
    by_cases h2 : 2 < ka
    · have t2 : decide (2 < ka) = true := decide_eq_true h2
      obtain rfl := HN.out (.inl (decide_eq_false (by omega)))
      go_enter Try.func23, Try.ntmps23
      go_wp2
      go_ret
      exact ⟨rfl, HK.out _ _⟩
    · have t2 : decide (2 < ka) = false := decide_eq_false h2
      by_cases h3 : kb < 1
      · have t3 : decide (kb < 1) = true := decide_eq_true h3
        obtain rfl := HN.out (.inr (decide_eq_false (by omega)))
        go_enter Try.func23, Try.ntmps23
        go_wp2
        go_ret
        exact ⟨rfl, HK.out _ _⟩
      · have t3 : decide (kb < 1) = false := decide_eq_false h3
        by_cases h4 : 2 < kb
        · have t4 : decide (2 < kb) = true := decide_eq_true h4
          obtain rfl := HN.out (.inr (decide_eq_false (by omega)))
          go_enter Try.func23, Try.ntmps23
          go_wp2
          go_ret
          exact ⟨rfl, HK.out _ _⟩
        · have t4 : decide (2 < kb) = false := decide_eq_false h4
          obtain rfl := HY.out (decide_eq_true (by omega)) (decide_eq_true (by omega))
          clear HN HY
          by_cases h5 : ka = 2
          · subst h5
            go_enter Try.func23, Try.ntmps23
            go_wp2
            go_ret
            exact ⟨rfl, HK.out _ _⟩
          · by_cases h6 : kb = 2
            · subst h6
              go_enter Try.func23, Try.ntmps23
              go_wp2
              go_ret
              exact ⟨by simp, HK.out _ _⟩
            · go_enter Try.func23, Try.ntmps23
              go_wp2
              all_goals
                go_ret
                refine ⟨?_, HK.out _ _⟩
                simp_all
set_option maxRecDepth 100000 in
set_option maxHeartbeats 2000000 in
theorem interf_any (a b : Cm) (v : Value) (w : World) (hv : Cms w v [b]) : Calls Try.prog 16 #[a.v, v] w fun e w' => e = .returned (.bool (itf a b)) ∧ Kept w w' := by
  obtain ⟨A, c, rfl, hc1, hc2⟩ := hv.form
  obtain ⟨b0, o0, rfl, q0, q1, q2⟩ := hv.at (k := 0) (by simp)
  simp only [List.getElem_cons_zero] at q0 q1 q2
  have HQ0 := Lib.hid q0
  have HQ1 := Lib.hid q1
  have HQ2 := Lib.hid q2
  have HA := Lib.hid (isKind_any a.kind)
  have HB := Lib.hid (isKind_any b.kind)
  have HM := Lib.hid (meet_any a b)
  have HK := Lib.hid (fun o => (Kept.refl w).alloc o)
  have hI : itf a b = (okK a.kind && (okK b.kind && metC a b)) := rfl
  generalize itf a b = r at *
  generalize metC a b = m at *
  unfold Cm.v Cm.dv at HM HQ2
  clear hv q0 q1 q2
  obtain ⟨ka, ha, ada, adn, adc⟩ := a
  obtain ⟨kb, hb, bda, bdn, bdc⟩ := b
  unfold Cm.v Cm.dv
  simp only at *
  unfold maxLen at hc2
  cases hA : okK ka with
  | false =>
    rw [hA] at hI HA
    obtain rfl : r = false := hI
    clear HB HM hA
    go_enter Try.func16, Try.ntmps16
    go_wp2_with fail
    refine (HA.out _).mono ?_
    rintro e w1 ⟨rfl, rfl⟩
    go_wp2
    go_ret
    exact ⟨rfl, HK.out _⟩
  | true =>
    rw [hA] at hI HA
    simp only [Bool.true_and] at hI
    clear hA
    simp only [Nat.zero_mul, Nat.add_zero] at HQ0 HQ1 HQ2
    have HI := Lib.hid hI
    clear hI
    have HC := Lib.hid (cells3 (heap_alloc_new w (.cells #[.int .i64 ka, .string ⟨ha.toArray⟩, .slice ada adn adc] 34)))
    have HK0 := Lib.hid (HK.out (.cells #[.int .i64 ka, .string ⟨ha.toArray⟩, .slice ada adn adc] 34))
    go_enter Try.func16, Try.ntmps16
    go_wp2_with fail
    refine (HA.out _).mono ?_
    rintro e w1 ⟨rfl, rfl⟩
    clear HA HK
    generalize w.alloc (.cells #[.int .i64 ka, .string ⟨ha.toArray⟩, .slice ada adn adc] 34) = w0 at *
    go_wp2
    go_loopw [5, 14] (fun t i W => ∃ k : Nat, i = .int .i64 (k : Int) ∧ k ≤ 1 ∧ t = .bool (if k = 0 then false else m) ∧ (k = 1 → okK kb = true) ∧ Kept w0 W) (fun _ i _ => 1 - (intOf i).toNat)
    case atStart => exact ⟨0, rfl, by omega, rfl, fun h => by omega, Kept.refl _⟩
    case round =>
      obtain ⟨k, rfl, hk, rfl, hok, hkw⟩ := hrel
      have HKW := Lib.hid hkw
      clear hkw
      have hk01 : k = 0 ∨ k = 1 := by omega
      rcases hk01 with rfl | rfl
      · have q0 := (HK0.out.trans HKW.out).cell HQ0.out
        have q1 := (HK0.out.trans HKW.out).cell HQ1.out
        have q2 := (HK0.out.trans HKW.out).cell HQ2.out
        have HKA := Lib.hid (HKW.out.alloc (.cells #[.int .i64 kb, .string ⟨hb.toArray⟩, .slice bda bdn bdc] 34))
        have HCB := Lib.hid (cells3 (heap_alloc_new wr (.cells #[.int .i64 kb, .string ⟨hb.toArray⟩, .slice bda bdn bdc] 34)))
        clear hok
        cases hB : okK kb with
        | false =>
          rw [hB] at HB HI
          obtain rfl : r = false := HI.out
          have HB := Lib.hid HB.out
          clear hB HI
          go_wp2_with fail
          refine (HB.out _).mono ?_
          rintro e w1 ⟨rfl, rfl⟩
          go_wp2
          go_ret
          exact ⟨rfl, HK0.out.trans HKA.out⟩
        | true =>
          have HOK := Lib.hid hB
          rw [hB] at HB HI
          have HB := Lib.hid HB.out
          clear hB
          go_wp2_with fail
          refine (HB.out _).mono ?_
          rintro e w1 ⟨rfl, rfl⟩
          obtain ⟨a0, a1, a2⟩ := HC.out
          have a0 := HKA.out.cell a0
          have a1 := HKA.out.cell a1
          have a2 := HKA.out.cell a2
          obtain ⟨b0, b1, b2⟩ := HCB.out
          go_wp2_with fail
          refine (HM.out _).mono ?_
          rintro e w3 ⟨rfl, hk3⟩
          have HK3 := Lib.hid (HKA.out.trans hk3)
          clear hk3 a0 a1 a2 b0 b1 b2 q0 q1 q2
          go_wp2
          go_roundw
          case rel => exact ⟨1, by go_num, by omega, rfl, fun _ => (by first | exact HOK.out | trivial), HK3.out⟩
          case measure => simp [intOf]
      · obtain rfl : r = m := by
          have := HI.out
          rw [hok rfl] at this
          simpa using this
        have hkk := HK0.out.trans HKW.out
        go_wp2
        go_ret
        exact ⟨rfl, hkk⟩
end Go.Proofs.Ytgmpbalibdlhdaa
