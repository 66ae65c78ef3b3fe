/- InterfPlays: the program's index beside the document's; its walk. -/
import Derived.Test.YtgmpbalibdlhdaaQIRk
import Derived.Test.YtgmpbalibdlhdaaQILc
set_option linter.unusedSimpArgs false
set_option linter.unusedVariables false
namespace Go.Proofs.Ytgmpbalibdlhdaa
open Go.RowKit
set_option maxRecDepth 100000 in
set_option maxHeartbeats 4000000 in
theorem interfPlays_any (n : Int) (xs : List It) (cs : List Cm) (v u : Value) (w : World) (hv : Its w v xs) (hu : Cms w u cs) (hlim : xs.length * 72 ≤ 140737488355328) (hh : ∀ x ∈ xs, x.c.home.length ≤ 140737488355328) (hc : ∀ c ∈ cs, c.home.length ≤ 140737488355328) :
    Calls Try.prog 3 #[.int .i64 n, v, u] w fun e w' => e = .returned (.bool true) ∧ Kept w w' := by
  have HV := Lib.hid hv
  have HH := Lib.hid hh
  have HU := Lib.hid hu
  have HC := Lib.hid hc
  obtain ⟨A, cp, rfl, hc1, hc2⟩ := hv.form
  obtain ⟨B, dp, rfl, hd1, hd2⟩ := hu.form
  unfold maxLen at hc2 hd2
  clear hv hh hu hc
  by_cases q1 : n < 1
  · have t1 : decide (n < 1) = true := decide_eq_true q1
    go_enter Try.func3, Try.ntmps3
    go_wp2_with fail
    refine (new_any n _).mono ?_
    rintro e w1 h1
    rcases h1 with ⟨-, rfl, k1⟩ | ⟨hn, -⟩
    rotate_left
    · omega
    have HK1 := Lib.hid k1
    clear k1
    go_wp2_with fail
    refine (awake_any _).mono ?_
    rintro e w2 ⟨rfl, k2⟩
    have hk := HK1.out.trans k2
    go_wp2
    go_ret
    exact ⟨rfl, hk⟩
  · have t1 : decide (n < 1) = false := decide_eq_false q1
    by_cases q2 : 7 < n
    · have t2 : decide (7 < n) = true := decide_eq_true q2
      go_enter Try.func3, Try.ntmps3
      go_wp2_with fail
      refine (new_any n _).mono ?_
      rintro e w1 h1
      rcases h1 with ⟨-, rfl, k1⟩ | ⟨hn, -⟩
      rotate_left
      · omega
      have HK1 := Lib.hid k1
      clear k1
      go_wp2_with fail
      refine (awake_any _).mono ?_
      rintro e w2 ⟨rfl, k2⟩
      have hk := HK1.out.trans k2
      go_wp2
      go_ret
      exact ⟨rfl, hk⟩
    · have t2 : decide (7 < n) = false := decide_eq_false q2
      have HN := Lib.hid (show 1 ≤ n ∧ n ≤ 7 by omega)
      go_enter Try.func3, Try.ntmps3
      go_wp2_with fail
      refine (build_any n xs _ _ HV.out hlim HH.out).mono ?_
      rintro e w1 h1
      rcases h1 with ⟨hn, -⟩ | ⟨-, xb, mb, db, st, lv, rfl, hb⟩
      · exact absurd HN.out (by omega)
      have HKO := Lib.hid (fun x => known_ok (n := n.toNat) (xs := xs) (x := x))
      have HLN := Lib.hid (known_len n.toNat xs)
      generalize known n.toNat xs = L at *
      have HB := Lib.hid hb
      have HNT := Lib.hid (show 1 ≤ n.toNat ∧ n.toNat ≤ 7 by have := HN.out; omega)
      have HU1 := Lib.hid (HU.out.kept hb.old)
      have HAT := Lib.hid (fun X (k : Kept w1 X) c (hc : c ∈ cs) => attr_any (hb.ix.kept k) c (HC.out c hc))
      have HAR := Lib.hid (fun X (k : Kept w1 X) c => refAttr_any (hb.rx.kept k) (fun x hx => HKO.out x hx) HNT.out c)
      clear hb
      go_wp2
      go_loopw [52] (fun i W => ∃ k : Nat, i = .int .i64 (k : Int) ∧ k ≤ cs.length ∧ Kept w1 W) (fun i _ => cs.length - (intOf i).toNat)
      case atStart => exact ⟨0, rfl, Nat.zero_le _, Kept.refl _⟩
      case round =>
        obtain ⟨k, rfl, hk, hkw⟩ := hrel
        have HKW := Lib.hid hkw
        by_cases hlt : k < cs.length
        · obtain ⟨b, o, rfl, p0, p1, p2⟩ := (HU1.out.kept hkw).at hlt
          have g1 : (k : Int) < (cs.length : Int) := by omega
          have HA := Lib.hid (fun X (q : Kept w1 X) => HAT.out X q cs[k] (List.getElem_mem hlt))
          have HR := Lib.hid (fun X (q : Kept w1 X) => HAR.out X q cs[k])
          clear HAT HAR hkw
          generalize cs[k] = c at *
          unfold AttrTo at HA HR
          have HLE := Lib.hid (show (attD n.toNat c L).length ≤ 140737488355328 by
            have := HNT.out
            unfold attD
            split
            · rw [depT_len]; omega
            · simp)
          generalize attS c L = s at *
          generalize attE c = ec at *
          generalize attD n.toNat c L = D at *
          obtain ⟨kind, home, da, dn, dc⟩ := c
          unfold Cm.v Cm.dv at *
          simp only at *
          have HBX := Lib.hid (cells3 (heap_alloc_new wr (.cells #[.int .i64 kind, .string ⟨home.toArray⟩, .slice da dn dc] 34)))
          have HK2 := Lib.hid (HKW.out.alloc (.cells #[.int .i64 kind, .string ⟨home.toArray⟩, .slice da dn dc] 34))
          go_upto_region 10 with (fail)
          generalize wr.alloc _ = w2 at *
          clear p0 p1 p2
          obtain ⟨c0, c1, c2⟩ := HBX.out
          go_wp2_with fail
          refine (HA.out _ HK2.out).mono ?_
          rintro e w3 ⟨v3, rfl, ho3, k3⟩
          have c0 := k3.cell c0
          have c1 := k3.cell c1
          have c2 := k3.cell c2
          have HK3 := Lib.hid (HK2.out.trans k3)
          have HO3 := Lib.hid ho3
          obtain ⟨A3, p3, rfl⟩ := own_form ho3
          clear ho3
          go_wp2_with fail
          refine (HR.out _ HK3.out).mono ?_
          rintro e w4 ⟨v4, rfl, ho4, k4⟩
          have HK4 := Lib.hid (HK3.out.trans k4)
          have HO34 := Lib.hid (own_kept HO3.out k4)
          have HI3 := Lib.hid (Ints.of_own HO34.out)
          have HI4 := Lib.hid (Ints.of_own ho4)
          obtain ⟨A4, p4, rfl⟩ := own_form ho4
          clear ho4 k4 k3 c0 c1 c2
          have HSS := Lib.hid (sameInts_any _ _ _ _ w4 HI3.out HI4.out)
          rw [same_self] at HSS
          go_wp2_with fail
          refine HSS.out.mono ?_
          rintro e w5 ⟨rfl, k5⟩
          have HK5 := Lib.hid (HK4.out.trans k5)
          have HO5 := Lib.hid (row_base (own_kept HO34.out k5) HK2.out.size)
          have hle := HLE.out
          clear k5
          go_wp2
          go_loopw [86] (fun i W => ∃ j : Nat, i = .int .i64 (j : Int) ∧ j ≤ D.length ∧ Kept w1 W ∧ ∃ l' : List Int, W.ownsRow w1.heap.size 3 1 (.slice A3 D.length p3) D.length (iv l')) (fun i _ => D.length - (intOf i).toNat)
          case atStart => exact ⟨0, rfl, Nat.zero_le _, HK5.out, D, HO5.out⟩
          case round =>
            obtain ⟨j, rfl, hj, hkk, l', hrow⟩ := hrel
            have HKA := Lib.hid hkk
            clear hkk
            by_cases hjl : j < D.length
            · obtain ⟨g, c', e, hg1, hg2, hg3, hg4⟩ := row_form hrow (by omega)
              obtain ⟨rfl, rfl⟩ : A3 = some ⟨g, 0, none⟩ ∧ p3 = c' := by simpa using e
              unfold maxLen at hg4
              have hll : l'.length = D.length := by have := hrow.1; simpa using this
              obtain ⟨hcg, hfg⟩ := row_at hrow (k := j) (by omega)
              have HSET := Lib.hid (row_set hrow j (-1))
              have HPK := Lib.hid (kept_poke HKA.out hg1 j (.int .i64 (-1)))
              have g2 : (j : Int) < (D.length : Int) := by omega
              clear hrow e
              go_wp2
              go_roundw
              case rel => exact ⟨j + 1, by go_num, by omega, HPK.out, _, HSET.out⟩
              case measure => simp [intOf]; omega
            · obtain rfl : j = D.length := by omega
              clear hrow
              go_wp2
              go_roundw
              case rel => exact ⟨k + 1, by go_num, by omega, HKA.out⟩
              case measure => simp [intOf]; omega
        · obtain rfl : k = cs.length := by omega
          have HX6 := Lib.hid (HB.out.ix.kept hkw)
          have HR6 := Lib.hid (HB.out.rx.kept hkw)
          have HK6 := Lib.hid (HB.out.old.trans hkw)
          have HST := Lib.hid (show st.length * 16 ≤ 140737488355328 by have := HX6.out.few; have := HLN.out; omega)
          have HLL := Lib.hid (show L.length * 72 ≤ 140737488355328 by have := HLN.out; omega)
          have HNM := Lib.hid (homs_names HX6.out)
          clear hkw
          go_wp2_with fail
          refine (homes_any HX6.out HST.out).mono ?_
          rintro e w7 ⟨v7, rfl, ho7, k7⟩
          have HR7 := Lib.hid (HR6.out.kept k7)
          have HK7 := Lib.hid (HK6.out.trans k7)
          have HT7 := Lib.hid (Txts.of_own ho7)
          obtain ⟨A7, p7, rfl⟩ := own_form ho7
          clear ho7 k7
          go_wp2_with fail
          refine (refHomes_any HR7.out HLL.out).mono ?_
          rintro e w8 ⟨v8, rfl, ho8, k8⟩
          rw [HNM.out] at ho8
          have HK8 := Lib.hid (HK7.out.trans k8)
          have HT7 := Lib.hid (HT7.out.kept k8)
          have HT8 := Lib.hid (Txts.of_own ho8)
          obtain ⟨A8, p8, rfl⟩ := own_form ho8
          clear ho8 k8
          generalize namesZ st = ks at *
          go_wp2_with fail
          refine (sameTexts_any ks _ _ _ HT7.out HT8.out).mono ?_
          rintro e w9 ⟨rfl, k9⟩
          go_wp2_with fail
          refine (awake_any _).mono ?_
          rintro e wa ⟨rfl, ka⟩
          have hk := HK8.out.trans (k9.trans ka)
          go_wp2
          go_ret
          exact ⟨rfl, hk⟩
end Go.Proofs.Ytgmpbalibdlhdaa
