/- The walk of VecJoins. -/
import Derived.Test.YteopgcbihekcjaaQVRjn
import Derived.Test.YteopgcbihekcjaaQVCpi
import Derived.Test.YteopgcbihekcjaaQVAwk
import Derived.Test.YteopgcbihekcjaaQVLeq
import Derived.Test.YteopgcbihekcjaaQVLwA
set_option linter.unusedSimpArgs false
set_option linter.unusedVariables false
namespace Go.Proofs.Yteopgcbihekcjaa
open Go.RowKit
theorem told_vE (l : List Int) : toldB (vE l) (vok l) 90 = true := by unfold toldB vE; cases vok l <;> rfl
theorem told_join (vs : List (List Int)) : toldB (joinE vs) (joinOk vs) 90 = true := by unfold toldB joinE; cases joinOk vs <;> rfl
theorem Calls.keep {P : Program} {f : FuncId} {args : Array Value} {W : World} {r : Ending} (h : Calls P f args W fun e w' => e = r ∧ W = w') : Calls P f args W fun e w' => e = r ∧ Kept W w' :=
  h.mono fun _ _ h => ⟨h.1, h.2 ▸ Kept.refl _⟩
set_option maxRecDepth 100000 in
set_option maxHeartbeats 4000000 in
theorem vecJoins_any (vs : List (List Int)) (n : Int) (v : Value) (w : World) (hv : Vecs w v vs) (hl : vs.length ≤ 5864062014805) (hs : ∀ l ∈ vs, l.length ≤ 17592186044416) :
    Calls Try.prog 5 #[v, .int .i64 n] w fun e w' => e = .returned (.bool true) ∧ Kept w w' := by
  obtain ⟨A, c, hvv, hc1, hc2, -⟩ := id hv
  subst hvv
  unfold maxLen at hc2
  have HV := Lib.hid hv
  have HS := Lib.hid hs
  clear hv hs
  go_enter Try.func5, Try.ntmps5
  go_wp2
  go_loopw [5, 21] (fun t i W => ∃ k : Nat, i = .int .i64 (k : Int) ∧ k ≤ vs.length ∧ VecsAt w.heap.size W t (vs.take k) ∧ Kept w W) (fun _ i _ => vs.length - (intOf i).toNat)
  case atStart => exact ⟨0, rfl, Nat.zero_le _, VecsAt.nil _ _, Kept.refl w⟩
  case round =>
    obtain ⟨k, rfl, hk, hR, hK⟩ := hrel
    obtain ⟨A3, c3, hv3, hd1, hd2⟩ := hR.form
    have hkl : (vs.take k).length = k := by simp; omega
    rw [hkl] at hv3
    subst hv3
    have HR := Lib.hid hR
    clear hR
    by_cases hlt : k < vs.length
    · obtain ⟨b, o, u, hA, hcell, hbu⟩ := (HV.out.kept hK).at hlt
      subst hA
      have HBU := Lib.hid hbu
      obtain ⟨Au, cu, hu, -, hu2⟩ := hbu.form
      subst hu
      clear hbu
      have g1 : (k : Int) < (vs.length : Int) := by omega
      have hsl := HS.out vs[k] (List.getElem_mem hlt)
      have HTS := Lib.hid (show vs.take (k + 1) = vs.take k ++ [vs[k]] from List.take_succ_eq_append_getElem hlt)
      generalize hr : vs[k] = r at *
      clear hr
      have hwr := hK.size
      go_wp2_with fail
      refine (copyInts_any r _ wr HBU.out hsl).mono ?_
      rintro e w4 ⟨v4, rfl, ho4, k4⟩
      obtain ⟨A4, c4, hv4⟩ := own_form ho4
      subst hv4
      have HO4 := Lib.hid (row_base ho4 hwr)
      have hK4 := hK.trans k4
      obtain ⟨us, hus1, hus3⟩ := HR.out.kept k4
      have HUS := Lib.hid hus1
      have HU3 := Lib.hid hus3
      have hs4 := k4.size
      clear ho4 hus1 hus3
      go_wp2_with (at_builtin; refine wpList_append_one elemV rfl _ _ rfl w.heap.size _ _ us [.slice A4 r.length c4] w4.heap.size 1 rfl rfl (own_kept (by have := HUS.out; rw [hkl] at this; exact this) ((Kept.refl w4).alloc _)) rfl (cell_new1 w4 _ _) (one_cell rfl) (by omega) (by unfold maxLen; omega) (by simp; omega) ?_; intro v5 w5 a1 a2 a3)
      go_roundw
      case rel =>
        obtain ⟨r1, r2⟩ := VecsAt.more (by omega) HUS.out HU3.out HO4.out a2 (by rw [hkl]; exact a1)
        refine ⟨k + 1, by go_num, by omega, by rw [HTS.out]; exact r1, r2.kept hK4 (fun g hg => ?_)⟩
        exact (HUS.out.lt g hg).1
      case measure => simp [intOf]; omega
    · obtain rfl : k = vs.length := by omega
      rw [List.take_length] at HR
      have HK := Lib.hid hK
      have HVL := Lib.hid HR.out.vecs
      rename World => w1
      clear hK hkl
      obtain ⟨A3', c3', hv3', hm1, hm2⟩ := HR.out.form
      obtain ⟨rfl, rfl⟩ : A3 = A3' ∧ c3 = c3' := by simpa using hv3'
      unfold maxLen at hm2
      clear hv3' hd1 hd2
      go_wp2_with fail
      refine (vjoin_any vs _ _ HVL.out).mono ?_
      rintro e w2 ⟨vj, rfl, hj, k2⟩
      have HJ := Lib.hid hj
      have HK2 := Lib.hid k2
      obtain ⟨Aj, cj, rfl⟩ := own_form hj
      clear hj k2
      have HT1 := Lib.hid (told_join vs)
      have HLJ := Lib.hid (show (joinT vs).length ≤ maxLen from by have := HJ.out.2; rcases this with ⟨e, h0⟩ | ⟨g, cap, cur, e, -, -, h3, h4, -⟩ <;> omega)
      go_wp2_with fail
      refine (refJoin_any vs _ _ (HV.out.kept (HK.out.trans HK2.out))).mono ?_
      rintro e w3 ⟨vk, rfl, hk3, k3⟩
      have HIK := Lib.hid (Ints.of_own hk3)
      have HIJ := Lib.hid (Ints.of_own (own_kept HJ.out k3))
      have HJ3 := Lib.hid (own_kept HJ.out k3)
      have HK3 := Lib.hid (HK2.out.trans k3)
      obtain ⟨Ak, ck, rfl⟩ := own_form hk3
      clear hk3 k3
      generalize hjl : joinT vs = jl at *
      generalize hje : joinE vs = je at *
      generalize hjo : joinOk vs = jo at *
      have HBB := Lib.hid (show (jl == jl) = true by simp)
      clear hjl hje hjo
      go_wp2_with fail
      refine (sameInts_any jl jl _ _ _ HIJ.out HIK.out).mono ?_
      rintro e w4 ⟨rfl, k4⟩
      rw [HBB.out]
      have HJ4 := Lib.hid (own_kept HJ3.out k4)
      have HK4 := Lib.hid (HK3.out.trans k4)
      clear k4
      go_wp2_with fail
      refine (told_any je jo 90 _).mono ?_
      rintro e w5 ⟨rfl, rfl⟩
      rw [HT1.out]
      have hjm := HLJ.out
      unfold maxLen at hjm
      go_wp2
      go_loopw [53] (fun i W => ∃ k : Nat, i = .int .i64 (k : Int) ∧ k ≤ jl.length ∧ Kept w1 W ∧ ∃ l' : List Int, W.ownsRow w1.heap.size 3 1 (.slice Aj jl.length cj) jl.length (iv l')) (fun i _ => jl.length - (intOf i).toNat)
      case atStart => exact ⟨0, rfl, Nat.zero_le _, HK4.out, jl, HJ4.out⟩
      case round =>
        obtain ⟨k, rfl, hk, hkk, l', hrow⟩ := hrel
        have HKA := Lib.hid hkk
        have HROW := Lib.hid hrow
        clear hkk
        by_cases hlt : k < jl.length
        · obtain ⟨g, c', e, hg1, hg2, hg3, hg4⟩ := row_form hrow (by omega)
          obtain ⟨rfl, rfl⟩ : Aj = some ⟨g, 0, none⟩ ∧ cj = c' := by simpa using e
          unfold maxLen at hg4
          have hll : l'.length = jl.length := by have := hrow.1; simpa using this
          obtain ⟨hcg, hfg⟩ := row_at hrow (k := k) (by omega)
          have HSET := Lib.hid (row_set hrow k (-1))
          have HPK := Lib.hid (kept_poke HKA.out hg1 k (.int .i64 (-1)))
          have g1 : (k : Int) < (jl.length : Int) := by omega
          clear hrow e
          go_wp2
          go_roundw
          case rel => exact ⟨k + 1, by go_num, by omega, HPK.out, _, HSET.out⟩
          case measure => simp [intOf]; omega
        · obtain rfl : k = jl.length := by omega
          clear hrow
          have HVR := Lib.hid HVL.out
          have hw1 : Kept w w1 := HK.out
          have HK1 := Lib.hid hw1
          clear hw1 hk
          go_wp2
          go_loopw [62] (fun i W => ∃ k : Nat, i = .int .i64 (k : Int) ∧ k ≤ vs.length ∧ Kept w1 W) (fun i _ => vs.length - (intOf i).toNat)
          case atStart => exact ⟨0, rfl, Nat.zero_le _, HKA.out⟩
          case round =>
            obtain ⟨k, rfl, hk, hkk⟩ := hrel
            have HKB := Lib.hid hkk
            clear hkk
            by_cases hlt : k < vs.length
            · obtain ⟨b, o, u, rfl, hcell0, hu⟩ := HV.out.at hlt
              obtain ⟨b', o', u', rfl, hcell1, hu'⟩ := HVR.out.at hlt
              have HC0 := Lib.hid (HK1.out.cell hcell0)
              have hcell0 := (HK1.out.trans HKB.out).cell hcell0
              have hcell1 := HKB.out.cell hcell1
              obtain ⟨Au, cu, rfl, -, hum⟩ := hu.form
              obtain ⟨Av, cv, rfl, -, hvm⟩ := hu'.form
              unfold maxLen at hum hvm
              have HU := Lib.hid (hu.kept HK1.out)
              have HU' := Lib.hid hu'
              clear hu hu'
              generalize vs[k] = x at *
              have HT := Lib.hid (told_vE x)
              have g1 : (k : Int) < (vs.length : Int) := by omega
              have hc0 := KW.cells hcell0
              go_wp2
              refine region_kept (by kernel_rfl) (by kernel_rfl) ?_
              repeat (go_big_quiet_step (first
                | (go_at_call 20; exact KW.call (fun W q => Calls.keep (vcheck_any x _ W (HU'.out.kept (HKB.out.trans q)))))
                | (go_at_call 21; exact KW.call (fun W q => Calls.keep (badvec_any x _ W (HU.out.kept (HKB.out.trans q)))))
                | (go_at_call 11; exact KW.call (fun W _ => told_true (by exact HT.out) W))))
              refine wpQuiet_nil ?_
              rintro _ ⟨⟨w6, k6⟩, rfl⟩
              have HKC := Lib.hid (HKB.out.trans k6)
              clear k6 hc0 hcell0 hcell1
              go_wp2
              go_loopw [79] (fun i W => ∃ j : Nat, i = .int .i64 (j : Int) ∧ j ≤ vs.length ∧ Kept w1 W) (fun i _ => vs.length - (intOf i).toNat)
              case atStart => exact ⟨0, rfl, Nat.zero_le _, HKC.out⟩
              case round =>
                obtain ⟨j, rfl, hj, hkk⟩ := hrel
                have HKD := Lib.hid hkk
                clear hkk
                by_cases hlt2 : j < vs.length
                · obtain ⟨b2, o2, y0, e2, hcell2, hy⟩ := HV.out.at hlt2
                  obtain ⟨rfl, rfl⟩ : b = b2 ∧ o = o2 := by simpa using e2
                  obtain ⟨b3, o3, y1, e3, hcell3, hy'⟩ := HVR.out.at hlt2
                  obtain ⟨rfl, rfl⟩ : b' = b3 ∧ o' = o3 := by simpa using e3
                  clear e2 e3
                  have hcell2 := (HK1.out.trans HKD.out).cell hcell2
                  have hcell3 := HKD.out.cell hcell3
                  have hcell4 := HKD.out.cell HC0.out
                  obtain ⟨Ay, cy, rfl, -, hym⟩ := hy.form
                  obtain ⟨Az, cz, rfl, -, hzm⟩ := hy'.form
                  unfold maxLen at hym hzm
                  have HY := Lib.hid (hy.kept HK1.out)
                  have HY' := Lib.hid hy'
                  clear hy hy'
                  generalize vs[j] = y at *
                  have g2 : (j : Int) < (vs.length : Int) := by omega
                  have hc2 := KW.cells hcell2
                  have hc4 := KW.cells hcell4
                  go_wp2
                  refine region_kept (by kernel_rfl) (by kernel_rfl) ?_
                  repeat (go_big_quiet_step (first
                    | (go_at_call 22; exact KW.call (fun W q => Calls.keep (leq_any x y _ _ W (HU'.out.kept (HKD.out.trans q)) (HY'.out.kept (HKD.out.trans q)))))
                    | (go_at_call 23; exact KW.call (fun W q => refLeq_any x y _ _ W (HU.out.kept (HKD.out.trans q)) (HY.out.kept (HKD.out.trans q))))))
                  refine wpQuiet_nil ?_
                  rintro _ ⟨⟨w7, k7⟩, rfl⟩
                  have HKE := Lib.hid (HKD.out.trans k7)
                  clear k7 hc2 hc4 hcell2 hcell3 hcell4
                  go_wp2
                  go_roundw
                  case rel => exact ⟨j + 1, by go_num, by omega, HKE.out⟩
                  case measure => simp [intOf]; omega
                · obtain rfl : j = vs.length := by omega
                  have hcell5 := HKD.out.cell HC0.out
                  have HXX := Lib.hid (show (x == x) = true by simp)
                  go_wp2_with fail
                  refine (sameInts_any x x _ _ _ (HU'.out.kept HKD.out) (HU.out.kept HKD.out)).mono ?_
                  rintro e w7 ⟨rfl, k7⟩
                  rw [HXX.out]
                  have HKE := Lib.hid (HKD.out.trans k7)
                  clear k7 hcell5
                  go_wp2
                  go_roundw
                  case rel => exact ⟨k + 1, by go_num, by omega, HKE.out⟩
                  case measure => simp [intOf]; omega
            · obtain rfl : k = vs.length := by omega
              by_cases hbad : n < 1 ∨ 7 < n
              · go_wp2_with fail
                refine (zero_bad n _ hbad).mono ?_
                rintro e w6 ⟨rfl, rfl⟩
                by_cases h1 : n < 1
                · have t1 : decide (n < 1) = true := decide_eq_true h1
                  go_wp2_with fail
                  refine (awake_any _).mono ?_
                  rintro e w9 ⟨rfl, k9⟩
                  have hkk := HK1.out.trans (HKB.out.trans k9)
                  go_wp2
                  go_ret
                  exact ⟨rfl, hkk⟩
                · have t1 : decide (n < 1) = false := decide_eq_false h1
                  have t2 : decide (7 < n) = true := decide_eq_true (by omega)
                  go_wp2_with fail
                  refine (awake_any _).mono ?_
                  rintro e w9 ⟨rfl, k9⟩
                  have hkk := HK1.out.trans (HKB.out.trans k9)
                  go_wp2
                  go_ret
                  exact ⟨rfl, hkk⟩
              · obtain ⟨m, rfl⟩ := Int.eq_ofNat_of_zero_le (show 0 ≤ n by omega)
                have hm1' : 1 ≤ m := by omega
                have hm7 : m ≤ 7 := by omega
                have t1 : decide ((m : Int) < 1) = false := decide_eq_false (by omega)
                have t2 : decide (7 < (m : Int)) = false := decide_eq_false (by omega)
                clear hbad
                go_wp2_with fail
                refine (zero_good m _ hm1' hm7).mono ?_
                rintro e w6 ⟨vz, rfl, hz, k6⟩
                have HZ := Lib.hid (Ints.of_own hz)
                obtain ⟨Az, cz, rfl⟩ := own_form hz
                obtain ⟨i, hi, hzz, hsz, hb⟩ := info_int
                obtain ⟨w8, hmk, hrow8, hgr8⟩ := run_make_full (P := Try.prog) w6 w6.heap.size 38 3 i (.int .i64 0) 1 Try.underlying38 hi hzz hsz .i64 .i64 m (by rw [hb]; omega) (by unfold maxLen; omega) (Nat.le_refl _)
                have hk8 : Kept w6 w8 := (Chg.of_grown (F := no) hgr8 (fun g hg => by cases hg)).to_kept
                have e8 : (madeCells (Value.int .i64 0).cells (m * 1)).toList = iv (zeros m) := by
                  show (madeCells #[.int .i64 0] (m * 1)).toList = _
                  rw [toList_madeCells_one]
                  simp [iv, zeros]
                rw [e8] at hrow8
                have HZ8 := Lib.hid (Ints.of_own hrow8)
                have HZ' := Lib.hid (HZ.out.kept hk8)
                have HK8 := Lib.hid (HKB.out.trans (k6.trans hk8))
                have HZZ := Lib.hid (show (zeros m == zeros m) = true by simp)
                clear hz k6 hi hzz hsz hb hrow8 hgr8 hk8 e8
                go_wp2_with fail
                refine (sameInts_any (zeros m) (zeros m) _ _ _ (by have := HZ'.out; simpa [zeros_len] using this) (by have := HZ8.out; simpa [zeros_len] using this)).mono ?_
                rintro e wC ⟨rfl, kC⟩
                rw [HZZ.out]
                have HKC := Lib.hid (HK8.out.trans kC)
                clear kC hmk
                go_wp2_with fail
                refine (awake_any _).mono ?_
                rintro e w9 ⟨rfl, k9⟩
                have hkk := HK1.out.trans (HKC.out.trans k9)
                go_wp2
                go_ret
                exact ⟨rfl, hkk⟩
end Go.Proofs.Yteopgcbihekcjaa
