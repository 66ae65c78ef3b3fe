/- The walk of InterfChains. -/
import Derived.Test.YtgmpbalibdlhdaaQICp
import Derived.Deep.RegionHeldLaw
set_option linter.unusedSimpArgs false
set_option linter.unusedVariables false
namespace Go.Proofs.Ytgmpbalibdlhdaa
open Go.RowKit
set_option maxRecDepth 100000 in
set_option maxHeartbeats 40000000 in
theorem interfChains_any (n : Int) (cs : List Cm) (v : Value) (w : World) (hv : Cms w v cs) (hh : ∀ x ∈ cs, x.home.length ≤ 140737488355328) :
    Calls Try.prog 6 #[.int .i64 n, v] w fun e w' => e = .returned (.bool true) ∧ Kept w w' := by
  have HV := Lib.hid hv
  have HH := Lib.hid hh
  obtain ⟨A, cp, rfl, hc1, hc2⟩ := hv.form
  unfold maxLen at hc2
  clear hv hh
  go_enter Try.func6, Try.ntmps6
  go_wp2_with fail
  refine (new_any n _).mono ?_
  rintro e w1 h1
  rcases h1 with ⟨hn, rfl, k1⟩ | ⟨hn, xb, mb, rfl, hx, hx1, hm1, k1⟩
  · have HK1 := Lib.hid k1
    clear k1
    by_cases q1 : n < 1
    · have t1 : decide (n < 1) = true := decide_eq_true q1
      clear hn
      go_wp2_with fail
      refine (awake_any _).mono ?_
      rintro e w2 ⟨rfl, k2⟩
      have hk := HK1.out.trans k2
      go_wp2
      go_ret
      exact ⟨rfl, hk⟩
    · have t1 : decide (n < 1) = false := decide_eq_false q1
      have t2 : decide (7 < n) = true := decide_eq_true (by omega)
      clear hn
      go_wp2_with fail
      refine (awake_any _).mono ?_
      rintro e w2 ⟨rfl, k2⟩
      have hk := HK1.out.trans k2
      go_wp2
      go_ret
      exact ⟨rfl, hk⟩
  · obtain ⟨m, rfl⟩ := Int.eq_ofNat_of_zero_le (show 0 ≤ n by omega)
    have hm : 1 ≤ m ∧ m ≤ 7 := by omega
    have htn : ((m : Int)).toNat = m := rfl
    rw [htn] at hx
    have HX := Lib.hid hx
    have HK1 := Lib.hid k1
    clear hx k1 htn hn
    by_cases hl : 200 < cs.length
    · have t1 : decide ((200 : Int) < (cs.length : Int)) = true := decide_eq_true (by omega)
      go_wp2_with fail
      refine (awake_any _).mono ?_
      rintro e w2 ⟨rfl, k2⟩
      have hk := HK1.out.trans k2
      go_wp2
      go_ret
      exact ⟨rfl, hk⟩
    · have t1 : decide ((200 : Int) < (cs.length : Int)) = false := decide_eq_false (by omega)
      obtain ⟨i, hi, hz, hs, hb⟩ := info_int
      obtain ⟨w2, hmk, hrow, hgr⟩ := run_make_full (P := Try.prog) w1 w1.heap.size 35 3 i (.int .i64 0) 1 Try.underlying35 hi hz hs .i64 .i64 m (by rw [hb]; omega) (by unfold maxLen; omega) (Nat.le_refl _)
      have hk2 : Kept w1 w2 := (Chg.of_grown (F := no) hgr (fun g hg => by cases hg)).to_kept
      have hs1 := HK1.out.size
      have HC0 := Lib.hid (show ChAt w w2 xb mb m [] [] w1.heap.size (List.replicate m 0) (.slice none 0 0) [] (.slice none 0 0) [] (.slice none 0 0) [] from
        ⟨HX.out.kept hk2, by have h := row_base hrow hs1; rw [show (Value.int .i64 0).cells = #[Value.int .i64 0] from rfl, toList_madeCells_one] at h; simpa [iv] using h, World.ownsRow_nil _ _ _ _, World.ownsRow_nil _ _ _ _, World.ownsRow_nil _ _ _ _, (fun e => by cases e), hx1, hm1, HK1.out.trans hk2⟩)
      have HO0 := Lib.hid (show ChOk m 0 (List.replicate m 0) [] from ⟨Nat.le_refl _, by simp, fun y hy => by rw [List.eq_of_mem_replicate hy]; omega, fun x hx => by cases hx⟩)
      clear hrow hgr hi hz hs hb hk2
      clear i
      go_wp2
      clear hmk
      go_loopw [8, 9, 10, 48] (fun dv sv av i W => ∃ (k : Nat) (st : TSt) (NX : List Int) (L : List It), i = .int .i64 (k : Int) ∧ k ≤ cs.length ∧ ChAt w W xb mb m st L w1.heap.size NX dv L sv L av L ∧ ChOk m k NX L) (fun _ _ _ i _ => cs.length - (intOf i).toNat)
      case atStart => exact ⟨0, _, _, _, rfl, Nat.zero_le _, HC0.out, HO0.out⟩
      case round =>
        obtain ⟨k, st, NX, L, rfl, hk, hC, hO⟩ := hrel
        obtain ⟨wo, hwo⟩ : ∃ wo, wo = wr := ⟨wr, rfl⟩
        subst hwo
        have HC := Lib.hid hC
        have HO := Lib.hid hO
        obtain ⟨Ad, pd, rfl⟩ := own_form hC.ids
        obtain ⟨As, ps, rfl⟩ := own_form hC.sq
        obtain ⟨Aa, pa, rfl⟩ := own_form hC.al
        have hfew := hO.few
        by_cases hlt : k < cs.length
        · obtain ⟨b, o, rfl, q0, q1, q2⟩ := (HV.out.kept hC.old).at hlt
          have g1 : (k : Int) < (cs.length : Int) := by omega
          have HHX := Lib.hid (HH.out cs[k] (List.getElem_mem hlt))
          generalize cs[k] = c at *
          have HKA := Lib.hid ((Kept.refl wo).alloc (.cells #[.int .i64 c.kind, .string ⟨c.home.toArray⟩, c.dv] 34))
          have HCA := Lib.hid (hC.kept HKA.out)
          have HCC := Lib.hid (cells3 (heap_alloc_new wo (.cells #[.int .i64 c.kind, .string ⟨c.home.toArray⟩, c.dv] 34)))
          have HSA := Lib.hid (show wo.heap.size < (wo.alloc (.cells #[.int .i64 c.kind, .string ⟨c.home.toArray⟩, c.dv] 34)).heap.size by simp)
          have HWS := Lib.hid hC.old.size
          have HAT := Lib.hid (attr_any HCA.out.ix c HHX.out)
          have HIF := Lib.hid (fun d v X h => interf_any c d v X h)
          have HCV := Lib.hid (fun (h : okK c.kind = true) x hx hi => chain_cov hC.ix.good hC.ix.size h hx hi (c := c) (x := x))
          have HSQ := Lib.hid (hO.seq hC.ix.good c)
          have HGS := Lib.hid (fun (h : okK c.kind = true) => show attS c L = seqT c L ∧ attD m c L = depT m c L ∧ attE c = 0 from ⟨by unfold attS; rw [h]; rfl, by unfold attD; rw [h]; rfl, by unfold attE; rw [h]; rfl⟩)
          have HGB := Lib.hid (fun (h : okK c.kind = false) => show attE c = 100 by unfold attE; rw [h]; rfl)
          have HDB := Lib.hid (fun g (hg : (Value.slice Ad L.length pd).ownBlock = some g) => (hC.ids.lt g hg).2)
          have HSB := Lib.hid (fun g (hg : (Value.slice As L.length ps).ownBlock = some g) => (hC.sq.lt g hg).2)
          have HAB := Lib.hid (fun g (hg : (Value.slice Aa L.length pa).ownBlock = some g) => (hC.al.lt g hg).2)
          have HXB := Lib.hid hC.ix.lt
          generalize itf c = I at *
          unfold AttrTo Cm.v Cm.dv at *
          clear hC hO
          go_upto_region 13 with (fail)
          generalize wo.alloc _ = w3 at *
          obtain ⟨c0, c1, c2⟩ := HCC.out
          clear q0 q1 q2
          go_wp2_with fail
          refine HAT.out.mono ?_
          rintro e w4 ⟨v4, rfl, ho4, k4⟩
          have HK4 := Lib.hid k4
          clear k4
          cases hK : okK c.kind with
          | false =>
            obtain ⟨A4, p4, rfl⟩ := own_form ho4
            rw [HGB.out hK]
            have HCF := Lib.hid (HCA.out.kept HK4.out)
            clear ho4 hK c0 c1 c2
            go_wp2
            go_roundw
            case rel => exact ⟨k + 1, st, NX, L, by go_num, by omega, HCF.out, HO.out.more⟩
            case measure => simp [intOf]; omega
          | true =>
            obtain ⟨gs1, gs2, gs3⟩ := HGS.out hK
            rw [gs1, gs3]
            rw [gs2, depT_len] at ho4
            have HCV := Lib.hid (fun x hx hi => HCV.out hK x hx hi)
            have HKK := Lib.hid hK
            clear gs1 gs2 gs3 hK
            have hsq1 := HSQ.out.1
            have hsq2 := HSQ.out.2
            have hdl := depT_len m c L
            generalize depT m c L = D at *
            generalize seqT c L = s at *
            obtain ⟨A4, p4, rfl⟩ := own_form ho4
            have HI4 := Lib.hid (show Ints w4 (.slice A4 m p4) D from by have := ho4; rw [← hdl] at this ⊢; exact Ints.of_own this)
            have HC4 := Lib.hid (HCA.out.kept HK4.out)
            have c0 := HK4.out.cell c0
            have c1 := HK4.out.cell c1
            have c2 := HK4.out.cell c2
            clear ho4
            go_wp2
            go_loopw [64] (fun i W => ∃ j : Nat, i = .int .i64 (j : Int) ∧ j ≤ L.length ∧ Kept w4 W) (fun i _ => L.length - (intOf i).toNat)
            case atStart => exact ⟨0, rfl, Nat.zero_le _, Kept.refl _⟩
            case round =>
              obtain ⟨j, rfl, hj, hkw⟩ := hrel
              have HKW := Lib.hid hkw
              by_cases hjl : j < L.length
              · have g2 : (j : Int) < (L.length : Int) := by omega
                have hC5 := HC4.out.kept hkw
                obtain ⟨ga, pa', ea, -, hpa⟩ := own_some hC5.al (by omega)
                obtain ⟨rfl, -, rfl⟩ : Aa = some ⟨ga, 0, none⟩ ∧ L.length = L.length ∧ pa = pa' := by simpa using ea
                obtain ⟨gs, ps', es, -, hps⟩ := own_some hC5.sq (by omega)
                obtain ⟨rfl, -, rfl⟩ : As = some ⟨gs, 0, none⟩ ∧ L.length = L.length ∧ ps = ps' := by simpa using es
                obtain ⟨gd, pd', ed, -, hpd⟩ := own_some hC5.ids (by omega)
                obtain ⟨rfl, -, rfl⟩ : Ad = some ⟨gd, 0, none⟩ ∧ L.length = L.length ∧ pd = pd' := by simpa using ed
                have q0 := own_cell hC5.al (j := j * 3 + 0) ((flat_at (m := 3) (f := fun x : It => [.int .i64 x.c.kind, .string ⟨x.c.home.toArray⟩, x.c.dv]) (fun _ => rfl) hjl (j := 0) (by omega)).trans rfl)
                have q1 := own_cell hC5.al (j := j * 3 + 1) ((flat_at (m := 3) (f := fun x : It => [.int .i64 x.c.kind, .string ⟨x.c.home.toArray⟩, x.c.dv]) (fun _ => rfl) hjl (j := 1) (by omega)).trans rfl)
                have q2 := own_cell hC5.al (j := j * 3 + 2) ((flat_at (m := 3) (f := fun x : It => [.int .i64 x.c.kind, .string ⟨x.c.home.toArray⟩, x.c.dv]) (fun _ => rfl) hjl (j := 2) (by omega)).trans rfl)
                have r0 := own_cell hC5.ids (j := j * 2 + 0) ((flat_at (m := 2) (f := fun x : It => [.int .i64 x.rep, .int .i64 x.num]) (fun _ => rfl) hjl (j := 0) (by omega)).trans rfl)
                have r1 := own_cell hC5.ids (j := j * 2 + 1) ((flat_at (m := 2) (f := fun x : It => [.int .i64 x.rep, .int .i64 x.num]) (fun _ => rfl) hjl (j := 1) (by omega)).trans rfl)
                have s0 := own_cell hC5.sq (j := j) (show (iv (L.map It.seq))[j]? = some (.int .i64 L[j].seq) by unfold iv; rw [List.getElem?_map, List.getElem?_map, List.getElem?_eq_getElem hjl]; rfl)
                simp only [Nat.add_zero] at q0 r0
                have HCX := Lib.hid (HCV.out L[j] (List.getElem_mem hjl))
                generalize L[j] = x at *
                unfold Cm.dv at q2
                have hka := (Kept.refl wr).alloc (.cells #[.int .i64 x.c.kind, .string ⟨x.c.home.toArray⟩, .slice x.c.da x.c.dn x.c.dc] 34)
                have HKB := Lib.hid (HKW.out.trans hka)
                have HXC := Lib.hid (cells3 (heap_alloc_new wr (.cells #[.int .i64 x.c.kind, .string ⟨x.c.home.toArray⟩, .slice x.c.da x.c.dn x.c.dc] 34)))
                have R0 := Lib.hid (hka.cell r0)
                have R1 := Lib.hid (hka.cell r1)
                have S0 := Lib.hid (hka.cell s0)
                have e0 := hka.cell (hkw.cell c0)
                have e1 := hka.cell (hkw.cell c1)
                have e2 := hka.cell (hkw.cell c2)
                clear hC5 ea es ed hka hkw r0 r1 s0
                unfold maxLen at hpa hps hpd
                go_upto_region 18 with (fail)
                generalize wr.alloc _ = w5 at *
                obtain ⟨x0, x1, x2⟩ := HXC.out
                clear q0 q1 q2
                go_wp2_with fail
                refine (HIF.out x.c _ _ (Cms.one w5 x.c 34)).mono ?_
                rintro e w6 ⟨rfl, k6⟩
                have hk6 := ((Kept.refl w5).alloc (.cells #[.int .i64 x.c.kind, .string ⟨x.c.home.toArray⟩, x.c.dv] 34)).trans k6
                have HK6 := Lib.hid (HKB.out.trans hk6)
                have r0 := hk6.cell R0.out
                have r1 := hk6.cell R1.out
                have s0 := hk6.cell S0.out
                clear k6 hk6 e0 e1 e2 x0 x1 x2
                cases hI : I x.c with
                | false =>
                  clear hI
                  go_wp2
                  go_roundw
                  case rel => exact ⟨j + 1, by go_num, by omega, HK6.out⟩
                  case measure => simp [intOf]; omega
                | true =>
                  obtain ⟨hcov, hlt2⟩ := HCX.out hI
                  have hle : decide (s ≤ x.seq) = false := decide_eq_false (by omega)
                  have HK7 := Lib.hid ((Kept.refl w6).alloc (.cells #[.int .i64 x.rep, .int .i64 x.num] 47))
                  have HCC2 := Lib.hid (covers_any D _ _ _ _ (HI4.out.kept (HK6.out.trans HK7.out)) (Ids.one w6 x.rep x.num 47))
                  rw [hcov] at HCC2
                  clear hI hcov hlt2
                  go_wp2_with fail
                  refine HCC2.out.mono ?_
                  rintro e w8 ⟨rfl, k8⟩
                  have HK8 := Lib.hid ((HK6.out.trans HK7.out).trans k8)
                  clear k8 r0 r1 s0
                  go_wp2
                  go_roundw
                  case rel => exact ⟨j + 1, by go_num, by omega, HK8.out⟩
                  case measure => simp [intOf]; omega
              · have g2 : ¬ (j : Int) < (L.length : Int) := by omega
                obtain ⟨r, hr, hrm⟩ : ∃ r : Nat, (k : Int) % (m : Int) = (r : Int) ∧ r < m := ⟨k % m, by simp, Nat.mod_lt _ (by omega)⟩
                have hmz : ¬ (m : Int) = 0 := by omega
                have hC5 := HC4.out.kept hkw
                have HC5 := Lib.hid hC5
                have hlen := HO.out.len
                obtain ⟨y, hy⟩ : ∃ y, NX[r]? = some y := ⟨NX[r], List.getElem?_eq_getElem (by omega)⟩
                have hyb := HO.out.nums y (List.mem_of_getElem? hy)
                have n0 := own_cell hC5.nx (j := r) (show (iv NX)[r]? = some (.int .i64 y) by unfold iv; rw [List.getElem?_map, hy]; rfl)
                have f0 : wr.frozen? ⟨w1.heap.size, r, none⟩ = false := by
                  obtain ⟨cur, hcur⟩ := own_type hC5.nx (g := w1.heap.size) rfl
                  exact frozen_at hcur r
                have HY := Lib.hid hy
                have hwy : IntKind.i64.wrap (y + 1) = y + 1 := IntWalk.i64_in _ (by omega)
                obtain ⟨hC6, hc6⟩ := hC5.poke r (y + 1)
                have HC6 := Lib.hid hC6
                have hnx6 := own_cell hC6.nx (j := r) (show (iv (NX.set r (y + 1)))[r]? = some (.int .i64 (y + 1)) by unfold iv; rw [List.getElem?_map, List.getElem?_set_self (by omega)]; rfl)
                have hnb := HC.out.nlt.2
                have hwo6 : wo.heap.size ≤ (wr.setCell ⟨w1.heap.size, r, none⟩ (.int .i64 (y + 1))).heap.size := Nat.le_trans (Nat.le_trans HKA.out.size (Nat.le_trans HK4.out.size hkw.size)) hc6.size
                have e0 := chg_cellS hc6 (hkw.cell c0) (fun e => by omega)
                have e1 := chg_cellS hc6 (hkw.cell c1) (fun e => by omega)
                have e2 := chg_cellS hc6 (hkw.cell c2) (fun e => by omega)
                have g3 : (r : Int) < (m : Int) := by omega
                have g4 : ¬ (r : Int) < 0 := by omega
                clear c0 c1 c2 hC5 hC6 hc6 hkw
                go_upto_region 23 with (fail)
                generalize wr.setCell _ _ = w6 at *
                have HKA6 := Lib.hid ((Kept.refl w6).alloc (.cells #[.int .i64 (r : Int), .int .i64 (y + 1)] 47))
                have HC7 := Lib.hid (HC6.out.kept HKA6.out)
                have HI7 := Lib.hid (cells2 (heap_alloc_new w6 (.cells #[.int .i64 (r : Int), .int .i64 (y + 1)] 47)))
                have HNX := Lib.hid (And.intro (show ¬ (wo.heap.size = xb ∨ wo.heap.size = mb) from fun e => by have := HXB.out; omega) (show ¬ (w6.heap.size = xb ∨ w6.heap.size = mb) from fun e => by have := HXB.out; omega))
                have hox : okI m ⟨c, r, y + 1, s⟩ := ⟨of_decide_eq_true HKK.out, by simp only; omega, by simp only; omega, by simp only; omega⟩
                have HADD := Lib.hid (add_any HC7.out.ix ⟨c, r, y + 1, s⟩ HHX.out (by unfold maxLen; omega))
                unfold AddTo addL at HADD
                rw [okI_iff.2 hox, if_pos rfl] at HADD
                unfold Cm.v It.id Cm.dv at HADD
                simp only at HADD
                have HOX := Lib.hid (HO.out.add HY.out (s := s) (by omega) c)
                rw [hr]
                have e0 := HKA6.out.cell e0
                have e1 := HKA6.out.cell e1
                have e2 := HKA6.out.cell e2
                have E0 := Lib.hid e0
                have E1 := Lib.hid e1
                have E2 := Lib.hid e2
                clear hox hy hyb n0 f0 hwy
                go_upto_region 24 with (fail)
                clear hnx6
                generalize w6.alloc _ = w7 at *
                obtain ⟨i0, i1⟩ := HI7.out
                go_wp2_with fail
                refine HADD.out.mono ?_
                rintro e w8 ⟨rfl, ⟨st8, hi8⟩, hc8⟩
                have HC8 := Lib.hid (HC7.out.told hi8 hc8)
                have hs7 := HKA6.out.size
                have hb7 := HC7.out.ix.lt
                have hgo : wo.heap.size ≤ w6.heap.size := hwo6
                have l0 := chg_cellS hc8 E0.out HNX.out.1
                have l1 := chg_cellS hc8 E1.out HNX.out.1
                have l2 := chg_cellS hc8 E2.out HNX.out.1
                have l3 := chg_cellS hc8 i0 HNX.out.2
                have l4 := chg_cellS hc8 i1 HNX.out.2
                have hw8 : wo.heap.size ≤ w8.heap.size := Nat.le_trans hgo (Nat.le_trans hs7 hc8.size)
                clear hc8 hi8 i0 i1 e0 e1 e2 hb7 hs7
                go_wp2
                have HQ := Lib.hid HC8.out
                clear HC8
                go_region_held_law? (fun X => X.cell? ⟨wo.heap.size, 0, none⟩ = some (.int .i64 c.kind) ∧ X.cell? ⟨wo.heap.size, 1, none⟩ = some (.string ⟨c.home.toArray⟩) ∧ X.cell? ⟨wo.heap.size, 2, none⟩ = some (.slice c.da c.dn c.dc) ∧ X.cell? ⟨w6.heap.size, 0, none⟩ = some (.int .i64 (r : Int)) ∧ X.cell? ⟨w6.heap.size, 1, none⟩ = some (.int .i64 (y + 1)))
                  (refine ⟨Kept.cell ?_ l0, Kept.cell ?_ l1, Kept.cell ?_ l2, Kept.cell ?_ l3, Kept.cell ?_ l4⟩ <;> repeat (first | exact Kept.refl _ | refine Kept.alloc ?_ _ | refine Kept.drew ?_))
                  (first
                    | (refine step_append_one elemId (by rfl) _ _ (by rfl) w.heap.size _ _ (cellsId L) [.int .i64 (r : Int), .int .i64 (y + 1)] _ _ (by rfl) (by rfl) (own_kept HQ.out.ids (by repeat (first | exact Kept.refl _ | refine Kept.alloc ?_ _ | refine Kept.drew ?_))) (by rfl) (src_cells (show _ = some (Obj.cells #[.int .i64 (r : Int), .int .i64 (y + 1)] 47 (0, 0)) from by first | exact Kept.block' (by repeat (first | exact Kept.refl _ | refine Kept.alloc ?_ _ | refine Kept.drew ?_)) s1 | exact al3a _ _ _ _ | exact ((Kept.refl _).drew).block' (al3a _ _ _ _) | exact al3b _ _ _ _ | exact ((Kept.refl _).drew).block' (al3b _ _ _ _) | exact al3c _ _ _ _ | exact ((Kept.refl _).drew).block' (al3c _ _ _ _) | exact al2a _ _ _ | exact ((Kept.refl _).drew).block' (al2a _ _ _) | exact al2b _ _ _ | exact ((Kept.refl _).drew).block' (al2b _ _ _) | exact al1 _ _ | exact ((Kept.refl _).drew).block' (al1 _ _))) (by intro u hu; simp at hu; rcases hu with rfl | rfl <;> rfl) (by omega) (by unfold maxLen; omega) (HQ.out.kept (by repeat (first | exact Kept.refl _ | refine Kept.alloc ?_ _ | refine Kept.drew ?_))).old.size ?_; intro v5 w5 z1 z2 z3; obtain ⟨A5, p5, rfl⟩ := own_form z1; (try (have s2 := carry z2 (show _ = some (Obj.cells #[.int .i64 s] 3 (0, 0)) from by first | exact Kept.block' (by repeat (first | exact Kept.refl _ | refine Kept.alloc ?_ _ | refine Kept.drew ?_)) s2 | exact al3a _ _ _ _ | exact ((Kept.refl _).drew).block' (al3a _ _ _ _) | exact al3b _ _ _ _ | exact ((Kept.refl _).drew).block' (al3b _ _ _ _) | exact al3c _ _ _ _ | exact ((Kept.refl _).drew).block' (al3c _ _ _ _) | exact al2a _ _ _ | exact ((Kept.refl _).drew).block' (al2a _ _ _) | exact al2b _ _ _ | exact ((Kept.refl _).drew).block' (al2b _ _ _) | exact al1 _ _ | exact ((Kept.refl _).drew).block' (al1 _ _)) (fun e => by have := HDB.out _ e; omega))); (try (have s3 := carry z2 (show _ = some (Obj.cells #[.int .i64 c.kind, .string ⟨c.home.toArray⟩, .slice c.da c.dn c.dc] 34 (0, 0)) from by first | exact Kept.block' (by repeat (first | exact Kept.refl _ | refine Kept.alloc ?_ _ | refine Kept.drew ?_)) s3 | exact al3a _ _ _ _ | exact ((Kept.refl _).drew).block' (al3a _ _ _ _) | exact al3b _ _ _ _ | exact ((Kept.refl _).drew).block' (al3b _ _ _ _) | exact al3c _ _ _ _ | exact ((Kept.refl _).drew).block' (al3c _ _ _ _) | exact al2a _ _ _ | exact ((Kept.refl _).drew).block' (al2a _ _ _) | exact al2b _ _ _ | exact ((Kept.refl _).drew).block' (al2b _ _ _) | exact al1 _ _ | exact ((Kept.refl _).drew).block' (al1 _ _)) (fun e => by have := HDB.out _ e; omega))); have l0 := chg_cellS ((Chg.of_kept (F := fun g => g < wo.heap.size) (by repeat (first | exact Kept.refl _ | refine Kept.alloc ?_ _ | refine Kept.drew ?_))).trans (Chg.of_grown (F := fun g => g < wo.heap.size) z2 (fun g hg _ => HDB.out g hg)) (fun _ _ x => x)) l0 (fun e => by omega); have l1 := chg_cellS ((Chg.of_kept (F := fun g => g < wo.heap.size) (by repeat (first | exact Kept.refl _ | refine Kept.alloc ?_ _ | refine Kept.drew ?_))).trans (Chg.of_grown (F := fun g => g < wo.heap.size) z2 (fun g hg _ => HDB.out g hg)) (fun _ _ x => x)) l1 (fun e => by omega); have l2 := chg_cellS ((Chg.of_kept (F := fun g => g < wo.heap.size) (by repeat (first | exact Kept.refl _ | refine Kept.alloc ?_ _ | refine Kept.drew ?_))).trans (Chg.of_grown (F := fun g => g < wo.heap.size) z2 (fun g hg _ => HDB.out g hg)) (fun _ _ x => x)) l2 (fun e => by omega); have l3 := chg_cellS ((Chg.of_kept (F := fun g => g < wo.heap.size) (by repeat (first | exact Kept.refl _ | refine Kept.alloc ?_ _ | refine Kept.drew ?_))).trans (Chg.of_grown (F := fun g => g < wo.heap.size) z2 (fun g hg _ => HDB.out g hg)) (fun _ _ x => x)) l3 (fun e => by omega); have l4 := chg_cellS ((Chg.of_kept (F := fun g => g < wo.heap.size) (by repeat (first | exact Kept.refl _ | refine Kept.alloc ?_ _ | refine Kept.drew ?_))).trans (Chg.of_grown (F := fun g => g < wo.heap.size) z2 (fun g hg _ => HDB.out g hg)) (fun _ _ x => x)) l4 (fun e => by omega); have hw8 : wo.heap.size ≤ w5.heap.size := Nat.le_trans (Nat.le_trans hw8 (keptSize (by repeat (first | exact Kept.refl _ | refine Kept.alloc ?_ _ | refine Kept.drew ?_)))) z2.size; have HQ := Lib.hid ((HQ.out.kept (by repeat (first | exact Kept.refl _ | refine Kept.alloc ?_ _ | refine Kept.drew ?_))).pushD (x := ⟨c, (r : Int), y + 1, s⟩) z1 z2); clear z1 z2 z3)
                    | (refine step_append_one elemI (by rfl) _ _ (by rfl) w.heap.size _ _ (iv (L.map It.seq)) [.int .i64 s] _ _ (by rfl) (by rfl) (own_kept HQ.out.sq (by repeat (first | exact Kept.refl _ | refine Kept.alloc ?_ _ | refine Kept.drew ?_))) (by rfl) (src_cells (show _ = some (Obj.cells #[.int .i64 s] 3 (0, 0)) from by first | exact Kept.block' (by repeat (first | exact Kept.refl _ | refine Kept.alloc ?_ _ | refine Kept.drew ?_)) s2 | exact al3a _ _ _ _ | exact ((Kept.refl _).drew).block' (al3a _ _ _ _) | exact al3b _ _ _ _ | exact ((Kept.refl _).drew).block' (al3b _ _ _ _) | exact al3c _ _ _ _ | exact ((Kept.refl _).drew).block' (al3c _ _ _ _) | exact al2a _ _ _ | exact ((Kept.refl _).drew).block' (al2a _ _ _) | exact al2b _ _ _ | exact ((Kept.refl _).drew).block' (al2b _ _ _) | exact al1 _ _ | exact ((Kept.refl _).drew).block' (al1 _ _))) (by intro u hu; simp at hu; rcases hu with rfl <;> rfl) (by omega) (by unfold maxLen; omega) (HQ.out.kept (by repeat (first | exact Kept.refl _ | refine Kept.alloc ?_ _ | refine Kept.drew ?_))).old.size ?_; intro v5 w5 z1 z2 z3; obtain ⟨A5, p5, rfl⟩ := own_form z1; (try (have s3 := carry z2 (show _ = some (Obj.cells #[.int .i64 c.kind, .string ⟨c.home.toArray⟩, .slice c.da c.dn c.dc] 34 (0, 0)) from by first | exact Kept.block' (by repeat (first | exact Kept.refl _ | refine Kept.alloc ?_ _ | refine Kept.drew ?_)) s3 | exact al3a _ _ _ _ | exact ((Kept.refl _).drew).block' (al3a _ _ _ _) | exact al3b _ _ _ _ | exact ((Kept.refl _).drew).block' (al3b _ _ _ _) | exact al3c _ _ _ _ | exact ((Kept.refl _).drew).block' (al3c _ _ _ _) | exact al2a _ _ _ | exact ((Kept.refl _).drew).block' (al2a _ _ _) | exact al2b _ _ _ | exact ((Kept.refl _).drew).block' (al2b _ _ _) | exact al1 _ _ | exact ((Kept.refl _).drew).block' (al1 _ _)) (fun e => by have := HSB.out _ e; omega))); have l0 := chg_cellS ((Chg.of_kept (F := fun g => g < wo.heap.size) (by repeat (first | exact Kept.refl _ | refine Kept.alloc ?_ _ | refine Kept.drew ?_))).trans (Chg.of_grown (F := fun g => g < wo.heap.size) z2 (fun g hg _ => HSB.out g hg)) (fun _ _ x => x)) l0 (fun e => by omega); have l1 := chg_cellS ((Chg.of_kept (F := fun g => g < wo.heap.size) (by repeat (first | exact Kept.refl _ | refine Kept.alloc ?_ _ | refine Kept.drew ?_))).trans (Chg.of_grown (F := fun g => g < wo.heap.size) z2 (fun g hg _ => HSB.out g hg)) (fun _ _ x => x)) l1 (fun e => by omega); have l2 := chg_cellS ((Chg.of_kept (F := fun g => g < wo.heap.size) (by repeat (first | exact Kept.refl _ | refine Kept.alloc ?_ _ | refine Kept.drew ?_))).trans (Chg.of_grown (F := fun g => g < wo.heap.size) z2 (fun g hg _ => HSB.out g hg)) (fun _ _ x => x)) l2 (fun e => by omega); have l3 := chg_cellS ((Chg.of_kept (F := fun g => g < wo.heap.size) (by repeat (first | exact Kept.refl _ | refine Kept.alloc ?_ _ | refine Kept.drew ?_))).trans (Chg.of_grown (F := fun g => g < wo.heap.size) z2 (fun g hg _ => HSB.out g hg)) (fun _ _ x => x)) l3 (fun e => by omega); have l4 := chg_cellS ((Chg.of_kept (F := fun g => g < wo.heap.size) (by repeat (first | exact Kept.refl _ | refine Kept.alloc ?_ _ | refine Kept.drew ?_))).trans (Chg.of_grown (F := fun g => g < wo.heap.size) z2 (fun g hg _ => HSB.out g hg)) (fun _ _ x => x)) l4 (fun e => by omega); have hw8 : wo.heap.size ≤ w5.heap.size := Nat.le_trans (Nat.le_trans hw8 (keptSize (by repeat (first | exact Kept.refl _ | refine Kept.alloc ?_ _ | refine Kept.drew ?_)))) z2.size; have HQ := Lib.hid ((HQ.out.kept (by repeat (first | exact Kept.refl _ | refine Kept.alloc ?_ _ | refine Kept.drew ?_))).pushS (x := ⟨c, (r : Int), y + 1, s⟩) z1 z2 z3); clear z1 z2 z3)
                    | (refine step_append_one elemCm (by rfl) _ _ (by rfl) w.heap.size _ _ (cellsCm L) [.int .i64 c.kind, .string ⟨c.home.toArray⟩, .slice c.da c.dn c.dc] _ _ (by rfl) (by rfl) (own_kept HQ.out.al (by repeat (first | exact Kept.refl _ | refine Kept.alloc ?_ _ | refine Kept.drew ?_))) (by rfl) (src_cells (show _ = some (Obj.cells #[.int .i64 c.kind, .string ⟨c.home.toArray⟩, .slice c.da c.dn c.dc] 34 (0, 0)) from by first | exact Kept.block' (by repeat (first | exact Kept.refl _ | refine Kept.alloc ?_ _ | refine Kept.drew ?_)) s3 | exact al3a _ _ _ _ | exact ((Kept.refl _).drew).block' (al3a _ _ _ _) | exact al3b _ _ _ _ | exact ((Kept.refl _).drew).block' (al3b _ _ _ _) | exact al3c _ _ _ _ | exact ((Kept.refl _).drew).block' (al3c _ _ _ _) | exact al2a _ _ _ | exact ((Kept.refl _).drew).block' (al2a _ _ _) | exact al2b _ _ _ | exact ((Kept.refl _).drew).block' (al2b _ _ _) | exact al1 _ _ | exact ((Kept.refl _).drew).block' (al1 _ _))) (by intro u hu; simp at hu; rcases hu with rfl | rfl | rfl <;> rfl) (by omega) (by unfold maxLen; omega) (HQ.out.kept (by repeat (first | exact Kept.refl _ | refine Kept.alloc ?_ _ | refine Kept.drew ?_))).old.size ?_; intro v5 w5 z1 z2 z3; obtain ⟨A5, p5, rfl⟩ := own_form z1; have l0 := chg_cellS ((Chg.of_kept (F := fun g => g < wo.heap.size) (by repeat (first | exact Kept.refl _ | refine Kept.alloc ?_ _ | refine Kept.drew ?_))).trans (Chg.of_grown (F := fun g => g < wo.heap.size) z2 (fun g hg _ => HAB.out g hg)) (fun _ _ x => x)) l0 (fun e => by omega); have l1 := chg_cellS ((Chg.of_kept (F := fun g => g < wo.heap.size) (by repeat (first | exact Kept.refl _ | refine Kept.alloc ?_ _ | refine Kept.drew ?_))).trans (Chg.of_grown (F := fun g => g < wo.heap.size) z2 (fun g hg _ => HAB.out g hg)) (fun _ _ x => x)) l1 (fun e => by omega); have l2 := chg_cellS ((Chg.of_kept (F := fun g => g < wo.heap.size) (by repeat (first | exact Kept.refl _ | refine Kept.alloc ?_ _ | refine Kept.drew ?_))).trans (Chg.of_grown (F := fun g => g < wo.heap.size) z2 (fun g hg _ => HAB.out g hg)) (fun _ _ x => x)) l2 (fun e => by omega); have l3 := chg_cellS ((Chg.of_kept (F := fun g => g < wo.heap.size) (by repeat (first | exact Kept.refl _ | refine Kept.alloc ?_ _ | refine Kept.drew ?_))).trans (Chg.of_grown (F := fun g => g < wo.heap.size) z2 (fun g hg _ => HAB.out g hg)) (fun _ _ x => x)) l3 (fun e => by omega); have l4 := chg_cellS ((Chg.of_kept (F := fun g => g < wo.heap.size) (by repeat (first | exact Kept.refl _ | refine Kept.alloc ?_ _ | refine Kept.drew ?_))).trans (Chg.of_grown (F := fun g => g < wo.heap.size) z2 (fun g hg _ => HAB.out g hg)) (fun _ _ x => x)) l4 (fun e => by omega); have hw8 : wo.heap.size ≤ w5.heap.size := Nat.le_trans (Nat.le_trans hw8 (keptSize (by repeat (first | exact Kept.refl _ | refine Kept.alloc ?_ _ | refine Kept.drew ?_)))) z2.size; have HQ := Lib.hid ((HQ.out.kept (by repeat (first | exact Kept.refl _ | refine Kept.alloc ?_ _ | refine Kept.drew ?_))).pushA (x := ⟨c, (r : Int), y + 1, s⟩) z1 z2); clear z1 z2 z3))
                all_goals
                  have HF := HQ
                  clear l0 l1 l2 l3 l4
                  (try clear s1)
                  (try clear s2)
                  (try clear s3)
                  go_wp2
                  go_roundw
                  case rel => exact ⟨k + 1, st8, NX.set r (y + 1), _, by go_num, by omega, HF.out, HOX.out⟩
                  case measure => simp [intOf]; omega
        · have hkf := HC.out.old
          go_wp2_with fail
          refine (awake_any _).mono ?_
          rintro e w2 ⟨rfl, k2⟩
          have hk := hkf.trans k2
          go_wp2
          go_ret
          exact ⟨rfl, hk⟩
end Go.Proofs.Ytgmpbalibdlhdaa
