/- The walk of VecBack. -/
import Derived.Test.YteopgcbihekcjaaDoorQVBk4
import Derived.Test.YteopgcbihekcjaaDoorQVAwk
import Derived.Test.YteopgcbihekcjaaDoorQVCpi
set_option linter.unusedSimpArgs false
set_option linter.unusedVariables false
namespace Go.Proofs.YteopgcbihekcjaaDoor
open Go.RowKit
theorem isd_new {w : World} {v : Value} {p : List UInt8} (h : Bts w v p) : IsD (w.alloc (.cells #[v, .int .i64 0, .int .i64 0] 42)) w.heap.size v p 0 0 :=
  ⟨heap_alloc_new w _, h.kept ((Kept.refl w).alloc _), Nat.zero_le _⟩
set_option maxRecDepth 100000 in
set_option maxHeartbeats 1500000 in
theorem vecBack_any (n r : Int) (l : List Int) (p : List UInt8) (v u : Value) (w : World) (hv : Ints w v l) (hu : Bts w u p) (hl : l.length ≤ 17592186044416) (hlim : p.length ≤ 140737488355328) :
    Calls Tryd.prog 3 #[bal n r, v, u] w fun e w' => e = .returned (.bool true) ∧ Kept w w' := by
  obtain ⟨A, c, rfl, hc1, hc2⟩ := hv.form
  obtain ⟨B, d, rfl⟩ := hu.form
  unfold maxLen at hc2
  have hpm := hu.len
  unfold maxLen at hpm
  have HV := Lib.hid hv
  have HU := Lib.hid hu
  clear hv hu
  go_enter Tryd.func3, Tryd.ntmps3
  go_wp2
  have HB1 := Lib.hid (heap_alloc_new w (.cells #[.int .i64 n, .int .i64 r] 23))
  have HK1 := Lib.hid ((Kept.refl w).alloc (.cells #[.int .i64 n, .int .i64 r] 23))
  generalize w.alloc (.cells #[.int .i64 n, .int .i64 r] 23) = w1 at *
  obtain ⟨q0, q1⟩ := cells2 HB1.out
  go_region_held3 (fun W => W.cell? ⟨w.heap.size, 0, none⟩ = some (.int .i64 n) ∧ W.cell? ⟨w.heap.size, 1, none⟩ = some (.int .i64 r))
    (refine ⟨Kept.cell ?_ q0, Kept.cell ?_ q1⟩ <;> repeat (first | exact Kept.refl _ | refine Kept.drew ?_ | refine Kept.alloc ?_ _ | assumption | refine Kept.trans ?_ (by assumption)))
    (first
      | (go_at_call 5; refine (copyInts_any l _ _ (HV.out.kept (HK1.out.trans (by repeat (first | exact Kept.refl _ | refine Kept.drew ?_ | assumption)))) hl).mono ?_; rintro x w2 ⟨v2, rfl, ho2, k2⟩; have hi2 := Ints.of_own ho2; obtain ⟨A2, c2, rfl⟩ := own_form ho2; clear ho2)
      | (go_at_call 4; refine (vput_any n r l _ _ (Ints.kept (by assumption) (by repeat (first | exact Kept.refl _ | refine Kept.drew ?_ | assumption)))).mono ?_; rintro x w3 ⟨v3, rfl, hb3, k3⟩; obtain ⟨A3, c3, rfl⟩ := hb3.form; have hkw : Kept w1 w3 := (by repeat (first | exact Kept.refl _ | refine Kept.drew ?_ | refine Kept.alloc ?_ _ | assumption | refine Kept.trans ?_ (by assumption)))))
  have HX3 := Lib.hid hb3
  have HK3 := Lib.hid (HK1.out.trans hkw)
  have HB3 := Lib.hid (hkw.block' HB1.out)
  clear hb3 hkw k3 k2 hi2 q0 q1
  rename World => w3
  generalize hxr : bvR n r l = xr at *
  have HXR := Lib.hid hxr
  generalize hxe : bvE n r l = xe at *
  have HXE := Lib.hid hxe
  clear hxr hxe
  obtain ⟨q0, q1⟩ := cells2 HB3.out
  have HY4 := Lib.hid (heap_alloc_new w3 (.cells #[.int .i64 n, .int .i64 r] 31))
  have HB4 := Lib.hid (((Kept.refl w3).alloc (.cells #[.int .i64 n, .int .i64 r] 31)).block' HB3.out)
  have HX4 := Lib.hid (HX3.out.kept ((Kept.refl w3).alloc (.cells #[.int .i64 n, .int .i64 r] 31)))
  have HK4 := Lib.hid (HK3.out.alloc (.cells #[.int .i64 n, .int .i64 r] 31))
  obtain ⟨y0, y1⟩ := cells2 HY4.out
  cases hb : bOk n r with
  | false =>
    have HBB := Lib.hid (show (!bOk n r) = true by rw [hb]; rfl)
    obtain rfl : xe = 110 := by rw [← HXE.out]; unfold bvE; rw [hb]; rfl
    obtain rfl : xr = [] := by rw [← HXR.out]; unfold bvR; rw [hb]; rfl
    clear hb
    go_wp2_with fail
    refine (bbad_any n r _).mono ?_
    rintro e w5 ⟨rfl, k5⟩
    rw [HBB.out]
    have HKT := Lib.hid (HK4.out.trans k5)
    clear k5 y0 y1 q0 q1
    go_wp2_with fail
    refine (copy_any p _ _ (HU.out.kept HKT.out) hlim).mono ?_
    rintro e wa ⟨va, rfl, hoa, ka⟩
    have hba := Bts.of_own hoa
    obtain ⟨Aa, ca, rfl⟩ := own_form hoa
    have HKA := Lib.hid (HKT.out.trans ka)
    clear hoa ka
    go_wp2_with fail
    refine (vget_any p _ _ hba hlim).mono ?_
    rintro e wb ⟨vb, rfl, hib, kb⟩
    obtain ⟨Ab, cb, rfl, -, hcb⟩ := hib.form
    unfold maxLen at hcb
    clear hba
    have HKB := Lib.hid ((HKA.out.trans kb).alloc (.cells #[.int .i64 (getN p), .int .i64 (getR p)] 23))
    have HCB := Lib.hid (heap_alloc_new wb (.cells #[.int .i64 (getN p), .int .i64 (getR p)] 23))
    have HIB := Lib.hid (hib.kept ((Kept.refl wb).alloc (.cells #[.int .i64 (getN p), .int .i64 (getR p)] 23)))
    clear hib kb
    go_wp2_with fail
    have HWS := Lib.hid (show (wb.alloc (.cells #[.int .i64 (getN p), .int .i64 (getR p)] 23)).heap.size = wb.heap.size + 1 by simp)
    generalize hgc : wb.heap.size = gc at *
    generalize wb.alloc (.cells #[.int .i64 (getN p), .int .i64 (getR p)] 23) = wc at *
    clear hgc
    have hdn := isd_new (HU.out.kept HKB.out)
    rw [HWS.out] at hdn
    have HD := Lib.hid hdn
    clear hdn
    have hkd := (Kept.refl wc).alloc (.cells #[.slice B p.length d, .int .i64 0, .int .i64 0] 42)
    have HCD := Lib.hid (hkd.block' HCB.out)
    have HID := Lib.hid (HIB.out.kept hkd)
    have HKD := Lib.hid (HKB.out.trans hkd)
    have hwcs := HKB.out.size
    rw [HWS.out] at hwcs
    refine (refRead_any p _ _ _ HD.out hlim).mono ?_
    rintro e we ⟨da, dn, Ae, ne, ce, rfl, hfe, hdoc⟩
    have hke := hfe.kept HKD.out (by omega)
    have HCE := Lib.hid (hfe.block' HCD.out (by omega))
    obtain ⟨wx, hwx⟩ : ∃ wx, wx = we := ⟨_, rfl⟩
    have hkf := (Kept.refl we).alloc (.cells #[.int .i64 da, .int .i64 dn] 31)
    have HKF := Lib.hid (hke.trans hkf)
    have HCF := Lib.hid (hkf.block' HCE.out)
    have HDF := Lib.hid (heap_alloc_new we (.cells #[.int .i64 da, .int .i64 dn] 31))
    have HIE := Lib.hid ((HIB.out.kept (hfe.kept hkd (by rw [HWS.out]; exact Nat.le_refl _))).kept hkf)
    have HDOC := Lib.hid (fun (h : docOk p = true) => And.intro (hdoc h).1 (And.intro (hdoc h).2.1 (And.intro ((hdoc h).2.2.1.kept hkf) (Exists.imp (fun q hq => And.intro (hq.1.kept hkf) hq.2) (hdoc h).2.2.2))))
    clear hke hkf hfe hdoc hwx wx hkd
    have HGD := Lib.hid (docOk_get p)
    cases hdk : docOk p with
    | false =>
      have HGN := Lib.hid (get_no (p := p) (by rw [HGD.out, hdk]; rfl))
      rw [HGN.out.1, HGN.out.2.1] at HCF
      have hie := HIE.out
      rw [HGN.out.2.2.1] at hie ⊢
      rw [HGN.out.2.2.2]
      obtain ⟨z0, z1⟩ := cells2 HCF.out
      clear HDOC hdk hie
      go_wp2_with fail
      refine (awake_any _).mono ?_
      rintro e wz ⟨rfl, kz⟩
      have hkk := HKF.out.trans kz
      go_wp2
      go_ret
      exact ⟨rfl, hkk⟩
    | true =>
      obtain ⟨rfl, rfl, f3, q, f4, f5⟩ := HDOC.out hdk
      have HI3 := Lib.hid f3
      have HD4 := Lib.hid f4
      have HD5 := Lib.hid f5
      by_cases hlf : (gAll p).2.1.length = 0
      · have HGN := Lib.hid (get_yes (p := p) (by rw [HGD.out, hdk, hlf]; rfl))
        have HLF := Lib.hid (show ((p.drop q).length : Int) = 0 by rw [f5, hlf]; rfl)
        rw [HGN.out.1, HGN.out.2.1] at HCF
        have hie := HIE.out
        rw [HGN.out.2.2.1] at hie ⊢
        rw [HGN.out.2.2.2]
        have HI1 := Lib.hid hie
        have HSS := Lib.hid (show ((gAll p).1 == (gAll p).1) = true by simp)
        clear HDOC hdk hie f3 f4 f5 hlf
        generalize (gAll p).1 = gl at *
        go_wp2_with fail
        refine (dLeft _ _ _ _ _ _ HD4.out hlim).mono ?_
        rintro e wz ⟨rfl, kz⟩
        rw [HLF.out]
        have HKZ := Lib.hid (HKF.out.trans kz)
        obtain ⟨z0, z1⟩ := cells2 (kz.block' HCF.out)
        obtain ⟨x0, x1⟩ := cells2 (kz.block' HDF.out)
        have HI1z := Lib.hid (HI1.out.kept kz)
        have HI3z := Lib.hid (HI3.out.kept kz)
        clear kz
        go_wp2_with fail
        refine (sameInts_any gl gl _ _ _ HI1z.out HI3z.out).mono ?_
        rintro e wy ⟨rfl, ky⟩
        rw [HSS.out]
        have HKY := Lib.hid (HKZ.out.trans ky)
        clear ky
        go_wp2_with fail
        refine (awake_any _).mono ?_
        rintro e wq ⟨rfl, kq⟩
        have hkk := HKY.out.trans kq
        go_wp2
        go_ret
        exact ⟨rfl, hkk⟩
      · have HGN := Lib.hid (get_no (p := p) (by rw [HGD.out, hdk, show ((gAll p).2.1.length == 0) = false from beq_eq_false_iff_ne.2 hlf]; rfl))
        have hpos : 0 < (p.drop q).length := by rw [f5]; omega
        rw [HGN.out.1, HGN.out.2.1] at HCF
        have hie := HIE.out
        rw [HGN.out.2.2.1] at hie ⊢
        rw [HGN.out.2.2.2]
        have t5 : decide ((0 : Int) < ((p.drop q).length : Int)) = true := decide_eq_true (by omega)
        have t6 : decide (0 < (p.drop q).length) = true := decide_eq_true hpos
        clear HDOC hdk hie f3 f4 f5 hlf
        generalize hpd : (p.drop q).length = pd at *
        have HPD := Lib.hid hpd
        clear hpd
        go_wp2_with fail
        refine (dLeft _ _ _ _ _ _ HD4.out hlim).mono ?_
        rintro e wz ⟨rfl, kz⟩
        rw [HPD.out]
        have HKZ := Lib.hid (HKF.out.trans kz)
        obtain ⟨z0, z1⟩ := cells2 (kz.block' HCF.out)
        clear kz
        go_wp2_with fail
        refine (awake_any _).mono ?_
        rintro e wq ⟨rfl, kq⟩
        have hkk := HKZ.out.trans kq
        go_wp2
        go_ret
        exact ⟨rfl, hkk⟩
  | true =>
    cases hvk : vok l with
    | false =>
      have HBB := Lib.hid (show (!bOk n r) = false by rw [hb]; rfl)
      have HVV := Lib.hid (show (!vok l) = true by rw [hvk]; rfl)
      obtain rfl : xe = 90 := by rw [← HXE.out]; unfold bvE; rw [hb, hvk]; rfl
      obtain rfl : xr = [] := by rw [← HXR.out]; unfold bvR; rw [hb, hvk]; rfl
      clear hb hvk
      go_wp2_with fail
      refine (bbad_any n r _).mono ?_
      rintro e w5 ⟨rfl, k5⟩
      rw [HBB.out]
      have HK5 := Lib.hid (HK4.out.trans k5)
      clear k5 y0 y1 q0 q1
      go_wp2_with fail
      refine (badvec_any l _ _ (HV.out.kept HK5.out)).mono ?_
      rintro e w6 ⟨rfl, rfl⟩
      rw [HVV.out]
      have HKT := HK5
      go_wp2_with fail
      refine (copy_any p _ _ (HU.out.kept HKT.out) hlim).mono ?_
      rintro e wa ⟨va, rfl, hoa, ka⟩
      have hba := Bts.of_own hoa
      obtain ⟨Aa, ca, rfl⟩ := own_form hoa
      have HKA := Lib.hid (HKT.out.trans ka)
      clear hoa ka
      go_wp2_with fail
      refine (vget_any p _ _ hba hlim).mono ?_
      rintro e wb ⟨vb, rfl, hib, kb⟩
      obtain ⟨Ab, cb, rfl, -, hcb⟩ := hib.form
      unfold maxLen at hcb
      clear hba
      have HKB := Lib.hid ((HKA.out.trans kb).alloc (.cells #[.int .i64 (getN p), .int .i64 (getR p)] 23))
      have HCB := Lib.hid (heap_alloc_new wb (.cells #[.int .i64 (getN p), .int .i64 (getR p)] 23))
      have HIB := Lib.hid (hib.kept ((Kept.refl wb).alloc (.cells #[.int .i64 (getN p), .int .i64 (getR p)] 23)))
      clear hib kb
      go_wp2_with fail
      have HWS := Lib.hid (show (wb.alloc (.cells #[.int .i64 (getN p), .int .i64 (getR p)] 23)).heap.size = wb.heap.size + 1 by simp)
      generalize hgc : wb.heap.size = gc at *
      generalize wb.alloc (.cells #[.int .i64 (getN p), .int .i64 (getR p)] 23) = wc at *
      clear hgc
      have hdn := isd_new (HU.out.kept HKB.out)
      rw [HWS.out] at hdn
      have HD := Lib.hid hdn
      clear hdn
      have hkd := (Kept.refl wc).alloc (.cells #[.slice B p.length d, .int .i64 0, .int .i64 0] 42)
      have HCD := Lib.hid (hkd.block' HCB.out)
      have HID := Lib.hid (HIB.out.kept hkd)
      have HKD := Lib.hid (HKB.out.trans hkd)
      have hwcs := HKB.out.size
      rw [HWS.out] at hwcs
      refine (refRead_any p _ _ _ HD.out hlim).mono ?_
      rintro e we ⟨da, dn, Ae, ne, ce, rfl, hfe, hdoc⟩
      have hke := hfe.kept HKD.out (by omega)
      have HCE := Lib.hid (hfe.block' HCD.out (by omega))
      obtain ⟨wx, hwx⟩ : ∃ wx, wx = we := ⟨_, rfl⟩
      have hkf := (Kept.refl we).alloc (.cells #[.int .i64 da, .int .i64 dn] 31)
      have HKF := Lib.hid (hke.trans hkf)
      have HCF := Lib.hid (hkf.block' HCE.out)
      have HDF := Lib.hid (heap_alloc_new we (.cells #[.int .i64 da, .int .i64 dn] 31))
      have HIE := Lib.hid ((HIB.out.kept (hfe.kept hkd (by rw [HWS.out]; exact Nat.le_refl _))).kept hkf)
      have HDOC := Lib.hid (fun (h : docOk p = true) => And.intro (hdoc h).1 (And.intro (hdoc h).2.1 (And.intro ((hdoc h).2.2.1.kept hkf) (Exists.imp (fun q hq => And.intro (hq.1.kept hkf) hq.2) (hdoc h).2.2.2))))
      clear hke hkf hfe hdoc hwx wx hkd
      have HGD := Lib.hid (docOk_get p)
      cases hdk : docOk p with
      | false =>
        have HGN := Lib.hid (get_no (p := p) (by rw [HGD.out, hdk]; rfl))
        rw [HGN.out.1, HGN.out.2.1] at HCF
        have hie := HIE.out
        rw [HGN.out.2.2.1] at hie ⊢
        rw [HGN.out.2.2.2]
        obtain ⟨z0, z1⟩ := cells2 HCF.out
        clear HDOC hdk hie
        go_wp2_with fail
        refine (awake_any _).mono ?_
        rintro e wz ⟨rfl, kz⟩
        have hkk := HKF.out.trans kz
        go_wp2
        go_ret
        exact ⟨rfl, hkk⟩
      | true =>
        obtain ⟨rfl, rfl, f3, q, f4, f5⟩ := HDOC.out hdk
        have HI3 := Lib.hid f3
        have HD4 := Lib.hid f4
        have HD5 := Lib.hid f5
        by_cases hlf : (gAll p).2.1.length = 0
        · have HGN := Lib.hid (get_yes (p := p) (by rw [HGD.out, hdk, hlf]; rfl))
          have HLF := Lib.hid (show ((p.drop q).length : Int) = 0 by rw [f5, hlf]; rfl)
          rw [HGN.out.1, HGN.out.2.1] at HCF
          have hie := HIE.out
          rw [HGN.out.2.2.1] at hie ⊢
          rw [HGN.out.2.2.2]
          have HI1 := Lib.hid hie
          have HSS := Lib.hid (show ((gAll p).1 == (gAll p).1) = true by simp)
          clear HDOC hdk hie f3 f4 f5 hlf
          generalize (gAll p).1 = gl at *
          go_wp2_with fail
          refine (dLeft _ _ _ _ _ _ HD4.out hlim).mono ?_
          rintro e wz ⟨rfl, kz⟩
          rw [HLF.out]
          have HKZ := Lib.hid (HKF.out.trans kz)
          obtain ⟨z0, z1⟩ := cells2 (kz.block' HCF.out)
          obtain ⟨x0, x1⟩ := cells2 (kz.block' HDF.out)
          have HI1z := Lib.hid (HI1.out.kept kz)
          have HI3z := Lib.hid (HI3.out.kept kz)
          clear kz
          go_wp2_with fail
          refine (sameInts_any gl gl _ _ _ HI1z.out HI3z.out).mono ?_
          rintro e wy ⟨rfl, ky⟩
          rw [HSS.out]
          have HKY := Lib.hid (HKZ.out.trans ky)
          clear ky
          go_wp2_with fail
          refine (awake_any _).mono ?_
          rintro e wq ⟨rfl, kq⟩
          have hkk := HKY.out.trans kq
          go_wp2
          go_ret
          exact ⟨rfl, hkk⟩
        · have HGN := Lib.hid (get_no (p := p) (by rw [HGD.out, hdk, show ((gAll p).2.1.length == 0) = false from beq_eq_false_iff_ne.2 hlf]; rfl))
          have hpos : 0 < (p.drop q).length := by rw [f5]; omega
          rw [HGN.out.1, HGN.out.2.1] at HCF
          have hie := HIE.out
          rw [HGN.out.2.2.1] at hie ⊢
          rw [HGN.out.2.2.2]
          have t5 : decide ((0 : Int) < ((p.drop q).length : Int)) = true := decide_eq_true (by omega)
          have t6 : decide (0 < (p.drop q).length) = true := decide_eq_true hpos
          clear HDOC hdk hie f3 f4 f5 hlf
          generalize hpd : (p.drop q).length = pd at *
          have HPD := Lib.hid hpd
          clear hpd
          go_wp2_with fail
          refine (dLeft _ _ _ _ _ _ HD4.out hlim).mono ?_
          rintro e wz ⟨rfl, kz⟩
          rw [HPD.out]
          have HKZ := Lib.hid (HKF.out.trans kz)
          obtain ⟨z0, z1⟩ := cells2 (kz.block' HCF.out)
          clear kz
          go_wp2_with fail
          refine (awake_any _).mono ?_
          rintro e wq ⟨rfl, kq⟩
          have hkk := HKZ.out.trans kq
          go_wp2
          go_ret
          exact ⟨rfl, hkk⟩
    | true =>
      have HBB := Lib.hid (show (!bOk n r) = false by rw [hb]; rfl)
      have HVV := Lib.hid (show (!vok l) = false by rw [hvk]; rfl)
      obtain rfl : xe = 0 := by rw [← HXE.out]; unfold bvE; rw [hb, hvk]; rfl
      obtain rfl : xr = bvB n r l := by rw [← HXR.out]; unfold bvR; rw [hb, hvk]; rfl
      have HBK := Lib.hid (get_back hb hvk)
      have HOB := Lib.hid hb
      have HOV := Lib.hid hvk
      have HXL := Lib.hid (show (bvB n r l).length ≤ 140737488355328 from by
        unfold bvB
        rw [List.length_append]
        have h1 := putAll_len [n, r, (l.length : Int)]
        have h2 := putAll_len l
        have h3 := vok_len hvk
        simp only [List.length_cons, List.length_nil] at h1
        omega)
      have HEQ := Lib.hid (show (bvB n r l == bvB n r l) = true by simp)
      have HLL := Lib.hid (show (l == l) = true by simp)
      clear hb hvk
      generalize hxb : bvB n r l = xb at *
      have HXBE := Lib.hid hxb
      clear hxb
      go_wp2_with fail
      refine (bbad_any n r _).mono ?_
      rintro e w5 ⟨rfl, k5⟩
      rw [HBB.out]
      have HK5 := Lib.hid (HK4.out.trans k5)
      have HX5 := Lib.hid (HX4.out.kept k5)
      have HB5 := Lib.hid (k5.block' HB4.out)
      have HY5 := Lib.hid (k5.block' HY4.out)
      clear k5 y0 y1 q0 q1
      go_wp2_with fail
      refine (badvec_any l _ _ (HV.out.kept HK5.out)).mono ?_
      rintro e w6 ⟨rfl, rfl⟩
      rw [HVV.out]
      go_wp2_with fail
      refine (vget_any xb _ _ HX5.out HXL.out).mono ?_
      rintro e w6 ⟨v6, rfl, hi6, k6⟩
      rw [HBK.out.2.1, HBK.out.2.2.1, HBK.out.2.2.2.2]
      rw [HBK.out.2.2.2.1] at hi6
      obtain ⟨A6, c6, rfl, -, -⟩ := hi6.form
      have k7 := k6.alloc (.cells #[.int .i64 n, .int .i64 r] 23)
      have HC7 := Lib.hid (heap_alloc_new w6 (.cells #[.int .i64 n, .int .i64 r] 23))
      have HI7 := Lib.hid (hi6.kept ((Kept.refl w6).alloc (.cells #[.int .i64 n, .int .i64 r] 23)))
      have HK7 := Lib.hid (HK5.out.trans k7)
      have HX7 := Lib.hid (HX5.out.kept k7)
      have HB7 := Lib.hid (k7.block' HB5.out)
      have HY7 := Lib.hid (k7.block' HY5.out)
      obtain ⟨y0, y1⟩ := cells2 HY7.out
      clear k6 k7 hi6
      go_wp2_with fail
      generalize hg6 : w6.heap.size = g6 at *
      generalize w6.alloc (.cells #[.int .i64 n, .int .i64 r] 23) = w7 at *
      clear hg6
      refine (refBPut_any n r l _ _ (HV.out.kept HK7.out) HOB.out HOV.out).mono ?_
      rintro e w8 ⟨v8, rfl, hb8, k8⟩
      rw [HXBE.out] at hb8
      obtain ⟨A8, c8, rfl⟩ := hb8.form
      have HK8 := Lib.hid (HK7.out.trans k8)
      have HI8 := Lib.hid (HI7.out.kept k8)
      obtain ⟨q0, q1⟩ := cells2 (k8.block' HB7.out)
      obtain ⟨z0, z1⟩ := cells2 (k8.block' HC7.out)
      have HX8 := Lib.hid (HX7.out.kept k8)
      have HP8 := Lib.hid hb8
      clear k8 y0 y1 hb8
      go_wp2_with fail
      refine (same_any xb xb _ _ _ HX8.out HP8.out).mono ?_
      rintro e w9 ⟨rfl, rfl⟩
      rw [HEQ.out]
      go_wp2_with fail
      refine (sameInts_any l l _ _ _ HI8.out (HV.out.kept HK8.out)).mono ?_
      rintro e w9 ⟨rfl, k9⟩
      rw [HLL.out]
      have HKT := Lib.hid (HK8.out.trans k9)
      clear k9 q0 q1 z0 z1
      go_wp2_with fail
      refine (copy_any p _ _ (HU.out.kept HKT.out) hlim).mono ?_
      rintro e wa ⟨va, rfl, hoa, ka⟩
      have hba := Bts.of_own hoa
      obtain ⟨Aa, ca, rfl⟩ := own_form hoa
      have HKA := Lib.hid (HKT.out.trans ka)
      clear hoa ka
      go_wp2_with fail
      refine (vget_any p _ _ hba hlim).mono ?_
      rintro e wb ⟨vb, rfl, hib, kb⟩
      obtain ⟨Ab, cb, rfl, -, hcb⟩ := hib.form
      unfold maxLen at hcb
      clear hba
      have HKB := Lib.hid ((HKA.out.trans kb).alloc (.cells #[.int .i64 (getN p), .int .i64 (getR p)] 23))
      have HCB := Lib.hid (heap_alloc_new wb (.cells #[.int .i64 (getN p), .int .i64 (getR p)] 23))
      have HIB := Lib.hid (hib.kept ((Kept.refl wb).alloc (.cells #[.int .i64 (getN p), .int .i64 (getR p)] 23)))
      clear hib kb
      go_wp2_with fail
      have HWS := Lib.hid (show (wb.alloc (.cells #[.int .i64 (getN p), .int .i64 (getR p)] 23)).heap.size = wb.heap.size + 1 by simp)
      generalize hgc : wb.heap.size = gc at *
      generalize wb.alloc (.cells #[.int .i64 (getN p), .int .i64 (getR p)] 23) = wc at *
      clear hgc
      have hdn := isd_new (HU.out.kept HKB.out)
      rw [HWS.out] at hdn
      have HD := Lib.hid hdn
      clear hdn
      have hkd := (Kept.refl wc).alloc (.cells #[.slice B p.length d, .int .i64 0, .int .i64 0] 42)
      have HCD := Lib.hid (hkd.block' HCB.out)
      have HID := Lib.hid (HIB.out.kept hkd)
      have HKD := Lib.hid (HKB.out.trans hkd)
      have hwcs := HKB.out.size
      rw [HWS.out] at hwcs
      refine (refRead_any p _ _ _ HD.out hlim).mono ?_
      rintro e we ⟨da, dn, Ae, ne, ce, rfl, hfe, hdoc⟩
      have hke := hfe.kept HKD.out (by omega)
      have HCE := Lib.hid (hfe.block' HCD.out (by omega))
      obtain ⟨wx, hwx⟩ : ∃ wx, wx = we := ⟨_, rfl⟩
      have hkf := (Kept.refl we).alloc (.cells #[.int .i64 da, .int .i64 dn] 31)
      have HKF := Lib.hid (hke.trans hkf)
      have HCF := Lib.hid (hkf.block' HCE.out)
      have HDF := Lib.hid (heap_alloc_new we (.cells #[.int .i64 da, .int .i64 dn] 31))
      have HIE := Lib.hid ((HIB.out.kept (hfe.kept hkd (by rw [HWS.out]; exact Nat.le_refl _))).kept hkf)
      have HDOC := Lib.hid (fun (h : docOk p = true) => And.intro (hdoc h).1 (And.intro (hdoc h).2.1 (And.intro ((hdoc h).2.2.1.kept hkf) (Exists.imp (fun q hq => And.intro (hq.1.kept hkf) hq.2) (hdoc h).2.2.2))))
      clear hke hkf hfe hdoc hwx wx hkd
      have HGD := Lib.hid (docOk_get p)
      cases hdk : docOk p with
      | false =>
        have HGN := Lib.hid (get_no (p := p) (by rw [HGD.out, hdk]; rfl))
        rw [HGN.out.1, HGN.out.2.1] at HCF
        have hie := HIE.out
        rw [HGN.out.2.2.1] at hie ⊢
        rw [HGN.out.2.2.2]
        obtain ⟨z0, z1⟩ := cells2 HCF.out
        clear HDOC hdk hie
        go_wp2_with fail
        refine (awake_any _).mono ?_
        rintro e wz ⟨rfl, kz⟩
        have hkk := HKF.out.trans kz
        go_wp2
        go_ret
        exact ⟨rfl, hkk⟩
      | true =>
        obtain ⟨rfl, rfl, f3, q, f4, f5⟩ := HDOC.out hdk
        have HI3 := Lib.hid f3
        have HD4 := Lib.hid f4
        have HD5 := Lib.hid f5
        by_cases hlf : (gAll p).2.1.length = 0
        · have HGN := Lib.hid (get_yes (p := p) (by rw [HGD.out, hdk, hlf]; rfl))
          have HLF := Lib.hid (show ((p.drop q).length : Int) = 0 by rw [f5, hlf]; rfl)
          rw [HGN.out.1, HGN.out.2.1] at HCF
          have hie := HIE.out
          rw [HGN.out.2.2.1] at hie ⊢
          rw [HGN.out.2.2.2]
          have HI1 := Lib.hid hie
          have HSS := Lib.hid (show ((gAll p).1 == (gAll p).1) = true by simp)
          clear HDOC hdk hie f3 f4 f5 hlf
          generalize (gAll p).1 = gl at *
          go_wp2_with fail
          refine (dLeft _ _ _ _ _ _ HD4.out hlim).mono ?_
          rintro e wz ⟨rfl, kz⟩
          rw [HLF.out]
          have HKZ := Lib.hid (HKF.out.trans kz)
          obtain ⟨z0, z1⟩ := cells2 (kz.block' HCF.out)
          obtain ⟨x0, x1⟩ := cells2 (kz.block' HDF.out)
          have HI1z := Lib.hid (HI1.out.kept kz)
          have HI3z := Lib.hid (HI3.out.kept kz)
          clear kz
          go_wp2_with fail
          refine (sameInts_any gl gl _ _ _ HI1z.out HI3z.out).mono ?_
          rintro e wy ⟨rfl, ky⟩
          rw [HSS.out]
          have HKY := Lib.hid (HKZ.out.trans ky)
          clear ky
          go_wp2_with fail
          refine (awake_any _).mono ?_
          rintro e wq ⟨rfl, kq⟩
          have hkk := HKY.out.trans kq
          go_wp2
          go_ret
          exact ⟨rfl, hkk⟩
        · have HGN := Lib.hid (get_no (p := p) (by rw [HGD.out, hdk, show ((gAll p).2.1.length == 0) = false from beq_eq_false_iff_ne.2 hlf]; rfl))
          have hpos : 0 < (p.drop q).length := by rw [f5]; omega
          rw [HGN.out.1, HGN.out.2.1] at HCF
          have hie := HIE.out
          rw [HGN.out.2.2.1] at hie ⊢
          rw [HGN.out.2.2.2]
          have t5 : decide ((0 : Int) < ((p.drop q).length : Int)) = true := decide_eq_true (by omega)
          have t6 : decide (0 < (p.drop q).length) = true := decide_eq_true hpos
          clear HDOC hdk hie f3 f4 f5 hlf
          generalize hpd : (p.drop q).length = pd at *
          have HPD := Lib.hid hpd
          clear hpd
          go_wp2_with fail
          refine (dLeft _ _ _ _ _ _ HD4.out hlim).mono ?_
          rintro e wz ⟨rfl, kz⟩
          rw [HPD.out]
          have HKZ := Lib.hid (HKF.out.trans kz)
          obtain ⟨z0, z1⟩ := cells2 (kz.block' HCF.out)
          clear kz
          go_wp2_with fail
          refine (awake_any _).mono ?_
          rintro e wq ⟨rfl, kq⟩
          have hkk := HKZ.out.trans kq
          go_wp2
          go_ret
          exact ⟨rfl, hkk⟩
end Go.Proofs.YteopgcbihekcjaaDoor
