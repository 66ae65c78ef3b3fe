/- The walk of the document's Crash. -/
import Derived.Test.YtngbgngfdklnlaaGreatDoorQDRren
set_option linter.unusedSimpArgs false
set_option linter.unusedVariables false
namespace Go.Proofs.YtngbgngfdklnlaaGreatDoor
open Go.RowKit
/-- How many files have bytes that are not safe. -/
def cntU (fs : Fls) : Nat := (fs.filter fun p => !decide (p.2.2 = p.2.1.length)).length
theorem cntU_le (fs : Fls) : cntU fs ≤ fs.length := List.length_filter_le ..
theorem leftC_drop (cuts : List Int) (fs : Fls) : leftC cuts fs = cuts.drop (cntU fs) := by
  induction fs generalizing cuts with
  | nil => rfl
  | cons p r ih =>
    obtain ⟨k, f⟩ := p
    unfold cntU
    simp only [leftC, List.filter_cons]
    split
    · rename_i h
      simp only [h, decide_true, Bool.not_true, Bool.false_eq_true, if_false]
      exact ih cuts
    · rename_i h
      simp only [h, decide_false, Bool.not_false, if_true, List.length_cons]
      rw [ih, ← List.drop_one, List.drop_drop, Nat.add_comm]
      rfl
theorem cntU_take {fs : Fls} {k : Nat} (hk : k < fs.length) : cntU (fs.take (k + 1)) = cntU (fs.take k) + if fs[k].2.2 = fs[k].2.1.length then 0 else 1 := by
  rw [List.take_succ_eq_append_getElem hk]
  unfold cntU
  rw [List.filter_append, List.length_append]
  congr 1
  by_cases h : fs[k].2.2 = fs[k].2.1.length
  · simp [h]
  · simp [h]
theorem rcs_set3 {rs : St} {i : Nat} (hi : i < rs.length) (vb : Value) (bs : List UInt8) {s : Nat} : (((rcs rs).set (i * 3) (.string ⟨rs[i].1.toArray⟩)).set (i * 3 + 1) vb).set (i * 3 + 2) (.int .i64 (s : Int)) = rcs (rs.set i (rs[i].1, (vb, (bs, s)))) := by
  induction rs generalizing i with
  | nil => simp at hi
  | cons p r ih =>
    cases i with
    | zero => rfl
    | succ j =>
      have := ih (i := j) (by simpa using hi)
      rw [List.set_cons_succ, rcs_cons, rcs_cons]
      have e : (j + 1) * 3 = j * 3 + 3 := by omega
      rw [e, show j * 3 + 3 + 1 = (j * 3 + 1) + 3 by omega, show j * 3 + 3 + 2 = (j * 3 + 2) + 3 by omega]
      simp only [List.cons_append, List.nil_append, List.set_cons_succ, List.getElem_cons_succ]
      rw [this]
set_option maxRecDepth 100000 in
set_option maxHeartbeats 8000000 in
theorem rcrash_ok (cuts : List Int) (v : Value) (rb : Nat) (vL : Value) (rs : St) (cap : Nat) (G : Nat → Prop) (w : World) (h : RD w rb vL rs cap G) (hv : ∀ W, Chg G w W → Ints W v cuts) :
    Calls Tryz.prog 14 #[.pointer (some ⟨rb, 0, none⟩), v] w fun e w' => e = .returned (.tuple #[]) ∧ (∃ vL' rs', mapV Prod.snd rs' = crashS cuts (mapV Prod.snd rs) ∧ RD w' rb vL' rs' cap (ext G w w')) ∧ Chg G w w' := by
  have H := Lib.hid h
  have HV := Lib.hid hv
  obtain ⟨A, c, rfl, hc1, hc2⟩ := (hv w (Chg.refl _ _)).form
  have hsm := h.small
  have hln : (mapV Prod.snd rs).length = rs.length := length_mapV _ _
  have HLN := Lib.hid hln
  clear h hv hln
  unfold maxLen at hc2
  generalize hfs : mapV Prod.snd rs = fs at *
  have HFS := Lib.hid hfs
  clear hfs
  go_enter Tryz.func14, Tryz.ntmps14
  go_wp2
  go_loopw [4, 5] (fun at4 i W => ∃ k : Nat, i = .int .i64 (k : Int) ∧ k ≤ rs.length ∧ at4 = .int .i64 (cntU (fs.take k) : Int) ∧ (∃ vL' rs', mapV Prod.snd rs' = crashS cuts (fs.take k) ++ fs.drop k ∧ RD W rb vL' rs' cap (ext G w W)) ∧ Chg G w W) (fun _ i _ => rs.length - (intOf i).toNat)
  case atStart => exact ⟨0, rfl, Nat.zero_le _, rfl, ⟨vL, rs, by rw [HFS.out]; cases cuts <;> rfl, H.out.mono (fun _ x => .inl x)⟩, Chg.refl _ _⟩
  case round =>
    obtain ⟨k, rfl, hk, rfl, ⟨vL', rs', hm, hd'⟩, hC⟩ := hrel
    have hl' : rs'.length = rs.length := by
      have h1 := congrArg List.length hm
      rw [length_mapV, List.length_append, List.length_drop] at h1
      have h2 := length_names (crashS_names cuts (fs.take k))
      have h3 := HLN.out
      rw [h2] at h1
      simp only [List.length_take] at h1
      omega
    obtain ⟨AL, cL, rfl, hcl1, hcl2⟩ := hd'.form
    unfold maxLen at hcl2
    have c1' := hd'.c1
    by_cases hlt : k < rs.length
    · have hlf : k < fs.length := by rw [HLN.out]; exact hlt
      have hi : k < rs'.length := by omega
      obtain ⟨nm, f, hp⟩ : ∃ nm f, fs[k] = (nm, f) := ⟨_, _, rfl⟩
      obtain ⟨fb, s⟩ := f
      obtain ⟨gL, rfl, q0, q1, q2, cur, hbL⟩ := hd'.at hi
      have hgk : (mapV Prod.snd rs')[k]'(by rw [length_mapV]; exact hi) = (nm, (fb, s)) := by
        have hcl : (crashS cuts (fs.take k)).length = k := by
          rw [length_names (crashS_names cuts (fs.take k))]
          simp
          omega
        have : (crashS cuts (fs.take k) ++ fs.drop k)[k]'(by simp [hcl]; omega) = (nm, (fb, s)) := by
          rw [List.getElem_append_right (by omega)]
          simp [hcl, hp]
        rw [← this]
        congr 1
      rw [mapV_get hi] at hgk
      have hnm : rs'[k].1 = nm := congrArg Prod.fst hgk
      have hff : rs'[k].2.2 = (fb, s) := congrArg Prod.snd hgk
      obtain ⟨hfl, hsl⟩ := hd'.flen hi
      have hob := hd'.files _ (List.getElem_mem hi)
      obtain ⟨Ab, cb, hvb⟩ := own_form hob
      rw [hvb] at q1 hob
      rw [hff] at hfl hsl q1 q2 hob
      rw [hnm] at q0
      simp only at hfl hsl q1 q2 hob
      have hcb : fb.length ≤ cb := by
        rcases hob.2 with ⟨e, h0⟩ | ⟨g, cap', cur', e, -, -, h1, -⟩
        · have : fb.length = 0 := by omega
          omega
        · have : cb = cap' := by simpa using congrArg (fun v => match v with | Value.slice _ _ c => c | _ => 0) e
          omega
      have hcb2 : cb ≤ maxLen := by
        obtain ⟨A', c', e, -, h2, -⟩ := Bts.of_own hob
        obtain ⟨-, rfl⟩ : Ab = A' ∧ cb = c' := by simpa using e
        exact h2
      unfold maxLen at hcb2
      have HFB := Lib.hid (Bts.of_own hob)
      have g1 : (k : Int) < (rs'.length : Int) := by omega
      have hcu := cntU_le (fs.take k)
      have hcu2 : cntU (fs.take k) ≤ k := by
        have : (fs.take k).length ≤ k := by simp; omega
        omega
      have HCT := Lib.hid (cntU_take hlf)
      have HM := Lib.hid hm
      have HD := Lib.hid hd'
      have HP := Lib.hid hp
      have HNM := Lib.hid hnm
      have HFF := Lib.hid hff
      have HBL := Lib.hid hbL
      have HL' := Lib.hid hl'
      clear hm hd' hp hnm hff hvb hob hgk hbL hl' hcu
      by_cases hsafe : s = fb.length
      · subst hsafe
        obtain ⟨hs1', -⟩ := crash_step_safe (cuts := cuts) hlf (by rw [HP.out])
        have HS1 := Lib.hid hs1'
        have HCN := Lib.hid (show cntU (fs.take (k + 1)) = cntU (fs.take k) by rw [HCT.out, HP.out]; simp)
        clear hs1'
        go_wp2
        go_roundw
        case rel => exact ⟨k + 1, by go_num, by omega, by rw [HCN.out], ⟨_, rs', by rw [HS1.out]; exact HM.out, (HD.out.kept ((Kept.refl wr).alloc _)).mono (fun g x => ext_mono (by simp) x)⟩, hC.alloc _⟩
        case measure => simp [intOf]; omega
      · have t1 : ((s : Int) == (fb.length : Int)) = false := by simpa using (by omega : (s : Int) ≠ (fb.length : Int))
        have t2 : (s == fb.length) = false := by simpa using hsafe
        obtain ⟨hs1', -⟩ := crash_step_cut (cuts := cuts) hlf (by rw [HP.out]; exact hsafe)
        rw [HP.out] at hs1'
        have HCN := Lib.hid (show cntU (fs.take (k + 1)) = cntU (fs.take k) + 1 by rw [HCT.out, HP.out]; simp [hsafe])
        rw [leftC_drop] at hs1'
        have HS1 := Lib.hid hs1'
        clear hs1' hsafe
        have hKa : Kept wr (wr.alloc (.cells #[.string ⟨nm.toArray⟩, .slice Ab fb.length cb, .int .i64 (s : Int)] 108)) := (Kept.refl wr).alloc _
        have hba := heap_alloc_new wr (.cells #[.string ⟨nm.toArray⟩, .slice Ab fb.length cb, .int .i64 (s : Int)] 108)
        have HBA0 := Lib.hid hba
        have hzlt : wr.heap.size < (wr.alloc (.cells #[.string ⟨nm.toArray⟩, .slice Ab fb.length cb, .int .i64 (s : Int)] 108)).heap.size := by simp
        clear hba
        generalize hcn : cntU (fs.take k) = n at *
        have HCNN := Lib.hid hcn
        clear hcn
        have HCUT := Lib.hid (HV.out wr hC)
        by_cases hn : n < cuts.length
        · obtain ⟨bc, oc, rfl, hcx⟩ := HCUT.out.at' hn
          have hcx' := hKa.cell hcx
          have hdh : (cuts.drop n).headD 0 = cuts[n] := by rw [List.drop_eq_getElem_cons hn]; rfl
          have HDH := Lib.hid hdh
          clear hdh
          have t3 : decide ((n : Int) < (cuts.length : Int)) = true := by simpa using hn
          have t3' : (n : Int) < (cuts.length : Int) := by omega
          generalize cuts[n] = x at *
          by_cases hx : 0 < x
          · have t4 : decide ((0 : Int) < x) = true := by simpa using hx
            by_cases hxl : (fb.length : Int) - (s : Int) < x
            · have t5 : decide ((fb.length : Int) - (s : Int) < x) = true := by simpa using hxl
              have hc1x : crash1 (fb, s) (x) = (fb.take (keptN (fb, s) (x)), keptN (fb, s) (x)) := rfl
              have hki : (s : Int) + ((fb.length : Int) - (s : Int)) = (keptN (fb, s) (x) : Int) := by unfold keptN; simp only; omega
              have hknl : keptN (fb, s) (x) ≤ fb.length := keptN_le (f := (fb, s)) hsl _
              have HC1 := Lib.hid (show crash1 (fb, s) ((cuts.drop n).headD 0) = (fb.take (keptN (fb, s) (x)), keptN (fb, s) (x)) by rw [HDH.out]; rfl)
              have HKI := Lib.hid hki
              clear hc1x hki
              generalize keptN (fb, s) (x) = kn at *
              obtain rfl : kn = fb.length := by have := HKI.out; omega
              have HTK := Lib.hid (show (fb.take fb.length).length = fb.length by first | (simp; done) | (simp; omega))
              have HBA := HBA0
              go_wp2_with fail
              
              refine (copy_any (fb.take fb.length) _ _ ((HFB.out.kept hKa).take fb.length hknl) (by simp; omega)).mono ?_
              rintro e wc ⟨v3, rfl, ho3, k3⟩
              rw [HTK.out] at ho3
              obtain ⟨A3, c3, rfl⟩ := own_form ho3
              have HO3 := Lib.hid ho3
              clear ho3
              have p0 := cell_at (k3.block' HBA.out) 0
              have p1 := cell_at (k3.block' HBA.out) 1
              have p2 := cell_at (k3.block' HBA.out) 2
              have p3 := frozen_at (k3.block' HBA.out) 1
              have p4 := frozen_at (k3.block' HBA.out) 2
              simp only [List.getElem?_toArray, List.getElem?_cons_zero, List.getElem?_cons_succ] at p0 p1 p2
              go_wp2
              have hCf : Chg (fun g => g = wr.heap.size) wc ((wc.setCell ⟨wr.heap.size, 1, none⟩ (.slice A3 fb.length c3)).setCell ⟨wr.heap.size, 2, none⟩ (.int .i64 (fb.length : Int))) := ((Chg.refl (fun g => g = wr.heap.size) wc).setCell _ (fun _ => rfl)).setCell _ (fun _ => rfl)
              have hbf : ((wc.setCell ⟨wr.heap.size, 1, none⟩ (.slice A3 fb.length c3)).setCell ⟨wr.heap.size, 2, none⟩ (.int .i64 (fb.length : Int))).heap[wr.heap.size]? = some (.cells #[.string ⟨nm.toArray⟩, .slice A3 fb.length c3, .int .i64 (fb.length : Int)] 108 (0, 0)) := by
                have h1 := Lib.heap_setCell_same (i := 1) (k3.block' HBA.out) (.slice A3 fb.length c3)
                have h2 := Lib.heap_setCell_same (i := 2) h1 (.int .i64 (fb.length : Int))
                simpa using h2
              have hkf : Kept wr ((wc.setCell ⟨wr.heap.size, 1, none⟩ (.slice A3 fb.length c3)).setCell ⟨wr.heap.size, 2, none⟩ (.int .i64 (fb.length : Int))) := hCf.kept (hKa.trans k3) (fun g e => by omega)
              have hof := own_chg HO3.out hCf (fun g hg e => by have := (HO3.out.lt g hg).1; omega)
              generalize (wc.setCell ⟨wr.heap.size, 1, none⟩ (.slice A3 fb.length c3)).setCell ⟨wr.heap.size, 2, none⟩ (.int .i64 (fb.length : Int)) = wf at *
              have HBF := Lib.hid hbf
              have HOF := Lib.hid hof
              clear hbf hof p0 p1 p2 p3 p4
              refine still_tail 7 (by kernel_rfl) (by kernel_rfl) (fun wd hKd => ?_)
              have hkd := hkf.trans hKd
              have d1 := (HD.out.kept hkd).c1
              obtain ⟨gL', eg, m0, m1, m2, -⟩ := (HD.out.kept hkd).at hi
              cases eg
              have s0 := cell_at (hKd.block' HBF.out) 0
              have s1 := cell_at (hKd.block' HBF.out) 1
              have s2 := cell_at (hKd.block' HBF.out) 2
              simp only [List.getElem?_toArray, List.getElem?_cons_zero, List.getElem?_cons_succ] at s0 s1 s2
              have n0 := frozen_at (hkd.block' HBL.out) (k * 3)
              have n1 := frozen_at (hkd.block' HBL.out) (k * 3 + 1)
              have n2 := frozen_at (hkd.block' HBL.out) (k * 3 + 2)
              simp only [List.take_succ_cons, List.take_zero, List.drop_succ_cons, List.drop_zero]
              repeat still_step
              refine wpStill_nil ?_
              go_wp2
              have hCd : Chg (fun x => x = gL) wr (((wd.setCell ⟨gL, k * 3, none⟩ (.string ⟨nm.toArray⟩)).setCell ⟨gL, k * 3 + 1, none⟩ (.slice A3 fb.length c3)).setCell ⟨gL, k * 3 + 2, none⟩ (.int .i64 (fb.length : Int))) := (((Chg.of_kept (F := fun x => x = gL) hkd).setCell _ (fun _ => rfl)).setCell _ (fun _ => rfl)).setCell _ (fun _ => rfl)
              have hCw : Chg (fun x => x = gL) wd (((wd.setCell ⟨gL, k * 3, none⟩ (.string ⟨nm.toArray⟩)).setCell ⟨gL, k * 3 + 1, none⟩ (.slice A3 fb.length c3)).setCell ⟨gL, k * 3 + 2, none⟩ (.int .i64 (fb.length : Int))) := (((Chg.refl (fun x => x = gL) wd).setCell _ (fun _ => rfl)).setCell _ (fun _ => rfl)).setCell _ (fun _ => rfl)
              have hrow := own_set (own_set (own_set (own_kept HD.out.row hkd) (g := gL) rfl (k * 3) (.string ⟨nm.toArray⟩)) (g := gL) rfl (k * 3 + 1) (.slice A3 fb.length c3)) (g := gL) rfl (k * 3 + 2) (.int .i64 (fb.length : Int))
              rw [← HNM.out, rcs_set3 hi _ (fb.take fb.length)] at hrow
              have hgw : gL < wr.heap.size := (Array.getElem?_eq_some_iff.1 HBL.out).1
              have hge : ∀ x, (Value.slice A3 fb.length c3).ownBlock = some x → wr.heap.size ≤ x ∧ x < wd.heap.size := fun x hx => by
                have h1 := HO3.out.lt x hx
                have h2 := (HOF.out.lt x hx).2
                have h3 := hKa.size
                have h4 := hKd.size
                exact ⟨by omega, by omega⟩
              have hup := used_put HD.out.good.1 rs'[k].1 (fb.take fb.length, fb.length)
              rw [← filA_mapV, filA_at HD.out.srt hi, HFF.out] at hup
              simp only [List.length_take, Nat.min_eq_left hknl] at hup
              have hfit := HD.out.fits
              obtain ⟨hR, hmR⟩ := HD.out.setAt hCd hi (vb := .slice A3 fb.length c3) (f := (fb.take fb.length, fb.length)) (by rw [← HNM.out]; exact hrow) (by simp only [HTK.out]; exact own_baseD (own_chg (own_kept HOF.out hKd) hCw (fun x hx e => by have := (hge x hx).1; omega)) (Nat.zero_le _)) (fun x hx => .inr ⟨(hge x hx).1, Nat.lt_of_lt_of_le (hge x hx).2 hCw.size⟩) (by simp only [HTK.out]; exact Nat.le_refl _) (by omega)
              have HR := Lib.hid hR
              have HMR := Lib.hid hmR
              clear hR hmR hrow hup
              go_roundw
              case rel =>
                refine ⟨k + 1, by go_num, by omega, by rw [HCN.out]; go_num, ⟨_, _, ?_, HR.out.mono (fun x hx => ext_ext hC.size hCd.size hx)⟩, hC.chain (hCd.mono (fun x _ e => by rw [e]; exact HD.out.rowG _ rfl))⟩
                rw [HMR.out, HS1.out, HM.out, List.drop_eq_getElem_cons hlf, HP.out, HNM.out]
                have hsrt : Srt (mapV Prod.snd rs') := HD.out.good.1
                rw [HM.out, List.drop_eq_getElem_cons hlf, HP.out] at hsrt
                rw [put_at hsrt]
                exact congrArg (fun z => crashS cuts (fs.take k) ++ (nm, z) :: fs.drop (k + 1)) HC1.out.symm
              case measure => simp [intOf]; omega
            · have t5 : decide ((fb.length : Int) - (s : Int) < x) = false := by simpa using hxl
              have hc1x : crash1 (fb, s) (x) = (fb.take (keptN (fb, s) (x)), keptN (fb, s) (x)) := rfl
              have hki : (s : Int) + (x) = (keptN (fb, s) (x) : Int) := by unfold keptN; simp only; omega
              have hknl : keptN (fb, s) (x) ≤ fb.length := keptN_le (f := (fb, s)) hsl _
              have HC1 := Lib.hid (show crash1 (fb, s) ((cuts.drop n).headD 0) = (fb.take (keptN (fb, s) (x)), keptN (fb, s) (x)) by rw [HDH.out]; rfl)
              have HKI := Lib.hid hki
              clear hc1x hki
              generalize keptN (fb, s) (x) = kn at *
              have HTK := Lib.hid (show (fb.take kn).length = kn by first | (simp; done) | (simp; omega))
              have HBA := HBA0
              go_wp2_with fail
              rw [HKI.out, Int.toNat_natCast]
              refine (copy_any (fb.take kn) _ _ ((HFB.out.kept hKa).take kn hknl) (by simp; omega)).mono ?_
              rintro e wc ⟨v3, rfl, ho3, k3⟩
              rw [HTK.out] at ho3
              obtain ⟨A3, c3, rfl⟩ := own_form ho3
              have HO3 := Lib.hid ho3
              clear ho3
              have p0 := cell_at (k3.block' HBA.out) 0
              have p1 := cell_at (k3.block' HBA.out) 1
              have p2 := cell_at (k3.block' HBA.out) 2
              have p3 := frozen_at (k3.block' HBA.out) 1
              have p4 := frozen_at (k3.block' HBA.out) 2
              simp only [List.getElem?_toArray, List.getElem?_cons_zero, List.getElem?_cons_succ] at p0 p1 p2
              go_wp2
              have hCf : Chg (fun g => g = wr.heap.size) wc ((wc.setCell ⟨wr.heap.size, 1, none⟩ (.slice A3 kn c3)).setCell ⟨wr.heap.size, 2, none⟩ (.int .i64 (kn : Int))) := ((Chg.refl (fun g => g = wr.heap.size) wc).setCell _ (fun _ => rfl)).setCell _ (fun _ => rfl)
              have hbf : ((wc.setCell ⟨wr.heap.size, 1, none⟩ (.slice A3 kn c3)).setCell ⟨wr.heap.size, 2, none⟩ (.int .i64 (kn : Int))).heap[wr.heap.size]? = some (.cells #[.string ⟨nm.toArray⟩, .slice A3 kn c3, .int .i64 (kn : Int)] 108 (0, 0)) := by
                have h1 := Lib.heap_setCell_same (i := 1) (k3.block' HBA.out) (.slice A3 kn c3)
                have h2 := Lib.heap_setCell_same (i := 2) h1 (.int .i64 (kn : Int))
                simpa using h2
              have hkf : Kept wr ((wc.setCell ⟨wr.heap.size, 1, none⟩ (.slice A3 kn c3)).setCell ⟨wr.heap.size, 2, none⟩ (.int .i64 (kn : Int))) := hCf.kept (hKa.trans k3) (fun g e => by omega)
              have hof := own_chg HO3.out hCf (fun g hg e => by have := (HO3.out.lt g hg).1; omega)
              generalize (wc.setCell ⟨wr.heap.size, 1, none⟩ (.slice A3 kn c3)).setCell ⟨wr.heap.size, 2, none⟩ (.int .i64 (kn : Int)) = wf at *
              have HBF := Lib.hid hbf
              have HOF := Lib.hid hof
              clear hbf hof p0 p1 p2 p3 p4
              refine still_tail 7 (by kernel_rfl) (by kernel_rfl) (fun wd hKd => ?_)
              have hkd := hkf.trans hKd
              have d1 := (HD.out.kept hkd).c1
              obtain ⟨gL', eg, m0, m1, m2, -⟩ := (HD.out.kept hkd).at hi
              cases eg
              have s0 := cell_at (hKd.block' HBF.out) 0
              have s1 := cell_at (hKd.block' HBF.out) 1
              have s2 := cell_at (hKd.block' HBF.out) 2
              simp only [List.getElem?_toArray, List.getElem?_cons_zero, List.getElem?_cons_succ] at s0 s1 s2
              have n0 := frozen_at (hkd.block' HBL.out) (k * 3)
              have n1 := frozen_at (hkd.block' HBL.out) (k * 3 + 1)
              have n2 := frozen_at (hkd.block' HBL.out) (k * 3 + 2)
              simp only [List.take_succ_cons, List.take_zero, List.drop_succ_cons, List.drop_zero]
              repeat still_step
              refine wpStill_nil ?_
              go_wp2
              have hCd : Chg (fun x => x = gL) wr (((wd.setCell ⟨gL, k * 3, none⟩ (.string ⟨nm.toArray⟩)).setCell ⟨gL, k * 3 + 1, none⟩ (.slice A3 kn c3)).setCell ⟨gL, k * 3 + 2, none⟩ (.int .i64 (kn : Int))) := (((Chg.of_kept (F := fun x => x = gL) hkd).setCell _ (fun _ => rfl)).setCell _ (fun _ => rfl)).setCell _ (fun _ => rfl)
              have hCw : Chg (fun x => x = gL) wd (((wd.setCell ⟨gL, k * 3, none⟩ (.string ⟨nm.toArray⟩)).setCell ⟨gL, k * 3 + 1, none⟩ (.slice A3 kn c3)).setCell ⟨gL, k * 3 + 2, none⟩ (.int .i64 (kn : Int))) := (((Chg.refl (fun x => x = gL) wd).setCell _ (fun _ => rfl)).setCell _ (fun _ => rfl)).setCell _ (fun _ => rfl)
              have hrow := own_set (own_set (own_set (own_kept HD.out.row hkd) (g := gL) rfl (k * 3) (.string ⟨nm.toArray⟩)) (g := gL) rfl (k * 3 + 1) (.slice A3 kn c3)) (g := gL) rfl (k * 3 + 2) (.int .i64 (kn : Int))
              rw [← HNM.out, rcs_set3 hi _ (fb.take kn)] at hrow
              have hgw : gL < wr.heap.size := (Array.getElem?_eq_some_iff.1 HBL.out).1
              have hge : ∀ x, (Value.slice A3 kn c3).ownBlock = some x → wr.heap.size ≤ x ∧ x < wd.heap.size := fun x hx => by
                have h1 := HO3.out.lt x hx
                have h2 := (HOF.out.lt x hx).2
                have h3 := hKa.size
                have h4 := hKd.size
                exact ⟨by omega, by omega⟩
              have hup := used_put HD.out.good.1 rs'[k].1 (fb.take kn, kn)
              rw [← filA_mapV, filA_at HD.out.srt hi, HFF.out] at hup
              simp only [List.length_take, Nat.min_eq_left hknl] at hup
              have hfit := HD.out.fits
              obtain ⟨hR, hmR⟩ := HD.out.setAt hCd hi (vb := .slice A3 kn c3) (f := (fb.take kn, kn)) (by rw [← HNM.out]; exact hrow) (by simp only [HTK.out]; exact own_baseD (own_chg (own_kept HOF.out hKd) hCw (fun x hx e => by have := (hge x hx).1; omega)) (Nat.zero_le _)) (fun x hx => .inr ⟨(hge x hx).1, Nat.lt_of_lt_of_le (hge x hx).2 hCw.size⟩) (by simp only [HTK.out]; exact Nat.le_refl _) (by omega)
              have HR := Lib.hid hR
              have HMR := Lib.hid hmR
              clear hR hmR hrow hup
              go_roundw
              case rel =>
                refine ⟨k + 1, by go_num, by omega, by rw [HCN.out]; go_num, ⟨_, _, ?_, HR.out.mono (fun x hx => ext_ext hC.size hCd.size hx)⟩, hC.chain (hCd.mono (fun x _ e => by rw [e]; exact HD.out.rowG _ rfl))⟩
                rw [HMR.out, HS1.out, HM.out, List.drop_eq_getElem_cons hlf, HP.out, HNM.out]
                have hsrt : Srt (mapV Prod.snd rs') := HD.out.good.1
                rw [HM.out, List.drop_eq_getElem_cons hlf, HP.out] at hsrt
                rw [put_at hsrt]
                exact congrArg (fun z => crashS cuts (fs.take k) ++ (nm, z) :: fs.drop (k + 1)) HC1.out.symm
              case measure => simp [intOf]; omega
          · have t4 : decide ((0 : Int) < x) = false := by simpa using hx
            have t5 : decide ((fb.length : Int) - (s : Int) < 0) = false := by simp; omega
            have hc1x : crash1 (fb, s) (x) = (fb.take (keptN (fb, s) (x)), keptN (fb, s) (x)) := rfl
            have hki : (s : Int) + (0) = (keptN (fb, s) (x) : Int) := by unfold keptN; simp only; omega
            have hknl : keptN (fb, s) (x) ≤ fb.length := keptN_le (f := (fb, s)) hsl _
            have HC1 := Lib.hid (show crash1 (fb, s) ((cuts.drop n).headD 0) = (fb.take (keptN (fb, s) (x)), keptN (fb, s) (x)) by rw [HDH.out]; rfl)
            have HKI := Lib.hid hki
            clear hc1x hki
            generalize keptN (fb, s) (x) = kn at *
            obtain rfl : s = kn := by have := HKI.out; omega
            have HTK := Lib.hid (show (fb.take s).length = s by first | (simp; done) | (simp; omega))
            have HBA := HBA0
            go_wp2_with fail
            
            refine (copy_any (fb.take s) _ _ ((HFB.out.kept hKa).take s hknl) (by simp; omega)).mono ?_
            rintro e wc ⟨v3, rfl, ho3, k3⟩
            rw [HTK.out] at ho3
            obtain ⟨A3, c3, rfl⟩ := own_form ho3
            have HO3 := Lib.hid ho3
            clear ho3
            have p0 := cell_at (k3.block' HBA.out) 0
            have p1 := cell_at (k3.block' HBA.out) 1
            have p2 := cell_at (k3.block' HBA.out) 2
            have p3 := frozen_at (k3.block' HBA.out) 1
            have p4 := frozen_at (k3.block' HBA.out) 2
            simp only [List.getElem?_toArray, List.getElem?_cons_zero, List.getElem?_cons_succ] at p0 p1 p2
            go_wp2
            have hCf : Chg (fun g => g = wr.heap.size) wc ((wc.setCell ⟨wr.heap.size, 1, none⟩ (.slice A3 s c3)).setCell ⟨wr.heap.size, 2, none⟩ (.int .i64 (s : Int))) := ((Chg.refl (fun g => g = wr.heap.size) wc).setCell _ (fun _ => rfl)).setCell _ (fun _ => rfl)
            have hbf : ((wc.setCell ⟨wr.heap.size, 1, none⟩ (.slice A3 s c3)).setCell ⟨wr.heap.size, 2, none⟩ (.int .i64 (s : Int))).heap[wr.heap.size]? = some (.cells #[.string ⟨nm.toArray⟩, .slice A3 s c3, .int .i64 (s : Int)] 108 (0, 0)) := by
              have h1 := Lib.heap_setCell_same (i := 1) (k3.block' HBA.out) (.slice A3 s c3)
              have h2 := Lib.heap_setCell_same (i := 2) h1 (.int .i64 (s : Int))
              simpa using h2
            have hkf : Kept wr ((wc.setCell ⟨wr.heap.size, 1, none⟩ (.slice A3 s c3)).setCell ⟨wr.heap.size, 2, none⟩ (.int .i64 (s : Int))) := hCf.kept (hKa.trans k3) (fun g e => by omega)
            have hof := own_chg HO3.out hCf (fun g hg e => by have := (HO3.out.lt g hg).1; omega)
            generalize (wc.setCell ⟨wr.heap.size, 1, none⟩ (.slice A3 s c3)).setCell ⟨wr.heap.size, 2, none⟩ (.int .i64 (s : Int)) = wf at *
            have HBF := Lib.hid hbf
            have HOF := Lib.hid hof
            clear hbf hof p0 p1 p2 p3 p4
            refine still_tail 7 (by kernel_rfl) (by kernel_rfl) (fun wd hKd => ?_)
            have hkd := hkf.trans hKd
            have d1 := (HD.out.kept hkd).c1
            obtain ⟨gL', eg, m0, m1, m2, -⟩ := (HD.out.kept hkd).at hi
            cases eg
            have s0 := cell_at (hKd.block' HBF.out) 0
            have s1 := cell_at (hKd.block' HBF.out) 1
            have s2 := cell_at (hKd.block' HBF.out) 2
            simp only [List.getElem?_toArray, List.getElem?_cons_zero, List.getElem?_cons_succ] at s0 s1 s2
            have n0 := frozen_at (hkd.block' HBL.out) (k * 3)
            have n1 := frozen_at (hkd.block' HBL.out) (k * 3 + 1)
            have n2 := frozen_at (hkd.block' HBL.out) (k * 3 + 2)
            simp only [List.take_succ_cons, List.take_zero, List.drop_succ_cons, List.drop_zero]
            repeat still_step
            refine wpStill_nil ?_
            go_wp2
            have hCd : Chg (fun x => x = gL) wr (((wd.setCell ⟨gL, k * 3, none⟩ (.string ⟨nm.toArray⟩)).setCell ⟨gL, k * 3 + 1, none⟩ (.slice A3 s c3)).setCell ⟨gL, k * 3 + 2, none⟩ (.int .i64 (s : Int))) := (((Chg.of_kept (F := fun x => x = gL) hkd).setCell _ (fun _ => rfl)).setCell _ (fun _ => rfl)).setCell _ (fun _ => rfl)
            have hCw : Chg (fun x => x = gL) wd (((wd.setCell ⟨gL, k * 3, none⟩ (.string ⟨nm.toArray⟩)).setCell ⟨gL, k * 3 + 1, none⟩ (.slice A3 s c3)).setCell ⟨gL, k * 3 + 2, none⟩ (.int .i64 (s : Int))) := (((Chg.refl (fun x => x = gL) wd).setCell _ (fun _ => rfl)).setCell _ (fun _ => rfl)).setCell _ (fun _ => rfl)
            have hrow := own_set (own_set (own_set (own_kept HD.out.row hkd) (g := gL) rfl (k * 3) (.string ⟨nm.toArray⟩)) (g := gL) rfl (k * 3 + 1) (.slice A3 s c3)) (g := gL) rfl (k * 3 + 2) (.int .i64 (s : Int))
            rw [← HNM.out, rcs_set3 hi _ (fb.take s)] at hrow
            have hgw : gL < wr.heap.size := (Array.getElem?_eq_some_iff.1 HBL.out).1
            have hge : ∀ x, (Value.slice A3 s c3).ownBlock = some x → wr.heap.size ≤ x ∧ x < wd.heap.size := fun x hx => by
              have h1 := HO3.out.lt x hx
              have h2 := (HOF.out.lt x hx).2
              have h3 := hKa.size
              have h4 := hKd.size
              exact ⟨by omega, by omega⟩
            have hup := used_put HD.out.good.1 rs'[k].1 (fb.take s, s)
            rw [← filA_mapV, filA_at HD.out.srt hi, HFF.out] at hup
            simp only [List.length_take, Nat.min_eq_left hknl] at hup
            have hfit := HD.out.fits
            obtain ⟨hR, hmR⟩ := HD.out.setAt hCd hi (vb := .slice A3 s c3) (f := (fb.take s, s)) (by rw [← HNM.out]; exact hrow) (by simp only [HTK.out]; exact own_baseD (own_chg (own_kept HOF.out hKd) hCw (fun x hx e => by have := (hge x hx).1; omega)) (Nat.zero_le _)) (fun x hx => .inr ⟨(hge x hx).1, Nat.lt_of_lt_of_le (hge x hx).2 hCw.size⟩) (by simp only [HTK.out]; exact Nat.le_refl _) (by omega)
            have HR := Lib.hid hR
            have HMR := Lib.hid hmR
            clear hR hmR hrow hup
            go_roundw
            case rel =>
              refine ⟨k + 1, by go_num, by omega, by rw [HCN.out]; go_num, ⟨_, _, ?_, HR.out.mono (fun x hx => ext_ext hC.size hCd.size hx)⟩, hC.chain (hCd.mono (fun x _ e => by rw [e]; exact HD.out.rowG _ rfl))⟩
              rw [HMR.out, HS1.out, HM.out, List.drop_eq_getElem_cons hlf, HP.out, HNM.out]
              have hsrt : Srt (mapV Prod.snd rs') := HD.out.good.1
              rw [HM.out, List.drop_eq_getElem_cons hlf, HP.out] at hsrt
              rw [put_at hsrt]
              exact congrArg (fun z => crashS cuts (fs.take k) ++ (nm, z) :: fs.drop (k + 1)) HC1.out.symm
            case measure => simp [intOf]; omega
        · have t3 : decide ((n : Int) < (cuts.length : Int)) = false := by simpa using hn
          have hdh : (cuts.drop n).headD 0 = 0 := by rw [List.drop_of_length_le (by omega)]; rfl
          have HDH := Lib.hid hdh
          clear hdh
          have t5 : decide ((fb.length : Int) - (s : Int) < 0) = false := by simp; omega
          have hc1x : crash1 (fb, s) (0) = (fb.take (keptN (fb, s) (0)), keptN (fb, s) (0)) := rfl
          have hki : (s : Int) + (0) = (keptN (fb, s) (0) : Int) := by unfold keptN; simp only; omega
          have hknl : keptN (fb, s) (0) ≤ fb.length := keptN_le (f := (fb, s)) hsl _
          have HC1 := Lib.hid (show crash1 (fb, s) ((cuts.drop n).headD 0) = (fb.take (keptN (fb, s) (0)), keptN (fb, s) (0)) by rw [HDH.out]; rfl)
          have HKI := Lib.hid hki
          clear hc1x hki
          generalize keptN (fb, s) (0) = kn at *
          obtain rfl : s = kn := by have := HKI.out; omega
          have HTK := Lib.hid (show (fb.take s).length = s by first | (simp; done) | (simp; omega))
          have HBA := HBA0
          go_wp2_with fail
          
          refine (copy_any (fb.take s) _ _ ((HFB.out.kept hKa).take s hknl) (by simp; omega)).mono ?_
          rintro e wc ⟨v3, rfl, ho3, k3⟩
          rw [HTK.out] at ho3
          obtain ⟨A3, c3, rfl⟩ := own_form ho3
          have HO3 := Lib.hid ho3
          clear ho3
          have p0 := cell_at (k3.block' HBA.out) 0
          have p1 := cell_at (k3.block' HBA.out) 1
          have p2 := cell_at (k3.block' HBA.out) 2
          have p3 := frozen_at (k3.block' HBA.out) 1
          have p4 := frozen_at (k3.block' HBA.out) 2
          simp only [List.getElem?_toArray, List.getElem?_cons_zero, List.getElem?_cons_succ] at p0 p1 p2
          go_wp2
          have hCf : Chg (fun g => g = wr.heap.size) wc ((wc.setCell ⟨wr.heap.size, 1, none⟩ (.slice A3 s c3)).setCell ⟨wr.heap.size, 2, none⟩ (.int .i64 (s : Int))) := ((Chg.refl (fun g => g = wr.heap.size) wc).setCell _ (fun _ => rfl)).setCell _ (fun _ => rfl)
          have hbf : ((wc.setCell ⟨wr.heap.size, 1, none⟩ (.slice A3 s c3)).setCell ⟨wr.heap.size, 2, none⟩ (.int .i64 (s : Int))).heap[wr.heap.size]? = some (.cells #[.string ⟨nm.toArray⟩, .slice A3 s c3, .int .i64 (s : Int)] 108 (0, 0)) := by
            have h1 := Lib.heap_setCell_same (i := 1) (k3.block' HBA.out) (.slice A3 s c3)
            have h2 := Lib.heap_setCell_same (i := 2) h1 (.int .i64 (s : Int))
            simpa using h2
          have hkf : Kept wr ((wc.setCell ⟨wr.heap.size, 1, none⟩ (.slice A3 s c3)).setCell ⟨wr.heap.size, 2, none⟩ (.int .i64 (s : Int))) := hCf.kept (hKa.trans k3) (fun g e => by omega)
          have hof := own_chg HO3.out hCf (fun g hg e => by have := (HO3.out.lt g hg).1; omega)
          generalize (wc.setCell ⟨wr.heap.size, 1, none⟩ (.slice A3 s c3)).setCell ⟨wr.heap.size, 2, none⟩ (.int .i64 (s : Int)) = wf at *
          have HBF := Lib.hid hbf
          have HOF := Lib.hid hof
          clear hbf hof p0 p1 p2 p3 p4
          refine still_tail 7 (by kernel_rfl) (by kernel_rfl) (fun wd hKd => ?_)
          have hkd := hkf.trans hKd
          have d1 := (HD.out.kept hkd).c1
          obtain ⟨gL', eg, m0, m1, m2, -⟩ := (HD.out.kept hkd).at hi
          cases eg
          have s0 := cell_at (hKd.block' HBF.out) 0
          have s1 := cell_at (hKd.block' HBF.out) 1
          have s2 := cell_at (hKd.block' HBF.out) 2
          simp only [List.getElem?_toArray, List.getElem?_cons_zero, List.getElem?_cons_succ] at s0 s1 s2
          have n0 := frozen_at (hkd.block' HBL.out) (k * 3)
          have n1 := frozen_at (hkd.block' HBL.out) (k * 3 + 1)
          have n2 := frozen_at (hkd.block' HBL.out) (k * 3 + 2)
          simp only [List.take_succ_cons, List.take_zero, List.drop_succ_cons, List.drop_zero]
          repeat still_step
          refine wpStill_nil ?_
          go_wp2
          have hCd : Chg (fun x => x = gL) wr (((wd.setCell ⟨gL, k * 3, none⟩ (.string ⟨nm.toArray⟩)).setCell ⟨gL, k * 3 + 1, none⟩ (.slice A3 s c3)).setCell ⟨gL, k * 3 + 2, none⟩ (.int .i64 (s : Int))) := (((Chg.of_kept (F := fun x => x = gL) hkd).setCell _ (fun _ => rfl)).setCell _ (fun _ => rfl)).setCell _ (fun _ => rfl)
          have hCw : Chg (fun x => x = gL) wd (((wd.setCell ⟨gL, k * 3, none⟩ (.string ⟨nm.toArray⟩)).setCell ⟨gL, k * 3 + 1, none⟩ (.slice A3 s c3)).setCell ⟨gL, k * 3 + 2, none⟩ (.int .i64 (s : Int))) := (((Chg.refl (fun x => x = gL) wd).setCell _ (fun _ => rfl)).setCell _ (fun _ => rfl)).setCell _ (fun _ => rfl)
          have hrow := own_set (own_set (own_set (own_kept HD.out.row hkd) (g := gL) rfl (k * 3) (.string ⟨nm.toArray⟩)) (g := gL) rfl (k * 3 + 1) (.slice A3 s c3)) (g := gL) rfl (k * 3 + 2) (.int .i64 (s : Int))
          rw [← HNM.out, rcs_set3 hi _ (fb.take s)] at hrow
          have hgw : gL < wr.heap.size := (Array.getElem?_eq_some_iff.1 HBL.out).1
          have hge : ∀ x, (Value.slice A3 s c3).ownBlock = some x → wr.heap.size ≤ x ∧ x < wd.heap.size := fun x hx => by
            have h1 := HO3.out.lt x hx
            have h2 := (HOF.out.lt x hx).2
            have h3 := hKa.size
            have h4 := hKd.size
            exact ⟨by omega, by omega⟩
          have hup := used_put HD.out.good.1 rs'[k].1 (fb.take s, s)
          rw [← filA_mapV, filA_at HD.out.srt hi, HFF.out] at hup
          simp only [List.length_take, Nat.min_eq_left hknl] at hup
          have hfit := HD.out.fits
          obtain ⟨hR, hmR⟩ := HD.out.setAt hCd hi (vb := .slice A3 s c3) (f := (fb.take s, s)) (by rw [← HNM.out]; exact hrow) (by simp only [HTK.out]; exact own_baseD (own_chg (own_kept HOF.out hKd) hCw (fun x hx e => by have := (hge x hx).1; omega)) (Nat.zero_le _)) (fun x hx => .inr ⟨(hge x hx).1, Nat.lt_of_lt_of_le (hge x hx).2 hCw.size⟩) (by simp only [HTK.out]; exact Nat.le_refl _) (by omega)
          have HR := Lib.hid hR
          have HMR := Lib.hid hmR
          clear hR hmR hrow hup
          go_roundw
          case rel =>
            refine ⟨k + 1, by go_num, by omega, by rw [HCN.out]; go_num, ⟨_, _, ?_, HR.out.mono (fun x hx => ext_ext hC.size hCd.size hx)⟩, hC.chain (hCd.mono (fun x _ e => by rw [e]; exact HD.out.rowG _ rfl))⟩
            rw [HMR.out, HS1.out, HM.out, List.drop_eq_getElem_cons hlf, HP.out, HNM.out]
            have hsrt : Srt (mapV Prod.snd rs') := HD.out.good.1
            rw [HM.out, List.drop_eq_getElem_cons hlf, HP.out] at hsrt
            rw [put_at hsrt]
            exact congrArg (fun z => crashS cuts (fs.take k) ++ (nm, z) :: fs.drop (k + 1)) HC1.out.symm
          case measure => simp [intOf]; omega
    · obtain rfl : k = rs.length := by omega
      have HM := Lib.hid hm
      have HD := Lib.hid hd'
      have hl2 : decide ((rs.length : Int) < (rs'.length : Int)) = false := by simp; omega
      have hl3 : decide (rs.length < rs'.length) = false := by simp; omega
      clear hm hd' hl'
      go_wp2
      go_end0
      refine ⟨rfl, ⟨_, rs', ?_, HD.out⟩, hC⟩
      rw [HM.out, ← HLN.out, List.take_length, List.drop_length, List.append_nil]
theorem rcrash_any (cuts : List Int) (v x : Value) (cap : Nat) (fs : Fls) (G : Nat → Prop) (w : World) (h : Ref w x cap fs G) (hv : ∀ W, Chg G w W → Ints W v cuts) :
    Calls Tryz.prog 14 #[x, v] w fun e w' => e = .returned (.tuple #[]) ∧ Ref w' x cap (crashS cuts fs) (ext G w w') ∧ Chg G w w' := by
  obtain ⟨rb, vL, rs, rfl, rfl, h⟩ := h
  refine (rcrash_ok cuts v rb vL rs cap G w h hv).mono ?_
  rintro e w' ⟨h1, ⟨vL', rs', h2, h3⟩, h4⟩
  exact ⟨h1, ⟨rb, vL', rs', rfl, h2, h3⟩, h4⟩
end Go.Proofs.YtngbgngfdklnlaaGreatDoor
