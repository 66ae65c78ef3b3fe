/- The walk of ZtreeStill. -/
import Derived.Test.YtmodolighoojoaaGreatDoorGZCt3
import Derived.Deep.CutBlock
import Derived.Deep.DeepCutAuto
set_option linter.unusedSimpArgs false
set_option linter.unusedVariables false
namespace Go.Proofs.YtmodolighoojoaaGreatDoor
open Go.RowKit
set_option maxRecDepth 100000 in
set_option maxHeartbeats 8000000 in
theorem ztreeStill_any (xs : List Op7) (v : Value) (o : Op7) (w : World) (hv : Script7 w v xs) (hf : ∀ x ∈ xs, x.Fits) (hl : xs.length ≤ 1048576) (ho : Bts w o.dv o.data) (hof : o.data.length ≤ 140737488355328) (htab : TbZ w) :
    Calls Tryz.prog 8 #[v, .agg #[.int .i64 o.kind, .int .i64 o.n, .string ⟨o.path.toArray⟩, o.dv, .bool o.seq]] w fun e w' => e = .returned (.bool true) ∧ Kept w w' := by
  obtain ⟨kind, n, path, dv, data, seq⟩ := o
  simp only at ho hof ⊢
  obtain ⟨Ad, cd, rfl⟩ := ho.form
  have hka := (Kept.refl w).alloc (.cells #[.int .i64 kind, .int .i64 n, .string ⟨path.toArray⟩, .slice Ad data.length cd, .bool seq] 59)
  have hba := heap_alloc_new w (.cells #[.int .i64 kind, .int .i64 n, .string ⟨path.toArray⟩, .slice Ad data.length cd, .bool seq] 59)
  have HM := Lib.hid (made_any xs v _ (hv.kept hka) hf (by omega) (htab.kept hka))
  have HA := Lib.hid (show ∀ W, Kept w W → _ from fun W k => awakeZ_any W (htab.kept k))
  have HTB := Lib.hid htab
  have HDT := Lib.hid ho
  obtain ⟨Av, cv, rfl, -, -⟩ := hv.form
  clear hv hf htab ho
  go_enter Tryz.func8, Tryz.ntmps8
  go_wp2_with fail
  generalize w.alloc (.cells #[.int .i64 kind, .int .i64 n, .string ⟨path.toArray⟩, .slice Ad data.length cd, .bool seq] 59) = wa at *
  refine HM.out.mono ?_
  rintro e w1 ⟨tb, t, rfl, hkt, hwf, hwb⟩
  obtain ⟨mb, st, F, hT, hpl, hF, hK1⟩ := hkt
  have hfew := hT.few
  have hlt : t.length ≤ xs.length + 1 := by rw [← hpl]; unfold plainZ; rw [length_mapZ]; exact hfew
  have hen := encode_any w1 tb mb st xs.length F hT (by omega) (by have := encT_few hwf hwb hlt; rw [hpl]; omega)
  rw [hpl, encodeP_good hwb (by omega)] at hen
  have HEN := Lib.hid hen
  have HT := Lib.hid hT
  have HWF := Lib.hid hwf
  have HWB := Lib.hid hwb
  have HPL := Lib.hid hpl
  have HF := Lib.hid hF
  have HK1 := Lib.hid hK1
  clear hen hT hwf hwb hpl hF hK1
  go_wp2_with fail
  refine HEN.out.mono ?_
  rintro e w2 ⟨u2, rfl, ho2, hk2⟩
  obtain ⟨A2, c2, rfl⟩ := own_form ho2
  have hb2 := (HK1.out.trans hk2).block' hba
  have q0 := cell_at hb2 0
  have q1 := cell_at hb2 1
  have q2 := cell_at hb2 2
  have q3 := cell_at hb2 3
  have q4 := cell_at hb2 4
  simp only [List.getElem?_toArray, List.getElem?_cons_zero, List.getElem?_cons_succ] at q0 q1 q2 q3 q4
  have HKA := Lib.hid hka.size
  have HNF := Lib.hid (show ¬ F w.heap.size from fun y => by have := (HF.out _ y).1; have := (Array.getElem?_eq_some_iff.1 hba).1; omega)
  have HO2 := Lib.hid ho2
  have HKW := Lib.hid (hka.trans (HK1.out.trans hk2))
  have HT2 := Lib.hid (HT.out.kept hk2)
  have hs2 := hk2.size
  have HFS := Lib.hid (show ∀ W, Kept w W → TbZ W from fun W k => HTB.out.kept k)
  clear hb2 hba hka ho2 hk2
  by_cases k1 : kind = 1
  · have HKD := Lib.hid k1
    have e1 : (kind == 1) = true := by simp [k1]
    clear k1
    by_cases hE : createE t path data.length n seq = 0
    · skip
      have HNE := Lib.hid (show createS t path data n seq ≠ t from (create_new HWF.out.srt hE).1)
      have hKd := (Kept.refl w2).drew
      have HCP := Lib.hid (show ∀ W, Kept w2 W → _ from fun W hW => copy_any data (.slice Ad data.length cd) W (HDT.out.kept (HKW.out.trans hW)) hof)
      have hcr := (show ∀ v3 W, Kept w2 W → Bts W v3 data → _ from fun v3 W hW hb => create_any (HT2.out.kept hW) path data v3 n seq hb (HFS.out W (HKW.out.trans hW)) (by omega))
      simp only [HPL.out] at hcr
      have hpne := (create_new HWF.out.srt hE).2
      simp only [hE] at hcr
      generalize createP t path data.length n seq = cp at *
      have t1 : (cp == []) = false := by rw [beq_eq_false_iff_ne]; exact hpne
      have HCR := Lib.hid hcr
      clear hcr hE
      go_wp2_with fail
      go_region_held3 (fun W => W.cell? ⟨w.heap.size, 1, none⟩ = some (.int .i64 n) ∧ W.cell? ⟨w.heap.size, 2, none⟩ = some (.string ⟨path.toArray⟩) ∧ W.cell? ⟨w.heap.size, 3, none⟩ = some (.slice Ad data.length cd) ∧ W.cell? ⟨w.heap.size, 4, none⟩ = some (.bool seq))
        (first | exact ⟨q1, q2, q3, q4⟩ | exact ⟨hKd.cell q1, hKd.cell q2, hKd.cell q3, hKd.cell q4⟩ | exact ⟨u1, u2, u3, u4⟩ | exact ⟨z1, z2, z3, z4⟩)
        (first
          | (go_at_call 16; refine (HCP.out _ hKd).mono ?_; rintro e w3 ⟨v3, rfl, ho3, hk3⟩; have hq3 := hKd.trans hk3; have u1 := hq3.cell q1; have u2 := hq3.cell q2; have u3 := hq3.cell q3; have u4 := hq3.cell q4; have HK3 := Lib.hid hq3; have HB3 := Lib.hid (Bts.of_own ho3); clear ho3 hk3 hq3)
          | (go_at_call 30; refine (HCR.out _ _ HK3.out HB3.out).mono ?_; rintro e w4 ⟨rfl, h4, hc4⟩; have z1 := chg_cellS hc4 u1 HNF.out; have z2 := chg_cellS hc4 u2 HNF.out; have z3 := chg_cellS hc4 u3 HNF.out; have z4 := chg_cellS hc4 u4 HNF.out; have H4 := Lib.hid h4; have HC4 := Lib.hid hc4; clear h4 hc4))
      obtain ⟨st4, hT4, hp4⟩ := H4.out
      have hp5 : plainZ st4 = createS t path data n seq := hp4
      have hwf4 : WF (createS t path data n seq) := HWF.out.create _ _ _ _
      have hwb4 : WB (xs.length + 1) (createS t path data n seq) := (HWB.out.create HWF.out.srt _ _ _ _).more (Nat.le_succ _)
      have hlt4 : (createS t path data n seq).length ≤ xs.length + 2 := by rw [← hp5]; unfold plainZ; rw [length_mapZ]; exact hT4.few
      have hen := encode_any _ tb mb st4 (xs.length + 1) _ hT4 (by omega) (by have := encT_few hwf4 hwb4 hlt4; rw [hp5]; omega)
      rw [hp5, encodeP_good hwb4 (by omega)] at hen
      have HEQ := Lib.hid (show (encT t == encT (createS t path data n seq)) = false from enc_ne HWF.out HWB.out (by omega) hwf4 hwb4 (by omega) HNE.out)
      generalize encT (createS t path data n seq) = l4 at *
      have HE4 := Lib.hid hen
      clear hen hT4 hp4 hp5 hwf4 hwb4 hlt4
      go_wp2_with fail
      refine HE4.out.mono ?_
      rintro e w5 ⟨u5, rfl, ho5, hk5⟩
      obtain ⟨A5, c5, rfl⟩ := own_form ho5
      have hb2 : Bts w5 (.slice A2 (encT t).length c2) (encT t) := Bts.of_own (own_kept (own_chg (own_kept HO2.out HK3.out) HC4.out (fun g hg x => by have h1 := (HF.out g x).2; have h2 := (HO2.out.lt g hg).1; omega)) hk5)
      have hsm := same_any (encT t) l4 _ _ w5 hb2 (Bts.of_own ho5)
      rw [HEQ.out] at hsm
      have HSM := Lib.hid hsm
      have HK5 := Lib.hid (show Kept w w5 from (HC4.out.kept (HKW.out.trans HK3.out) (fun g x => by have h1 := (HF.out g x).1; have h2 := HKA.out; omega)).trans hk5)
      generalize encT t = l2 at *
      clear hsm hb2 ho5 hk5
      go_wp2_with fail
      refine HSM.out.mono ?_
      rintro e w6 ⟨rfl, rfl⟩
      go_wp2_with fail
      refine (HA.out _ HK5.out).mono ?_
      rintro e w7 ⟨rfl, hk7⟩
      have hkf := HK5.out.trans hk7
      go_wp2
      go_ret
      exact ⟨rfl, hkf⟩
    · skip
      have HS0 := Lib.hid (show createS t path data n seq = t from by unfold createS; rw [if_neg hE])
      have hKd := (Kept.refl w2).drew
      have HCP := Lib.hid (show ∀ W, Kept w2 W → _ from fun W hW => copy_any data (.slice Ad data.length cd) W (HDT.out.kept (HKW.out.trans hW)) hof)
      have hcr := (show ∀ v3 W, Kept w2 W → Bts W v3 data → _ from fun v3 W hW hb => create_any (HT2.out.kept hW) path data v3 n seq hb (HFS.out W (HKW.out.trans hW)) (by omega))
      simp only [HPL.out] at hcr
      simp only [createP_bad hE, HS0.out] at hcr
      obtain ⟨ce, hce⟩ : ∃ ce, createE t path data.length n seq = ce := ⟨_, rfl⟩
      rw [hce] at hE
      simp only [hce] at hcr
      have t1 : (ce != 0) = true := by rw [bne_iff_ne]; exact hE
      have t2 : (ce == 0) = false := by rw [beq_eq_false_iff_ne]; exact hE
      have HCR := Lib.hid hcr
      clear hcr hE
      go_wp2_with fail
      go_region_held3 (fun W => W.cell? ⟨w.heap.size, 1, none⟩ = some (.int .i64 n) ∧ W.cell? ⟨w.heap.size, 2, none⟩ = some (.string ⟨path.toArray⟩) ∧ W.cell? ⟨w.heap.size, 3, none⟩ = some (.slice Ad data.length cd) ∧ W.cell? ⟨w.heap.size, 4, none⟩ = some (.bool seq))
        (first | exact ⟨q1, q2, q3, q4⟩ | exact ⟨hKd.cell q1, hKd.cell q2, hKd.cell q3, hKd.cell q4⟩ | exact ⟨u1, u2, u3, u4⟩ | exact ⟨z1, z2, z3, z4⟩)
        (first
          | (go_at_call 16; refine (HCP.out _ hKd).mono ?_; rintro e w3 ⟨v3, rfl, ho3, hk3⟩; have hq3 := hKd.trans hk3; have u1 := hq3.cell q1; have u2 := hq3.cell q2; have u3 := hq3.cell q3; have u4 := hq3.cell q4; have HK3 := Lib.hid hq3; have HB3 := Lib.hid (Bts.of_own ho3); clear ho3 hk3 hq3)
          | (go_at_call 30; refine (HCR.out _ _ HK3.out HB3.out).mono ?_; rintro e w4 ⟨rfl, h4, hc4⟩; have z1 := chg_cellS hc4 u1 HNF.out; have z2 := chg_cellS hc4 u2 HNF.out; have z3 := chg_cellS hc4 u3 HNF.out; have z4 := chg_cellS hc4 u4 HNF.out; have H4 := Lib.hid h4; have HC4 := Lib.hid hc4; clear h4 hc4))
      obtain ⟨st4, hT4, hp4⟩ := H4.out
      have hp5 : plainZ st4 = t := hp4
      have hwf4 : WF (t) := HWF.out
      have hwb4 : WB (xs.length + 1) (t) := HWB.out.more (Nat.le_succ _)
      have hlt4 : (t).length ≤ xs.length + 2 := by rw [← hp5]; unfold plainZ; rw [length_mapZ]; exact hT4.few
      have hen := encode_any _ tb mb st4 (xs.length + 1) _ hT4 (by omega) (by have := encT_few hwf4 hwb4 hlt4; rw [hp5]; omega)
      rw [hp5, encodeP_good hwb4 (by omega)] at hen
      have HEQ := Lib.hid (show (encT t == encT (t)) = true from by simp)
      have HE4 := Lib.hid hen
      clear hen hT4 hp4 hp5 hwf4 hwb4 hlt4
      go_wp2_with fail
      refine HE4.out.mono ?_
      rintro e w5 ⟨u5, rfl, ho5, hk5⟩
      obtain ⟨A5, c5, rfl⟩ := own_form ho5
      have hb2 : Bts w5 (.slice A2 (encT t).length c2) (encT t) := Bts.of_own (own_kept (own_chg (own_kept HO2.out HK3.out) HC4.out (fun g hg x => by have h1 := (HF.out g x).2; have h2 := (HO2.out.lt g hg).1; omega)) hk5)
      have hsm := same_any (encT t) (encT t) _ _ w5 hb2 (Bts.of_own ho5)
      rw [HEQ.out] at hsm
      have HSM := Lib.hid hsm
      have HK5 := Lib.hid (show Kept w w5 from (HC4.out.kept (HKW.out.trans HK3.out) (fun g x => by have h1 := (HF.out g x).1; have h2 := HKA.out; omega)).trans hk5)
      generalize encT t = l2 at *
      clear hsm hb2 ho5 hk5
      go_wp2_with fail
      refine HSM.out.mono ?_
      rintro e w6 ⟨rfl, rfl⟩
      go_wp2_with fail
      refine (HA.out _ HK5.out).mono ?_
      rintro e w7 ⟨rfl, hk7⟩
      have hkf := HK5.out.trans hk7
      go_wp2
      go_ret
      exact ⟨rfl, hkf⟩
  by_cases k2 : kind = 2
  · have HKD := Lib.hid k2
    have e1 : (kind == 1) = false := by simp [k2]
    have e2 : (kind == 2) = true := by simp [k2]
    clear k1 k2
    by_cases hE : deleteE t path n = 0
    · skip
      have HNE := Lib.hid (show deleteS t path n ≠ t from delete_new hE)
      have hdl := delete_any HT2.out path n (by omega)
      rw [HPL.out] at hdl
      rw [hE] at hdl
      have HDL := Lib.hid hdl
      clear hdl hE
      go_wp2_with fail
      refine HDL.out.mono ?_
      rintro e w4 ⟨rfl, h4, hc4⟩
      have H4 := Lib.hid h4
      have HC4 := Lib.hid hc4
      clear h4 hc4
      obtain ⟨st4, hT4, hp4⟩ := H4.out
      have hp5 : plainZ st4 = deleteS t path n := hp4
      have hwf4 : WF (deleteS t path n) := HWF.out.delete _ _
      have hwb4 : WB (xs.length + 1) (deleteS t path n) := (HWB.out.delete _ _).more (Nat.le_succ _)
      have hlt4 : (deleteS t path n).length ≤ xs.length + 2 := by rw [← hp5]; unfold plainZ; rw [length_mapZ]; exact hT4.few
      have hen := encode_any _ tb mb st4 (xs.length + 1) _ hT4 (by omega) (by have := encT_few hwf4 hwb4 hlt4; rw [hp5]; omega)
      rw [hp5, encodeP_good hwb4 (by omega)] at hen
      have HEQ := Lib.hid (show (encT t == encT (deleteS t path n)) = false from enc_ne HWF.out HWB.out (by omega) hwf4 hwb4 (by omega) HNE.out)
      generalize encT (deleteS t path n) = l4 at *
      have HE4 := Lib.hid hen
      clear hen hT4 hp4 hp5 hwf4 hwb4 hlt4
      go_wp2_with fail
      refine HE4.out.mono ?_
      rintro e w5 ⟨u5, rfl, ho5, hk5⟩
      obtain ⟨A5, c5, rfl⟩ := own_form ho5
      have hb2 : Bts w5 (.slice A2 (encT t).length c2) (encT t) := Bts.of_own (own_kept (own_chg HO2.out HC4.out (fun g hg x => by have h1 := (HF.out g x).2; have h2 := (HO2.out.lt g hg).1; omega)) hk5)
      have hsm := same_any (encT t) l4 _ _ w5 hb2 (Bts.of_own ho5)
      rw [HEQ.out] at hsm
      have HSM := Lib.hid hsm
      have HK5 := Lib.hid (show Kept w w5 from (HC4.out.kept HKW.out (fun g x => by have h1 := (HF.out g x).1; have h2 := HKA.out; omega)).trans hk5)
      generalize encT t = l2 at *
      clear hsm hb2 ho5 hk5
      go_wp2_with fail
      refine HSM.out.mono ?_
      rintro e w6 ⟨rfl, rfl⟩
      go_wp2_with fail
      refine (HA.out _ HK5.out).mono ?_
      rintro e w7 ⟨rfl, hk7⟩
      have hkf := HK5.out.trans hk7
      go_wp2
      go_ret
      exact ⟨rfl, hkf⟩
    · skip
      have HS0 := Lib.hid (show deleteS t path n = t from by unfold deleteS; rw [if_neg hE])
      have hdl := delete_any HT2.out path n (by omega)
      rw [HPL.out] at hdl
      rw [HS0.out] at hdl
      obtain ⟨ce, hce⟩ : ∃ ce, deleteE t path n = ce := ⟨_, rfl⟩
      rw [hce] at hE hdl
      have t1 : (ce != 0) = true := by rw [bne_iff_ne]; exact hE
      have HDL := Lib.hid hdl
      clear hdl hE
      go_wp2_with fail
      refine HDL.out.mono ?_
      rintro e w4 ⟨rfl, h4, hc4⟩
      have H4 := Lib.hid h4
      have HC4 := Lib.hid hc4
      clear h4 hc4
      obtain ⟨st4, hT4, hp4⟩ := H4.out
      have hp5 : plainZ st4 = t := hp4
      have hwf4 : WF (t) := HWF.out
      have hwb4 : WB (xs.length + 1) (t) := HWB.out.more (Nat.le_succ _)
      have hlt4 : (t).length ≤ xs.length + 2 := by rw [← hp5]; unfold plainZ; rw [length_mapZ]; exact hT4.few
      have hen := encode_any _ tb mb st4 (xs.length + 1) _ hT4 (by omega) (by have := encT_few hwf4 hwb4 hlt4; rw [hp5]; omega)
      rw [hp5, encodeP_good hwb4 (by omega)] at hen
      have HEQ := Lib.hid (show (encT t == encT (t)) = true from by simp)
      have HE4 := Lib.hid hen
      clear hen hT4 hp4 hp5 hwf4 hwb4 hlt4
      go_wp2_with fail
      refine HE4.out.mono ?_
      rintro e w5 ⟨u5, rfl, ho5, hk5⟩
      obtain ⟨A5, c5, rfl⟩ := own_form ho5
      have hb2 : Bts w5 (.slice A2 (encT t).length c2) (encT t) := Bts.of_own (own_kept (own_chg HO2.out HC4.out (fun g hg x => by have h1 := (HF.out g x).2; have h2 := (HO2.out.lt g hg).1; omega)) hk5)
      have hsm := same_any (encT t) (encT t) _ _ w5 hb2 (Bts.of_own ho5)
      rw [HEQ.out] at hsm
      have HSM := Lib.hid hsm
      have HK5 := Lib.hid (show Kept w w5 from (HC4.out.kept HKW.out (fun g x => by have h1 := (HF.out g x).1; have h2 := HKA.out; omega)).trans hk5)
      generalize encT t = l2 at *
      clear hsm hb2 ho5 hk5
      go_wp2_with fail
      refine HSM.out.mono ?_
      rintro e w6 ⟨rfl, rfl⟩
      go_wp2_with fail
      refine (HA.out _ HK5.out).mono ?_
      rintro e w7 ⟨rfl, hk7⟩
      have hkf := HK5.out.trans hk7
      go_wp2
      go_ret
      exact ⟨rfl, hkf⟩
  by_cases k3 : kind = 3
  · have HKD := Lib.hid k3
    have e1 : (kind == 1) = false := by simp [k3]
    have e2 : (kind == 2) = false := by simp [k3]
    have e3 : (kind == 3) = true := by simp [k3]
    clear k1 k2 k3
    by_cases hE : setE t path data.length n = 0
    · skip
      have HNE := Lib.hid (show setS t path data n ≠ t from (set_new hE).1)
      have hKd := (Kept.refl w2).drew
      have HCP := Lib.hid (show ∀ W, Kept w2 W → _ from fun W hW => copy_any data (.slice Ad data.length cd) W (HDT.out.kept (HKW.out.trans hW)) hof)
      have hcr := (show ∀ v3 W, Kept w2 W → Bts W v3 data → _ from fun v3 W hW hb => set_any (HT2.out.kept hW) path data v3 n hb (by omega))
      simp only [HPL.out] at hcr
      simp only [hE] at hcr
      generalize setV t path data.length n = sv at *
      have HCR := Lib.hid hcr
      clear hcr hE
      go_wp2_with fail
      go_region_held3 (fun W => W.cell? ⟨w.heap.size, 1, none⟩ = some (.int .i64 n) ∧ W.cell? ⟨w.heap.size, 2, none⟩ = some (.string ⟨path.toArray⟩) ∧ W.cell? ⟨w.heap.size, 3, none⟩ = some (.slice Ad data.length cd))
        (first | exact ⟨q1, q2, q3⟩ | exact ⟨hKd.cell q1, hKd.cell q2, hKd.cell q3⟩ | exact ⟨u1, u2, u3⟩ | exact ⟨z1, z2, z3⟩)
        (first
          | (go_at_call 16; refine (HCP.out _ hKd).mono ?_; rintro e w3 ⟨v3, rfl, ho3, hk3⟩; have hq3 := hKd.trans hk3; have u1 := hq3.cell q1; have u2 := hq3.cell q2; have u3 := hq3.cell q3; have HK3 := Lib.hid hq3; have HB3 := Lib.hid (Bts.of_own ho3); clear ho3 hk3 hq3)
          | (go_at_call 34; refine (HCR.out _ _ HK3.out HB3.out).mono ?_; rintro e w4 ⟨rfl, h4, hc4⟩; have z1 := chg_cellS hc4 u1 HNF.out; have z2 := chg_cellS hc4 u2 HNF.out; have z3 := chg_cellS hc4 u3 HNF.out; have H4 := Lib.hid h4; have HC4 := Lib.hid hc4; clear h4 hc4))
      obtain ⟨st4, hT4, hp4⟩ := H4.out
      have hp5 : plainZ st4 = setS t path data n := hp4
      have hwf4 : WF (setS t path data n) := HWF.out.setting _ _ _
      have hwb4 : WB (xs.length + 1) (setS t path data n) := HWB.out.setting _ _ _
      have hlt4 : (setS t path data n).length ≤ xs.length + 2 := by rw [← hp5]; unfold plainZ; rw [length_mapZ]; exact hT4.few
      have hen := encode_any _ tb mb st4 (xs.length + 1) _ hT4 (by omega) (by have := encT_few hwf4 hwb4 hlt4; rw [hp5]; omega)
      rw [hp5, encodeP_good hwb4 (by omega)] at hen
      have HEQ := Lib.hid (show (encT t == encT (setS t path data n)) = false from enc_ne HWF.out HWB.out (by omega) hwf4 hwb4 (by omega) HNE.out)
      generalize encT (setS t path data n) = l4 at *
      have HE4 := Lib.hid hen
      clear hen hT4 hp4 hp5 hwf4 hwb4 hlt4
      go_wp2_with fail
      refine HE4.out.mono ?_
      rintro e w5 ⟨u5, rfl, ho5, hk5⟩
      obtain ⟨A5, c5, rfl⟩ := own_form ho5
      have hb2 : Bts w5 (.slice A2 (encT t).length c2) (encT t) := Bts.of_own (own_kept (own_chg (own_kept HO2.out HK3.out) HC4.out (fun g hg x => by have h1 := (HF.out g x).2; have h2 := (HO2.out.lt g hg).1; omega)) hk5)
      have hsm := same_any (encT t) l4 _ _ w5 hb2 (Bts.of_own ho5)
      rw [HEQ.out] at hsm
      have HSM := Lib.hid hsm
      have HK5 := Lib.hid (show Kept w w5 from (HC4.out.kept (HKW.out.trans HK3.out) (fun g x => by have h1 := (HF.out g x).1; have h2 := HKA.out; omega)).trans hk5)
      generalize encT t = l2 at *
      clear hsm hb2 ho5 hk5
      go_wp2_with fail
      refine HSM.out.mono ?_
      rintro e w6 ⟨rfl, rfl⟩
      go_wp2_with fail
      refine (HA.out _ HK5.out).mono ?_
      rintro e w7 ⟨rfl, hk7⟩
      have hkf := HK5.out.trans hk7
      go_wp2
      go_ret
      exact ⟨rfl, hkf⟩
    · skip
      have HS0 := Lib.hid (show setS t path data n = t from by unfold setS; rw [if_neg hE])
      have hKd := (Kept.refl w2).drew
      have HCP := Lib.hid (show ∀ W, Kept w2 W → _ from fun W hW => copy_any data (.slice Ad data.length cd) W (HDT.out.kept (HKW.out.trans hW)) hof)
      have hcr := (show ∀ v3 W, Kept w2 W → Bts W v3 data → _ from fun v3 W hW hb => set_any (HT2.out.kept hW) path data v3 n hb (by omega))
      simp only [HPL.out] at hcr
      have hsv : setV t path data.length n = 0 := by unfold setV; rw [if_neg hE]
      simp only [hsv, HS0.out] at hcr
      obtain ⟨ce, hce⟩ : ∃ ce, setE t path data.length n = ce := ⟨_, rfl⟩
      rw [hce] at hE
      simp only [hce] at hcr
      have t1 : (ce != 0) = true := by rw [bne_iff_ne]; exact hE
      have HCR := Lib.hid hcr
      clear hcr hE
      go_wp2_with fail
      go_region_held3 (fun W => W.cell? ⟨w.heap.size, 1, none⟩ = some (.int .i64 n) ∧ W.cell? ⟨w.heap.size, 2, none⟩ = some (.string ⟨path.toArray⟩) ∧ W.cell? ⟨w.heap.size, 3, none⟩ = some (.slice Ad data.length cd))
        (first | exact ⟨q1, q2, q3⟩ | exact ⟨hKd.cell q1, hKd.cell q2, hKd.cell q3⟩ | exact ⟨u1, u2, u3⟩ | exact ⟨z1, z2, z3⟩)
        (first
          | (go_at_call 16; refine (HCP.out _ hKd).mono ?_; rintro e w3 ⟨v3, rfl, ho3, hk3⟩; have hq3 := hKd.trans hk3; have u1 := hq3.cell q1; have u2 := hq3.cell q2; have u3 := hq3.cell q3; have HK3 := Lib.hid hq3; have HB3 := Lib.hid (Bts.of_own ho3); clear ho3 hk3 hq3)
          | (go_at_call 34; refine (HCR.out _ _ HK3.out HB3.out).mono ?_; rintro e w4 ⟨rfl, h4, hc4⟩; have z1 := chg_cellS hc4 u1 HNF.out; have z2 := chg_cellS hc4 u2 HNF.out; have z3 := chg_cellS hc4 u3 HNF.out; have H4 := Lib.hid h4; have HC4 := Lib.hid hc4; clear h4 hc4))
      obtain ⟨st4, hT4, hp4⟩ := H4.out
      have hp5 : plainZ st4 = t := hp4
      have hwf4 : WF (t) := HWF.out
      have hwb4 : WB (xs.length + 1) (t) := HWB.out.more (Nat.le_succ _)
      have hlt4 : (t).length ≤ xs.length + 2 := by rw [← hp5]; unfold plainZ; rw [length_mapZ]; exact hT4.few
      have hen := encode_any _ tb mb st4 (xs.length + 1) _ hT4 (by omega) (by have := encT_few hwf4 hwb4 hlt4; rw [hp5]; omega)
      rw [hp5, encodeP_good hwb4 (by omega)] at hen
      have HEQ := Lib.hid (show (encT t == encT (t)) = true from by simp)
      have HE4 := Lib.hid hen
      clear hen hT4 hp4 hp5 hwf4 hwb4 hlt4
      go_wp2_with fail
      refine HE4.out.mono ?_
      rintro e w5 ⟨u5, rfl, ho5, hk5⟩
      obtain ⟨A5, c5, rfl⟩ := own_form ho5
      have hb2 : Bts w5 (.slice A2 (encT t).length c2) (encT t) := Bts.of_own (own_kept (own_chg (own_kept HO2.out HK3.out) HC4.out (fun g hg x => by have h1 := (HF.out g x).2; have h2 := (HO2.out.lt g hg).1; omega)) hk5)
      have hsm := same_any (encT t) (encT t) _ _ w5 hb2 (Bts.of_own ho5)
      rw [HEQ.out] at hsm
      have HSM := Lib.hid hsm
      have HK5 := Lib.hid (show Kept w w5 from (HC4.out.kept (HKW.out.trans HK3.out) (fun g x => by have h1 := (HF.out g x).1; have h2 := HKA.out; omega)).trans hk5)
      generalize encT t = l2 at *
      clear hsm hb2 ho5 hk5
      go_wp2_with fail
      refine HSM.out.mono ?_
      rintro e w6 ⟨rfl, rfl⟩
      go_wp2_with fail
      refine (HA.out _ HK5.out).mono ?_
      rintro e w7 ⟨rfl, hk7⟩
      have hkf := HK5.out.trans hk7
      go_wp2
      go_ret
      exact ⟨rfl, hkf⟩
  have e1 : (kind == 1) = false := by simpa using k1
  have e2 : (kind == 2) = false := by simpa using k2
  have e3 : (kind == 3) = false := by simpa using k3
  clear k1 k2 k3
  go_wp2_with fail
  refine (HA.out _ HKW.out).mono ?_
  rintro e w7 ⟨rfl, hk7⟩
  have hkf := HKW.out.trans hk7
  go_wp2
  go_ret
  exact ⟨rfl, hkf⟩
end Go.Proofs.YtmodolighoojoaaGreatDoor
