/- The walk of Get. The walk of Set. -/
import Derived.Test.YtennlckfmgfjbaaGreatDoorGZNew3
import Derived.Deep.CutBlock
import Derived.Deep.DeepCutAuto
import Derived.Test.YtennlckfmgfjbaaGreatDoorGZCr2
set_option linter.unusedSimpArgs false
set_option linter.unusedVariables false
namespace Go.Proofs.YtennlckfmgfjbaaGreatDoor
open Go.RowKit
def statV (n : ZN) : Value := .agg #[.int .i64 (n.ver : Int), .int .i64 (n.ctr : Int), .int .i64 (n.own : Int), .int .i64 n.kids]
set_option maxRecDepth 100000 in
set_option maxHeartbeats 4000000 in
theorem get_ok (w : World) (tb mb : Nat) (st : ZSt) (lim : Nat) (F : Nat → Prop) (h : TreeAt w tb mb st lim F) (p : Pth) (e : ZE) (hn : (names p).isSome = true) (hg : getZ p st = some e) :
    Calls Tryz.prog 16 #[.pointer (some ⟨tb, 0, none⟩), .string ⟨p.toArray⟩] w fun x w' => ∃ v, x = .returned (.tuple #[v, statV e.nd, .int .i64 0]) ∧ w'.ownsRow w.heap.size 5 1 v e.nd.data.length (Lib.byteCells e.nd.data) ∧ Kept w w' := by
  have hka := (Kept.refl w).alloc (.cells #[.int .i64 0, .int .i64 0, .int .i64 0, .int .i64 0] 60)
  have hna := heap_alloc_new w (.cells #[.int .i64 0, .int .i64 0, .int .i64 0, .int .i64 0] 60)
  have hsa : (w.alloc (.cells #[.int .i64 0, .int .i64 0, .int .i64 0, .int .i64 0] 60)).heap.size = w.heap.size + 1 := by simp
  have hfi := zfind_any (h.kept hka) p
  rw [(findE_ok hn hg).1, (findE_ok hn hg).2] at hfi
  have HFI := Lib.hid hfi
  have HN := Lib.hid (h.get hg)
  have HKA := Lib.hid hka
  have hdl := (h.get hg).2.small
  clear h hn hg hfi
  obtain ⟨nb, dv, nd⟩ := e
  unfold ptrZ at HFI
  unfold statV
  simp only at HFI HN hdl ⊢
  have hnbl : nb < w.heap.size := (Array.getElem?_eq_some_iff.1 HN.out.1.1).1
  have hO : w.ownsRow 0 5 1 dv nd.data.length (Lib.byteCells nd.data) := HN.out.1.2
  obtain ⟨Ad, cd, rfl⟩ := own_form hO
  clear hO
  go_enter Tryz.func16, Tryz.ntmps16
  go_upto_region 1 with (fail)
  generalize w.alloc (.cells #[.int .i64 0, .int .i64 0, .int .i64 0, .int .i64 0] 60) = wa at *
  go_wp2_with fail
  refine HFI.out.mono ?_
  rintro x w1 ⟨rfl, hk⟩
  have HK := Lib.hid hk
  have hN1 := (HKA.out.trans hk).block' HN.out.1.1
  have c0 := cell_at hN1 0
  have c1 := cell_at hN1 1
  have c2 := cell_at hN1 2
  have c3 := cell_at hN1 3
  have c4 := cell_at hN1 4
  simp only [List.getElem?_toArray, List.getElem?_cons_zero, List.getElem?_cons_succ] at c0 c1 c2 c3 c4
  have hb1 := hk.block' hna
  have HB1 := Lib.hid hb1
  have hKd := (Kept.refl w1).drew
  have HBC := Lib.hid (show ∀ W, Kept w1 W → _ from fun W k => bclone_any nd.data (.slice Ad nd.data.length cd) W ((Bts.of_own HN.out.1.2).kept ((HKA.out.trans HK.out).trans k)) (by omega))
  have hne : ¬ nb = w.heap.size := by omega
  clear hk hN1 hna hka hb1
  go_wp2_with fail
  go_region_held3 (fun W => W.cell? ⟨nb, 0, none⟩ = some (.int .i64 (nd.ver : Int)) ∧ W.cell? ⟨nb, 1, none⟩ = some (.int .i64 (nd.ctr : Int)) ∧ W.cell? ⟨nb, 2, none⟩ = some (.int .i64 (nd.own : Int)) ∧ W.cell? ⟨nb, 3, none⟩ = some (.int .i64 nd.kids) ∧ W.cell? ⟨nb, 4, none⟩ = some (.slice Ad nd.data.length cd))
    (first | exact ⟨c0, c1, c2, c3, c4⟩ | exact ⟨hKd.cell c0, hKd.cell c1, hKd.cell c2, hKd.cell c3, hKd.cell c4⟩ | exact ⟨z0, z1, z2, z3, z4⟩ | exact ⟨y0, y1, y2, y3, y4⟩)
    (first
      | (go_at_call 45; refine (HBC.out _ hKd).mono ?_; rintro x w4 ⟨v4, rfl, ho4, hk4⟩; obtain ⟨A4, c4', rfl⟩ := own_form ho4; have hq4 := hKd.trans hk4; have z0 := hq4.cell c0; have z1 := hq4.cell c1; have z2 := hq4.cell c2; have z3 := hq4.cell c3; have z4 := hq4.cell c4; have HO4 := Lib.hid ho4; have HK4 := Lib.hid hq4; have hb4 := hq4.block' HB1.out; have HB4 := Lib.hid hb4; have hf0 := frozen_at hb4 0; have hf1 := frozen_at hb4 1; have hf2 := frozen_at hb4 2; have hf3 := frozen_at hb4 3; have hcb0 := cell_at hb4 0; have hcb1 := cell_at hb4 1; have hcb2 := cell_at hb4 2; have hcb3 := cell_at hb4 3; have hcs : Chg (fun g => g = w.heap.size) w4 ((((w4.setCell ⟨w.heap.size, 0, none⟩ (.int .i64 (nd.ver : Int))).setCell ⟨w.heap.size, 1, none⟩ (.int .i64 (nd.ctr : Int))).setCell ⟨w.heap.size, 2, none⟩ (.int .i64 (nd.own : Int))).setCell ⟨w.heap.size, 3, none⟩ (.int .i64 nd.kids)) := ((((Chg.refl (fun g => g = w.heap.size) w4).setCell _ (fun _ => rfl)).setCell _ (fun _ => rfl)).setCell _ (fun _ => rfl)).setCell _ (fun _ => rfl); have y0 := chg_cellS hcs z0 hne; have y1 := chg_cellS hcs z1 hne; have y2 := chg_cellS hcs z2 hne; have y3 := chg_cellS hcs z3 hne; have y4 := chg_cellS hcs z4 hne; have HCS := Lib.hid hcs; clear ho4 hk4 hq4 hcs hb4))
  have h51 := Lib.heap_setCell_same (i := 0) HB4.out (.int .i64 (nd.ver : Int))
  have h52 := Lib.heap_setCell_same (i := 1) h51 (.int .i64 (nd.ctr : Int))
  have h53 := Lib.heap_setCell_same (i := 2) h52 (.int .i64 (nd.own : Int))
  have h54 := Lib.heap_setCell_same (i := 3) h53 (.int .i64 nd.kids)
  obtain ⟨w5, hw5⟩ : ∃ w5, w5 = (((w4.setCell ⟨w.heap.size, 0, none⟩ (.int .i64 (nd.ver : Int))).setCell ⟨w.heap.size, 1, none⟩ (.int .i64 (nd.ctr : Int))).setCell ⟨w.heap.size, 2, none⟩ (.int .i64 (nd.own : Int))).setCell ⟨w.heap.size, 3, none⟩ (.int .i64 nd.kids) := ⟨_, rfl⟩
  have HC5 := Lib.hid HCS.out
  rw [← hw5] at h54 HC5 ⊢
  have hb5 : w5.heap[w.heap.size]? = some (.cells #[.int .i64 (nd.ver : Int), .int .i64 (nd.ctr : Int), .int .i64 (nd.own : Int), .int .i64 nd.kids] 60 (0, 0)) := by simpa using h54
  have d0 := cell_at hb5 0
  have d1 := cell_at hb5 1
  have d2 := cell_at hb5 2
  have d3 := cell_at hb5 3
  simp only [List.getElem?_toArray, List.getElem?_cons_zero, List.getElem?_cons_succ] at d0 d1 d2 d3
  have hrow : w5.ownsRow w.heap.size 5 1 (.slice A4 nd.data.length c4') nd.data.length (Lib.byteCells nd.data) := own_base' (own_chg HO4.out HC5.out (fun g hg x => by
    have h1 := (HO4.out.lt g hg).1
    have h2 : w1.drew.heap.size = w1.heap.size := rfl
    have h3 := HK.out.size
    omega)) (by have h3 := HK.out.size; have h2 : w1.drew.heap.size = w1.heap.size := rfl; omega)
  have hkf : Kept w w5 := Chg.kept ((HKA.out.trans HK.out).trans HK4.out) HC5.out (fun g x => by omega)
  have HROW := Lib.hid hrow
  have HKF := Lib.hid hkf
  clear h51 h52 h53 h54 hw5 hb5 hrow hkf c0 c1 c2 c3 c4 z0 z1 z2 z3 z4 y0 y1 y2 y3 y4 hf0 hf1 hf2 hf3 hcb0 hcb1 hcb2 hcb3
  go_wp2
  (try simp only [Exit.inBlock, Exit.then])
  refine bodyPost_ret (v := .tuple #[.slice A4 nd.data.length c4', .agg #[.int .i64 (nd.ver : Int), .int .i64 (nd.ctr : Int), .int .i64 (nd.own : Int), .int .i64 nd.kids], .int .i64 0]) (by simp [results, Tryz.results16, go_sem, d0, d1, d2, d3]) rfl ?_
  exact ⟨_, rfl, HROW.out, HKF.out⟩
end Go.Proofs.YtennlckfmgfjbaaGreatDoor
set_option linter.unusedSimpArgs false
set_option linter.unusedVariables false
namespace Go.Proofs.YtennlckfmgfjbaaGreatDoor
open Go.RowKit
theorem set_cases (t : ZT) (p : Pth) (dl : Nat) (v : Int) :
    (parentOf p = none ∧ setE t p dl v = 20) ∨
    ∃ up, parentOf p = some up ∧
      (256 < dl ∧ setE t p dl v = 75 ∨
      dl ≤ 256 ∧
        (getZ p t = none ∧ setE t p dl v = 70 ∨
        ∃ n, getZ p t = some n ∧ (verOK v n = false ∧ setE t p dl v = 72 ∨ verOK v n = true ∧ setE t p dl v = 0))) := by
  unfold setE
  cases hp : parentOf p with
  | none => exact .inl ⟨rfl, rfl⟩
  | some up =>
    refine .inr ⟨up, rfl, ?_⟩
    simp only
    by_cases h1 : 256 < dl
    · exact .inl ⟨h1, by rw [if_pos h1]⟩
    · refine .inr ⟨by omega, ?_⟩
      rw [if_neg h1]
      cases hn : getZ p t with
      | none => exact .inl ⟨rfl, rfl⟩
      | some n =>
        refine .inr ⟨n, rfl, ?_⟩
        simp only
        cases hv : verOK v n with
        | false => exact .inl ⟨rfl, by simp⟩
        | true => exact .inr ⟨rfl, by simp⟩
section
variable {w : World} {tb mb : Nat} {st : ZSt} {lim : Nat} {F : Nat → Prop}
set_option maxRecDepth 100000 in
set_option maxHeartbeats 4000000 in
theorem set_any (h : TreeAt w tb mb st lim F) (p : Pth) (data : List UInt8) (dv0 : Value) (v : Int) (hv : Bts w dv0 data) (hlim : lim + 2 < 4611686018427387903) :
    Calls Tryz.prog 73 #[.pointer (some ⟨tb, 0, none⟩), .string ⟨p.toArray⟩, dv0, .int .i64 v] w fun e w' => e = .returned (.tuple #[.int .i64 (setV (plainZ st) p data.length v), .int .i64 (setE (plainZ st) p data.length v)]) ∧
      (∃ st', TreeAt w' tb mb st' (lim + 1) (ext F w w') ∧ plainZ st' = setS (plainZ st) p data v) ∧ Chg F w w' := by
  have HCK := Lib.hid (zcheck_any p data dv0 hv)
  unfold zcheckE at HCK
  have HV := Lib.hid hv
  obtain ⟨A, c, rfl, hc1, hc2, -⟩ := hv
  have H := Lib.hid h
  have same : ∀ {w' : World}, setE (plainZ st) p data.length v ≠ 0 → Kept w w' → (∃ st', TreeAt w' tb mb st' (lim + 1) (ext F w w') ∧ plainZ st' = setS (plainZ st) p data v) ∧ Chg F w w' := fun hne k =>
    ⟨⟨st, ((H.out.kept k).more (Nat.le_succ _)).mono (fun g x => .inl x), by unfold setS; rw [if_neg hne]⟩, Chg.of_kept k⟩
  have hsv : setE (plainZ st) p data.length v ≠ 0 → setV (plainZ st) p data.length v = 0 := fun hne => by unfold setV; rw [if_neg hne]
  rcases set_cases (plainZ st) p data.length v with ⟨hp, hq⟩ | ⟨up, hp, hrest⟩
  · rw [hp] at HCK
    have HS := Lib.hid (fun w' => same (w' := w') (by rw [hq]; decide))
    rw [hsv (by rw [hq]; decide), hq]
    clear h hp hq same hsv
    go_enter Tryz.func73, Tryz.ntmps73
    go_wp2_with fail
    refine HCK.out.mono ?_
    rintro e w1 ⟨rfl, hk⟩
    go_wp2
    go_ret2
    exact ⟨rfl, HS.out _ hk⟩
  have hpn := parent_names hp
  rw [hp] at HCK
  rcases hrest with ⟨hd, hq⟩ | ⟨hd, hrest⟩
  · rw [if_neg (by simp), if_pos hd] at HCK
    have HS := Lib.hid (fun w' => same (w' := w') (by rw [hq]; decide))
    rw [hsv (by rw [hq]; decide), hq]
    clear h hp hq same hsv hd
    go_enter Tryz.func73, Tryz.ntmps73
    go_wp2_with fail
    refine HCK.out.mono ?_
    rintro e w1 ⟨rfl, hk⟩
    go_wp2
    go_ret2
    exact ⟨rfl, HS.out _ hk⟩
  rw [if_neg (by simp), if_neg (by omega)] at HCK
  rcases hrest with ⟨hgp, hq⟩ | ⟨n, hgp, hrest⟩
  · have hn2 := findE_no hpn.1 (plainZ_none hgp)
    have hV := show ∀ W, Kept w W → _ from fun W k => ofVersion_no (H.out.kept k) p v (by rw [hn2.1]; decide)
    rw [hn2.1] at hV
    have HV2 := Lib.hid hV
    have HS := Lib.hid (fun w' => same (w' := w') (by rw [hq]; decide))
    rw [hsv (by rw [hq]; decide), hq]
    clear h hp hq same hsv hd hgp hn2 hV
    go_enter Tryz.func73, Tryz.ntmps73
    go_wp2_with fail
    refine HCK.out.mono ?_
    rintro e w1 ⟨rfl, hk⟩
    have HK := Lib.hid hk
    clear hk
    go_wp2_with fail
    refine (HV2.out w1 HK.out).mono ?_
    rintro e w2 ⟨rfl, hk2⟩
    go_wp2
    go_ret2
    exact ⟨rfl, HS.out _ (HK.out.trans hk2)⟩
  obtain ⟨e, hep, rfl⟩ := plainZ_get hgp
  have hV := show ∀ W, Kept w W → _ from fun W k => ofVersion_any (H.out.kept k) p v e hpn.1 hep
  have HGP := Lib.hid hep
  rcases hrest with ⟨hver, hq⟩ | ⟨hver, hq⟩
  · rw [hver] at hV
    simp only [Bool.false_eq_true, if_false] at hV
    have HV2 := Lib.hid hV
    have HS := Lib.hid (fun w' => same (w' := w') (by rw [hq]; decide))
    rw [hsv (by rw [hq]; decide), hq]
    clear h hp hq same hsv hd hgp hV hver hep
    go_enter Tryz.func73, Tryz.ntmps73
    go_wp2_with fail
    refine HCK.out.mono ?_
    rintro e w1 ⟨rfl, hk⟩
    have HK := Lib.hid hk
    clear hk
    go_wp2_with fail
    refine (HV2.out w1 HK.out).mono ?_
    rintro e w2 ⟨rfl, hk2⟩
    go_wp2
    go_ret2
    exact ⟨rfl, HS.out _ (HK.out.trans hk2)⟩
  rw [hver] at hV
  simp only [if_true] at hV
  have HV2 := Lib.hid hV
  have HQ := Lib.hid hq
  have HSV := Lib.hid (show setV (plainZ st) p data.length v = (e.nd.ver : Int) + 1 by unfold setV; rw [if_pos hq, hgp])
  rw [HSV.out, hq]
  have hgood := (h.get hep).2
  have HGD := Lib.hid hgood
  have hvl := hgood.ver
  have HHD := Lib.hid hd
  clear h hp hq same hsv hd hgp hV hver hep hgood
  obtain ⟨nb, dv, nd⟩ := e
  unfold ptrZ at HV2
  simp only at HV2 hvl ⊢
  go_enter Tryz.func73, Tryz.ntmps73
  go_wp2_with fail
  refine HCK.out.mono ?_
  rintro x w1 ⟨rfl, hk⟩
  have HK := Lib.hid hk
  clear hk
  go_wp2_with fail
  refine (HV2.out w1 HK.out).mono ?_
  rintro x w2 ⟨rfl, hk2⟩
  have HK2 := Lib.hid (HK.out.trans hk2)
  clear hk2
  have HBC := Lib.hid (bclone_any data (.slice A data.length c) w2 (HV.out.kept HK2.out) (by have := HHD.out; omega))
  go_wp2_with fail
  refine HBC.out.mono ?_
  rintro x w3 ⟨v3, rfl, ho3, hk3⟩
  obtain ⟨A3, c3, rfl⟩ := own_form ho3
  have HO3 := Lib.hid ho3
  have HK23 := Lib.hid hk3
  have HK3 := Lib.hid (HK2.out.trans hk3)
  have hT3 := H.out.kept HK3.out
  have HT3 := Lib.hid hT3
  have hN3 := (hT3.get HGP.out).1
  have HN3 := Lib.hid hN3
  have c0 := cell_at hN3.1 0
  have c4 := cell_at hN3.1 4
  simp only [List.getElem?_toArray, List.getElem?_cons_zero, List.getElem?_cons_succ] at c0 c4
  have f0 : w3.frozen? ⟨nb, 0, none⟩ = false := frozen_at hN3.1 0
  have f4 : w3.frozen? ⟨nb, 4, none⟩ = false := frozen_at hN3.1 4
  clear ho3 hk3 hT3 hN3
  have b1 : (nd.ver : Int) + 1 ≤ 9223372036854775807 := by omega
  go_wp2
  go_ret2
  obtain ⟨w6, hw6⟩ : ∃ w6 : World, w6 = (w3.setCell ⟨nb, 4, none⟩ (.slice A3 data.length c3)).setCell ⟨nb, 0, none⟩ (.int .i64 ((nd.ver : Int) + 1)) := ⟨_, rfl⟩
  have h61 := Lib.heap_setCell_same (i := 4) HN3.out.1 (.slice A3 data.length c3)
  have h62 := Lib.heap_setCell_same (i := 0) h61 (.int .i64 ((nd.ver : Int) + 1))
  have hc6 : Chg (fun g => g = nb) w3 w6 := by
    rw [hw6]
    exact ((Chg.refl (fun g => g = nb) w3).setCell _ (fun _ => rfl)).setCell _ (fun _ => rfl)
  simp only at h62
  rw [← hw6] at h62 ⊢
  have hs3 := HK3.out.size
  have hs2 := HK2.out.size
  have hs6 := hc6.size
  have hnl : nb < w2.heap.size := (H.out.kept HK2.out).nb_lt (getZ_mem HGP.out)
  have hN6 : NodeAt w6 ⟨nb, .slice A3 data.length c3, { nd with data := data, ver := nd.ver + 1 }⟩ := by
    refine ⟨?_, own_base' (own_chg HO3.out hc6 (fun g hg x => ?_)) (Nat.zero_le _)⟩
    · have e1 : ((nd.ver + 1 : Nat) : Int) = (nd.ver : Int) + 1 := by omega
      simp only [e1]
      simpa using h62
    · have := (HO3.out.lt g hg).1
      omega
  have hgd := HGD.out
  have hc26 : Chg (fun g => g = nb) w2 w6 := (Chg.of_kept (F := fun g => g = nb) HK23.out).trans hc6 (fun g _ x => x)
  have hs23 := HK23.out.size
  have hT6 := (H.out.kept HK2.out).on HGP.out (e' := ⟨nb, .slice A3 data.length c3, { nd with data := data, ver := nd.ver + 1 }⟩) rfl hN6 hc26 (lim' := lim + 1) (Nat.le_succ _) ⟨hgd.path, HHD.out, by show nd.ver + 1 ≤ _; have := hgd.ver; omega, hgd.ctr, hgd.own, by have := hgd.kidL; show -((lim + 1 : Nat) : Int) ≤ nd.kids; omega, by have := hgd.kidH; show nd.kids ≤ ((lim + 1 : Nat) : Int); omega⟩ (fun g hg => .inr (by have h1 := HO3.out.lt g hg; exact ⟨h1.1, by omega⟩))
  refine ⟨rfl, ⟨_, hT6.mono (fun g y => ?_), ?_⟩, ?_⟩
  · rcases y with y | y
    · exact .inl y
    · exact .inr ⟨by omega, y.2⟩
  · unfold plainZ setS
    rw [if_pos (show setE (mapZ ZE.nd st) p data.length v = 0 from HQ.out), mapZ_setZ]
    refine setZ_onZ (f := fun n => { n with data := data, ver := n.ver + 1 }) (n := nd) (srt_mapZ.2 H.out.srt) ?_
    rw [getZ_mapZ, HGP.out]
    rfl
  · refine (Chg.of_kept (F := F) HK3.out).trans hc6 (fun g _ y => ?_)
    rw [y]
    exact H.out.inN _ (getZ_mem HGP.out)
end
end Go.Proofs.YtennlckfmgfjbaaGreatDoor
