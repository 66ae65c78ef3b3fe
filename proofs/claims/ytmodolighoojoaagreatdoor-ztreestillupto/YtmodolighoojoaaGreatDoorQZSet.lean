/- The walk of Set. -/
import Derived.Test.YtmodolighoojoaaGreatDoorGZCr2
set_option linter.unusedSimpArgs false
set_option linter.unusedVariables false
namespace Go.Proofs.YtmodolighoojoaaGreatDoor
open Go.RowKit
theorem set_cases (t : ZT) (p : Pth) (dl : Nat) (v : Int) :
    (parentOf p = none ∧ setE t p dl v = 20) ∨
    ∃ up, parentOf p = some up ∧
      (256 < dl ∧ setE t p dl v = 75 ∨
      dl ≤ 256 ∧
        (getZ p t = none ∧ setE t p dl v = 70 ∨
        ∃ n, getZ p t = some n ∧ (verOK v n = false ∧ setE t p dl v = 72 ∨ verOK v n = true ∧ setE t p dl v = 0))) := by
  unfold setE
  cases hp : parentOf p with
  | none => exact .inl ⟨rfl, rfl⟩
  | some up =>
    refine .inr ⟨up, rfl, ?_⟩
    simp only
    by_cases h1 : 256 < dl
    · exact .inl ⟨h1, by rw [if_pos h1]⟩
    · refine .inr ⟨by omega, ?_⟩
      rw [if_neg h1]
      cases hn : getZ p t with
      | none => exact .inl ⟨rfl, rfl⟩
      | some n =>
        refine .inr ⟨n, rfl, ?_⟩
        simp only
        cases hv : verOK v n with
        | false => exact .inl ⟨rfl, by simp⟩
        | true => exact .inr ⟨rfl, by simp⟩
section
variable {w : World} {tb mb : Nat} {st : ZSt} {lim : Nat} {F : Nat → Prop}
set_option maxRecDepth 100000 in
set_option maxHeartbeats 4000000 in
theorem set_any (h : TreeAt w tb mb st lim F) (p : Pth) (data : List UInt8) (dv0 : Value) (v : Int) (hv : Bts w dv0 data) (hlim : lim + 2 < 4611686018427387903) :
    Calls Tryz.prog 34 #[.pointer (some ⟨tb, 0, none⟩), .string ⟨p.toArray⟩, dv0, .int .i64 v] w fun e w' => e = .returned (.tuple #[.int .i64 (setV (plainZ st) p data.length v), .int .i64 (setE (plainZ st) p data.length v)]) ∧
      (∃ st', TreeAt w' tb mb st' (lim + 1) (ext F w w') ∧ plainZ st' = setS (plainZ st) p data v) ∧ Chg F w w' := by
  have HCK := Lib.hid (zcheck_any p data dv0 hv)
  unfold zcheckE at HCK
  have HV := Lib.hid hv
  obtain ⟨A, c, rfl, hc1, hc2, -⟩ := hv
  have H := Lib.hid h
  have same : ∀ {w' : World}, setE (plainZ st) p data.length v ≠ 0 → Kept w w' → (∃ st', TreeAt w' tb mb st' (lim + 1) (ext F w w') ∧ plainZ st' = setS (plainZ st) p data v) ∧ Chg F w w' := fun hne k =>
    ⟨⟨st, ((H.out.kept k).more (Nat.le_succ _)).mono (fun g x => .inl x), by unfold setS; rw [if_neg hne]⟩, Chg.of_kept k⟩
  have hsv : setE (plainZ st) p data.length v ≠ 0 → setV (plainZ st) p data.length v = 0 := fun hne => by unfold setV; rw [if_neg hne]
  rcases set_cases (plainZ st) p data.length v with ⟨hp, hq⟩ | ⟨up, hp, hrest⟩
  · rw [hp] at HCK
    have HS := Lib.hid (fun w' => same (w' := w') (by rw [hq]; decide))
    rw [hsv (by rw [hq]; decide), hq]
    clear h hp hq same hsv
    go_enter Tryz.func34, Tryz.ntmps34
    go_wp2_with fail
    refine HCK.out.mono ?_
    rintro e w1 ⟨rfl, hk⟩
    go_wp2
    go_ret2
    exact ⟨rfl, HS.out _ hk⟩
  have hpn := parent_names hp
  rw [hp] at HCK
  rcases hrest with ⟨hd, hq⟩ | ⟨hd, hrest⟩
  · rw [if_neg (by simp), if_pos hd] at HCK
    have HS := Lib.hid (fun w' => same (w' := w') (by rw [hq]; decide))
    rw [hsv (by rw [hq]; decide), hq]
    clear h hp hq same hsv hd
    go_enter Tryz.func34, Tryz.ntmps34
    go_wp2_with fail
    refine HCK.out.mono ?_
    rintro e w1 ⟨rfl, hk⟩
    go_wp2
    go_ret2
    exact ⟨rfl, HS.out _ hk⟩
  rw [if_neg (by simp), if_neg (by omega)] at HCK
  rcases hrest with ⟨hgp, hq⟩ | ⟨n, hgp, hrest⟩
  · have hn2 := findE_no hpn.1 (plainZ_none hgp)
    have hV := show ∀ W, Kept w W → _ from fun W k => ofVersion_no (H.out.kept k) p v (by rw [hn2.1]; decide)
    rw [hn2.1] at hV
    have HV2 := Lib.hid hV
    have HS := Lib.hid (fun w' => same (w' := w') (by rw [hq]; decide))
    rw [hsv (by rw [hq]; decide), hq]
    clear h hp hq same hsv hd hgp hn2 hV
    go_enter Tryz.func34, Tryz.ntmps34
    go_wp2_with fail
    refine HCK.out.mono ?_
    rintro e w1 ⟨rfl, hk⟩
    have HK := Lib.hid hk
    clear hk
    go_wp2_with fail
    refine (HV2.out w1 HK.out).mono ?_
    rintro e w2 ⟨rfl, hk2⟩
    go_wp2
    go_ret2
    exact ⟨rfl, HS.out _ (HK.out.trans hk2)⟩
  obtain ⟨e, hep, rfl⟩ := plainZ_get hgp
  have hV := show ∀ W, Kept w W → _ from fun W k => ofVersion_any (H.out.kept k) p v e hpn.1 hep
  have HGP := Lib.hid hep
  rcases hrest with ⟨hver, hq⟩ | ⟨hver, hq⟩
  · rw [hver] at hV
    simp only [Bool.false_eq_true, if_false] at hV
    have HV2 := Lib.hid hV
    have HS := Lib.hid (fun w' => same (w' := w') (by rw [hq]; decide))
    rw [hsv (by rw [hq]; decide), hq]
    clear h hp hq same hsv hd hgp hV hver hep
    go_enter Tryz.func34, Tryz.ntmps34
    go_wp2_with fail
    refine HCK.out.mono ?_
    rintro e w1 ⟨rfl, hk⟩
    have HK := Lib.hid hk
    clear hk
    go_wp2_with fail
    refine (HV2.out w1 HK.out).mono ?_
    rintro e w2 ⟨rfl, hk2⟩
    go_wp2
    go_ret2
    exact ⟨rfl, HS.out _ (HK.out.trans hk2)⟩
  rw [hver] at hV
  simp only [if_true] at hV
  have HV2 := Lib.hid hV
  have HQ := Lib.hid hq
  have HSV := Lib.hid (show setV (plainZ st) p data.length v = (e.nd.ver : Int) + 1 by unfold setV; rw [if_pos hq, hgp])
  rw [HSV.out, hq]
  have hgood := (h.get hep).2
  have HGD := Lib.hid hgood
  have hvl := hgood.ver
  have HHD := Lib.hid hd
  clear h hp hq same hsv hd hgp hV hver hep hgood
  obtain ⟨nb, dv, nd⟩ := e
  unfold ptrZ at HV2
  simp only at HV2 hvl ⊢
  go_enter Tryz.func34, Tryz.ntmps34
  go_wp2_with fail
  refine HCK.out.mono ?_
  rintro x w1 ⟨rfl, hk⟩
  have HK := Lib.hid hk
  clear hk
  go_wp2_with fail
  refine (HV2.out w1 HK.out).mono ?_
  rintro x w2 ⟨rfl, hk2⟩
  have HK2 := Lib.hid (HK.out.trans hk2)
  clear hk2
  have HBC := Lib.hid (bclone_any data (.slice A data.length c) w2 (HV.out.kept HK2.out) (by have := HHD.out; omega))
  go_wp2_with fail
  refine HBC.out.mono ?_
  rintro x w3 ⟨v3, rfl, ho3, hk3⟩
  obtain ⟨A3, c3, rfl⟩ := own_form ho3
  have HO3 := Lib.hid ho3
  have HK23 := Lib.hid hk3
  have HK3 := Lib.hid (HK2.out.trans hk3)
  have hT3 := H.out.kept HK3.out
  have HT3 := Lib.hid hT3
  have hN3 := (hT3.get HGP.out).1
  have HN3 := Lib.hid hN3
  have c0 := cell_at hN3.1 0
  have c4 := cell_at hN3.1 4
  simp only [List.getElem?_toArray, List.getElem?_cons_zero, List.getElem?_cons_succ] at c0 c4
  have f0 : w3.frozen? ⟨nb, 0, none⟩ = false := frozen_at hN3.1 0
  have f4 : w3.frozen? ⟨nb, 4, none⟩ = false := frozen_at hN3.1 4
  clear ho3 hk3 hT3 hN3
  have b1 : (nd.ver : Int) + 1 ≤ 9223372036854775807 := by omega
  go_wp2
  go_ret2
  obtain ⟨w6, hw6⟩ : ∃ w6 : World, w6 = (w3.setCell ⟨nb, 4, none⟩ (.slice A3 data.length c3)).setCell ⟨nb, 0, none⟩ (.int .i64 ((nd.ver : Int) + 1)) := ⟨_, rfl⟩
  have h61 := Lib.heap_setCell_same (i := 4) HN3.out.1 (.slice A3 data.length c3)
  have h62 := Lib.heap_setCell_same (i := 0) h61 (.int .i64 ((nd.ver : Int) + 1))
  have hc6 : Chg (fun g => g = nb) w3 w6 := by
    rw [hw6]
    exact ((Chg.refl (fun g => g = nb) w3).setCell _ (fun _ => rfl)).setCell _ (fun _ => rfl)
  simp only at h62
  rw [← hw6] at h62 ⊢
  have hs3 := HK3.out.size
  have hs2 := HK2.out.size
  have hs6 := hc6.size
  have hnl : nb < w2.heap.size := (H.out.kept HK2.out).nb_lt (getZ_mem HGP.out)
  have hN6 : NodeAt w6 ⟨nb, .slice A3 data.length c3, { nd with data := data, ver := nd.ver + 1 }⟩ := by
    refine ⟨?_, own_base' (own_chg HO3.out hc6 (fun g hg x => ?_)) (Nat.zero_le _)⟩
    · have e1 : ((nd.ver + 1 : Nat) : Int) = (nd.ver : Int) + 1 := by omega
      simp only [e1]
      simpa using h62
    · have := (HO3.out.lt g hg).1
      omega
  have hgd := HGD.out
  have hc26 : Chg (fun g => g = nb) w2 w6 := (Chg.of_kept (F := fun g => g = nb) HK23.out).trans hc6 (fun g _ x => x)
  have hs23 := HK23.out.size
  have hT6 := (H.out.kept HK2.out).on HGP.out (e' := ⟨nb, .slice A3 data.length c3, { nd with data := data, ver := nd.ver + 1 }⟩) rfl hN6 hc26 (lim' := lim + 1) (Nat.le_succ _) ⟨hgd.path, HHD.out, by show nd.ver + 1 ≤ _; have := hgd.ver; omega, hgd.ctr, hgd.own, by have := hgd.kidL; show -((lim + 1 : Nat) : Int) ≤ nd.kids; omega, by have := hgd.kidH; show nd.kids ≤ ((lim + 1 : Nat) : Int); omega⟩ (fun g hg => .inr (by have h1 := HO3.out.lt g hg; exact ⟨h1.1, by omega⟩))
  refine ⟨rfl, ⟨_, hT6.mono (fun g y => ?_), ?_⟩, ?_⟩
  · rcases y with y | y
    · exact .inl y
    · exact .inr ⟨by omega, y.2⟩
  · unfold plainZ setS
    rw [if_pos (show setE (mapZ ZE.nd st) p data.length v = 0 from HQ.out), mapZ_setZ]
    refine setZ_onZ (f := fun n => { n with data := data, ver := n.ver + 1 }) (n := nd) (srt_mapZ.2 H.out.srt) ?_
    rw [getZ_mapZ, HGP.out]
    rfl
  · refine (Chg.of_kept (F := F) HK3.out).trans hc6 (fun g _ y => ?_)
    rw [y]
    exact H.out.inN _ (getZ_mem HGP.out)
end
end Go.Proofs.YtmodolighoojoaaGreatDoor
