/- The walk of Delete. -/
import Derived.Test.YtennlckfmgfjbaaGreatDoorGZCr2
set_option linter.unusedSimpArgs false
set_option linter.unusedVariables false
namespace Go.Proofs.YtennlckfmgfjbaaGreatDoor
open Go.RowKit
theorem parent_ne {p up : Pth} (h : parentOf p = some up) : up ≠ p := by
  intro e
  subst e
  unfold parentOf at h
  cases hn : names up with
  | none => rw [hn] at h; cases h
  | some ls =>
    rw [hn] at h
    by_cases e : ls = []
    · simp [e] at h
    · simp only [e, if_false, Option.some.injEq] at h
      obtain ⟨h1, h2⟩ := names_some hn
      have h3 : okNames ls.dropLast = true := by
        have e2 : ls = ls.dropLast ++ [ls.getLast e] := (List.dropLast_concat_getLast e).symm
        rw [e2] at h1
        exact okNames_prefix h1
      have h4 := mk_inj h3 h1 (h.trans h2)
      have h5 := congrArg List.length h4
      rw [List.length_dropLast] at h5
      have : 0 < ls.length := by cases ls with | nil => exact absurd rfl e | cons _ _ => simp
      omega
theorem delete_cases (t : ZT) (p : Pth) (v : Int) :
    (parentOf p = none ∧ deleteE t p v = 20) ∨
    ∃ up, parentOf p = some up ∧
      (getZ up t = none ∧ deleteE t p v = 70 ∨
      ∃ m, getZ up t = some m ∧
        (getZ p t = none ∧ deleteE t p v = 70 ∨
        ∃ n, getZ p t = some n ∧
          (verOK v n = false ∧ deleteE t p v = 72 ∨
          verOK v n = true ∧ (0 < n.kids ∧ deleteE t p v = 73 ∨ n.kids ≤ 0 ∧ deleteE t p v = 0)))) := by
  unfold deleteE
  cases hp : parentOf p with
  | none => exact .inl ⟨rfl, rfl⟩
  | some up =>
    refine .inr ⟨up, rfl, ?_⟩
    simp only
    cases hg : getZ up t with
    | none => exact .inl ⟨rfl, rfl⟩
    | some m =>
      refine .inr ⟨m, rfl, ?_⟩
      simp only
      cases hn : getZ p t with
      | none => exact .inl ⟨rfl, rfl⟩
      | some n =>
        refine .inr ⟨n, rfl, ?_⟩
        simp only
        cases hv : verOK v n with
        | false => exact .inl ⟨rfl, by simp⟩
        | true =>
          refine .inr ⟨rfl, ?_⟩
          by_cases hk : 0 < n.kids
          · exact .inl ⟨hk, by simp [hk]⟩
          · exact .inr ⟨by omega, by simp [hk]⟩
section
variable {w : World} {tb mb : Nat} {st : ZSt} {lim : Nat} {F : Nat → Prop}
set_option maxRecDepth 100000 in
set_option maxHeartbeats 4000000 in
theorem delete_any (h : TreeAt w tb mb st lim F) (p : Pth) (v : Int) (hlim : lim + 2 < 4611686018427387903) :
    Calls Tryz.prog 43 #[.pointer (some ⟨tb, 0, none⟩), .string ⟨p.toArray⟩, .int .i64 v] w fun e w' => e = .returned (.int .i64 (deleteE (plainZ st) p v)) ∧
      (∃ st', TreeAt w' tb mb st' (lim + 1) (ext F w w') ∧ plainZ st' = deleteS (plainZ st) p v) ∧ Chg F w w' := by
  have H := Lib.hid h
  have same : ∀ {w' : World}, deleteE (plainZ st) p v ≠ 0 → Kept w w' → (∃ st', TreeAt w' tb mb st' (lim + 1) (ext F w w') ∧ plainZ st' = deleteS (plainZ st) p v) ∧ Chg F w w' := fun hne k =>
    ⟨⟨st, ((H.out.kept k).more (Nat.le_succ _)).mono (fun g x => .inl x), by unfold deleteS; rw [if_neg hne]⟩, Chg.of_kept k⟩
  rcases delete_cases (plainZ st) p v with ⟨hp, hq⟩ | ⟨up, hp, hrest⟩
  · have HA := Lib.hid (above_bad h p hp)
    have HS := Lib.hid (fun w' => same (w' := w') (by rw [hq]; decide))
    rw [hq]
    clear h hp hq same
    go_enter Tryz.func43, Tryz.ntmps43
    go_wp2_with fail
    refine HA.out.mono ?_
    rintro e w1 ⟨rfl, hk⟩
    go_wp2
    go_ret
    exact ⟨rfl, HS.out _ hk⟩
  have hpn := parent_names hp
  have hpl := names_lenZ hpn.1
  have HA := Lib.hid (above_any h p up hp)
  have HPN := Lib.hid hpn
  have HPP := Lib.hid hp
  rcases hrest with ⟨hg, hq⟩ | ⟨m, hg, hrest⟩
  · have hn := findE_no hpn.2 (plainZ_none hg)
    rw [hn.1, hn.2] at HA
    have HS := Lib.hid (fun w' => same (w' := w') (by rw [hq]; decide))
    rw [hq]
    clear h hp hq same hpn hg hn
    go_enter Tryz.func43, Tryz.ntmps43
    go_wp2_with fail
    refine HA.out.mono ?_
    rintro e w1 ⟨rfl, hk⟩
    go_wp2
    go_ret
    exact ⟨rfl, HS.out _ hk⟩
  obtain ⟨eu, hge, rfl⟩ := plainZ_get hg
  have hn := findE_ok hpn.2 hge
  rw [hn.1, hn.2] at HA
  have HGU := Lib.hid hge
  rcases hrest with ⟨hgp, hq⟩ | ⟨n, hgp, hrest⟩
  · have hn2 := findE_no hpn.1 (plainZ_none hgp)
    have hV := show ∀ W, Kept w W → _ from fun W k => ofVersion_no (H.out.kept k) p v (by rw [hn2.1]; decide)
    rw [hn2.1] at hV
    have HV := Lib.hid hV
    have HS := Lib.hid (fun w' => same (w' := w') (by rw [hq]; decide))
    rw [hq]
    clear h hp hq same hpn hg hn hgp hn2 hge hV
    go_enter Tryz.func43, Tryz.ntmps43
    go_wp2_with fail
    refine HA.out.mono ?_
    rintro e w1 ⟨rfl, hk⟩
    have HK := Lib.hid hk
    clear hk
    go_wp2_with fail
    refine (HV.out w1 HK.out).mono ?_
    rintro e w2 ⟨rfl, hk2⟩
    go_wp2
    go_ret
    exact ⟨rfl, HS.out _ (HK.out.trans hk2)⟩
  obtain ⟨e, hep, rfl⟩ := plainZ_get hgp
  have hV := show ∀ W, Kept w W → _ from fun W k => ofVersion_any (H.out.kept k) p v e hpn.1 hep
  have HGP := Lib.hid hep
  rcases hrest with ⟨hver, hq⟩ | ⟨hver, hrest⟩
  · rw [hver] at hV
    simp only [Bool.false_eq_true, if_false] at hV
    have HV := Lib.hid hV
    have HS := Lib.hid (fun w' => same (w' := w') (by rw [hq]; decide))
    rw [hq]
    clear h hp hq same hpn hg hn hgp hge hV hver hep
    go_enter Tryz.func43, Tryz.ntmps43
    go_wp2_with fail
    refine HA.out.mono ?_
    rintro x w1 ⟨rfl, hk⟩
    have HK := Lib.hid hk
    clear hk
    go_wp2_with fail
    refine (HV.out w1 HK.out).mono ?_
    rintro x w2 ⟨rfl, hk2⟩
    go_wp2
    go_ret
    exact ⟨rfl, HS.out _ (HK.out.trans hk2)⟩
  rw [hver] at hV
  simp only [if_true] at hV
  have HV := Lib.hid hV
  have HNE := Lib.hid (show ∀ W, Kept w W → _ from fun W k => cell_at ((H.out.kept k).get HGP.out).1.1 3)
  rcases hrest with ⟨hkd, hq⟩ | ⟨hkd, hq⟩
  · have HS := Lib.hid (fun w' => same (w' := w') (by rw [hq]; decide))
    rw [hq]
    have t1 : decide (0 < e.nd.kids) = true := by simpa using hkd
    clear h hp hq same hpn hg hn hgp hge hV hver hep hkd
    obtain ⟨nb, dv, nd⟩ := e
    unfold ptrZ at HV HA
    simp only at HV t1
    go_enter Tryz.func43, Tryz.ntmps43
    go_wp2_with fail
    refine HA.out.mono ?_
    rintro x w1 ⟨rfl, hk⟩
    have HK := Lib.hid hk
    clear hk
    go_wp2_with fail
    refine (HV.out w1 HK.out).mono ?_
    rintro x w2 ⟨rfl, hk2⟩
    have c3 := HNE.out w2 (HK.out.trans hk2)
    simp only [List.getElem?_toArray, List.getElem?_cons_zero, List.getElem?_cons_succ] at c3
    have HK2 := Lib.hid hk2
    clear hk2
    go_wp2
    go_ret
    exact ⟨rfl, HS.out _ (HK.out.trans HK2.out)⟩
  · have HQ := Lib.hid hq
    rw [hq]
    have t1 : decide (0 < e.nd.kids) = false := by simpa using hkd
    have hne := parent_ne hp
    have HNEQ := Lib.hid hne
    have hgood := (h.get hge).2
    have HGD := Lib.hid hgood
    have hkl := hgood.kidL
    have hkh := hgood.kidH
    clear h hp hq same hpn hg hn hgp hge hV hver hep hkd hne hgood
    obtain ⟨nb, dv, nd⟩ := e
    obtain ⟨ub, udv, und⟩ := eu
    unfold ptrZ at HV HA
    simp only at HV HA t1 hkl hkh
    go_enter Tryz.func43, Tryz.ntmps43
    go_wp2_with fail
    refine HA.out.mono ?_
    rintro x w1 ⟨rfl, hk⟩
    have HK := Lib.hid hk
    clear hk
    go_wp2_with fail
    refine (HV.out w1 HK.out).mono ?_
    rintro x w2 ⟨rfl, hk2⟩
    have HK2 := Lib.hid (HK.out.trans hk2)
    have h2 := H.out.kept HK2.out
    have c3 := HNE.out w2 HK2.out
    simp only [List.getElem?_toArray, List.getElem?_cons_zero, List.getElem?_cons_succ] at c3
    have c0 := h2.c0
    obtain ⟨w5, hrun, ho5, hg5⟩ := h2.owns.drop p (by unfold maxLen; omega) 0
    have hc5 : Chg (fun g => g = mb) w2 w5 := Chg.of_grown hg5 (fun g hg _ => by cases hg; rfl)
    have hT5 := h2.cut ho5 hc5
    have hgu : getZ up (cutZ p st) = some ⟨ub, udv, und⟩ := by rw [getZ_cut_other HNEQ.out]; exact HGU.out
    have hNP := (hT5.get hgu).1
    have d3 := cell_at hNP.1 3
    simp only [List.getElem?_toArray, List.getElem?_cons_zero, List.getElem?_cons_succ] at d3
    have f3 : w5.frozen? ⟨ub, 3, none⟩ = false := frozen_at hNP.1 3
    have HT5 := Lib.hid hT5
    have HG5 := Lib.hid hgu
    have HNP := Lib.hid hNP
    have HC5 := Lib.hid hc5
    clear hk2 h2 ho5 hg5 hc5 hT5 hgu hNP
    have b2 : und.kids - 1 ≤ 4611686018427387903 := by omega
    have b3 : -4611686018427387903 ≤ und.kids - 1 := by omega
    go_wp2
    go_ret
    have hw6 : ∃ w6 : World, w6 = w5.setCell ⟨ub, 3, none⟩ (.int .i64 (und.kids - 1)) := ⟨_, rfl⟩
    obtain ⟨w6, hw6⟩ := hw6
    have h62 := Lib.heap_setCell_same (i := 3) HNP.out.1 (.int .i64 (und.kids - 1))
    simp only at h62
    rw [← hw6] at h62 ⊢
    have hc6 : Chg (fun g => g = ub) w5 w6 := by
      rw [hw6]
      exact (Chg.refl (fun g => g = ub) w5).setCell _ (fun _ => rfl)
    have hN6 : NodeAt w6 ⟨ub, udv, { und with kids := und.kids - 1 }⟩ := by
      refine ⟨?_, own_chg HNP.out.2 hc6 (fun g hg x => ?_)⟩
      · simpa using h62
      · obtain ⟨cur, h1⟩ := own_type HNP.out.2 hg
        have h2 := HNP.out.1
        simp only at h2
        rw [x, h2] at h1
        simp only [Option.some.injEq, Obj.cells.injEq] at h1
        exact absurd h1.2.1 (by decide)
    have hgd := HGD.out
    have hT6 := HT5.out.on HG5.out (e' := ⟨ub, udv, { und with kids := und.kids - 1 }⟩) rfl hN6 hc6 (lim' := lim + 1) (Nat.le_succ _) ⟨hgd.path, hgd.small, by have := hgd.ver; show und.ver ≤ _; omega, hgd.ctr, hgd.own, by show -((lim + 1 : Nat) : Int) ≤ und.kids - 1; omega, by show und.kids - 1 ≤ ((lim + 1 : Nat) : Int); omega⟩ (fun g hg => .inl (HT5.out.inD _ (getZ_mem HG5.out) g hg))
    have hs5 := HC5.out.size
    have hs6 := hc6.size
    have hs2 := HK2.out.size
    refine ⟨rfl, ⟨_, hT6.mono (fun g y => ?_), ?_⟩, ?_⟩
    · rcases y with y | y
      · exact .inl y
      · exact .inr ⟨by omega, by omega⟩
    · unfold plainZ deleteS
      rw [if_pos (show deleteE (mapZ ZE.nd st) p v = 0 from HQ.out), mapZ_setZ, mapZ_cut, HPP.out]
      refine setZ_onZ (f := fun n => { n with kids := n.kids - 1 }) (n := und) (srt_cutZ (srt_mapZ.2 H.out.srt)) ?_
      rw [getZ_cut_other HNEQ.out, getZ_mapZ, HGU.out]
      rfl
    · refine ((Chg.of_kept (F := F) HK2.out).trans HC5.out (fun g _ y => by rw [y]; exact H.out.inM)).trans hc6 (fun g _ y => ?_)
      rw [y]
      exact H.out.inN _ (getZ_mem HGU.out)
end
end Go.Proofs.YtennlckfmgfjbaaGreatDoor
