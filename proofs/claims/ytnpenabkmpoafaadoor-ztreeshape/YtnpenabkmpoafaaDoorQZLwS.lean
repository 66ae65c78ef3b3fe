/- The walk of ZtreeShape. -/
import Derived.Test.YtnpenabkmpoafaaDoorQZMd
import Derived.Test.YtnpenabkmpoafaaDoorQZPth
import Derived.Test.YtnpenabkmpoafaaDoorQZChl
import Derived.Test.YtnpenabkmpoafaaDoorQZGet
import Derived.Test.YtnpenabkmpoafaaDoorQPRef2
import Derived.Deep.CutBlock
import Derived.Deep.DeepCutAuto
set_option linter.unusedSimpArgs false
set_option linter.unusedVariables false
namespace Go.Proofs.YtnpenabkmpoafaaDoor
open Go.RowKit
theorem pick_all {t : ZT} (h : WF t) : pickL (fun q _ => under [47] q) t = namesZ t := by
  unfold pickL namesZ
  rw [List.filter_eq_self.2]
  intro x hx
  obtain ⟨ls, hls⟩ := Option.isSome_iff_exists.1 (h.path x hx)
  show under [47] x.1 = true
  unfold under
  rw [hls, show names [47] = some [] by decide]
  rfl
theorem kids_cnt (t : ZT) (p : Pth) : (kidsL t p).length = cntZ p (namesZ t) := by
  unfold kidsL pickL cntZ namesZ
  rw [List.length_map, List.length_map, List.filter_map, List.length_map]
  rfl
/-- What the law asks of one node. -/
theorem node_facts {t : ZT} (h : WF t) {k : Nat} (hk : k < t.length) : ∃ n cn, getZ t[k].1 t = some n ∧ cn = (kidsL t t[k].1).length ∧ n.kids = (cn : Int) ∧ cn ≤ n.ctr ∧ (n.own = 0 ∨ cn = 0) ∧ (k = 0 ∨ ∃ up m, parentOf t[k].1 = some up ∧ getZ up t = some m) := by
  have hm := List.getElem_mem hk
  have h1 := h.kids _ hm
  have h2 := h.ctr _ hm
  refine ⟨t[k].2, _, get_of_memZ h.srt hm, rfl, by rw [kids_cnt]; exact h1, by rw [kids_cnt]; omega, ?_, ?_⟩
  · by_cases e : t[k].2.own = 0
    · exact .inl e
    · right
      rw [kids_cnt]
      refine cnt_zero h (fun up m hu ho x => ?_) (path_ne (h.path _ hm))
      have hg0 : getZ t[k].1 t = some t[k].2 := get_of_memZ h.srt hm
      rw [x, hg0] at hu
      injection hu with hu
      rw [hu] at e
      exact e ho
  · rcases h.par _ hm with e | ⟨up, m, a, b, -⟩
    · left
      obtain ⟨n, r, ht⟩ := h.root
      have hs := h.srt
      cases k with
      | zero => rfl
      | succ k =>
        exfalso
        subst ht
        have hk2 : k < r.length := by simpa using hk
        have h3 := (List.pairwise_cons.1 hs).1 r[k] (List.getElem_mem _)
        have e : r[k].1 = [47] := e
        rw [e] at h3
        simp [bytesBefore] at h3
    · exact .inr ⟨up, m, a, b⟩
set_option maxRecDepth 100000 in
set_option maxHeartbeats 4000000 in
theorem ztreeShape_any (xs : List Op7) (v : Value) (w : World) (hv : Script7 w v xs) (hf : ∀ x ∈ xs, x.Fits) (hl : xs.length ≤ 2199023255552) (htab : TbZ w) :
    Calls Tryd.prog 3 #[v] w fun e w' => e = .returned (.bool true) ∧ Kept w w' := by
  have HM := Lib.hid (made_any xs v w hv hf hl htab)
  have HA := Lib.hid (show ∀ W, Kept w W → _ from fun W k => awakeZ_any W (htab.kept k))
  obtain ⟨A, c, rfl, hc1, hc2⟩ := hv.form
  unfold maxLen at hc2
  clear hv hf htab
  go_enter Tryd.func3, Tryd.ntmps3
  go_wp2_with fail
  refine HM.out.mono ?_
  rintro e w1 ⟨tb, t, rfl, hkt, hwf⟩
  have HWF := Lib.hid hwf
  obtain ⟨mb, st, F, hT, hpl, hF, hK0⟩ := hkt
  have HT := Lib.hid hT
  have HK0 := Lib.hid hK0
  have HPL := Lib.hid hpl
  have hp1 := paths_any w1 tb mb st xs.length F hT [47] (by omega)
  unfold PathsTo at hp1
  rw [hpl, pick_all hwf, show chk [47] = 0 by decide, show names [47] = some [] by decide] at hp1
  simp only [Option.isSome_some, if_true] at hp1
  have HP := Lib.hid hp1
  have HSZ := Lib.hid (show ∀ W, Kept w1 W → _ from fun W k => size_kt (w0 := w) ⟨mb, st, F, hT.kept k, hpl, fun g x => ⟨(hF g x).1, by have := (hF g x).2; have := k.size; omega⟩, hK0.trans k⟩)
  have hln : t.length = (namesZ t).length := by unfold namesZ; rw [List.length_map]
  have hst : t.length ≤ 2199023255553 := by
    rw [← hpl]
    unfold plainZ
    rw [length_mapZ]
    have := hT.few
    omega
  have hroot := hwf.root
  have hpos : 0 < t.length := by obtain ⟨n, r, e⟩ := hroot; rw [e]; simp
  have HHD := Lib.hid (show (namesZ t)[0]? = some [47] by obtain ⟨n, r, e⟩ := hroot; rw [e]; rfl)
  have HLN := Lib.hid hln
  clear hwf hT hpl hF hK0 hp1 hln hroot
  go_wp2_with fail
  refine HP.out.mono ?_
  rintro e w2 ⟨v2, rfl, ho2, hk2⟩
  have HK2 := Lib.hid hk2
  rw [← HLN.out] at ho2
  obtain ⟨A2, c2, rfl⟩ := own_form ho2
  have HG := Lib.hid (show ∃ g, A2 = some ⟨g, 0, none⟩ from by
    rcases ho2.2 with ⟨e, h0⟩ | ⟨g, cap, cur, e, -⟩
    · omega
    · injection e with e1 e2 e3
      exact ⟨g, e1⟩)
  obtain ⟨g, rfl⟩ := HG.out
  have hcells : ∀ k x, (namesZ t)[k]? = some x → w2.cell? ⟨g, k, none⟩ = some (.string ⟨x.toArray⟩) := fun k x hx => by
    have h1 := ho2.cells (g := g) rfl k (.string ⟨x.toArray⟩) (by unfold strCells; rw [List.getElem?_map, hx]; rfl)
    have e : ((⟨g, 0, none⟩ : Addr).add k) = ⟨g, 0 + k, none⟩ := by unfold Addr.add; split <;> simp_all
    rw [e, Nat.zero_add] at h1
    exact h1
  have HCL := Lib.hid hcells
  have hcell0 := hcells 0 _ HHD.out
  have HS := Lib.hid (HSZ.out w2 hk2)
  have gpos : (0 : Int) < (t.length : Int) := by omega
  have hz1 : ((t.length : Int) == 0) = false := by rw [beq_eq_false_iff_ne]; omega
  have hz2 : (t.length == 0) = false := by rw [beq_eq_false_iff_ne]; omega
  have hz3 : ¬ t = [] := fun e => by rw [e] at hpos; simp at hpos
  have HN := Lib.hid (show ∀ k (hk : k < t.length), _ from fun k hk => node_facts HWF.out hk)
  have HNM := Lib.hid (show ∀ k (hk : k < t.length), (namesZ t)[k]? = some t[k].1 from fun k hk => by unfold namesZ; rw [List.getElem?_map, List.getElem?_eq_getElem hk]; rfl)
  clear ho2 hk2 hcells
  obtain ⟨tl, htl⟩ : ∃ tl, t.length = tl := ⟨_, rfl⟩
  rw [htl] at HS hz1 hz2 gpos hpos hst
  simp only [htl]
  have HTL := Lib.hid htl
  clear htl
  go_wp2_with fail
  refine HS.out.mono ?_
  rintro e w3 ⟨rfl, rfl⟩
  go_wp2
  clear hcell0
  go_loopw [49] (fun i W => ∃ k : Nat, i = .int .i64 (k : Int) ∧ k ≤ tl ∧ Kept w2 W) (fun i _ => tl - (intOf i).toNat)
  case atStart => exact ⟨0, rfl, Nat.zero_le _, Kept.refl _⟩
  case round =>
    obtain ⟨k, rfl, hk, hK⟩ := hrel
    have HKW := Lib.hid hK
    clear hK
    by_cases hlt : k < tl
    · have hkt : k < t.length := by rw [HTL.out]; exact hlt
      obtain ⟨n, cn, f1, f2, f3, f4, f5, f6⟩ := HN.out k hkt
      have hcell := HKW.out.cell (HCL.out k _ (HNM.out k hkt))
      have hpath := HWF.out.path _ (List.getElem_mem hkt)
      have g1 : (k : Int) < (tl : Int) := by omega
      generalize (t[k]'hkt).1 = p at *
      rw [← HPL.out] at f1
      obtain ⟨e, hge, rfl⟩ := plainZ_get f1
      have HGT := Lib.hid (get_ok wr tb mb st xs.length F (HT.out.kept (HK2.out.trans HKW.out)) p e hpath hge)
      have hfe := (findE_ok hpath hge).1
      have HCH := Lib.hid (show ∀ W, Kept wr W → _ from fun W kW => children_any W tb mb st xs.length F (HT.out.kept ((HK2.out.trans HKW.out).trans kW)) p (by omega))
      rw [hfe] at HCH
      unfold ChildTo at HCH
      simp only [if_true] at HCH
      rw [HPL.out] at HCH
      have hctr : e.nd.ctr ≤ 10000000000 := (HT.out.get hge).2.ctr
      have HF2 := Lib.hid f2
      have HF6 := Lib.hid f6
      clear f1 f2 f6 hfe hge hpath hkt
      obtain ⟨enb, edv, n⟩ := e
      unfold statV at HGT
      simp only at HGT f3 f4 f5 hctr
      rw [f3] at HGT
      clear f3
      go_wp2_with fail
      refine HGT.out.mono ?_
      rintro x w5 ⟨vd, rfl, -, hk5⟩
      have HK5 := Lib.hid hk5
      clear hk5
      go_wp2_with fail
      have hka := (Kept.refl w5).alloc (.cells #[.int .i64 (n.ver : Int), .int .i64 (n.ctr : Int), .int .i64 (n.own : Int), .int .i64 (cn : Int)] 32)
      have hna := heap_alloc_new w5 (.cells #[.int .i64 (n.ver : Int), .int .i64 (n.ctr : Int), .int .i64 (n.own : Int), .int .i64 (cn : Int)] 32)
      generalize w5.alloc (.cells #[.int .i64 (n.ver : Int), .int .i64 (n.ctr : Int), .int .i64 (n.own : Int), .int .i64 (cn : Int)] 32) = w6 at *
      have HK6 := Lib.hid (HK5.out.trans hka)
      have HNA := Lib.hid hna
      clear hka hna
      refine (HCH.out w6 HK6.out).mono ?_
      rintro x w7 ⟨vc, rfl, ho7, hk7⟩
      rw [← HF2.out] at ho7
      obtain ⟨A7, c7, rfl⟩ := own_form ho7
      have hb7 := hk7.block' HNA.out
      have d1 := cell_at hb7 1
      have d2 := cell_at hb7 2
      have d3 := cell_at hb7 3
      simp only [List.getElem?_toArray, List.getElem?_cons_zero, List.getElem?_cons_succ] at d1 d2 d3
      have HK7 := Lib.hid (HK6.out.trans hk7)
      clear ho7 hb7 hk7
      have t1 : decide ((n.ctr : Int) < (cn : Int)) = false := by simp; omega
      have t1n : decide (n.ctr < cn) = false := by simp; omega
      have hown : (∃ ow : Int, w7.cell? ⟨w5.heap.size, 2, none⟩ = some (.int .i64 ow) ∧ (ow = 0 ∨ ((ow == 0) = false ∧ (ow != 0) = true ∧ ¬ ow = 0 ∧ cn = 0))) := by
        refine ⟨_, d2, ?_⟩
        by_cases e : n.own = 0
        · left; omega
        · right; exact ⟨by simpa using e, by simpa using e, by omega, by omega⟩
      clear d2
      obtain ⟨ow, d2, hown⟩ := hown
      clear f4 f5
      have hkc : k = 0 ∨ (k ≠ 0 ∧ ∃ up m, parentOf p = some up ∧ getZ up t = some m) := by
        rcases HF6.out with e | e
        · exact .inl e
        · by_cases h0 : k = 0
          · exact .inl h0
          · exact .inr ⟨h0, e⟩
      have HKC := Lib.hid hkc
      clear hkc
      rcases hown with rfl | ⟨h9, h9b, h9c, h10⟩
      rotate_left
      · have h11 : decide ((0 : Int) < (cn : Int)) = false := by simp [h10]
        have h12 : decide (0 < cn) = false := by simp [h10]
        have h13 : ¬ 0 < cn := by omega
        clear h10
        revert h11 h12 h13
        intro h11 h12 h13
        rcases HKC.out with h0 | ⟨h0, up, m, hup, hgm⟩
        · have e0 : ((k : Int) == 0) = true := by simp [h0]
          have e0n : (k == 0) = true := by simp [h0]
          have e0d : decide (k = 0) = true := by simp [h0]
          have HH0 := Lib.hid h0
          clear h0
          go_wp2
          go_roundw
          case rel => exact ⟨k + 1, by go_num, by omega, HKW.out.trans HK7.out⟩
          case measure => simp [intOf]; omega
        · have e0 : ((k : Int) == 0) = false := by rw [beq_eq_false_iff_ne]; omega
          have e0n : (k == 0) = false := by rw [beq_eq_false_iff_ne]; omega
          have hrp := refParent_any p w7
          rw [hup] at hrp
          rw [← HPL.out] at hgm
          obtain ⟨eu, hgu, rfl⟩ := plainZ_get hgm
          have HGU := Lib.hid (show ∀ W, Kept wr W → _ from fun W kW => get_ok W tb mb st xs.length F (HT.out.kept ((HK2.out.trans HKW.out).trans kW)) up eu (parent_names hup).2 hgu)
          have HRP := Lib.hid hrp
          unfold statV at HGU
          clear hrp hup hgm hgu h0
          generalize eu.nd = un at *
          go_wp2_with fail
          refine HRP.out.mono ?_
          rintro x w8 ⟨rfl, hk8⟩
          have HK8 := Lib.hid (HK7.out.trans hk8)
          clear hk8 d1 d2 d3
          go_wp2_with fail
          refine (HGU.out w8 HK8.out).mono ?_
          rintro x w9 ⟨vd2, rfl, -, hk9⟩
          have HK9 := Lib.hid (HK8.out.trans hk9)
          clear hk9
          go_wp2
          go_roundw
          case rel => exact ⟨k + 1, by go_num, by omega, HKW.out.trans (HK9.out.trans ((Kept.refl w9).alloc _))⟩
          case measure => simp [intOf]; omega
      all_goals
        rcases HKC.out with h0 | ⟨h0, up, m, hup, hgm⟩
        · have e0 : ((k : Int) == 0) = true := by simp [h0]
          have e0n : (k == 0) = true := by simp [h0]
          have e0d : decide (k = 0) = true := by simp [h0]
          have HH0 := Lib.hid h0
          clear h0
          go_wp2
          go_roundw
          case rel => exact ⟨k + 1, by go_num, by omega, HKW.out.trans HK7.out⟩
          case measure => simp [intOf]; omega
        · have e0 : ((k : Int) == 0) = false := by rw [beq_eq_false_iff_ne]; omega
          have e0n : (k == 0) = false := by rw [beq_eq_false_iff_ne]; omega
          have hrp := refParent_any p w7
          rw [hup] at hrp
          rw [← HPL.out] at hgm
          obtain ⟨eu, hgu, rfl⟩ := plainZ_get hgm
          have HGU := Lib.hid (show ∀ W, Kept wr W → _ from fun W kW => get_ok W tb mb st xs.length F (HT.out.kept ((HK2.out.trans HKW.out).trans kW)) up eu (parent_names hup).2 hgu)
          have HRP := Lib.hid hrp
          unfold statV at HGU
          clear hrp hup hgm hgu h0
          generalize eu.nd = un at *
          go_wp2_with fail
          refine HRP.out.mono ?_
          rintro x w8 ⟨rfl, hk8⟩
          have HK8 := Lib.hid (HK7.out.trans hk8)
          clear hk8 d1 d2 d3
          go_wp2_with fail
          refine (HGU.out w8 HK8.out).mono ?_
          rintro x w9 ⟨vd2, rfl, -, hk9⟩
          have HK9 := Lib.hid (HK8.out.trans hk9)
          clear hk9
          go_wp2
          go_roundw
          case rel => exact ⟨k + 1, by go_num, by omega, HKW.out.trans (HK9.out.trans ((Kept.refl w9).alloc _))⟩
          case measure => simp [intOf]; omega
    · obtain rfl : k = tl := by omega
      go_wp2_with fail
      refine (HA.out _ ((HK0.out.trans HK2.out).trans HKW.out)).mono ?_
      rintro e w9 ⟨rfl, k9⟩
      have hkk := ((HK0.out.trans HK2.out).trans HKW.out).trans k9
      go_wp2
      go_ret
      exact ⟨rfl, hkk⟩
end Go.Proofs.YtnpenabkmpoafaaDoor
