/- The walk of Apply. -/
import Derived.Test.YtennlckfmgfjbaaGreatDoorGMAp3
set_option linter.unusedSimpArgs false
set_option linter.unusedVariables false
namespace Go.Proofs.YtennlckfmgfjbaaGreatDoor
open Go.RowKit
set_option maxRecDepth 100000 in
set_option maxHeartbeats 8000000 in
theorem apply_any {A : Nat → Prop} {w0 W : World} {tb : Nat} {t : ZT} {lim nn : Nat} (hT : Tr A w0 W tb t lim) (hw : WF t) (hb : WB nn t) (hnn : nn ≤ 4611686018427387903) (h : Pth) (hh : h.length ≤ maxLen) (owner qn qb : Int) (xs : List OpX) (v : Value) (hv : ∀ X, Apart A W X → Ops8 X v xs) (htab : TbZ w0) {ml : Int} (hml : w0.cell? ⟨1, 0, none⟩ = some (.int .i64 ml)) (hlim : lim ≤ 8000000000000) (hfew : t.length ≤ 8000000) (hlen : (encT (draft0 h t)).length ≤ 8000000000000) :
    Calls Tryz.prog 7 #[.pointer (some ⟨tb, 0, none⟩), .string ⟨h.toArray⟩, .int .i64 owner, .agg #[.int .i64 qn, .int .i64 qb], v] W (ApplyTo A w0 tb (applyM h owner qn qb t (plainO xs)) (lim + 16) W) := by
  obtain ⟨Bv, cv, rfl, hv1, hv2⟩ := (hv W (Apart.of_kept (Kept.refl W))).form
  unfold maxLen at hv2
  have k1 := (Kept.refl W).alloc (.cells #[.int .i64 qn, .int .i64 qb] 25)
  have s1 : (W.alloc (.cells #[.int .i64 qn, .int .i64 qb] 25)).heap.size = W.heap.size + 1 := by simp
  have k2 := (Kept.refl (W.alloc (.cells #[.int .i64 qn, .int .i64 qb] 25))).alloc (.cells #[.slice none 0 0, .slice none 0 0, .int .i64 0] 34)
  have s2 : ((W.alloc (.cells #[.int .i64 qn, .int .i64 qb] 25)).alloc (.cells #[.slice none 0 0, .slice none 0 0, .int .i64 0] 34)).heap.size = W.heap.size + 2 := by simp
  have hq8 := k2.block' (heap_alloc_new W (.cells #[.int .i64 qn, .int .i64 qb] 25))
  have hq10 := heap_alloc_new (W.alloc (.cells #[.int .i64 qn, .int .i64 qb] 25)) (.cells #[.slice none 0 0, .slice none 0 0, .int .i64 0] 34)
  rw [s1] at hq10
  have HTA := Lib.hid (hT.away (k1.trans k2))
  have HKA := Lib.hid (k1.trans k2)
  have HW := Lib.hid hw
  have HB := Lib.hid hb
  have HV := Lib.hid hv
  have HTB := Lib.hid htab
  have HML := Lib.hid hml
  have hsz := hT.old.size
  have HAW := Lib.hid (show ∀ g, A g → g < W.heap.size from by obtain ⟨mb, st, G, a1, a2, a3, a4, a5⟩ := hT; exact fun g x => (a5 g x).1)
  obtain ⟨am, ham⟩ : ∃ am, applyM h owner qn qb t (plainO xs) = am := ⟨_, rfl⟩
  rw [ham]
  unfold applyM at ham
  rw [show (plainO xs).length = xs.length by simp [plainO]] at ham
  have HAM := Lib.hid ham
  clear ham
  have HQF := Lib.hid (show ∀ (x y : Int) X, Tr A w0 X tb am.t lim → Apart A W X → am.res = [] → am.eff = [] → x = am.bad → y = am.err → ApplyTo A w0 tb am (lim + 16) W (.returned (.tuple #[.agg #[.slice none 0 0, .slice none 0 0, .int .i64 x], .int .i64 y])) X from fun x y X h1 h2 h3 h4 h5 h6 => by
    subst h5 h6
    refine ⟨_, _, no, rfl, ?_, ?_, (fun g e => by cases e), (fun g e => by cases e), (fun g e => e.elim), (h1.more (by omega)).less (fun g e => e.elim id (fun e => e.elim)), h2⟩
    · rw [h3]; exact World.ownsRow_nil _ _ _ _
    · rw [h4]; exact World.ownsRow_nil _ _ _ _)
  generalize hQ : ApplyTo A w0 tb am (lim + 16) W = Q at HQF ⊢
  have HQQ := Lib.hid hQ
  clear hQ
  clear hT hw hb hv htab hml k1 k2
  go_enter Tryz.func7, Tryz.ntmps7
  go_upto_region 1 with (fail)
  rw [s1] at *
  generalize (W.alloc (.cells #[.int .i64 qn, .int .i64 qb] 25)).alloc (.cells #[.slice none 0 0, .slice none 0 0, .int .i64 0] 34) = wa at *
  have HEND := Lib.hid (show ∀ X (x y : Int), Kept wa X → am = ⟨y, x, t, [], []⟩ → (((X.setCell ⟨W.heap.size + 1, 0, none⟩ (.slice none 0 0)).setCell ⟨W.heap.size + 1, 1, none⟩ (.slice none 0 0)).setCell ⟨W.heap.size + 1, 2, none⟩ (.int .i64 x)).heap[W.heap.size + 1]? = some (.cells #[.slice none 0 0, .slice none 0 0, .int .i64 x] 34 (0, 0)) ∧ Q (.returned (.tuple #[.agg #[.slice none 0 0, .slice none 0 0, .int .i64 x], .int .i64 y])) (((X.setCell ⟨W.heap.size + 1, 0, none⟩ (.slice none 0 0)).setCell ⟨W.heap.size + 1, 1, none⟩ (.slice none 0 0)).setCell ⟨W.heap.size + 1, 2, none⟩ (.int .i64 x)) from fun X x y kX e => by
    have h0 := Lib.heap_setCell_same (i := 0) (kX.block' hq10) (.slice none 0 0)
    have h1 := Lib.heap_setCell_same (i := 1) h0 (.slice none 0 0)
    have h2 := Lib.heap_setCell_same (i := 2) h1 (.int .i64 x)
    have c : Chg (fun g => g = W.heap.size + 1) X (((X.setCell ⟨W.heap.size + 1, 0, none⟩ (.slice none 0 0)).setCell ⟨W.heap.size + 1, 1, none⟩ (.slice none 0 0)).setCell ⟨W.heap.size + 1, 2, none⟩ (.int .i64 x)) := (((Chg.refl (fun g => g = W.heap.size + 1) X).setCell _ (fun _ => rfl)).setCell _ (fun _ => rfl)).setCell _ (fun _ => rfl)
    refine ⟨by simpa using h2, HQF.out x y _ ?_ ?_ (by rw [e]) (by rw [e]) (by rw [e]) (by rw [e])⟩
    · rw [e]
      exact (((HTA.out.kept kX).set c (.inr ⟨by omega, by omega⟩) (by omega)).less (fun g y => .inl y))
    · exact (Apart.of_kept (HKA.out.trans kX)).trans (c.mono fun g _ y z => by have := HAW.out g z; omega))
  have r0 := cell_at hq10 0
  have r1 := cell_at hq10 1
  have r2 := cell_at hq10 2
  have fr0 := frozen_at hq10 0
  have fr1 := frozen_at hq10 1
  have fr2 := frozen_at hq10 2
  simp only [List.getElem?_toArray, List.getElem?_cons_zero, List.getElem?_cons_succ] at r0 r1 r2
  by_cases c1 : xs.length = 0 ∨ 16 < xs.length
  · have ham := HAM.out
    rw [if_pos c1] at ham
    obtain ⟨e1, e2⟩ := HEND.out wa 0 80 (Kept.refl _) ham.symm
    have E1 := Lib.hid e1
    have E2 := Lib.hid e2
    clear e1 e2 ham
    by_cases c2 : xs.length = 0
    · have d1 : ((xs.length : Int) == 0) = true := by rw [c2]; rfl
      go_wp2
      generalize ((wa.setCell ⟨W.heap.size + 1, 0, none⟩ (.slice none 0 0)).setCell ⟨W.heap.size + 1, 1, none⟩ (.slice none 0 0)).setCell ⟨W.heap.size + 1, 2, none⟩ (.int .i64 0) = wz at *
      have k0 := cell_at E1.out 0
      have k1 := cell_at E1.out 1
      have k2 := cell_at E1.out 2
      simp only [List.getElem?_toArray, List.getElem?_cons_zero, List.getElem?_cons_succ] at k0 k1 k2
      (try simp only [Exit.inBlock, Exit.then])
      refine bodyPost_ret (v := .tuple #[.agg #[(.slice none 0 0), (.slice none 0 0), .int .i64 0], .int .i64 80]) (by simp [results, Tryz.results7, go_sem, k0, k1, k2]) rfl ?_
      exact E2.out
    · have d1 : ((xs.length : Int) == 0) = false := by rw [beq_eq_false_iff_ne]; omega
      have d2 : decide ((16 : Int) < (xs.length : Int)) = true := decide_eq_true (by omega)
      go_wp2
      generalize ((wa.setCell ⟨W.heap.size + 1, 0, none⟩ (.slice none 0 0)).setCell ⟨W.heap.size + 1, 1, none⟩ (.slice none 0 0)).setCell ⟨W.heap.size + 1, 2, none⟩ (.int .i64 0) = wz at *
      have k0 := cell_at E1.out 0
      have k1 := cell_at E1.out 1
      have k2 := cell_at E1.out 2
      simp only [List.getElem?_toArray, List.getElem?_cons_zero, List.getElem?_cons_succ] at k0 k1 k2
      (try simp only [Exit.inBlock, Exit.then])
      refine bodyPost_ret (v := .tuple #[.agg #[(.slice none 0 0), (.slice none 0 0), .int .i64 0], .int .i64 80]) (by simp [results, Tryz.results7, go_sem, k0, k1, k2]) rfl ?_
      exact E2.out
  have d1 : ((xs.length : Int) == 0) = false := by rw [beq_eq_false_iff_ne]; omega
  have d2 : decide ((16 : Int) < (xs.length : Int)) = false := decide_eq_false (by omega)
  by_cases c3 : owner < 1 ∨ 4611686018427387903 < owner
  · have ham := HAM.out
    rw [if_neg c1, if_pos c3] at ham
    obtain ⟨e1, e2⟩ := HEND.out wa 0 10 (Kept.refl _) ham.symm
    have E1 := Lib.hid e1
    have E2 := Lib.hid e2
    clear e1 e2 ham
    by_cases c4 : owner < 1
    · have d3 : decide (owner < 1) = true := decide_eq_true c4
      go_wp2
      generalize ((wa.setCell ⟨W.heap.size + 1, 0, none⟩ (.slice none 0 0)).setCell ⟨W.heap.size + 1, 1, none⟩ (.slice none 0 0)).setCell ⟨W.heap.size + 1, 2, none⟩ (.int .i64 0) = wz at *
      have k0 := cell_at E1.out 0
      have k1 := cell_at E1.out 1
      have k2 := cell_at E1.out 2
      simp only [List.getElem?_toArray, List.getElem?_cons_zero, List.getElem?_cons_succ] at k0 k1 k2
      (try simp only [Exit.inBlock, Exit.then])
      refine bodyPost_ret (v := .tuple #[.agg #[(.slice none 0 0), (.slice none 0 0), .int .i64 0], .int .i64 10]) (by simp [results, Tryz.results7, go_sem, k0, k1, k2]) rfl ?_
      exact E2.out
    · have d3 : decide (owner < 1) = false := decide_eq_false c4
      have d4 : decide ((4611686018427387903 : Int) < owner) = true := decide_eq_true (by omega)
      go_wp2
      generalize ((wa.setCell ⟨W.heap.size + 1, 0, none⟩ (.slice none 0 0)).setCell ⟨W.heap.size + 1, 1, none⟩ (.slice none 0 0)).setCell ⟨W.heap.size + 1, 2, none⟩ (.int .i64 0) = wz at *
      have k0 := cell_at E1.out 0
      have k1 := cell_at E1.out 1
      have k2 := cell_at E1.out 2
      simp only [List.getElem?_toArray, List.getElem?_cons_zero, List.getElem?_cons_succ] at k0 k1 k2
      (try simp only [Exit.inBlock, Exit.then])
      refine bodyPost_ret (v := .tuple #[.agg #[(.slice none 0 0), (.slice none 0 0), .int .i64 0], .int .i64 10]) (by simp [results, Tryz.results7, go_sem, k0, k1, k2]) rfl ?_
      exact E2.out
  clear r0 r1 r2 fr0 fr1 fr2
  have d3 : decide (owner < 1) = false := decide_eq_false (by omega)
  have d4 : decide ((4611686018427387903 : Int) < owner) = false := decide_eq_false (by omega)
  go_upto_region 5 with (fail)
  have hdr : ∀ X, Kept wa X → Calls Tryz.prog 19 #[.pointer (some ⟨tb, 0, none⟩), .string ⟨h.toArray⟩] X (DraftTo h t X) := fun X kX => by
    obtain ⟨mb, st, G, a1, a2, -⟩ := HTA.out
    have := draft_any (a1.kept kX) (by rw [a2]; exact HW.out) (by rw [a2]; exact HB.out) hnn h hlim (by rw [a2]; omega)
    rw [a2] at this
    exact this
  have HDR := Lib.hid hdr
  unfold DraftTo at HDR
  have x0 := cell_at hq8 0
  have x1 := cell_at hq8 1
  simp only [List.getElem?_toArray, List.getElem?_cons_zero, List.getElem?_cons_succ] at x0 x1
  have HQ8 := Lib.hid hq8
  have HQ10 := Lib.hid hq10
  have HS2 := Lib.hid s2
  clear hdr hq8 hq10 s1 s2
  have hkd := (Kept.refl wa).drew
  obtain ⟨un, hun⟩ : ∃ x, useN h t = x := ⟨_, rfl⟩
  obtain ⟨ub, hub⟩ : ∃ x, useB h t = x := ⟨_, rfl⟩
  have HUS := Lib.hid (use_draft (h := h) HW.out)
  rw [hun, hub] at HUS
  have HDF := Lib.hid (draft_few h t)
  have HDW := Lib.hid (draft_wf (h := h) HW.out)
  have HDB2 := Lib.hid (draft_wb (h := h) HB.out)
  have HMI := Lib.hid (use_mild (h := h) (d := draftT h t) HW.out HB.out (by omega))
  rw [hun, hub] at HMI
  have HUN := Lib.hid hun
  have HUB := Lib.hid hub
  have hsim := doM_sim (h := h) (owner := owner) (qn := qn) (qb := qb) (plainO xs) 0 nn (workD h t) (work0 h t) (work_sim HW.out) (draft_wf HW.out) HW.out (draft_wb HB.out) HB.out
  obtain ⟨r2, hr2⟩ : ∃ r, doM h owner qn qb 0 (work0 h t) (plainO xs) = r := ⟨_, rfl⟩
  rw [hr2] at hsim
  have ham := HAM.out
  rw [if_neg c1, if_neg c3, hr2] at ham
  unfold work0 at hr2
  unfold workD at hsim
  rw [hun, hub] at hr2 hsim
  have HMI2 := Lib.hid (use_mild (h := h) (d := t) HW.out HB.out (by omega))
  rw [hun, hub] at HMI2
  have HAM2 := Lib.hid ham
  have HR2 := Lib.hid hr2
  have HSIM := Lib.hid hsim
  clear hun hub ham hr2 hsim
  generalize (encT (draft0 h t)).length = L at *
  generalize draftT h t = d at *
  go_cut [12] (fun a X => ∃ b db, a = .pointer (some ⟨b, 0, none⟩) ∧ DrB wa X b db d L (wkCells db h owner 0 0 qn qb))
  case first =>
    have xa0 := ((Kept.refl wa).alloc work00).cell x0
    have xa1 := ((Kept.refl wa).alloc work00).cell x1
    unfold work00 at xa0 xa1
    go_region_law (first | (go_simp; go_at_call 19; refine (HDR.out _ (by first | exact hkd | exact hkd.alloc _ | exact ((Kept.refl wa).alloc _).drew)).mono ?_; rintro e w3 ⟨db, rfl, hkt⟩; have hkw := (show Kept wa w3 from by first | exact hkd.trans hkt.old | exact ((Kept.refl wa).alloc _).drew.trans hkt.old); have y0 := hkw.cell x0; have y1 := hkw.cell x1; have ya0 := ((Kept.refl w3).alloc work00).cell y0; have ya1 := ((Kept.refl w3).alloc work00).cell y1; unfold work00 at ya0 ya1; have hkk : ∃ wk, Kept wa wk ∧ KT wk w3 db d L ∧ (wk.heap.size = wa.heap.size ∨ wk.heap.size = wa.heap.size + 1) := ⟨_, (by first | exact hkd | exact ((Kept.refl wa).alloc _).drew), hkt, (by simp)⟩; have hnew : ∀ cs, DrB wa (w3.alloc (.cells cs 72)) w3.heap.size db d L cs := (by obtain ⟨wk, e1, e2, -⟩ := hkk; exact fun cs => DrB.new e1 e2); try (have hs : w3.heap[wa.heap.size]? = some work00 := hkt.old.block' (by first | exact heap_alloc_new wa work00 | exact heap_alloc_new wa.drew work00); unfold work00 at hs; have s0 := cell_at hs 0; have s1 := cell_at hs 1; have s2 := cell_at hs 2; have s3 := cell_at hs 3; have s4 := cell_at hs 4; have s5 := cell_at hs 5; have s6 := cell_at hs 6; have s7 := cell_at hs 7; have s8 := cell_at hs 8; have s9 := cell_at hs 9; have f0 := frozen_at hs 0; have f1 := frozen_at hs 1; have f2 := frozen_at hs 2; have f3 := frozen_at hs 3; have f4 := frozen_at hs 4; have f5 := frozen_at hs 5; have f6 := frozen_at hs 6; have f7 := frozen_at hs 7; have f8 := frozen_at hs 8; have f9 := frozen_at hs 9; simp only [List.getElem?_toArray, List.getElem?_cons_zero, List.getElem?_cons_succ] at s0 s1 s2 s3 s4 s5 s6 s7 s8 s9; have hold := fun v0 v1 v2 v3 v4 v5 v6 v7 v8 v9 => DrB.old ((Kept.refl wa).alloc _).drew hkt ⟨Nat.le_refl _, by simp⟩ (poke10 hs v0 v1 v2 v3 v4 v5 v6 v7 v8 v9).1 (poke10 hs v0 v1 v2 v3 v4 v5 v6 v7 v8 v9).2)))
    all_goals
      go_wp2
      go_meet
      case rel => (unfold wkCells; first | exact ⟨_, db, rfl, hold _ _ _ _ _ _ _ _ _ _⟩ | exact ⟨_, db, rfl, hnew _⟩)
  case rest =>
  obtain ⟨b, db, rfl, hdb⟩ := hcut
  obtain ⟨hbk, hb1, hb2, htr⟩ := hdb
  have HTR := Lib.hid htr
  unfold wkCells at hbk
  have hkx := (Kept.refl wc).alloc (.cells #[.string ⟨h.toArray⟩] 9)
  have huse : ∀ X, Kept wc X → ∀ v, Txts X v [h] → Calls Tryz.prog 20 #[.pointer (some ⟨db, 0, none⟩), v] X fun e w' => e = .returned (.agg #[.int .i64 un, .int .i64 ub]) ∧ Kept X w' := fun X kX v hv => by
    obtain ⟨mb, st, G, a1, a2, -⟩ := HTR.out
    have hl2 : (plainZ st).length = st.length := length_mapZ _ _
    have h3 := HDF.out
    rw [← a2, hl2] at h3
    have := usage_any (a1.kept kX) hlen (by omega) [h] v hv (by simp) (fun x hx => by obtain rfl := List.mem_singleton.1 hx; exact hh)
    rw [a2, HUS.out.1, HUS.out.2] at this
    exact this
  have HUSE := Lib.hid (huse _ hkx _ (Txts.one wc h 9))
  have HBK := Lib.hid hbk
  have z3 := cell_at hbk 3
  simp only [List.getElem?_toArray, List.getElem?_cons_zero, List.getElem?_cons_succ] at z3
  clear htr huse hbk x0 x1 hkd
  go_wp2_with fail
  refine HUSE.out.mono ?_
  rintro e w5 ⟨rfl, hk5⟩
  have hk5 := hkx.trans hk5
  have hb5 := hk5.block' HBK.out
  have HT5 := Lib.hid (HTR.out.kept hk5)
  have q6 := cell_at hb5 6
  have q7 := cell_at hb5 7
  have f6 := frozen_at hb5 6
  have f7 := frozen_at hb5 7
  simp only [List.getElem?_toArray, List.getElem?_cons_zero, List.getElem?_cons_succ] at q6 q7
  have g6 := Lib.heap_setCell_same (i := 6) hb5 (.int .i64 un)
  have g7 := Lib.heap_setCell_same (i := 7) g6 (.int .i64 ub)
  have hc6 : Chg (fun g => g = b) w5 ((w5.setCell ⟨b, 6, none⟩ (.int .i64 un)).setCell ⟨b, 7, none⟩ (.int .i64 ub)) := ((Chg.refl (fun g => g = b) w5).setCell _ (fun _ => rfl)).setCell _ (fun _ => rfl)
  have G7 := Lib.hid g7
  have HC6 := Lib.hid hc6
  have HK5 := Lib.hid hk5
  clear z3 hkx hk5 hb5 g6 g7 hc6
  go_upto_region 7 with (fail)
  generalize (w5.setCell ⟨b, 6, none⟩ (.int .i64 un)).setCell ⟨b, 7, none⟩ (.int .i64 ub) = w6 at *
  have hb6 : w6.heap[b]? = some (.cells #[.slice none 0 0, .slice none 0 0, .int .i64 0, .pointer (some ⟨db, 0, none⟩), .string ⟨h.toArray⟩, .int .i64 owner, .int .i64 un, .int .i64 ub, .int .i64 qn, .int .i64 qb] 72 (0, 0)) := by simpa using G7.out
  have HB6 := Lib.hid hb6
  have HT6 := Lib.hid (HT5.out.set HC6.out (.inr rfl) hb1)
  have s6 := HC6.out.size
  have z0 := cell_at hb6 0
  have z1 := cell_at hb6 1
  have z2 := cell_at hb6 2
  have z3 := cell_at hb6 3
  have z4 := cell_at hb6 4
  have z5 := cell_at hb6 5
  have z6 := cell_at hb6 6
  have z7 := cell_at hb6 7
  have z8 := cell_at hb6 8
  have z9 := cell_at hb6 9
  simp only [List.getElem?_toArray, List.getElem?_cons_zero, List.getElem?_cons_succ] at z0 z1 z2 z3 z4 z5 z6 z7 z8 z9
  clear hb6 q6 q7 f6 f7
  go_upto_region 8 with (fail)
  have hk7 := (Kept.refl w6).alloc (.cells #[.slice none 0 0, .slice none 0 0, .int .i64 0, .pointer (some ⟨db, 0, none⟩), .string ⟨h.toArray⟩, .int .i64 owner, .int .i64 un, .int .i64 ub, .int .i64 qn, .int .i64 qb] 72)
  have hb7 := heap_alloc_new w6 (.cells #[.slice none 0 0, .slice none 0 0, .int .i64 0, .pointer (some ⟨db, 0, none⟩), .string ⟨h.toArray⟩, .int .i64 owner, .int .i64 un, .int .i64 ub, .int .i64 qn, .int .i64 qb] 72)
  generalize w6.alloc (.cells #[.slice none 0 0, .slice none 0 0, .int .i64 0, .pointer (some ⟨db, 0, none⟩), .string ⟨h.toArray⟩, .int .i64 owner, .int .i64 un, .int .i64 ub, .int .i64 qn, .int .i64 qb] 72) = w7 at *
  have h0a := HTA.out.old
  have h0s := h0a.size
  have hwk := ((HT6.out.away hk7).under h0a).work (wb := b) (.inl (.inr rfl)) (by omega) (hk7.block' HB6.out)
  have hk57 : Kept wa w7 := (Chg.kept (HTR.out.old.trans HK5.out) HC6.out (fun g x => by omega)).trans hk7
  have hdo := do_any hwk HMI.out HDW.out HDB2.out xs _ (fun X hX => HV.out X ((Apart.of_kept (HKA.out.trans hk57)).trans (Apart.less hX (fun g y => ⟨.inl (.inl (by have h1 := HAW.out g y; have h2 := HKA.out.size; omega)), fun e => by have h1 := HAW.out g y; have h2 := HKA.out.size; omega⟩)))) (by omega) HTB.out HML.out (by omega)
  clear hk57
  obtain ⟨r1, hr1⟩ : ∃ r, doM h owner qn qb 0 ⟨d, un, ub, [], []⟩ (plainO xs) = r := ⟨_, rfl⟩
  rw [hr1] at hdo
  unfold DoTo at hdo
  have HDO := Lib.hid hdo
  have HR1 := Lib.hid hr1
  have HK7 := Lib.hid hk7
  have HB7 := Lib.hid hb7
  clear hdo hr1 hk7 hb7 hwk z0 z1 z2 z3 z4 z5 z6 z7 z8 z9
  go_wp2_with fail
  refine HDO.out.mono ?_
  rintro e w8 ⟨rfl, hk8, ha8⟩
  have HK8 := Lib.hid hk8
  have HA8 := Lib.hid ha8
  obtain ⟨rv, ev, hb8, hnA8⟩ := hk8.blk
  clear hk8 ha8
  have k5 : Kept wa w5 := HTR.out.old.trans HK5.out
  have k6 : Kept wa w6 := Chg.kept k5 HC6.out (fun g x => by omega)
  have k7 := k6.trans HK7.out
  have ka8 : Kept wa w8 := Chg.kept k7 HA8.out (fun g x => by
    by_cases y : wa.heap.size ≤ g
    · exact y
    · exact absurd ⟨.inl (.inl (by omega)), by omega⟩ x)
  have KA8 := Lib.hid ka8
  have hs := HSIM.out
  rw [HR1.out] at hs
  obtain ⟨e1, e2, -⟩ := hs
  have hq := ka8.block' HQ10.out
  have r0 := cell_at hq 0
  have r1' := cell_at hq 1
  have r2' := cell_at hq 2
  have fr0 := frozen_at hq 0
  have fr1 := frozen_at hq 1
  have fr2 := frozen_at hq 2
  simp only [List.getElem?_toArray, List.getElem?_cons_zero, List.getElem?_cons_succ] at r0 r1' r2'
  have HQ := Lib.hid hq
  clear k5 k6 k7 ka8 hq
  by_cases he : r1.1 = 0
  · have hs2 := HS2.out
    have hlk := HTR.out.old.size
    have ham := HAM2.out
    rw [if_neg (by rw [← e1]; simp [he])] at ham
    have e3 : r2.1 = 0 := by rw [← e1]; exact he
    have hl7 : w6.heap.size < w7.heap.size := (Array.getElem?_eq_some_iff.1 HB7.out).1
    have hl8 := HA8.out.size
    have hl5 := HK5.out.size
    have hb2' := HA8.out.block' HB7.out (fun x => x ⟨.inr ⟨Nat.le_refl _, hl7⟩, by omega⟩)
    have z3 := cell_at hb2' 3
    have f3 := frozen_at hb2' 3
    simp only [List.getElem?_toArray, List.getElem?_cons_zero, List.getElem?_cons_succ] at z3
    have h9 := Lib.heap_setCell_same (i := 3) hb2' (.pointer (some ⟨tb, 0, none⟩))
    have hc9 : Chg (fun g => g = w6.heap.size) w8 (w8.setCell ⟨w6.heap.size, 3, none⟩ (.pointer (some ⟨tb, 0, none⟩))) := (Chg.refl (fun g => g = w6.heap.size) w8).setCell _ (fun _ => rfl)
    have HM9 := Lib.hid ham
    have H9 := Lib.hid h9
    have HC9 := Lib.hid hc9
    have hwa6 : wa.heap.size ≤ w6.heap.size := by omega
    clear ham h9 hc9 hb2' hb8 e1 r0 r1' r2' fr0 fr1 fr2
    rw [he]
    go_upto_region 12 with (fail)
    generalize w8.setCell ⟨w6.heap.size, 3, none⟩ (.pointer (some ⟨tb, 0, none⟩)) = w9 at *
    have hb9 : w9.heap[w6.heap.size]? = some (.cells #[.slice none 0 0, .slice none 0 0, .int .i64 0, .pointer (some ⟨tb, 0, none⟩), .string ⟨h.toArray⟩, .int .i64 owner, .int .i64 un, .int .i64 ub, .int .i64 qn, .int .i64 qb] 72 (0, 0)) := by simpa using H9.out
    have hwk2 := ((HTA.out.away KA8.out).set HC9.out (.inr ⟨hwa6, by omega⟩) (by omega)).work (wb := w6.heap.size) (.inr ⟨hwa6, by omega⟩) (by omega) hb9
    have hdo := do_any hwk2 HMI2.out HW.out HB.out xs _ (fun X hX => HV.out X (((Apart.of_kept (HKA.out.trans KA8.out)).trans (Chg.mono HC9.out (fun g _ y z => by subst y; have := HAW.out _ z; omega))).trans (Apart.less hX (fun g y => ⟨.inl (.inl y), by have := HAW.out g y; omega⟩)))) (by omega) HTB.out HML.out (by omega)
    rw [HR2.out] at hdo
    unfold DoTo at hdo
    have HDO2 := Lib.hid hdo
    have hq9 := HC9.out.block' HQ.out (by omega)
    have HQ9 := Lib.hid hq9
    clear hdo hwk2 hb9 z3 f3 hq9
    go_wp2_with fail
    refine HDO2.out.mono ?_
    rintro e w10 ⟨rfl, hk10, ha10⟩
    have HA10 := Lib.hid ha10
    have hq10 := ha10.block' HQ9.out (fun x => x ⟨.inl (.inr ⟨by omega, by omega⟩), by omega⟩)
    obtain ⟨mb, st, F, G, rv, ev, a1, a2, a3, a4, a5, a6, a7, a8⟩ := hk10
    obtain ⟨Ar, cr, rfl⟩ := own_form a1.rr
    obtain ⟨Ae, ce, rfl⟩ := own_form a1.er
    have y0 := cell_at a1.blk 0
    have y1 := cell_at a1.blk 1
    have y2 := cell_at a1.blk 2
    have q0 := cell_at hq10 0
    have q1 := cell_at hq10 1
    have q2 := cell_at hq10 2
    have f0 := frozen_at hq10 0
    have f1 := frozen_at hq10 1
    have f2 := frozen_at hq10 2
    simp only [List.getElem?_toArray, List.getElem?_cons_zero, List.getElem?_cons_succ] at y0 y1 y2 q0 q1 q2
    have g0 := Lib.heap_setCell_same (i := 0) hq10 (.slice Ar r2.2.2.res.length cr)
    have g1 := Lib.heap_setCell_same (i := 1) g0 (.slice Ae r2.2.2.eff.length ce)
    have g2 := Lib.heap_setCell_same (i := 2) g1 (.int .i64 r2.2.1)
    have c : Chg (fun g => g = W.heap.size + 1) w10 (((w10.setCell ⟨W.heap.size + 1, 0, none⟩ (.slice Ar r2.2.2.res.length cr)).setCell ⟨W.heap.size + 1, 1, none⟩ (.slice Ae r2.2.2.eff.length ce)).setCell ⟨W.heap.size + 1, 2, none⟩ (.int .i64 r2.2.1)) := (((Chg.refl (fun g => g = W.heap.size + 1) w10).setCell _ (fun _ => rfl)).setCell _ (fun _ => rfl)).setCell _ (fun _ => rfl)
    have E1 := Lib.hid (show (((w10.setCell ⟨W.heap.size + 1, 0, none⟩ (.slice Ar r2.2.2.res.length cr)).setCell ⟨W.heap.size + 1, 1, none⟩ (.slice Ae r2.2.2.eff.length ce)).setCell ⟨W.heap.size + 1, 2, none⟩ (.int .i64 r2.2.1)).heap[W.heap.size + 1]? = some (.cells #[(.slice Ar r2.2.2.res.length cr), (.slice Ae r2.2.2.eff.length ce), .int .i64 r2.2.1] 34 (0, 0)) by simpa using g2)
    have hrb := a8 (W.heap.size + 1) ⟨.inl (.inr ⟨by omega, by omega⟩), by omega⟩
    have hAA : ∀ g, A g → g < w10.heap.size ∧ ¬ F g ∧ ¬ G g := fun g x => a8 g ⟨.inl (.inl x), by have := HAW.out g x; omega⟩
    have sc := c.size
    have E2 := Lib.hid (show Q (.returned (.tuple #[.agg #[(.slice Ar r2.2.2.res.length cr), (.slice Ae r2.2.2.eff.length ce), .int .i64 r2.2.1], .int .i64 r2.1])) (((w10.setCell ⟨W.heap.size + 1, 0, none⟩ (.slice Ar r2.2.2.res.length cr)).setCell ⟨W.heap.size + 1, 1, none⟩ (.slice Ae r2.2.2.eff.length ce)).setCell ⟨W.heap.size + 1, 2, none⟩ (.int .i64 r2.2.1)) by
      rw [← HQQ.out, ← HM9.out]
      refine ⟨(.slice Ar r2.2.2.res.length cr), (.slice Ae r2.2.2.eff.length ce), F, by rw [e3], own_chg a1.rr c (fun g x y => hrb.2.1 (by rw [← y]; exact a1.inR g x)), own_chg a1.er c (fun g x y => hrb.2.1 (by rw [← y]; exact a1.inE g x)), a1.inR, a1.inE, fun g x => ⟨(a4 g x).1, fun y => (hAA g y).2.1 x⟩, ⟨mb, st, G, (a2.more (by omega)).chg c (fun g x y => hrb.2.2 (by rw [← y]; exact x)), a3, fun g x => ⟨(a5 g x).1, by have := (a5 g x).2; omega⟩, c.kept a7 (fun g x => by omega), fun g x => ?_⟩, ?_⟩
      · rcases x with x | x
        · exact ⟨by have := (hAA g x).1; omega, (hAA g x).2.2⟩
        · exact ⟨by have := (a4 g x).2; omega, a6 g x⟩
      · refine ((((Apart.of_kept (HKA.out.trans KA8.out)).trans (HC9.out.mono fun g _ y z => ?_)).trans (HA10.out.less fun g x => ?_)).trans (c.mono fun g _ y z => ?_))
        · have := HAW.out g z; omega
        · exact ⟨.inl (.inl x), by have := HAW.out g x; omega⟩
        · have := HAW.out g z; omega)
    clear g0 g1 g2 c hrb hAA sc a1 a2 a3 a4 a5 a6 a7 a8 hq10 ha10 e3
    generalize r2.2.2.res.length = nr at *
    generalize r2.2.2.eff.length = ne at *
    generalize r2.1 = ve at *
    generalize r2.2.1 = vb at *
    go_wp2
    generalize ((w10.setCell ⟨W.heap.size + 1, 0, none⟩ (.slice Ar nr cr)).setCell ⟨W.heap.size + 1, 1, none⟩ (.slice Ae ne ce)).setCell ⟨W.heap.size + 1, 2, none⟩ (.int .i64 vb) = wz at *
    have k0 := cell_at E1.out 0
    have k1 := cell_at E1.out 1
    have k2 := cell_at E1.out 2
    simp only [List.getElem?_toArray, List.getElem?_cons_zero, List.getElem?_cons_succ] at k0 k1 k2
    (try simp only [Exit.inBlock, Exit.then])
    refine bodyPost_ret (v := .tuple #[.agg #[(.slice Ar nr cr), (.slice Ae ne ce), .int .i64 vb], .int .i64 ve]) (by simp [results, Tryz.results7, go_sem, k0, k1, k2]) rfl ?_
    exact E2.out
  · have ham := HAM2.out
    rw [if_pos (by rw [← e1]; exact he)] at ham
    obtain ⟨g1, g2⟩ := HEND.out w8 r1.2.1 r1.1 KA8.out (by rw [← ham, e1, e2])
    have E1 := Lib.hid g1
    have E2 := Lib.hid g2
    have y2 := cell_at hb8 2
    simp only [List.getElem?_toArray, List.getElem?_cons_zero, List.getElem?_cons_succ] at y2
    have t1 : (r1.1 != 0) = true := by rw [bne_iff_ne]; exact he
    clear ham g1 g2 e1 e2 hb8 he
    generalize r1.1 = ve at *
    generalize r1.2.1 = vb at *
    go_wp2
    generalize ((w8.setCell ⟨W.heap.size + 1, 0, none⟩ (.slice none 0 0)).setCell ⟨W.heap.size + 1, 1, none⟩ (.slice none 0 0)).setCell ⟨W.heap.size + 1, 2, none⟩ (.int .i64 vb) = wz at *
    have k0 := cell_at E1.out 0
    have k1 := cell_at E1.out 1
    have k2 := cell_at E1.out 2
    simp only [List.getElem?_toArray, List.getElem?_cons_zero, List.getElem?_cons_succ] at k0 k1 k2
    (try simp only [Exit.inBlock, Exit.then])
    refine bodyPost_ret (v := .tuple #[.agg #[(.slice none 0 0), (.slice none 0 0), .int .i64 vb], .int .i64 ve]) (by simp [results, Tryz.results7, go_sem, k0, k1, k2]) rfl ?_
    exact E2.out
end Go.Proofs.YtennlckfmgfjbaaGreatDoor
