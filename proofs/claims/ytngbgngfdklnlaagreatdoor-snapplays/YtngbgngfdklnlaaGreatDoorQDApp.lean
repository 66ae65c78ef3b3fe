/- The walk of Append. -/
import Derived.Test.YtngbgngfdklnlaaGreatDoorGDNames3
set_option linter.unusedSimpArgs false
set_option linter.unusedVariables false
namespace Go.Proofs.YtngbgngfdklnlaaGreatDoor
open Go.RowKit
set_option maxRecDepth 100000 in
set_option maxHeartbeats 4000000 in
theorem append_ok (k : Nm) (b : List UInt8) (vb : Value) (db mb : Nat) (st : St) (cap : Nat) (F : Nat → Prop) (w : World) (hd : Dsk w db mb st cap F) (hb : Bts w vb b) (hk : okN k = true) (hfit : used (mapV Prod.snd st) + b.length ≤ cap) (hn : st.length < 2000000000000) :
    Calls Tryz.prog 15 #[.pointer (some ⟨db, 0, none⟩), .string ⟨k.toArray⟩, vb] w fun e w' => e = .returned (.int .i64 0) ∧ (∃ v, Dsk w' db mb (putA k (v, ((filA k st).1 ++ b, (filA k st).2)) st) cap (ext F w w')) ∧ Chg F w w' := by
  have HD := Lib.hid hd
  have HB := Lib.hid hb
  have hkl := okN_len hk
  have c0 := hd.c0
  have c1 := hd.c1
  have c2 := hd.c2
  have hcl := hd.capLe
  have HC := Lib.hid (show ∀ v W, Txts W v [k] → _ from fun v W hv => checkNames_any [k] v W hv)
  rw [show okL [k] = 0 by unfold okL; simp [hk]] at HC
  obtain ⟨A, c, hvb, hc1, hc2, -⟩ := hb
  subst hvb
  obtain ⟨A2, cc2, hv2, ho2⟩ := (hd.tbl.file k).form
  have hl2 := filA_len hd k
  have HK := Lib.hid hk
  have t1 : decide ((cap : Int) - (used (mapV Prod.snd st) : Int) < (b.length : Int)) = false := by simp; omega
  generalize hu : used (mapV Prod.snd st) = u at *
  have HU := Lib.hid hu
  have HV2 := Lib.hid hv2
  have HO2 := Lib.hid ho2
  clear hd hk hu hv2 ho2
  unfold maxLen at hc2
  go_enter Tryz.func15, Tryz.ntmps15
  go_wp2_with fail
  refine (HC.out _ _ (Txts.one w k _)).mono ?_
  rintro e w1 ⟨rfl, hw1⟩
  have hk1 : Kept w w1 := by rw [← hw1]; exact (Kept.refl w).alloc _
  clear hw1
  have d0 := hk1.cell c0
  have d1 := hk1.cell c1
  have d2 := hk1.cell c2
  go_wp2
  go_quiet (fail)
  rename_i nq
  have hkq : Kept w (w1.drewN nq) := hk1.drewN nq
  generalize w1.drewN nq = wq at *
  have d0' := hkq.cell c0
  have hlk := (HD.out.tbl.kept hkq).owns.look k (by unfold maxLen; omega)
  rw [HV2.out] at hlk
  have hlt2 : ∀ g, (Value.slice A2 (filA k st).1.length cc2).ownBlock = some g → g < w.heap.size := fun g hg => (HO2.out.lt g hg).2
  have hsq := hkq.size
  go_wp2_with (at_builtin; refine wpList_append_bts rfl _ _ rfl 0 (.slice A2 (filA k st).1.length cc2) _ (filA k st).1 b _ rfl rfl (own_kept HO2.out (hkq.alloc _)) (HB.out.kept (hkq.alloc _)) (by omega) (Nat.zero_le _) ?_; intro v3 w3 h1 h2 h3; obtain ⟨A3, cc3, hv3⟩ := own_form h1; subst hv3; have hb3 := h2.block wq.heap.size (by simp) (fun e => by have := hlt2 _ e.symm; omega); rw [heap_alloc_new] at hb3; have e0 := cell_at hb3 0; have e1 := cell_at hb3 1; have e2 := frozen_at hb3 0; simp only [List.getElem?_toArray, List.getElem?_cons_zero, List.getElem?_cons_succ] at e0 e1; have HB3 := Lib.hid hb3; clear hb3; have H1 := Lib.hid h1; have H2 := Lib.hid h2; have H3 := Lib.hid h3; clear h1 h2 h3)
  have hC4 : Chg (fun g => rowD (valA k st) = some g) w (w3.setCell ⟨wq.heap.size, 0, none⟩ (.slice A3 ((filA k st).1.length + b.length) cc3)) := by
    refine Chg.setCell ((Chg.of_kept (hkq.alloc _)).trans (Chg.of_grown H2.out (fun g hg _ => hg)) (fun g _ hg => ?_)) _ (fun x => by omega)
    rw [HV2.out]; exact hg
  have hb4 := Lib.heap_setCell_same (i := 0) HB3.out (.slice A3 ((filA k st).1.length + b.length) cc3)
  have hcells4 := hC4.block' HD.out.cells (fun e => HD.out.row_ne (valA_mem e) e rfl)
  have hown4 := HD.out.tbl.owns.chg hC4 (fun e => HD.out.tbl.row_ne (valA_mem e) e rfl)
  have hr4 : ∀ g, (Value.slice A3 ((filA k st).1.length + b.length) cc3).ownBlock = some g → rowD (valA k st) = some g ∨ g = wq.heap.size + 1 := by
    intro g hg
    rcases H3.out with e | e
    · left; rw [HV2.out]; exact e.symm.trans hg
    · right; rw [hg] at e; simpa using e
  have H14 := own_chg H1.out ((Chg.refl (fun g => g = wq.heap.size) w3).setCell (b := wq.heap.size) (o := 0) (.slice A3 ((filA k st).1.length + b.length) cc3) (fun _ => rfl)) (fun g hg e => by
    rcases hr4 g hg with x | x
    · rw [HV2.out] at x
      have := hlt2 g x
      omega
    · omega)
  generalize w3.setCell ⟨wq.heap.size, 0, none⟩ (.slice A3 ((filA k st).1.length + b.length) cc3) = w4 at *
  have f0 := cell_at hcells4 0
  have f1 := cell_at hb4 0
  have f2 := cell_at hb4 1
  simp only [List.getElem?_toArray, List.getElem?_cons_zero, List.getElem?_cons_succ] at f0
  simp at f1 f2
  have HB4 := Lib.hid hb4
  have HC4 := Lib.hid hcells4
  have HO4 := Lib.hid hown4
  have HO1 := Lib.hid H14
  clear e0 e1 e2 hb4 hcells4 hown4 H14 d0 d1 d2 d0' hlk
  go_still_tail 6, (by kernel_rfl)
  change wpList _ _ _ _ _ w4.drew
  have hKd := (Kept.refl w4).drew
  generalize w4.drew = wd at *
  go_wp2_with (go_at_call 56; refine (put_any k _ _ ((filA k st).1 ++ b, (filA k st).2) mb st wd (HO4.out.chg (Chg.of_kept (F := no) hKd) (fun x => x)) (by unfold maxLen; omega) (by omega)).mono ?_; rintro e w5 ⟨rfl, ho5, hc5⟩; have hb5 := hc5.block' (hKd.block' HC4.out) HD.out.db_ne; have g2 := cell_at hb5 2; have g3 := frozen_at hb5 2; simp only [List.getElem?_toArray, List.getElem?_cons_zero, List.getElem?_cons_succ] at g2; rw [HU.out] at g2; have HO5 := Lib.hid ho5; have HB5 := Lib.hid hb5; clear ho5 hb5)
  go_ret
  have hset := set2 (v := .int .i64 ((u : Int) + (b.length : Int))) HB5.out
  have hC5 : Chg (fun g => g = db) w5 (w5.setCell ⟨db, 2, none⟩ (.int .i64 ((u : Int) + (b.length : Int)))) := (Chg.refl _ w5).setCell _ (fun _ => rfl)
  have hCd : Chg (foot db mb (valA k st)) w (w5.setCell ⟨db, 2, none⟩ (.int .i64 ((u : Int) + (b.length : Int)))) := by
    refine (((hC4.then_kept hKd).mono (fun g _ x => .inr (.inr x))).trans (hc5.mono (G := foot db mb (valA k st)) (fun g _ x => .inr (.inl x))) (fun _ _ x => x)).trans (hC5.mono (G := foot db mb (valA k st)) (fun g _ x => .inl x)) (fun _ _ x => x)
  have hlen : used (putA k ((filA k st).1 ++ b, (filA k st).2) (mapV Prod.snd st)) = u + b.length := by
    have := used_put HD.out.good.1 k ((filA k st).1 ++ b, (filA k st).2)
    rw [← filA_mapV, HU.out] at this
    simp only [List.length_append] at this
    omega
  have hrow : ∀ g, rowD (.agg #[.slice A3 ((filA k st).1.length + b.length) cc3, .int .i64 ((filA k st).2 : Int)]) = some g → g ≠ db ∧ g ≠ mb := by
    intro g hg
    rcases hr4 g hg with x | x
    · exact ⟨HD.out.row_ne (valA_mem x) x, HD.out.tbl.row_ne (valA_mem x) x⟩
    · have h1 := World.block_lt_of_cell? _ _ c0
      have h2 := World.ownsMap.lt HD.out.tbl.owns
      simp at h1
      constructor <;> omega
  have hown := own_chg (own_chg (own_kept HO1.out hKd) hc5 (fun g hg => (hrow g hg).2)) hC5 (fun g hg => (hrow g hg).1)
  refine ⟨rfl, ⟨_, HD.out.put ?_ (HO5.out.chg hC5 (fun e => HD.out.db_ne e.symm)) ⟨_, rfl, by rw [List.length_append]; exact hown⟩ hCd (fun g hg => ?_) HK.out ?_ (by rw [hlen]; exact hfit) (by have := length_put k (Value.agg #[.slice A3 ((filA k st).1.length + b.length) cc3, .int .i64 ((filA k st).2 : Int)], ((filA k st).1 ++ b, (filA k st).2)) st; omega)⟩, hCd.mono (fun g _ x => HD.out.foot_F k x)⟩
  · rw [hlen]; push_cast; exact hset
  · rcases hr4 g hg with x | x
    · exact .inl x
    · have := (hown.lt g hg).2
      exact .inr ⟨by omega, this⟩
  · have := HD.out.good.getD k
    rw [← filA_mapV] at this
    simp only [List.length_append]
    omega
theorem Out.refl' {w w' : World} {d : Value} {cap : Nat} {fs : Fls} {F : Nat → Prop} (h : Disk w d cap fs F) (k : Kept w w') : Disk w' d cap fs (ext F w w') ∧ Chg F w w' := ⟨(h.kept k).mono (fun _ x => .inl x), Chg.of_kept k⟩
set_option maxRecDepth 100000 in
set_option maxHeartbeats 4000000 in
theorem append_name (k : Nm) (b : List UInt8) (vb : Value) (db : Nat) (w : World) (hk : okN k = false) :
    Calls Tryz.prog 15 #[.pointer (some ⟨db, 0, none⟩), .string ⟨k.toArray⟩, vb] w fun e w' => e = .returned (.int .i64 30) ∧ Kept w w' := by
  have HC := Lib.hid (show ∀ v W, Txts W v [k] → _ from fun v W hv => checkNames_any [k] v W hv)
  rw [show okL [k] = 30 by unfold okL; simp [hk]] at HC
  go_enter Tryz.func15, Tryz.ntmps15
  go_wp2_with fail
  refine (HC.out _ _ (Txts.one w k _)).mono ?_
  rintro e w1 ⟨rfl, hw1⟩
  have hk1 : Kept w w1 := by rw [← hw1]; exact (Kept.refl w).alloc _
  clear hw1
  go_wp2
  go_ret
  exact ⟨rfl, hk1⟩
set_option maxRecDepth 100000 in
set_option maxHeartbeats 4000000 in
theorem append_space (k : Nm) (b : List UInt8) (vb : Value) (db mb : Nat) (st : St) (cap : Nat) (F : Nat → Prop) (w : World) (hd : Dsk w db mb st cap F) (hb : Bts w vb b) (hk : okN k = true) (hfit : cap < used (mapV Prod.snd st) + b.length) :
    Calls Tryz.prog 15 #[.pointer (some ⟨db, 0, none⟩), .string ⟨k.toArray⟩, vb] w fun e w' => e = .returned (.int .i64 32) ∧ Kept w w' := by
  have c1 := hd.c1
  have c2 := hd.c2
  have hcl := hd.capLe
  have hfl := hd.fits
  have HC := Lib.hid (show ∀ v W, Txts W v [k] → _ from fun v W hv => checkNames_any [k] v W hv)
  rw [show okL [k] = 0 by unfold okL; simp [hk]] at HC
  obtain ⟨A, c, hvb, hc1, hc2, -⟩ := hb
  subst hvb
  have t1 : decide ((cap : Int) - (used (mapV Prod.snd st) : Int) < (b.length : Int)) = true := by simp; omega
  generalize used (mapV Prod.snd st) = u at *
  clear hd hk
  unfold maxLen at hc2
  go_enter Tryz.func15, Tryz.ntmps15
  go_wp2_with fail
  refine (HC.out _ _ (Txts.one w k _)).mono ?_
  rintro e w1 ⟨rfl, hw1⟩
  have hk1 : Kept w w1 := by rw [← hw1]; exact (Kept.refl w).alloc _
  clear hw1
  have d1 := hk1.cell c1
  have d2 := hk1.cell c2
  go_wp2
  go_quiet (fail)
  rename_i nq
  have hkq : Kept w (w1.drewN nq) := hk1.drewN nq
  generalize w1.drewN nq = wq at *
  go_wp2
  go_ret
  exact ⟨rfl, hkq⟩
/-- Append, whatever is asked. -/
theorem append_any (k : Nm) (b : List UInt8) (vb d : Value) (cap : Nat) (fs : Fls) (F : Nat → Prop) (w : World) (hd : Disk w d cap fs F) (hb : Bts w vb b) (hn : fs.length < 2000000000000) :
    Calls Tryz.prog 15 #[d, .string ⟨k.toArray⟩, vb] w fun e w' => e = .returned (.int .i64 (okA cap k b fs)) ∧ Disk w' d cap (if okA cap k b fs = 0 then appS k b fs else fs) (ext F w w') ∧ Chg F w w' := by
  have HD := hd
  obtain ⟨db, mb, st, rfl, rfl, hd⟩ := hd
  unfold okA
  cases hk : okN k with
  | false =>
    rw [if_pos rfl]
    exact (append_name k b vb db w hk).mono fun e w' ⟨h1, h2⟩ => ⟨h1, Out.refl' HD h2⟩
  | true =>
    rw [if_neg (by simp)]
    by_cases hf : cap < used (mapV Prod.snd st) + b.length
    · rw [if_pos hf]
      exact (append_space k b vb db mb st cap F w hd hb hk hf).mono fun e w' ⟨h1, h2⟩ => ⟨h1, Out.refl' HD h2⟩
    · rw [if_neg hf, if_pos rfl]
      refine (append_ok k b vb db mb st cap F w hd hb hk (by omega) (by simpa [mapV] using hn)).mono ?_
      rintro e w' ⟨h1, ⟨v, h2⟩, h3⟩
      refine ⟨h1, ⟨db, mb, _, rfl, ?_, h2⟩, h3⟩
      rw [mapV_put]
      unfold appS
      rw [← filA_mapV]
end Go.Proofs.YtngbgngfdklnlaaGreatDoor
