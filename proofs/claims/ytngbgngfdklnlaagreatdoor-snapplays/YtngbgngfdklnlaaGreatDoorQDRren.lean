/- The walk of the document's Rename. -/
import Derived.Test.YtngbgngfdklnlaaGreatDoorGDRapp2
set_option linter.unusedSimpArgs false
set_option linter.unusedVariables false
namespace Go.Proofs.YtngbgngfdklnlaaGreatDoor
open Go.RowKit
theorem RD.tight {w : World} {rb : Nat} {vL : Value} {rs : St} {cap : Nat} {G : Nat → Prop} (h : RD w rb vL rs cap G) : RD w rb vL rs cap (fun g => G g ∧ g < w.heap.size) :=
  ⟨h.cells, h.row, h.files, ⟨h.inG, (Array.getElem?_eq_some_iff.1 h.cells).1⟩, fun g hg => ⟨h.rowG g hg, (h.row.lt g hg).2⟩, fun p hp g hg => ⟨h.filG p hp g hg, ((h.files p hp).lt g hg).2⟩, h.good, h.fits, h.capLe, h.small⟩
theorem cut_cut {α : Type} (k : Nm) (m : List (Nm × α)) : cutA k (cutA k m) = cutA k m := cut_none (getA_cut_same k m)
theorem ren_eq {fs : Fls} (hs : Srt fs) {a b : Nm} {f : Fl} (hf : getA a fs = some f) : ins (b, f) (cutA b (cutA a fs)) = renS a b fs := by
  unfold renS
  split
  · rename_i e
    subst e
    rw [cut_cut]
    obtain ⟨p, q, rfl⟩ := get_split hf
    exact put_at hs
  · rename_i e
    rw [hf, Option.getD_some]
    refine srt_ext (srt_ins (srt_cut (srt_cut hs)) (fun p hp => (mem_cut hp).2)) (srt_cut (srt_put hs)) (fun k => ?_)
    show getA k (putA b f (cutA a fs)) = _
    by_cases h1 : k = b
    · subst h1
      rw [getA_put_same _ _ _ (srt_cut hs), getA_cut_other (Ne.symm e), getA_put_same _ _ _ hs]
    · rw [getA_put_other h1]
      by_cases h2 : k = a
      · subst h2
        rw [getA_cut_same, getA_cut_same]
      · rw [getA_cut_other h2, getA_cut_other h2, getA_put_other h1]
theorem has_none {α : Type} {k : Nm} {m : List (Nm × α)} (h : hasA k m = false) : getA k m = none := by
  rw [hasA_get] at h
  cases hq : getA k m with
  | none => rfl
  | some x => rw [hq] at h; cases h
theorem not_here {rs : St} {k : Nm} (h : getA k (mapV Prod.snd rs) = none) : ∀ p ∈ rs, p.1 ≠ k := by
  intro p hp
  exact get_none_of_put h (p.1, p.2.2) (List.mem_map.2 ⟨p, hp, rfl⟩)
theorem drop_cut {w : World} {rb : Nat} {vL : Value} {rs : St} {cap : Nat} {G : Nat → Prop} (h : RD w rb vL rs cap G) {i : Nat} (hi : i < rs.length) {k : Nm} (hk : rs[i].1 = k) : mapV Prod.snd (dropAt i rs) = cutA k (mapV Prod.snd rs) := by
  rw [mapV_dropAt]
  have := cut_drop h.good.1 (i := i) (by rw [length_mapV]; exact hi)
  rw [mapV_get hi, hk] at this
  exact this.symm
set_option maxRecDepth 100000 in
set_option maxHeartbeats 8000000 in
theorem rren_ok (a b : Nm) (rb : Nat) (vL : Value) (rs : St) (cap : Nat) (G : Nat → Prop) (w : World) (h0 : RD w rb vL rs cap G) (hka : okN a = true) (hkb : okN b = true) (hhas : hasA a rs = true) :
    Calls Tryz.prog 52 #[.pointer (some ⟨rb, 0, none⟩), .string ⟨a.toArray⟩, .string ⟨b.toArray⟩] w fun e w' => e = .returned (.int .i64 0) ∧ (∃ vL' rs', mapV Prod.snd rs' = renS a b (mapV Prod.snd rs) ∧ RD w' rb vL' rs' cap (ext G w w')) ∧ Chg G w w' := by
  have HNA := Lib.hid (name_any a w)
  rw [hka] at HNA
  have HNB := Lib.hid (name_any b w)
  rw [hkb] at HNB
  have h := h0.tight
  have HIN := Lib.hid h0.inG
  clear h0
  obtain ⟨i, hi, hfi, hnm⟩ := find_pos hhas
  have HF := Lib.hid (rfind_any a rb vL rs cap _ w h)
  rw [hfi] at HF
  obtain ⟨AL, cL, rfl, hcl1, hcl2⟩ := h.form
  unfold maxLen at hcl2
  have c1 := h.c1
  obtain ⟨gL, rfl, q0, q1, q2, -⟩ := h.at hi
  have hob := h.files _ (List.getElem_mem hi)
  obtain ⟨Ab, cb, hvb⟩ := own_form hob
  rw [hvb] at q1 hob
  have hBG0 := h.filG _ (List.getElem_mem hi)
  rw [hvb] at hBG0
  have hBlt : ∀ g, (Value.slice Ab rs[i].2.2.1.length cb).ownBlock = some g → g < w.heap.size := fun g hg => (hob.lt g hg).2
  have hBrb : ∀ g, (Value.slice Ab rs[i].2.2.1.length cb).ownBlock = some g → g ≠ rb := fun g hg => h.row_ne hob hg
  obtain ⟨hfl, hsl⟩ := h.flen hi
  have g2 : (i : Int) < (rs.length : Int) := by omega
  have g3 : (0 : Int) ≤ (i : Int) := by omega
  have hsm := h.small
  have hgeta : getA a (mapV Prod.snd rs) = some rs[i].2.2 := by
    have := get_at h.srt hi
    rw [hnm] at this
    rw [getA_mapV, this]
    rfl
  have hcut := drop_cut h hi hnm
  have huc := used_cut h.good.1 a
  rw [hgeta, Option.getD_some] at huc
  have hfit := h.fits
  have hren := ren_eq h.good.1 (b := b) hgeta
  have HREN := Lib.hid hren
  have HUC := Lib.hid huc
  have HCUT := Lib.hid hcut
  have H := Lib.hid h
  have HOB := Lib.hid hob
  have HBG0 := Lib.hid hBG0
  have HNM := Lib.hid hnm
  have HKB := Lib.hid hkb
  clear h hhas hfi hvb hob hren huc hcut hgeta hka hkb hBG0
  rw [hnm] at q0
  clear hnm
  go_enter Tryz.func52, Tryz.ntmps52
  go_wp2_with fail
  refine HNA.out.mono ?_
  rintro e wx ⟨rfl, hwx⟩
  subst hwx
  go_wp2_with fail
  refine HNB.out.mono ?_
  rintro e wx ⟨rfl, hwx⟩
  subst hwx
  go_wp2_with fail
  refine HF.out.mono ?_
  rintro e wx ⟨rfl, hwx⟩
  subst hwx
  go_wp2_with fail
  have hK1 : Kept w (w.alloc (.cells #[.string ⟨a.toArray⟩, .slice Ab rs[i].2.2.1.length cb, .int .i64 (rs[i].2.2.2 : Int)] 108)) := (Kept.refl w).alloc _
  have hb1 := heap_alloc_new w (.cells #[.string ⟨a.toArray⟩, .slice Ab rs[i].2.2.1.length cb, .int .i64 (rs[i].2.2.2 : Int)] 108)
  have hz1 : (w.alloc (.cells #[.string ⟨a.toArray⟩, .slice Ab rs[i].2.2.1.length cb, .int .i64 (rs[i].2.2.2 : Int)] 108)).heap.size = w.heap.size + 1 := by simp
  generalize w.alloc (.cells #[.string ⟨a.toArray⟩, .slice Ab rs[i].2.2.1.length cb, .int .i64 (rs[i].2.2.2 : Int)] 108) = w1 at *
  have HB1 := Lib.hid hb1
  have HZ1 := Lib.hid hz1
  clear hb1 hz1 q0 q1 q2 c1
  refine (rdrop_any i rb _ rs cap _ w1 (H.out.kept hK1) hi).mono ?_
  rintro e w2 ⟨rfl, ⟨vL2, hrd2⟩, hc2⟩
  have H2 := Lib.hid hrd2
  have hrb : rb < w.heap.size := (Array.getElem?_eq_some_iff.1 H.out.cells).1
  have hs2 := hc2.size
  have hlen1 := dropAt_len hi
  clear hrd2
  have HF2 := Lib.hid (rfind_any b rb vL2 (dropAt i rs) cap _ w2 H2.out)
  cases hh : hasA b (dropAt i rs) with
  | true =>
    obtain ⟨j, hj, hfj, hnj⟩ := find_pos hh
    rw [hfj] at HF2
    have HCUT2 := Lib.hid (drop_cut H2.out hj hnj)
    have hlen2 := dropAt_len hj
    have t1 : decide ((0 : Int) ≤ (j : Int)) = true := by simp
    clear hh hfj hnj
    go_wp2_with fail
    refine HF2.out.mono ?_
    rintro e wx ⟨rfl, hwx⟩
    subst hwx
    go_wp2_with fail
    refine (rdrop_any j rb _ (dropAt i rs) cap _ w2 H2.out hj).mono ?_
    rintro e w3 ⟨rfl, ⟨vL3, hrd3⟩, hc3⟩
    have H3 := Lib.hid hrd3
    have hs3 := hc3.size
    clear hrd3
    have hG3 : ∀ g, ext (ext (fun g => G g ∧ g < w.heap.size) w1 w2) w2 w3 g → g ≠ w.heap.size := by
      intro g x e
      have := HZ1.out
      rcases x with (x | x) | x
      · have := x.2; omega
      · have := x.1; omega
      · have := x.1; omega
    have hBG : ∀ g, (Value.slice Ab rs[i].2.2.1.length cb).ownBlock = some g → ext (ext (fun g => G g ∧ g < w.heap.size) w1 w2) w2 w3 g := fun g hg => .inl (.inl (HBG0.out g hg))
    have hB3 := own_chg (own_chg (own_kept HOB.out hK1) hc2 (fun g hg => hBrb g hg)) hc3 (fun g hg => hBrb g hg)
    have hfb3 := hc3.block' (hc2.block' HB1.out (by omega)) (by omega)
    have f0 := cell_at hfb3 0
    have f1 := cell_at hfb3 1
    have f2 := cell_at hfb3 2
    have ff := frozen_at hfb3 0
    simp only [List.getElem?_toArray, List.getElem?_cons_zero, List.getElem?_cons_succ] at f0 f1 f2
    have hC34 : Chg (fun g => g = w.heap.size) w3 ((w3).setCell ⟨w.heap.size, 0, none⟩ (.string ⟨b.toArray⟩)) := (Chg.refl (fun g => g = w.heap.size) (w3)).setCell _ (fun _ => rfl)
    have hrd4 := H3.out.chg hC34 (fun g x e => hG3 g x e)
    have hB4 := own_chg hB3 hC34 (fun g hg e => by have := hBlt g hg; omega)
    have HLY := Lib.hid (lay_any b (.slice Ab rs[i].2.2.1.length cb) rs[i].2.2 rb _ _ cap _ _ hrd4 hB4 (fun g hg => hBG g hg) HKB.out hsl (not_here (by rw [HCUT2.out, HCUT.out]; exact getA_cut_same _ _)) (by rw [HCUT2.out, HCUT.out]; have h1 := HUC.out; have h2 := used_cut (srt_cut H.out.good.1 (k := a)) b; omega) (by have := hlen2; omega))
    have HMV := Lib.hid (show mapV Prod.snd (ins (b, ((.slice Ab rs[i].2.2.1.length cb : Value), rs[i].2.2)) (dropAt j (dropAt i rs))) = renS a b (mapV Prod.snd rs) by rw [mapV_ins, HCUT2.out, HCUT.out]; exact HREN.out)
    clear hrd4 hB3 hB4
    go_wp2_with fail
    refine HLY.out.mono ?_
    rintro e w5 ⟨rfl, ⟨vL5, h5⟩, hc5⟩
    have H5 := Lib.hid h5
    clear h5
    have hs5 := hc5.size
    have hs34 := hC34.size
    go_wp2
    go_ret
    have hz := HZ1.out
    refine ⟨rfl, ⟨_, _, HMV.out, H5.out.mono (fun g x => ?_)⟩, ((((Chg.of_kept hK1).trans hc2 (fun g _ e => by rw [e]; exact HIN.out)).trans hc3 (fun g _ e => by rw [e]; exact HIN.out)).trans hC34 (fun g hg e => by omega)).trans hc5 (fun g _ e => by rw [e]; exact HIN.out)⟩
    rcases x with ((x | x) | x) | x
    · exact .inl x.1
    · exact .inr ⟨by omega, by omega⟩
    · exact .inr ⟨by omega, by omega⟩
    · exact .inr ⟨by omega, x.2⟩
  | false =>
    rw [find_neg hh] at HF2
    have HCUT2 := Lib.hid (cut_none (has_none (show hasA b (mapV Prod.snd (dropAt i rs)) = false by rw [hasA_mapV]; exact hh)))
    have HHN := Lib.hid hh
    clear hh
    go_wp2_with fail
    refine HF2.out.mono ?_
    rintro e wx ⟨rfl, hwx⟩
    subst hwx
    have H3 := H2
    have hG3 : ∀ g, ext (fun g => G g ∧ g < w.heap.size) w1 w2 g → g ≠ w.heap.size := by
      intro g x e
      have := HZ1.out
      rcases x with x | x
      · have := x.2; omega
      · have := x.1; omega
    have hBG : ∀ g, (Value.slice Ab rs[i].2.2.1.length cb).ownBlock = some g → ext (fun g => G g ∧ g < w.heap.size) w1 w2 g := fun g hg => .inl (HBG0.out g hg)
    have hB3 := own_chg (own_kept HOB.out hK1) hc2 (fun g hg => hBrb g hg)
    have hfb3 := hc2.block' HB1.out (by omega)
    have f0 := cell_at hfb3 0
    have f1 := cell_at hfb3 1
    have f2 := cell_at hfb3 2
    have ff := frozen_at hfb3 0
    simp only [List.getElem?_toArray, List.getElem?_cons_zero, List.getElem?_cons_succ] at f0 f1 f2
    have hC34 : Chg (fun g => g = w.heap.size) w2 ((w2).setCell ⟨w.heap.size, 0, none⟩ (.string ⟨b.toArray⟩)) := (Chg.refl (fun g => g = w.heap.size) (w2)).setCell _ (fun _ => rfl)
    have hrd4 := H3.out.chg hC34 (fun g x e => hG3 g x e)
    have hB4 := own_chg hB3 hC34 (fun g hg e => by have := hBlt g hg; omega)
    have HLY := Lib.hid (lay_any b (.slice Ab rs[i].2.2.1.length cb) rs[i].2.2 rb _ _ cap _ _ hrd4 hB4 (fun g hg => hBG g hg) HKB.out hsl (not_here (by rw [← HCUT2.out]; exact getA_cut_same _ _)) (by rw [HCUT.out]; have h1 := HUC.out; omega) (by have := hlen1; omega))
    have HMV := Lib.hid (show mapV Prod.snd (ins (b, ((.slice Ab rs[i].2.2.1.length cb : Value), rs[i].2.2)) (dropAt i rs)) = renS a b (mapV Prod.snd rs) by rw [mapV_ins, ← HCUT2.out, HCUT.out]; exact HREN.out)
    clear hrd4 hB3 hB4
    go_wp2_with fail
    refine HLY.out.mono ?_
    rintro e w5 ⟨rfl, ⟨vL5, h5⟩, hc5⟩
    have H5 := Lib.hid h5
    clear h5
    have hs5 := hc5.size
    have hs34 := hC34.size
    go_wp2
    go_ret
    have hz := HZ1.out
    refine ⟨rfl, ⟨_, _, HMV.out, H5.out.mono (fun g x => ?_)⟩, (((Chg.of_kept hK1).trans hc2 (fun g _ e => by rw [e]; exact HIN.out)).trans hC34 (fun g hg e => by omega)).trans hc5 (fun g _ e => by rw [e]; exact HIN.out)⟩
    rcases x with (x | x) | x
    · exact .inl x.1
    · exact .inr ⟨by omega, by omega⟩
    · exact .inr ⟨by omega, x.2⟩
set_option maxRecDepth 100000 in
set_option maxHeartbeats 4000000 in
theorem rren_bad (a b : Nm) (rb : Nat) (w : World) (hk : okN a = false ∨ okN b = false) :
    Calls Tryz.prog 52 #[.pointer (some ⟨rb, 0, none⟩), .string ⟨a.toArray⟩, .string ⟨b.toArray⟩] w fun e w' => e = .returned (.int .i64 30) ∧ Kept w w' := by
  have HNA := Lib.hid (name_any a w)
  have HNB := Lib.hid (name_any b w)
  cases ha : okN a with
  | false =>
    rw [ha] at HNA
    go_enter Tryz.func52, Tryz.ntmps52
    go_wp2_with fail
    refine HNA.out.mono ?_
    rintro e wx ⟨rfl, hwx⟩
    subst hwx
    go_wp2
    go_ret
    exact ⟨rfl, Kept.refl _⟩
  | true =>
    have hb : okN b = false := by
      rcases hk with h | h
      · rw [ha] at h; cases h
      · exact h
    rw [ha] at HNA
    rw [hb] at HNB
    clear hk
    go_enter Tryz.func52, Tryz.ntmps52
    go_wp2_with fail
    refine HNA.out.mono ?_
    rintro e wx ⟨rfl, hwx⟩
    subst hwx
    go_wp2_with fail
    refine HNB.out.mono ?_
    rintro e wx ⟨rfl, hwx⟩
    subst hwx
    go_wp2
    go_ret
    exact ⟨rfl, Kept.refl _⟩
set_option maxRecDepth 100000 in
set_option maxHeartbeats 4000000 in
theorem rren_file (a b : Nm) (rb : Nat) (vL : Value) (rs : St) (cap : Nat) (G : Nat → Prop) (w : World) (h : RD w rb vL rs cap G) (hka : okN a = true) (hkb : okN b = true) (hhas : hasA a rs = false) :
    Calls Tryz.prog 52 #[.pointer (some ⟨rb, 0, none⟩), .string ⟨a.toArray⟩, .string ⟨b.toArray⟩] w fun e w' => e = .returned (.int .i64 31) ∧ Kept w w' := by
  have HNA := Lib.hid (name_any a w)
  rw [hka] at HNA
  have HNB := Lib.hid (name_any b w)
  rw [hkb] at HNB
  have HF := Lib.hid (rfind_any a rb vL rs cap _ w h)
  rw [find_neg hhas] at HF
  clear h hhas
  go_enter Tryz.func52, Tryz.ntmps52
  go_wp2_with fail
  refine HNA.out.mono ?_
  rintro e wx ⟨rfl, hwx⟩
  subst hwx
  go_wp2_with fail
  refine HNB.out.mono ?_
  rintro e wx ⟨rfl, hwx⟩
  subst hwx
  go_wp2_with fail
  refine HF.out.mono ?_
  rintro e wx ⟨rfl, hwx⟩
  subst hwx
  go_wp2
  go_ret
  exact ⟨rfl, Kept.refl _⟩
theorem rrename_any (a b : Nm) (x : Value) (cap : Nat) (fs : Fls) (G : Nat → Prop) (w : World) (h : Ref w x cap fs G) :
    Calls Tryz.prog 52 #[x, .string ⟨a.toArray⟩, .string ⟨b.toArray⟩] w fun e w' => e = .returned (.int .i64 (renE a b fs)) ∧ Ref w' x cap (if renE a b fs = 0 then renS a b fs else fs) (ext G w w') ∧ Chg G w w' := by
  have HR := h
  obtain ⟨rb, vL, rs, rfl, rfl, h⟩ := h
  cases hb : okN b with
  | false =>
    have e : renE a b (mapV Prod.snd rs) = 30 := by unfold renE; rw [hb]; rfl
    rw [e, if_neg (by decide)]
    exact (rren_bad a b rb w (.inr hb)).mono fun e w' ⟨h1, h2⟩ => ⟨h1, HR.still h2⟩
  | true =>
    cases ha : okN a with
    | false =>
      have e : renE a b (mapV Prod.snd rs) = 30 := by unfold renE allS; simp [hb, ha]
      rw [e, if_neg (by decide)]
      exact (rren_bad a b rb w (.inl ha)).mono fun e w' ⟨h1, h2⟩ => ⟨h1, HR.still h2⟩
    | true =>
      cases hh : hasA a rs with
      | false =>
        have e : renE a b (mapV Prod.snd rs) = 31 := by unfold renE allS; simp [hb, ha, hasA_mapV, hh]
        rw [e, if_neg (by decide)]
        exact (rren_file a b rb vL rs cap G w h ha hb hh).mono fun e w' ⟨h1, h2⟩ => ⟨h1, HR.still h2⟩
      | true =>
        have e : renE a b (mapV Prod.snd rs) = 0 := by unfold renE allS; simp [hb, ha, hasA_mapV, hh]
        rw [e, if_pos rfl]
        refine (rren_ok a b rb vL rs cap G w h ha hb hh).mono ?_
        rintro e w' ⟨h1, ⟨vL', rs', h2, h3⟩, h4⟩
        exact ⟨h1, ⟨rb, vL', rs', rfl, h2, h3⟩, h4⟩
end Go.Proofs.YtngbgngfdklnlaaGreatDoor
