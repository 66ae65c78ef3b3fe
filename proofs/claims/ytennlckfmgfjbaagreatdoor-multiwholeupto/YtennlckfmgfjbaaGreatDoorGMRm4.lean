/- The walk of remove. The walk of set. The walk of check. The walk of within. -/
import Derived.Test.YtennlckfmgfjbaaGreatDoorGMSt3
set_option linter.unusedSimpArgs false
set_option linter.unusedVariables false
namespace Go.Proofs.YtennlckfmgfjbaaGreatDoor
open Go.RowKit
theorem Kept.poke {w W : World} (h : Kept w W) {b o : Nat} {v : Value} (hb : w.heap.size ≤ b) : Kept w (W.setCell ⟨b, o, none⟩ v) :=
  ⟨h.os, h.tape, h.output, by simpa [World.setCell] using h.size, fun k hk => (Below.heap_setCell W ⟨b, o, none⟩ v k (by show k ≠ b; omega)).trans (h.block k hk)⟩
abbrev stat0 : Obj := .cells #[.int .i64 0, .int .i64 0, .int .i64 0, .int .i64 0] 60
section
variable {A : Nat → Prop} {w0 W : World} {wb tb : Nat} {h : Pth} {owner qn qb bad : Int} {m : WkM} {lim : Nat}
theorem Work.get (k : Work A w0 W wb tb h owner qn qb bad m lim) (p : Pth) : Calls Tryz.prog 16 #[.pointer (some ⟨tb, 0, none⟩), .string ⟨p.toArray⟩] W (GetTo m.t p W) := by
  obtain ⟨mb, st, F, G, rv, ev, a1, a2, a3, a⟩ := k
  rw [← a3]
  exact get_any a2 p
theorem Work.small (k : Work A w0 W wb tb h owner qn qb bad m lim) (p : Pth) : (dataOf m.t p).length ≤ 256 := by
  obtain ⟨mb, st, F, G, rv, ev, a1, a2, a3, a⟩ := k
  unfold dataOf
  rw [← a3]
  cases hg : getZ p (plainZ st) with
  | none => exact Nat.zero_le _
  | some n =>
    obtain ⟨e, he, h2⟩ := plainZ_get hg
    rw [← h2]
    exact (a2.get he).2.small
set_option maxRecDepth 100000 in
set_option maxHeartbeats 8000000 in
theorem mremove_any (k : Work A w0 W wb tb h owner qn qb bad m lim) (hm : Mild m) (o : OpM) (dv : Value) (hdv : ∃ B n c, dv = .slice B n c) (hlim : lim + 2 < 4611686018427387903) :
    Calls Tryz.prog 76 #[.pointer (some ⟨wb, 0, none⟩), opV o dv] W (OpTo A w0 wb tb h owner qn qb bad (deleteM m o) lim W) := by
  obtain ⟨B, dn, cd, rfl⟩ := hdv
  have hka := (Kept.refl W).alloc (opO o (.slice B dn cd))
  have hba := heap_alloc_new W (opO o (.slice B dn cd))
  have hsa : W.heap.size < (W.alloc (opO o (.slice B dn cd))).heap.size := by simp
  have HKW := Lib.hid (k.away hka ⟨Nat.le_refl _, hsa⟩)
  have HMI := Lib.hid hm
  obtain ⟨r, hr⟩ : ∃ r, deleteM m o = r := ⟨_, rfl⟩
  have HR := Lib.hid hr
  rw [hr]
  have HQ := Lib.hid (show ∀ x W', Work (fun g => A g ∨ g = W.heap.size) w0 W' wb tb h owner qn qb bad r.2 (lim + 1) → Apart (fun g => A g ∨ g = W.heap.size) (W.alloc (opO o (.slice B dn cd))) W' → x = r.1 → OpTo A w0 wb tb h owner qn qb bad r lim W (.returned (.int .i64 x)) W' from fun x W' h1 h2 h3 => ⟨by rw [h3], h1.less (fun g y => .inl y), (Apart.of_kept hka).trans (h2.less (fun g y => .inl y))⟩)
  unfold opV
  clear k hka hm hr
  generalize OpTo A w0 wb tb h owner qn qb bad r lim W = Q at *
  have hopo : opO o (.slice B dn cd) = .cells #[.int .i64 o.kind, .string ⟨o.path.toArray⟩, .slice B dn cd, .int .i64 o.ver, .bool o.eph, .bool o.seq] 46 := rfl
  rw [hopo] at *
  go_enter Tryz.func76, Tryz.ntmps76
  go_upto_region 1 with (fail)
  generalize W.alloc (.cells #[.int .i64 o.kind, .string ⟨o.path.toArray⟩, .slice B dn cd, .int .i64 o.ver, .bool o.eph, .bool o.seq] 46) = wa at *
  obtain ⟨kind, path, data, ver, eph, seq⟩ := o
  simp only at *
  have x1 := cell_at hba 1
  have x3 := cell_at hba 3
  obtain ⟨rv, ev, hblk, hnA⟩ := HKW.out.blk
  have y3 := cell_at hblk 3
  simp only [List.getElem?_toArray, List.getElem?_cons_zero, List.getElem?_cons_succ] at x1 x3 y3
  have hkd := (Kept.refl wa).drew
  have HGT := Lib.hid (fun X (kX : Kept wa X) => (HKW.out.kept kX).get path)
  unfold GetTo at HGT
  obtain ⟨dl, hdl⟩ : ∃ dl, (dataOf m.t path).length = dl := ⟨_, rfl⟩
  have HDL := Lib.hid hdl
  simp only [hdl] at HGT
  clear hblk hba hdl
  go_cut [5, 6, 7] (fun a b c X => ∃ A1 c1 s1 e1, a = .slice A1 dl c1 ∧ b = .pointer (some ⟨s1, 0, none⟩) ∧ c = .int .i64 e1 ∧ Kept wa X)
  case first =>
    go_region_held3 (fun X => X.cell? ⟨wb, 3, none⟩ = some (.pointer (some ⟨tb, 0, none⟩)) ∧ X.cell? ⟨W.heap.size, 1, none⟩ = some (.string ⟨path.toArray⟩) ∧ Kept wa X)
      (refine ⟨Kept.cell ?_ y3, Kept.cell ?_ x1, ?_⟩ <;> repeat (first | exact Kept.refl _ | assumption | refine Kept.drew ?_ | refine Kept.alloc ?_ _ | refine Kept.poke ?_ (by first | omega | simp)))
      (first | (go_at_call 16; refine (HGT.out _ (by first | exact hkd | exact hkd.alloc _)).mono ?_; rintro e w3 ⟨A1, c1, a1, b1, d1, k1, rfl, hv1, hk3⟩; have hkw := (show Kept wa w3 from by first | exact hkd.trans hk3 | exact (hkd.alloc _).trans hk3); try (have hs : w3.heap[wa.heap.size]? = some stat0 := hk3.block' (heap_alloc_new wa.drew stat0); have s0 := cell_at hs 0; have s1 := cell_at hs 1; have s2 := cell_at hs 2; have s3 := cell_at hs 3; have f0 := frozen_at hs 0; have f1 := frozen_at hs 1; have f2 := frozen_at hs 2; have f3 := frozen_at hs 3; simp only [List.getElem?_toArray, List.getElem?_cons_zero, List.getElem?_cons_succ] at s0 s1 s2 s3)))
    all_goals
      go_wp2
      go_meet
      case rel => first
        | exact ⟨A1, c1, _, _, rfl, rfl, rfl, hkw.alloc _⟩
        | exact ⟨A1, c1, _, _, rfl, rfl, rfl, (((hkw.poke (Nat.le_refl _)).poke (Nat.le_refl _)).poke (Nat.le_refl _)).poke (Nat.le_refl _)⟩
  case rest =>
  obtain ⟨A1, c1, s1, e1, rfl, rfl, rfl, hkc⟩ := hcut
  have HWC := Lib.hid (HKW.out.kept hkc)
  have HKC := Lib.hid hkc
  have x1 := hkc.cell x1
  have x3 := hkc.cell x3
  have y3 := hkc.cell y3
  have hdl2 : dl ≤ 256 := by rw [← HDL.out]; exact HWC.out.small path
  clear hkc hkd HGT
  have hkd := (Kept.refl wc).drew
  have HKD := Lib.hid hkd
  have hdel := (HWC.out.kept hkd).delete path ver hlim
  have hr := HR.out
  unfold deleteM at hr
  simp only [HDL.out] at hr
  have hpl : deleteE m.t path ver = 0 → path.length ≤ 128 := fun hE => by
    unfold deleteE at hE
    cases hp : parentOf path with
    | none => rw [hp] at hE; cases hE
    | some up => exact names_lenZ (parent_names hp).1
  have hsame : deleteE m.t path ver ≠ 0 → deleteS m.t path ver = m.t := fun hE => by unfold deleteS; rw [if_neg hE]
  generalize deleteS m.t path ver = ts at *
  generalize deleteE m.t path ver = ce at *
  have HD := Lib.hid hdel
  have HRR := Lib.hid hr
  have HPL := Lib.hid hpl
  have HSM := Lib.hid hsame
  clear hdel hr hpl hsame HR
  go_wp2_with fail
  go_region_held3 (fun X => X.cell? ⟨wb, 3, none⟩ = some (.pointer (some ⟨tb, 0, none⟩)) ∧ X.cell? ⟨W.heap.size, 1, none⟩ = some (.string ⟨path.toArray⟩) ∧ X.cell? ⟨W.heap.size, 3, none⟩ = some (.int .i64 ver))
    (first | exact ⟨y3, x1, x3⟩ | exact ⟨hkd.cell y3, hkd.cell x1, hkd.cell x3⟩ | exact ⟨z3, z1, z4⟩)
    (first
      | (go_at_call 43; refine HD.out.mono ?_; rintro e w4 ⟨rfl, k4, ap4⟩; obtain ⟨rv4, ev4, hb4, -⟩ := k4.blk; have z3 := cell_at hb4 3; have z6 := cell_at hb4 6; have fz6 := frozen_at hb4 6; simp only [List.getElem?_toArray, List.getElem?_cons_zero, List.getElem?_cons_succ] at z3 z6; have z1 := ap4.cell (hkd.cell x1) (.inr rfl); have z4 := ap4.cell (hkd.cell x3) (.inr rfl); have HK4 := Lib.hid k4; have HA4 := Lib.hid (((Apart.of_kept HKC.out).trans (Apart.of_kept HKD.out)).trans ap4); clear k4 ap4 hb4))
  clear y3 x1 x3 hkd
  by_cases hce : ce = 0
  · subst hce
    have hcl := HPL.out rfl
    have hrr := HRR.out
    rw [if_neg (by simp)] at hrr
    obtain ⟨k5, ap5⟩ := HK4.out.setUn (m.un - 1)
    have b1 := HMI.out.unL
    have b2 := HMI.out.unH
    have b3 := HMI.out.ubL
    have b4 := HMI.out.ubH
    have x1 := ap5.cell z1 (.inr rfl)
    clear z1 z3 z4
    go_upto_region 6 with (fail)
    generalize w4.setCell ⟨wb, 6, none⟩ (.int .i64 (m.un - 1)) = w5 at *
    clear z6 fz6
    obtain ⟨rv5, ev5, hb5, -⟩ := k5.blk
    have v7 := cell_at hb5 7
    have f7 := frozen_at hb5 7
    simp only [List.getElem?_toArray, List.getElem?_cons_zero, List.getElem?_cons_succ] at v7
    have hkd := (Kept.refl w5).drew
    have d7 := hkd.cell v7
    have d1 := hkd.cell x1
    have g7 : w5.drew.frozen? ⟨wb, 7, none⟩ = false := f7
    obtain ⟨k6, ap6⟩ := k5.setUb (m.ub - ((path.length : Int) + (dl : Int)))
    have HK6 := Lib.hid (k6.kept (Kept.refl _).drew)
    have HA6 := Lib.hid (((HA4.out.trans ap5).trans ap6).trans (Apart.of_kept (Kept.refl _).drew))
    have x6 := (Kept.refl _).drew.cell (ap6.cell x1 (.inr rfl))
    have X6 := Lib.hid x6
    clear k5 ap5 hb5 k6 ap6 hkd x6
    go_region
    all_goals
      have x6 := X6.out
      generalize (w5.setCell ⟨wb, 7, none⟩ (.int .i64 (m.ub - ((path.length : Int) + (dl : Int))))).drew = w6 at *
      clear v7 f7 d7 d1 g7 x1
      have HTL := Lib.hid (HK6.out.tell [] 0 2 path (by have := HMI.out.res; simp only; omega) (by have := HMI.out.eff; simp only; omega) (by omega))
      go_wp2_with fail
      refine HTL.out.mono ?_
      rintro e w7 ⟨rfl, k7, ap7⟩
      have HG := Lib.hid (HQ.out 0 w7 (by rw [← hrr]; exact k7) (HA6.out.trans ap7) (by rw [← hrr]))
      clear k7 ap7
      go_wp2
      exact HG.out
  · have t1 : (ce != 0) = true := by rw [bne_iff_ne]; exact hce
    have hrr := HRR.out
    rw [if_pos hce] at hrr
    have hk4 := HK4.out
    rw [HSM.out hce] at hk4
    have HG := Lib.hid (HQ.out ce w4 (by rw [← hrr]; exact hk4) HA4.out (by rw [← hrr]))
    clear hrr hk4 z1 z3 z4 z6
    go_wp2
    exact HG.out
end
end Go.Proofs.YtennlckfmgfjbaaGreatDoor
set_option linter.unusedSimpArgs false
set_option linter.unusedVariables false
namespace Go.Proofs.YtennlckfmgfjbaaGreatDoor
open Go.RowKit
section
variable {A : Nat → Prop} {w0 W : World} {wb tb : Nat} {h : Pth} {owner qn qb bad : Int} {m : WkM} {lim : Nat}
set_option maxRecDepth 100000 in
set_option maxHeartbeats 8000000 in
theorem mset_any (k : Work A w0 W wb tb h owner qn qb bad m lim) (hm : Mild m) (o : OpM) (dv : Value) (hv : Bts W dv o.data) (hlim : lim + 2 < 4611686018427387903) :
    Calls Tryz.prog 77 #[.pointer (some ⟨wb, 0, none⟩), opV o dv] W (OpTo A w0 wb tb h owner qn qb bad (setM qn qb m o) lim W) := by
  obtain ⟨B, cd, rfl⟩ := hv.form
  have hka := (Kept.refl W).alloc (opO o (.slice B o.data.length cd))
  have hba := heap_alloc_new W (opO o (.slice B o.data.length cd))
  have hsa : W.heap.size < (W.alloc (opO o (.slice B o.data.length cd))).heap.size := by simp
  have HKW := Lib.hid (k.away hka ⟨Nat.le_refl _, hsa⟩)
  have HMI := Lib.hid hm
  have HVB := Lib.hid (fun X (kX : Kept W X) => hv.kept kX)
  have HKA := Lib.hid hka
  obtain ⟨r, hr⟩ : ∃ r, setM qn qb m o = r := ⟨_, rfl⟩
  have HR := Lib.hid hr
  rw [hr]
  have HQ := Lib.hid (show ∀ x W', Work (fun g => A g ∨ g = W.heap.size) w0 W' wb tb h owner qn qb bad r.2 (lim + 1) → Apart (fun g => A g ∨ g = W.heap.size) (W.alloc (opO o (.slice B o.data.length cd))) W' → x = r.1 → OpTo A w0 wb tb h owner qn qb bad r lim W (.returned (.int .i64 x)) W' from fun x W' h1 h2 h3 => ⟨by rw [h3], h1.less (fun g y => .inl y), (Apart.of_kept hka).trans (h2.less (fun g y => .inl y))⟩)
  unfold opV
  clear k hka hm hr hv
  generalize OpTo A w0 wb tb h owner qn qb bad r lim W = Q at *
  have hopo : opO o (.slice B o.data.length cd) = .cells #[.int .i64 o.kind, .string ⟨o.path.toArray⟩, .slice B o.data.length cd, .int .i64 o.ver, .bool o.eph, .bool o.seq] 46 := rfl
  rw [hopo] at *
  go_enter Tryz.func77, Tryz.ntmps77
  go_upto_region 1 with (fail)
  generalize W.alloc (.cells #[.int .i64 o.kind, .string ⟨o.path.toArray⟩, .slice B o.data.length cd, .int .i64 o.ver, .bool o.eph, .bool o.seq] 46) = wa at *
  obtain ⟨kind, path, data, ver, eph, seq⟩ := o
  simp only at *
  have x1 := cell_at hba 1
  have x2 := cell_at hba 2
  have x3 := cell_at hba 3
  obtain ⟨rv, ev, hblk, hnA⟩ := HKW.out.blk
  have y3 := cell_at hblk 3
  simp only [List.getElem?_toArray, List.getElem?_cons_zero, List.getElem?_cons_succ] at x1 x2 x3 y3
  have hkd := (Kept.refl wa).drew
  have HGT := Lib.hid (fun X (kX : Kept wa X) => (HKW.out.kept kX).get path)
  unfold GetTo at HGT
  obtain ⟨dl, hdl⟩ : ∃ dl, (dataOf m.t path).length = dl := ⟨_, rfl⟩
  have HDL := Lib.hid hdl
  simp only [hdl] at HGT
  clear hblk hba hdl
  go_cut [5, 6, 7] (fun a b c X => ∃ A1 c1 s1 e1, a = .slice A1 dl c1 ∧ b = .pointer (some ⟨s1, 0, none⟩) ∧ c = .int .i64 e1 ∧ Kept wa X)
  case first =>
    go_region_held3 (fun X => X.cell? ⟨wb, 3, none⟩ = some (.pointer (some ⟨tb, 0, none⟩)) ∧ X.cell? ⟨W.heap.size, 1, none⟩ = some (.string ⟨path.toArray⟩) ∧ Kept wa X)
      (refine ⟨Kept.cell ?_ y3, Kept.cell ?_ x1, ?_⟩ <;> repeat (first | exact Kept.refl _ | assumption | refine Kept.drew ?_ | refine Kept.alloc ?_ _ | refine Kept.poke ?_ (by first | omega | simp)))
      (first | (go_at_call 16; refine (HGT.out _ (by first | exact hkd | exact hkd.alloc _)).mono ?_; rintro e w3 ⟨A1, c1, a1, b1, d1, k1, rfl, hv1, hk3⟩; have hkw := (show Kept wa w3 from by first | exact hkd.trans hk3 | exact (hkd.alloc _).trans hk3); try (have hs : w3.heap[wa.heap.size]? = some stat0 := hk3.block' (heap_alloc_new wa.drew stat0); have s0 := cell_at hs 0; have s1 := cell_at hs 1; have s2 := cell_at hs 2; have s3 := cell_at hs 3; have f0 := frozen_at hs 0; have f1 := frozen_at hs 1; have f2 := frozen_at hs 2; have f3 := frozen_at hs 3; simp only [List.getElem?_toArray, List.getElem?_cons_zero, List.getElem?_cons_succ] at s0 s1 s2 s3)))
    all_goals
      go_wp2
      go_meet
      case rel => first
        | exact ⟨A1, c1, _, _, rfl, rfl, rfl, hkw.alloc _⟩
        | exact ⟨A1, c1, _, _, rfl, rfl, rfl, (((hkw.poke (Nat.le_refl _)).poke (Nat.le_refl _)).poke (Nat.le_refl _)).poke (Nat.le_refl _)⟩
  case rest =>
  obtain ⟨A1, c1, s1, e1, rfl, rfl, rfl, hkc⟩ := hcut
  have HWC := Lib.hid (HKW.out.kept hkc)
  have HKC := Lib.hid hkc
  have x1 := hkc.cell x1
  have x2 := hkc.cell x2
  have x3 := hkc.cell x3
  have y3 := hkc.cell y3
  have hdl2 : dl ≤ 256 := by rw [← HDL.out]; exact HWC.out.small path
  clear hkc hkd HGT
  have hkd := (Kept.refl wc).drew
  have HKD := Lib.hid hkd
  have hset := (HWC.out.kept hkd).setting path data (.slice B data.length cd) ver (HVB.out _ (HKA.out.trans (HKC.out.trans hkd))) hlim
  have hr := HR.out
  unfold setM at hr
  simp only [HDL.out] at hr
  have hpl : setE m.t path data.length ver = 0 → path.length ≤ 128 ∧ data.length ≤ 256 := fun hE => by
    unfold setE at hE
    cases hp : parentOf path with
    | none => rw [hp] at hE; cases hE
    | some up =>
      rw [hp] at hE
      simp only at hE
      by_cases h2 : 256 < data.length
      · rw [if_pos h2] at hE; cases hE
      · exact ⟨names_lenZ (parent_names hp).1, by omega⟩
  have hsame : setE m.t path data.length ver ≠ 0 → setS m.t path data ver = m.t := fun hE => by unfold setS; rw [if_neg hE]
  generalize setS m.t path data ver = ts at *
  generalize setE m.t path data.length ver = ce at *
  generalize setV m.t path data.length ver = sv at *
  have HD := Lib.hid hset
  have HRR := Lib.hid hr
  have HPL := Lib.hid hpl
  have HSM := Lib.hid hsame
  clear hset hr hpl hsame HR
  go_wp2_with fail
  go_region_held3 (fun X => X.cell? ⟨wb, 3, none⟩ = some (.pointer (some ⟨tb, 0, none⟩)) ∧ X.cell? ⟨W.heap.size, 1, none⟩ = some (.string ⟨path.toArray⟩) ∧ X.cell? ⟨W.heap.size, 2, none⟩ = some (.slice B data.length cd) ∧ X.cell? ⟨W.heap.size, 3, none⟩ = some (.int .i64 ver))
    (first | exact ⟨y3, x1, x2, x3⟩ | exact ⟨hkd.cell y3, hkd.cell x1, hkd.cell x2, hkd.cell x3⟩ | exact ⟨z3, z1, z2, z4⟩)
    (first
      | (go_at_call 73; refine HD.out.mono ?_; rintro e w4 ⟨rfl, k4, ap4⟩; obtain ⟨rv4, ev4, hb4, -⟩ := k4.blk; have z3 := cell_at hb4 3; have z7 := cell_at hb4 7; have fz7 := frozen_at hb4 7; simp only [List.getElem?_toArray, List.getElem?_cons_zero, List.getElem?_cons_succ] at z3 z7; have z1 := ap4.cell (hkd.cell x1) (.inr rfl); have z2 := ap4.cell (hkd.cell x2) (.inr rfl); have z4 := ap4.cell (hkd.cell x3) (.inr rfl); have HK4 := Lib.hid k4; have HA4 := Lib.hid (((Apart.of_kept HKC.out).trans (Apart.of_kept HKD.out)).trans ap4); clear k4 ap4 hb4))
  clear y3 x1 x2 x3 hkd
  by_cases hce : ce = 0
  · subst hce
    obtain ⟨hcl, hdl3⟩ := HPL.out rfl
    have hrr := HRR.out
    rw [if_neg (by simp)] at hrr
    have b3 := HMI.out.ubL
    have b4 := HMI.out.ubH
    have hkd := (Kept.refl w4).drew
    have d7 := hkd.cell z7
    have d2 := hkd.cell z2
    have g7 : w4.drew.frozen? ⟨wb, 7, none⟩ = false := fz7
    obtain ⟨k6, ap6⟩ := HK4.out.setUb (m.ub + ((data.length : Int) - (dl : Int)))
    have HK6 := Lib.hid (k6.kept (Kept.refl _).drew)
    have HA6 := Lib.hid ((HA4.out.trans ap6).trans (Apart.of_kept (Kept.refl _).drew))
    have x6 := (Kept.refl _).drew.cell (ap6.cell z1 (.inr rfl))
    have X6 := Lib.hid x6
    clear k6 ap6 hkd x6 z1 z3 z4
    go_upto_region 5 with (fail)
    go_region
    all_goals
      have x6 := X6.out
      generalize (w4.setCell ⟨wb, 7, none⟩ (.int .i64 (m.ub + ((data.length : Int) - (dl : Int))))).drew = w6 at *
      clear z7 fz7 d7 d2 g7 z2
      have HTL := Lib.hid (HK6.out.tell [] sv 3 path (by have := HMI.out.res; simp only; omega) (by have := HMI.out.eff; simp only; omega) (by omega))
      go_wp2_with fail
      refine HTL.out.mono ?_
      rintro e w7 ⟨rfl, k7, ap7⟩
      have HK7 := Lib.hid k7
      have HA7 := Lib.hid (HA6.out.trans ap7)
      have HRM := Lib.hid k7.room
      clear k7 ap7
      go_wp2_with fail
      refine HRM.out.mono ?_
      rintro e w8 ⟨rfl, k8⟩
      have HG := Lib.hid (HQ.out _ w8 (by rw [← hrr]; exact HK7.out.kept k8) (HA7.out.trans (Apart.of_kept k8)) (by rw [← hrr]))
      clear k8
      go_wp2
      exact HG.out
  · have t1 : (ce != 0) = true := by rw [bne_iff_ne]; exact hce
    have hrr := HRR.out
    rw [if_pos hce] at hrr
    have hk4 := HK4.out
    rw [HSM.out hce] at hk4
    have HG := Lib.hid (HQ.out ce w4 (by rw [← hrr]; exact hk4) HA4.out (by rw [← hrr]))
    clear hrr hk4 z1 z2 z3 z4 z7
    go_wp2
    exact HG.out
end
end Go.Proofs.YtennlckfmgfjbaaGreatDoor
set_option linter.unusedSimpArgs false
set_option linter.unusedVariables false
namespace Go.Proofs.YtennlckfmgfjbaaGreatDoor
open Go.RowKit
section
variable {A : Nat → Prop} {w0 W : World} {wb tb : Nat} {h : Pth} {owner qn qb bad : Int} {m : WkM} {lim : Nat}
/-- The work's results, and what a further one makes of it. -/
theorem Work.pushR (k : Work A w0 W wb tb h owner qn qb bad m lim) : ∃ rv, W.cell? ⟨wb, 0, none⟩ = some rv ∧ W.frozen? ⟨wb, 0, none⟩ = false ∧ W.ownsRow 0 48 2 rv m.res.length (cellsR m.res) ∧
    ∀ wn w5 v5 p v, Kept W wn → w5.ownsRow 0 48 2 v5 (m.res.length + 1) (cellsR m.res ++ [.string ⟨p.toArray⟩, .int .i64 v]) → wn.grownBy w5 rv.ownBlock → (v5.ownBlock = rv.ownBlock ∨ v5.ownBlock = some wn.heap.size) →
      (Work A w0 (w5.setCell ⟨wb, 0, none⟩ v5) wb tb h owner qn qb bad { m with res := m.res ++ [(p, v)] } lim ∧ Apart A W (w5.setCell ⟨wb, 0, none⟩ v5)) ∧ w5.cell? ⟨wb, 0, none⟩ = some rv ∧ w5.frozen? ⟨wb, 0, none⟩ = false := by
  obtain ⟨mb, st, F, G, rv, ev, a1, a⟩ := id k
  refine ⟨rv, by rw [cell_at a1.blk]; rfl, frozen_at a1.blk 0, a1.rr, fun wn w5 v5 p v kn p1 p2 p3 => ⟨k.ofWk (un' := m.un) (ub' := m.ub) (res' := m.res ++ [(p, v)]) (eff' := m.eff) (bad' := bad) fun F' rv' ev' b => ?_, ?_⟩⟩
  · have e := b.blk.symm.trans a1.blk
    simp only [Option.some.injEq, Obj.cells.injEq, Array.mk.injEq, List.cons.injEq] at e
    obtain ⟨⟨rfl, rfl, -⟩, -⟩ := e
    obtain ⟨c1, c2⟩ := b.pushR kn p1 p2 p3
    exact ⟨⟨_, _, c1⟩, c2⟩
  · have hb5 := ((Chg.of_kept (F := fun g => rv.ownBlock = some g) kn).trans (Chg.of_grown p2 (fun g hg _ => hg)) (fun g _ x => x)).block' a1.blk a1.rne
    exact ⟨by rw [cell_at hb5]; rfl, frozen_at hb5 0⟩
set_option maxRecDepth 100000 in
set_option maxHeartbeats 8000000 in
theorem mcheck_any (k : Work A w0 W wb tb h owner qn qb bad m lim) (hm : Mild m) (o : OpM) (dv : Value) (hdv : ∃ B n c, dv = .slice B n c) (hn : (names o.path).isSome = true) :
    Calls Tryz.prog 78 #[.pointer (some ⟨wb, 0, none⟩), opV o dv] W (OpTo A w0 wb tb h owner qn qb bad (checkM m o) lim W) := by
  obtain ⟨B, dn, cd, rfl⟩ := hdv
  have hka := (Kept.refl W).alloc (opO o (.slice B dn cd))
  have hba := heap_alloc_new W (opO o (.slice B dn cd))
  have hsa : W.heap.size < (W.alloc (opO o (.slice B dn cd))).heap.size := by simp
  have HKW := Lib.hid (k.away hka ⟨Nat.le_refl _, hsa⟩)
  have HMI := Lib.hid hm
  obtain ⟨r, hr⟩ : ∃ r, checkM m o = r := ⟨_, rfl⟩
  have HR := Lib.hid hr
  rw [hr]
  have HQ := Lib.hid (show ∀ x W', Work (fun g => A g ∨ g = W.heap.size) w0 W' wb tb h owner qn qb bad r.2 (lim + 1) → Apart (fun g => A g ∨ g = W.heap.size) (W.alloc (opO o (.slice B dn cd))) W' → x = r.1 → OpTo A w0 wb tb h owner qn qb bad r lim W (.returned (.int .i64 x)) W' from fun x W' h1 h2 h3 => ⟨by rw [h3], h1.less (fun g y => .inl y), (Apart.of_kept hka).trans (h2.less (fun g y => .inl y))⟩)
  unfold opV
  clear k hka hm hr
  generalize OpTo A w0 wb tb h owner qn qb bad r lim W = Q at *
  have hopo : opO o (.slice B dn cd) = .cells #[.int .i64 o.kind, .string ⟨o.path.toArray⟩, .slice B dn cd, .int .i64 o.ver, .bool o.eph, .bool o.seq] 46 := rfl
  rw [hopo] at *
  go_enter Tryz.func78, Tryz.ntmps78
  go_upto_region 1 with (fail)
  generalize W.alloc (.cells #[.int .i64 o.kind, .string ⟨o.path.toArray⟩, .slice B dn cd, .int .i64 o.ver, .bool o.eph, .bool o.seq] 46) = wa at *
  obtain ⟨kind, path, data, ver, eph, seq⟩ := o
  simp only at *
  have x1 := cell_at hba 1
  have x3 := cell_at hba 3
  obtain ⟨rv, ev, hblk, hnA⟩ := HKW.out.blk
  have y3 := cell_at hblk 3
  simp only [List.getElem?_toArray, List.getElem?_cons_zero, List.getElem?_cons_succ] at x1 x3 y3
  have hkd := (Kept.refl wa).drew
  have HGT := Lib.hid (fun X (kX : Kept wa X) => (HKW.out.kept kX).get path)
  unfold GetTo at HGT
  obtain ⟨dl, hdl⟩ : ∃ dl, (dataOf m.t path).length = dl := ⟨_, rfl⟩
  have HDL := Lib.hid hdl
  simp only [hdl] at HGT
  clear hblk hba hdl
  go_cut [5, 6, 7] (fun a b c X => ∃ A1 c1 s1 a1, a = .slice A1 dl c1 ∧ b = .pointer (some ⟨s1, 0, none⟩) ∧ c = .int .i64 (getE m.t path) ∧ Kept wa X ∧ X.cell? ⟨s1, 0, none⟩ = some (.int .i64 a1) ∧ ∀ n, getZ path m.t = some n → a1 = (n.ver : Int))
  case first =>
    go_region_held3 (fun X => X.cell? ⟨wb, 3, none⟩ = some (.pointer (some ⟨tb, 0, none⟩)) ∧ X.cell? ⟨W.heap.size, 1, none⟩ = some (.string ⟨path.toArray⟩) ∧ Kept wa X)
      (refine ⟨Kept.cell ?_ y3, Kept.cell ?_ x1, ?_⟩ <;> repeat (first | exact Kept.refl _ | assumption | refine Kept.drew ?_ | refine Kept.alloc ?_ _ | refine Kept.poke ?_ (by first | omega | simp)))
      (first | (go_at_call 16; refine (HGT.out _ (by first | exact hkd | exact hkd.alloc _)).mono ?_; rintro e w3 ⟨A1, c1, a1, b1, d1, k1, rfl, hv1, hk3⟩; have hkw := (show Kept wa w3 from by first | exact hkd.trans hk3 | exact (hkd.alloc _).trans hk3); try (have hs : w3.heap[wa.heap.size]? = some stat0 := hk3.block' (heap_alloc_new wa.drew stat0); have s0 := cell_at hs 0; have s1 := cell_at hs 1; have s2 := cell_at hs 2; have s3 := cell_at hs 3; have f0 := frozen_at hs 0; have f1 := frozen_at hs 1; have f2 := frozen_at hs 2; have f3 := frozen_at hs 3; simp only [List.getElem?_toArray, List.getElem?_cons_zero, List.getElem?_cons_succ] at s0 s1 s2 s3)))
    all_goals
      go_wp2
      go_meet
      case rel => first
        | exact ⟨A1, c1, _, a1, rfl, rfl, rfl, hkw.alloc _, by rw [cell_at (heap_alloc_new w3 _)]; rfl, hv1⟩
        | exact ⟨A1, c1, _, a1, rfl, rfl, rfl, (((hkw.poke (Nat.le_refl _)).poke (Nat.le_refl _)).poke (Nat.le_refl _)).poke (Nat.le_refl _), by rw [World.cell?_setCell_other _ _ _ _ (by simp), World.cell?_setCell_other _ _ _ _ (by simp), World.cell?_setCell_other _ _ _ _ (by simp)]; exact World.cell?_setCell_same _ _ _ s0, hv1⟩
  case rest =>
  obtain ⟨A1, c1, s1, a1, rfl, rfl, rfl, hkc, hs1, hver⟩ := hcut
  have HWC := Lib.hid (HKW.out.kept hkc)
  have HKC := Lib.hid hkc
  have x3 := hkc.cell x3
  have hr := HR.out
  unfold checkM at hr
  simp only at hr hn
  clear hkc hkd HGT HR y3 x1
  unfold getE
  rw [if_pos hn]
  cases hg : getZ path m.t with
  | none =>
    rw [hg] at hr
    simp only at hr
    have HG := Lib.hid (HQ.out 70 wc (by rw [← hr]; exact HWC.out.more (Nat.le_succ _)) (Apart.of_kept HKC.out) (by rw [← hr]))
    clear hr hver hg
    go_wp2
    exact HG.out
  | some n =>
    rw [hg] at hr
    simp only at hr
    obtain rfl := hver n hg
    clear hver hg
    by_cases hvo : verOK ver n = true
    · rw [if_neg (by rw [hvo]; simp)] at hr
      obtain ⟨rv, y0, f0, hrr, hpush⟩ := HWC.out.pushR
      obtain ⟨Ar, cr, rfl⟩ := own_form hrr
      have HRR := Lib.hid hrr
      have HPU := Lib.hid hpush
      have hres := HMI.out.res
      clear hrr hpush
      by_cases e0 : ver = -1
      · have t1 : (ver != -1) = false := by simp [e0]
        have HG := Lib.hid (fun w6 (k6 : Work (fun g => A g ∨ g = W.heap.size) w0 w6 wb tb h owner qn qb bad { m with res := m.res ++ [([], 0)] } lim) (ap6 : Apart (fun g => A g ∨ g = W.heap.size) wc w6) => HQ.out 0 w6 (by rw [← hr]; exact k6.more (Nat.le_succ _)) ((Apart.of_kept HKC.out).trans ap6) (by rw [← hr]))
        have kn := (Kept.refl wc).alloc (.cells #[.string ⟨#[]⟩, .int .i64 0] 48)
        clear hr hvo
        go_wp2_with (at_builtin; refine wpList_append_one elemR rfl _ _ rfl 0 _ _ (cellsR m.res) [.string ⟨#[]⟩, .int .i64 0] wc.heap.size 1 rfl rfl (own_kept HRR.out kn) rfl (cell_new2 wc _ _ _) (by intro u hu; simp at hu; rcases hu with rfl | rfl <;> rfl) (by omega) (by unfold maxLen; omega) (Nat.zero_le _) ?_; intro v5 w5 p1 p2 p3; obtain ⟨A5, c5, rfl⟩ := own_form p1; obtain ⟨hp5, y5, f5⟩ := HPU.out _ _ _ [] 0 kn p1 p2 p3; have HP5 := Lib.hid hp5; clear p1 p2 p3 hp5)
        have HF := Lib.hid (HG.out _ HP5.out.1 HP5.out.2)
        exact HF.out
      · have t1 : (ver != -1) = true := by rw [bne_iff_ne]; exact e0
        have e2 : ver = (n.ver : Int) := by
          unfold verOK at hvo
          simp only [Bool.or_eq_true, decide_eq_true_eq] at hvo
          exact hvo.elim (fun y => absurd y e0) id
        have t2 : (ver != (n.ver : Int)) = false := by simp [e2]
        have HG := Lib.hid (fun w6 (k6 : Work (fun g => A g ∨ g = W.heap.size) w0 w6 wb tb h owner qn qb bad { m with res := m.res ++ [([], 0)] } lim) (ap6 : Apart (fun g => A g ∨ g = W.heap.size) wc w6) => HQ.out 0 w6 (by rw [← hr]; exact k6.more (Nat.le_succ _)) ((Apart.of_kept HKC.out).trans ap6) (by rw [← hr]))
        have kn := (Kept.refl wc).alloc (.cells #[.string ⟨#[]⟩, .int .i64 0] 48)
        clear hr hvo
        go_wp2_with (at_builtin; refine wpList_append_one elemR rfl _ _ rfl 0 _ _ (cellsR m.res) [.string ⟨#[]⟩, .int .i64 0] wc.heap.size 1 rfl rfl (own_kept HRR.out kn) rfl (cell_new2 wc _ _ _) (by intro u hu; simp at hu; rcases hu with rfl | rfl <;> rfl) (by omega) (by unfold maxLen; omega) (Nat.zero_le _) ?_; intro v5 w5 p1 p2 p3; obtain ⟨A5, c5, rfl⟩ := own_form p1; obtain ⟨hp5, y5, f5⟩ := HPU.out _ _ _ [] 0 kn p1 p2 p3; have HP5 := Lib.hid hp5; clear p1 p2 p3 hp5)
        have HF := Lib.hid (HG.out _ HP5.out.1 HP5.out.2)
        exact HF.out
    · have hvo : verOK ver n = false := by simpa using hvo
      rw [if_pos hvo] at hr
      have e1 : ver ≠ -1 := fun e => by rw [e] at hvo; simp [verOK] at hvo
      have e2 : ver ≠ (n.ver : Int) := fun e => by rw [e] at hvo; simp [verOK] at hvo
      have t1 : (ver != -1) = true := by rw [bne_iff_ne]; exact e1
      have t2 : (ver != (n.ver : Int)) = true := by rw [bne_iff_ne]; exact e2
      have HG := Lib.hid (HQ.out 72 wc (by rw [← hr]; exact HWC.out.more (Nat.le_succ _)) (Apart.of_kept HKC.out) (by rw [← hr]))
      clear hr hvo e1 e2
      go_wp2
      exact HG.out
end
end Go.Proofs.YtennlckfmgfjbaaGreatDoor
set_option linter.unusedSimpArgs false
set_option linter.unusedVariables false
namespace Go.Proofs.YtennlckfmgfjbaaGreatDoor
open Go.RowKit
def inE (h : Pth) (o : OpM) : Int :=
  match names o.path with
  | none => 20
  | some ls => if ls = [] ∨ ls.headD [] ≠ h then 82 else if ls.length = 1 ∧ (o.kind = 1 ∨ o.kind = 2) then 82 else 0
theorem withinE_eq (h : Pth) (o : OpM) : withinE h o = if o.kind < 1 ∨ 4 < o.kind then 80 else inE h o := rfl
section
variable {A : Nat → Prop} {w0 W : World} {wb tb : Nat} {h : Pth} {owner qn qb bad : Int} {m : WkM} {lim : Nat}
set_option maxRecDepth 100000 in
set_option maxHeartbeats 4000000 in
theorem within_any (k : Work A w0 W wb tb h owner qn qb bad m lim) (o : OpM) (dv : Value) (hdv : ∃ B n c, dv = .slice B n c) {ml : Int} (hml : w0.cell? ⟨1, 0, none⟩ = some (.int .i64 ml)) :
    Calls Tryz.prog 74 #[.pointer (some ⟨wb, 0, none⟩), opV o dv] W fun e w' => e = .returned (.int .i64 (inE h o)) ∧ Kept W w' := by
  obtain ⟨B, dn, cd, rfl⟩ := hdv
  obtain ⟨rv, ev, hblk, -⟩ := k.blk
  have hka := (Kept.refl W).alloc (opO o (.slice B dn cd))
  have hba := heap_alloc_new W (opO o (.slice B dn cd))
  have hpt := parts_any o.path ml _ (hka.cell (k.old.cell hml))
  unfold QDone partsOf at hpt
  have hb1 := hka.block' hblk
  have HKA := Lib.hid hka
  unfold opV
  obtain ⟨ie, hie⟩ : ∃ ie, inE h o = ie := ⟨_, rfl⟩
  rw [hie]
  have HIE := Lib.hid hie
  clear hie
  have hopo : opO o (.slice B dn cd) = .cells #[.int .i64 o.kind, .string ⟨o.path.toArray⟩, .slice B dn cd, .int .i64 o.ver, .bool o.eph, .bool o.seq] 46 := rfl
  rw [hopo] at *
  obtain ⟨kind, path, data, ver, eph, seq⟩ := o
  simp only at *
  clear k hka hblk
  go_enter Tryz.func74, Tryz.ntmps74
  go_upto_region 1 with (fail)
  generalize W.alloc (.cells #[.int .i64 kind, .string ⟨path.toArray⟩, .slice B dn cd, .int .i64 ver, .bool eph, .bool seq] 46) = wa at *
  have x0 := cell_at hba 0
  have x1 := cell_at hba 1
  have y4 := cell_at hb1 4
  simp only [List.getElem?_toArray, List.getElem?_cons_zero, List.getElem?_cons_succ] at x0 x1 y4
  clear hba hb1
  cases hn : names path with
  | none =>
    have HV := Lib.hid (show ie = 20 by rw [← HIE.out]; unfold inE; simp only [hn])
    rw [hn, chk_none hn] at hpt
    have HPT := Lib.hid hpt
    clear hpt hn
    go_wp2_with fail
    refine HPT.out.mono ?_
    rintro e w1 ⟨v1, rfl, -, hk1⟩
    have HK := Lib.hid (HKA.out.trans hk1)
    clear hk1 x0 x1 y4
    go_wp2
    go_ret
    exact ⟨by rw [HV.out]; rfl, HK.out⟩
  | some ls =>
    have HI2 := Lib.hid (show ie = if ls = [] ∨ ls.headD [] ≠ h then 82 else if ls.length = 1 ∧ (kind = 1 ∨ kind = 2) then 82 else 0 by rw [← HIE.out]; unfold inE; simp only [hn])
    rw [hn, chk_some hn] at hpt
    simp only [Option.getD_some] at hpt
    have HPT := Lib.hid hpt
    have hll : ls.length ≤ 8 := (okNames_all (names_some hn).1).2.1
    have hnl : ∀ x ∈ ls, x.length ≤ 32 := fun x hx => (isName_len ((okNames_all (names_some hn).1).1 x hx)).2
    clear hpt hn
    cases ls with
    | nil =>
      have HV := Lib.hid (show ie = 82 by rw [HI2.out, if_pos (.inl rfl)])
      go_wp2_with fail
      refine HPT.out.mono ?_
      rintro e w1 ⟨v1, rfl, ht1, hk1⟩
      obtain ⟨A1, c1, rfl, -, -⟩ := ht1.form
      have HK := Lib.hid (HKA.out.trans hk1)
      have y4 := hk1.cell y4
      clear hk1 x0 x1 ht1
      go_wp2
      go_quiet (fail)
      rename_i nq
      go_wp2
      go_ret
      exact ⟨by rw [HV.out]; rfl, HK.out.drewN nq⟩
    | cons x r =>
      have hxl := hnl x (by simp)
      have hrl : r.length ≤ 7 := by simp only [List.length_cons] at hll; omega
      clear hll hnl
      have e1 : ((((x :: r).length : Nat) : Int) == 0) = false := by rw [beq_eq_false_iff_ne]; simp only [List.length_cons]; omega
      by_cases hx : x = h
      · subst hx
        have e2 : (x != x) = false := by simp
        have HI3 := Lib.hid (show ie = if (x :: r).length = 1 ∧ (kind = 1 ∨ kind = 2) then 82 else 0 by rw [HI2.out, if_neg (fun y => y.elim (fun z => by cases z) (fun z => z rfl))])
        by_cases hr : r.length = 0
        · have e3 : ((((x :: r).length : Nat) : Int) == 1) = true := by simp only [List.length_cons, hr]; rfl
          by_cases hq1 : kind = 1
          · have e4 : (kind == 1) = true := by simp [hq1]
            have HV := Lib.hid (show ie = 82 by rw [HI3.out, if_pos ⟨by simp only [List.length_cons]; omega, .inl hq1⟩])
            clear hq1
            go_wp2_with fail
            refine HPT.out.mono ?_
            rintro e w1 ⟨v1, rfl, ht1, hk1⟩
            obtain ⟨A1, c1, rfl, -, -⟩ := ht1.form
            obtain ⟨b, o, rfl, hc0⟩ := ht1.at (k := 0) (by simp); rw [Nat.add_zero, List.getElem_cons_zero] at hc0
            have HK := Lib.hid (HKA.out.trans hk1)
            have y4 := hk1.cell y4
            have x0 := hk1.cell x0
            clear hk1 x1 ht1
            go_wp2
            go_quiet (fail)
            rename_i nq
            have x0' := ((Kept.refl w1).drewN nq).cell x0
            go_wp2
            go_ret
            exact ⟨by rw [HV.out]; rfl, HK.out.drewN nq⟩
          · have e4 : (kind == 1) = false := by simpa using hq1
            by_cases hq2 : kind = 2
            · have e5 : (kind == 2) = true := by simp [hq2]
              have HV := Lib.hid (show ie = 82 by rw [HI3.out, if_pos ⟨by simp only [List.length_cons]; omega, .inr hq2⟩])
              clear hq1 hq2
              go_wp2_with fail
              refine HPT.out.mono ?_
              rintro e w1 ⟨v1, rfl, ht1, hk1⟩
              obtain ⟨A1, c1, rfl, -, -⟩ := ht1.form
              obtain ⟨b, o, rfl, hc0⟩ := ht1.at (k := 0) (by simp); rw [Nat.add_zero, List.getElem_cons_zero] at hc0
              have HK := Lib.hid (HKA.out.trans hk1)
              have y4 := hk1.cell y4
              have x0 := hk1.cell x0
              clear hk1 x1 ht1
              go_wp2
              go_quiet (fail)
              rename_i nq
              have x0' := ((Kept.refl w1).drewN nq).cell x0
              go_wp2
              go_ret
              exact ⟨by rw [HV.out]; rfl, HK.out.drewN nq⟩
            · have e5 : (kind == 2) = false := by simpa using hq2
              have HV := Lib.hid (show ie = 0 by rw [HI3.out, if_neg (fun y => y.2.elim hq1 hq2)])
              clear hq1 hq2
              go_wp2_with fail
              refine HPT.out.mono ?_
              rintro e w1 ⟨v1, rfl, ht1, hk1⟩
              obtain ⟨A1, c1, rfl, -, -⟩ := ht1.form
              obtain ⟨b, o, rfl, hc0⟩ := ht1.at (k := 0) (by simp); rw [Nat.add_zero, List.getElem_cons_zero] at hc0
              have HK := Lib.hid (HKA.out.trans hk1)
              have y4 := hk1.cell y4
              have x0 := hk1.cell x0
              clear hk1 x1 ht1
              go_wp2
              go_quiet (fail)
              rename_i nq
              have x0' := ((Kept.refl w1).drewN nq).cell x0
              go_wp2
              go_ret
              exact ⟨by rw [HV.out]; rfl, HK.out.drewN nq⟩
        · have e3 : ((((x :: r).length : Nat) : Int) == 1) = false := by rw [beq_eq_false_iff_ne]; simp only [List.length_cons]; omega
          have HV := Lib.hid (show ie = 0 by rw [HI3.out, if_neg (fun y => hr (by have := y.1; simp only [List.length_cons] at this; omega))])
          go_wp2_with fail
          refine HPT.out.mono ?_
          rintro e w1 ⟨v1, rfl, ht1, hk1⟩
          obtain ⟨A1, c1, rfl, -, -⟩ := ht1.form
          obtain ⟨b, o, rfl, hc0⟩ := ht1.at (k := 0) (by simp); rw [Nat.add_zero, List.getElem_cons_zero] at hc0
          have HK := Lib.hid (HKA.out.trans hk1)
          have y4 := hk1.cell y4
          have x0 := hk1.cell x0
          clear hk1 x1 ht1
          go_wp2
          go_quiet (fail)
          rename_i nq
          go_wp2
          go_ret
          exact ⟨by rw [HV.out]; rfl, HK.out.drewN nq⟩
      · have e2 : (x != h) = true := by rw [bne_iff_ne]; exact hx
        have e2' : (x == h) = false := by rw [beq_eq_false_iff_ne]; exact hx
        have HV := Lib.hid (show ie = 82 by rw [HI2.out, if_pos (.inr hx)])
        go_wp2_with fail
        refine HPT.out.mono ?_
        rintro e w1 ⟨v1, rfl, ht1, hk1⟩
        obtain ⟨A1, c1, rfl, -, -⟩ := ht1.form
        obtain ⟨b, o, rfl, hc0⟩ := ht1.at (k := 0) (by simp); rw [Nat.add_zero, List.getElem_cons_zero] at hc0
        have HK := Lib.hid (HKA.out.trans hk1)
        have y4 := hk1.cell y4
        have x0 := hk1.cell x0
        clear hk1 x1 ht1
        go_wp2
        go_quiet (fail)
        rename_i nq
        go_wp2
        go_ret
        exact ⟨by rw [HV.out]; rfl, HK.out.drewN nq⟩
end
end Go.Proofs.YtennlckfmgfjbaaGreatDoor
