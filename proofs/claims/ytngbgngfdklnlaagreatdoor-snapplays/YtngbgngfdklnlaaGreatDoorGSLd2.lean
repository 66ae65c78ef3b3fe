/- The walks of newest, dataOf, reaches and Load. The walks of reaches and Load. -/
import Derived.Test.YtngbgngfdklnlaaGreatDoorGSPar2
import Derived.Deep.RegionHeld3
set_option linter.unusedSimpArgs false
set_option linter.unusedVariables false
namespace Go.Proofs.YtngbgngfdklnlaaGreatDoor
open Go.RowKit
theorem allS_get {k : Nm} {fs : Fls} (hk : okN k = true) : allS [k] fs = if (getA k fs).isSome then 0 else 31 := by
  unfold allS
  simp only [List.all_cons, List.all_nil, Bool.and_true, hk, hasA_get]
  cases getA k fs <;> simp
set_option maxRecDepth 100000 in
set_option maxHeartbeats 4000000 in
theorem newest_any (d : Value) (nm : Nm) (cap : Nat) (fs : Fls) (F : Nat → Prop) (w : World) (hd : Disk w d cap fs F) (hnl : nm.length ≤ 12) (hnm : okN (manN nm) = true) :
    Calls Tryz.prog 65 #[.agg #[d, .string ⟨nm.toArray⟩]] w fun e w' => e = .returned (.tuple #[stN ((newS nm fs).getD (0, 0, 0)), .bool (newS nm fs).isSome]) ∧ Kept w w' := by
  obtain ⟨db, rfl⟩ := hd.form
  have hgood := hd.good
  have hk0 := ((Kept.refl w).alloc (.cells #[.pointer (some ⟨db, 0, none⟩), .string ⟨nm.toArray⟩] 90)).alloc (.cells #[.int .i64 0, .int .i64 0, .int .i64 0] 94)
  have hz : (w.alloc (.cells #[.pointer (some ⟨db, 0, none⟩), .string ⟨nm.toArray⟩] 90)).heap.size = w.heap.size + 1 := by simp
  have hb0 := ((Kept.refl (w.alloc (.cells #[.pointer (some ⟨db, 0, none⟩), .string ⟨nm.toArray⟩] 90))).alloc (.cells #[.int .i64 0, .int .i64 0, .int .i64 0] 94)).block' (heap_alloc_new w (.cells #[.pointer (some ⟨db, 0, none⟩), .string ⟨nm.toArray⟩] 90))
  have hb1 := heap_alloc_new (w.alloc (.cells #[.pointer (some ⟨db, 0, none⟩), .string ⟨nm.toArray⟩] 90)) (.cells #[.int .i64 0, .int .i64 0, .int .i64 0] 94)
  rw [hz] at hb1
  have HRD := Lib.hid (show ∀ W, Kept w W → _ from fun W hW => read_any (manN nm) cap fs F _ W (hd.kept hW))
  rw [allS_get hnm] at HRD
  have HMF := Lib.hid (show ∀ W, _ from fun W => manFile_any (.pointer (some ⟨db, 0, none⟩)) nm W hnl)
  have hfl : ∀ f, getA (manN nm) fs = some f → f.1.length ≤ 1073741824 := fun f hf => by
    have := used_get hgood.1.1 (manN nm)
    rw [hf] at this
    simp only [Option.getD_some] at this
    omega
  unfold newS
  generalize manN nm = mn at *
  generalize getA mn fs = o at *
  cases o with
  | none =>
    simp only [Option.isSome_none, Bool.false_eq_true, if_false, Option.getD_none, Option.bind_none, if_neg (show ¬ (31 : Int) = 0 by decide), List.length_nil] at HRD ⊢
    clear hd hgood hfl
    go_enter Tryz.func65, Tryz.ntmps65
    go_wp2
    generalize (w.alloc (.cells #[.pointer (some ⟨db, 0, none⟩), .string ⟨nm.toArray⟩] 90)).alloc (.cells #[.int .i64 0, .int .i64 0, .int .i64 0] 94) = w1 at *
    have u0 := cell_at hb0 0
    have u1 := cell_at hb0 1
    simp only [List.getElem?_toArray, List.getElem?_cons_zero, List.getElem?_cons_succ] at u0 u1
    have hK1 := (Kept.refl w1).drew
    have HB1 := Lib.hid hb1
    clear hb0 hb1
    go_region_held3 (fun W => W.cell? ⟨w.heap.size, 0, none⟩ = some (.pointer (some ⟨db, 0, none⟩)) ∧ W.cell? ⟨w.heap.size, 1, none⟩ = some (.string ⟨nm.toArray⟩))
      (first | exact ⟨u0, u1⟩ | exact ⟨z0, z1⟩ | exact ⟨y0, y1⟩)
      (first
      | (go_at_call 92; refine (HMF.out _).mono ?_; rintro e w3 ⟨rfl, hq⟩; have hq1 := hK1.trans hq; have z0 := hq1.cell u0; have z1 := hq1.cell u1)
      | (go_at_call 71; refine (HRD.out _ (hk0.trans hq1)).mono ?_; rintro e w4 ⟨v4, rfl, ho4, hq4⟩; obtain ⟨A4, c4, rfl⟩ := own_form ho4; have hq5 := hq1.trans hq4; have y0 := hq5.cell u0; have y1 := hq5.cell u1; clear ho4))
    (
      obtain ⟨r0, r1, r2, q0, q1, q2⟩ := St3.cells (show St3 w4 (w.heap.size + 1) 0 0 0 from hq5.block' HB1.out)
      go_wp2
      exact bodyPost_ret (v := .tuple #[.agg #[.int .i64 0, .int .i64 0, .int .i64 0], .bool false]) (by simp [results, Tryz.results65, go_sem, q0, q1, q2, r0, r1, r2]) rfl ⟨rfl, by
        refine Chg.kept (F := fun g => g = w.heap.size + 1) (Kept.refl w) ?_ (fun g e => by omega)
        repeat (first | exact Chg.of_kept (hk0.trans hq5) | refine Chg.setCell ?_ _ (fun _ => rfl))⟩)
  | some f =>
    have hl := hfl f rfl
    simp only [Option.isSome_some, if_true, Option.getD_some, Option.bind_some] at HRD ⊢
    clear hd hgood hfl
    have HPM := Lib.hid (show ∀ v W, Bts W v f.1 → _ from fun v W h => parseManifest_any f.1 v W h hl)
    generalize f.1 = b at *
    generalize hst : stN ((parseM b).getD (0, 0, 0)) = st at *
    have hst' : ∃ x y z : Int, st = .agg #[.int .i64 x, .int .i64 y, .int .i64 z] := ⟨_, _, _, hst.symm⟩
    obtain ⟨x, y, z, rfl⟩ := hst'
    generalize (parseM b).isSome = bo at *
    clear hst
    go_enter Tryz.func65, Tryz.ntmps65
    go_wp2
    generalize (w.alloc (.cells #[.pointer (some ⟨db, 0, none⟩), .string ⟨nm.toArray⟩] 90)).alloc (.cells #[.int .i64 0, .int .i64 0, .int .i64 0] 94) = w1 at *
    have u0 := cell_at hb0 0
    have u1 := cell_at hb0 1
    simp only [List.getElem?_toArray, List.getElem?_cons_zero, List.getElem?_cons_succ] at u0 u1
    have hK1 := (Kept.refl w1).drew
    have HB1 := Lib.hid hb1
    clear hb0 hb1
    go_region_held3 (fun W => W.cell? ⟨w.heap.size, 0, none⟩ = some (.pointer (some ⟨db, 0, none⟩)) ∧ W.cell? ⟨w.heap.size, 1, none⟩ = some (.string ⟨nm.toArray⟩))
      (first | exact ⟨u0, u1⟩ | exact ⟨z0, z1⟩ | exact ⟨y0, y1⟩)
      (first
      | (go_at_call 92; refine (HMF.out _).mono ?_; rintro e w3 ⟨rfl, hq⟩; have hq1 := hK1.trans hq; have z0 := hq1.cell u0; have z1 := hq1.cell u1)
      | (go_at_call 71; refine (HRD.out _ (hk0.trans hq1)).mono ?_; rintro e w4 ⟨v4, rfl, ho4, hq4⟩; have HBT := Lib.hid (Bts.of_own ho4); obtain ⟨A4, c4, rfl⟩ := own_form ho4; have hq5 := hq1.trans hq4; have y0 := hq5.cell u0; have y1 := hq5.cell u1; clear ho4))
    (
      go_wp2_with fail
      refine (HPM.out _ _ HBT.out).mono ?_
      rintro e w6 ⟨rfl, k6⟩
      obtain ⟨r0, r1, r2, q0, q1, q2⟩ := St3.cells (show St3 w6 (w.heap.size + 1) 0 0 0 from (hq5.trans k6).block' HB1.out)
      go_wp2
      exact bodyPost_ret (v := .tuple #[.agg #[.int .i64 x, .int .i64 y, .int .i64 z], .bool bo]) (by simp [results, Tryz.results65, go_sem, q0, q1, q2, r0, r1, r2]) rfl ⟨rfl, by
        refine Chg.kept (F := fun g => g = w.heap.size + 1) (Kept.refl w) ?_ (fun g e => by omega)
        repeat (first | exact Chg.of_kept ((hk0.trans hq5).trans k6) | refine Chg.setCell ?_ _ (fun _ => rfl))⟩)
set_option maxRecDepth 100000 in
set_option maxHeartbeats 4000000 in
theorem dataOf_any (d : Value) (nm : Nm) (m : Nat × Nat × Nat) (cap : Nat) (fs : Fls) (F : Nat → Prop) (w : World) (hd : Disk w d cap fs F) (hT : Tb w) (hm : m.1 ≤ 4611686018427387903) (hnl : nm.length ≤ 12) (hnm : okN (datN nm m.1) = true) :
    Calls Tryz.prog 66 #[.agg #[d, .string ⟨nm.toArray⟩], stN m] w fun e w' => ∃ v, e = .returned (.tuple #[v, .bool (datS nm m fs).isSome]) ∧ w'.ownsRow w.heap.size 5 1 v ((datS nm m fs).getD []).length (Lib.byteCells ((datS nm m fs).getD [])) ∧ Kept w w' := by
  obtain ⟨db, rfl⟩ := hd.form
  have HFT := Lib.hid (show ∀ l v W, Bts W v l → _ from fun l v W h => fitsS_any m l v W h)
  have HDF := Lib.hid (show ∀ W, Kept w W → _ from fun W hW => dataFile_any (.pointer (some ⟨db, 0, none⟩)) nm m.1 W hnl (hT.kept hW) hm)
  have HRD := Lib.hid (show ∀ W, Kept w W → _ from fun W hW => read_any (datN nm m.1) cap fs F _ W (hd.kept hW))
  rw [allS_get hnm] at HRD
  unfold datS
  obtain ⟨n, len, sm⟩ := m
  unfold stN stV at HFT ⊢
  simp only at HFT HDF HRD hm ⊢
  have hk0 := ((Kept.refl w).alloc (.cells #[.pointer (some ⟨db, 0, none⟩), .string ⟨nm.toArray⟩] 90)).alloc (.cells #[.int .i64 (n : Int), .int .i64 (len : Int), .int .i64 (sm : Int)] 94)
  have hz : (w.alloc (.cells #[.pointer (some ⟨db, 0, none⟩), .string ⟨nm.toArray⟩] 90)).heap.size = w.heap.size + 1 := by simp
  have hb0 := ((Kept.refl (w.alloc (.cells #[.pointer (some ⟨db, 0, none⟩), .string ⟨nm.toArray⟩] 90))).alloc (.cells #[.int .i64 (n : Int), .int .i64 (len : Int), .int .i64 (sm : Int)] 94)).block' (heap_alloc_new w (.cells #[.pointer (some ⟨db, 0, none⟩), .string ⟨nm.toArray⟩] 90))
  have hb1 := heap_alloc_new (w.alloc (.cells #[.pointer (some ⟨db, 0, none⟩), .string ⟨nm.toArray⟩] 90)) (.cells #[.int .i64 (n : Int), .int .i64 (len : Int), .int .i64 (sm : Int)] 94)
  rw [hz] at hb1
  generalize datN nm n = dn at *
  generalize getA dn fs = o at *
  cases o with
  | none =>
    simp only [Option.isSome_none, Bool.false_eq_true, if_false, Option.getD_none, Option.bind_none, if_neg (show ¬ (31 : Int) = 0 by decide), List.length_nil] at HRD ⊢
    clear hd hT
    go_enter Tryz.func66, Tryz.ntmps66
    go_wp2
    generalize (w.alloc (.cells #[.pointer (some ⟨db, 0, none⟩), .string ⟨nm.toArray⟩] 90)).alloc (.cells #[.int .i64 (n : Int), .int .i64 (len : Int), .int .i64 (sm : Int)] 94) = w1 at *
    have u0 := cell_at hb0 0
    have u1 := cell_at hb0 1
    have u2 := cell_at hb1 0
    simp only [List.getElem?_toArray, List.getElem?_cons_zero, List.getElem?_cons_succ] at u0 u1 u2
    have hK1 := (Kept.refl w1).drew
    clear hb0 hb1
    go_region_held3 (fun W => W.cell? ⟨w.heap.size, 0, none⟩ = some (.pointer (some ⟨db, 0, none⟩)) ∧ W.cell? ⟨w.heap.size, 1, none⟩ = some (.string ⟨nm.toArray⟩) ∧ W.cell? ⟨w.heap.size + 1, 0, none⟩ = some (.int .i64 (n : Int)))
      (first | exact ⟨u0, u1, u2⟩ | exact ⟨z0, z1, z2⟩ | exact ⟨y0, y1, y2⟩)
      (first
      | (go_at_call 41; refine (HDF.out _ (hk0.trans hK1)).mono ?_; rintro e w3 ⟨rfl, hq⟩; have hq1 := hK1.trans hq; have z0 := hq1.cell u0; have z1 := hq1.cell u1; have z2 := hq1.cell u2)
      | (go_at_call 71; refine (HRD.out _ (hk0.trans hq1)).mono ?_; rintro e w4 ⟨v4, rfl, ho4, hq4⟩; obtain ⟨A4, c4, rfl⟩ := own_form ho4; have hq5 := hq1.trans hq4; have y0 := hq5.cell u0; have y1 := hq5.cell u1; have y2 := hq5.cell u2; clear ho4))
    (
      go_wp2
      go_ret2
      exact ⟨_, rfl, World.ownsRow_nil _ _ _ _, hk0.trans hq5⟩)
  | some f =>
    simp only [Option.isSome_some, if_true, Option.getD_some, Option.bind_some] at HRD ⊢
    clear hd hT
    have HFF := Lib.hid (HFT.out f.1)
    generalize f.1 = b at *
    generalize fitS (n, len, sm) b = fb at *
    clear HFT
    go_enter Tryz.func66, Tryz.ntmps66
    go_wp2
    generalize (w.alloc (.cells #[.pointer (some ⟨db, 0, none⟩), .string ⟨nm.toArray⟩] 90)).alloc (.cells #[.int .i64 (n : Int), .int .i64 (len : Int), .int .i64 (sm : Int)] 94) = w1 at *
    have u0 := cell_at hb0 0
    have u1 := cell_at hb0 1
    have u2 := cell_at hb1 0
    have u3 := cell_at hb1 1
    have u4 := cell_at hb1 2
    simp only [List.getElem?_toArray, List.getElem?_cons_zero, List.getElem?_cons_succ] at u0 u1 u2 u3 u4
    have hK1 := (Kept.refl w1).drew
    clear hb0 hb1
    go_region_held3 (fun W => W.cell? ⟨w.heap.size, 0, none⟩ = some (.pointer (some ⟨db, 0, none⟩)) ∧ W.cell? ⟨w.heap.size, 1, none⟩ = some (.string ⟨nm.toArray⟩) ∧ W.cell? ⟨w.heap.size + 1, 0, none⟩ = some (.int .i64 (n : Int)))
      (first | exact ⟨u0, u1, u2⟩ | exact ⟨z0, z1, z2⟩ | exact ⟨y0, y1, y2⟩)
      (first
      | (go_at_call 41; refine (HDF.out _ (hk0.trans hK1)).mono ?_; rintro e w3 ⟨rfl, hq⟩; have hq1 := hK1.trans hq; have z0 := hq1.cell u0; have z1 := hq1.cell u1; have z2 := hq1.cell u2)
      | (go_at_call 71; refine (HRD.out _ (hk0.trans hq1)).mono ?_; rintro e w4 ⟨v4, rfl, ho4, hq4⟩; have HO4 := Lib.hid ho4; obtain ⟨A4, c4, rfl⟩ := own_form ho4; have hq5 := hq1.trans hq4; have hsz4 := (hk0.trans hq1).size; have y0 := hq5.cell u0; have y1 := hq5.cell u1; have y2 := hq5.cell u2; have y3 := hq5.cell u3; have y4 := hq5.cell u4; clear ho4))
    (
      go_wp2_with fail
      refine (HFF.out _ _ (Bts.of_own HO4.out)).mono ?_
      rintro e w6 ⟨rfl, k6⟩
      cases fb with
      | false =>
        go_wp2
        go_ret2
        exact ⟨_, rfl, World.ownsRow_nil _ _ _ _, (hk0.trans hq5).trans k6⟩
      | true =>
        go_wp2
        go_ret2
        exact ⟨_, rfl, own_base' (own_kept HO4.out k6) hsz4, (hk0.trans hq5).trans k6⟩)
end Go.Proofs.YtngbgngfdklnlaaGreatDoor
set_option linter.unusedSimpArgs false
set_option linter.unusedVariables false
namespace Go.Proofs.YtngbgngfdklnlaaGreatDoor
open Go.RowKit
theorem newS_le {nm : Nm} {fs : Fls} {m : Nat × Nat × Nat} (h : newS nm fs = some m) : m.1 ≤ 4611686018427387903 := by
  unfold newS at h
  rw [Option.bind_eq_some_iff] at h
  obtain ⟨f, -, h⟩ := h
  exact (parseM_le (n := m.1) (l := m.2.1) (s := m.2.2) h).1
theorem reach_none {nm : Nm} {n : Nat} {fs : Fls} (h : newS nm fs = none) : reachS nm n fs = false := by unfold reachS loadS; rw [h]; rfl
theorem reach_some {nm : Nm} {n : Nat} {fs : Fls} {m : Nat × Nat × Nat} (h : newS nm fs = some m) : reachS nm n fs = (!decide (m.1 < n) && (datS nm m fs).isSome) := by
  unfold reachS loadS
  rw [h]
  simp only [Option.bind_some]
  cases datS nm m fs with
  | none => simp
  | some b =>
    simp only [Option.map_some, Option.isSome_some, Bool.and_true]
    rw [Bool.eq_iff_iff]
    simp
theorem load_none {nm : Nm} {fs : Fls} (h : newS nm fs = none) : loadS nm fs = none := by unfold loadS; rw [h]; rfl
theorem load_some {nm : Nm} {fs : Fls} {m : Nat × Nat × Nat} (h : newS nm fs = some m) : loadS nm fs = (datS nm m fs).map fun b => (m.1, b) := by unfold loadS; rw [h]; rfl
set_option maxRecDepth 100000 in
set_option maxHeartbeats 4000000 in
theorem reaches_any (d : Value) (nm : Nm) (n : Nat) (cap : Nat) (fs : Fls) (F : Nat → Prop) (w : World) (hd : Disk w d cap fs F) (hT : Tb w) (hnm : goodL nm = true) :
    Calls Tryz.prog 37 #[.agg #[d, .string ⟨nm.toArray⟩], .int .i64 (n : Int)] w fun e w' => e = .returned (.bool (reachS nm n fs)) ∧ Kept w w' := by
  obtain ⟨db, rfl⟩ := hd.form
  have hk0 := (Kept.refl w).alloc (.cells #[.pointer (some ⟨db, 0, none⟩), .string ⟨nm.toArray⟩] 90)
  have hb0 := heap_alloc_new w (.cells #[.pointer (some ⟨db, 0, none⟩), .string ⟨nm.toArray⟩] 90)
  have HNW := Lib.hid (newest_any _ nm cap fs F _ (hd.kept hk0) (goodL_ok hnm).2 (okN_man hnm))
  cases hn : newS nm fs with
  | none =>
    rw [hn] at HNW
    rw [reach_none hn]
    unfold stN stV at HNW
    simp only [Option.getD_none, Option.isSome_none] at HNW
    clear hd hT hn
    go_enter Tryz.func37, Tryz.ntmps37
    go_wp2_with fail
    refine HNW.out.mono ?_
    rintro e w1 ⟨rfl, k1⟩
    have HK := Lib.hid (hk0.trans k1)
    have hs := (hk0.trans k1).size
    go_wp2
    go_ret
    exact ⟨rfl, HK.out.alloc _⟩
  | some m =>
    have hm := newS_le hn
    have HDO := Lib.hid (show ∀ W, Kept w W → _ from fun W hW => dataOf_any _ nm m cap fs F W (hd.kept hW) (hT.kept hW) hm (goodL_ok hnm).2 (okN_dat hnm m.1 hm))
    rw [hn] at HNW
    rw [reach_some hn]
    unfold stN stV at HNW HDO
    simp only [Option.getD_some, Option.isSome_some] at HNW
    generalize datS nm m fs = o at *
    obtain ⟨a, b, c⟩ := m
    simp only at HNW HDO ⊢
    clear hd hT hn hm
    by_cases h1 : a < n
    · rw [decide_eq_true h1]
      have i1 : decide ((a : Int) < (n : Int)) = true := by simp; omega
      clear HDO
      go_enter Tryz.func37, Tryz.ntmps37
      go_wp2_with fail
      refine HNW.out.mono ?_
      rintro e w1 ⟨rfl, k1⟩
      have HK := Lib.hid (hk0.trans k1)
      have hs := (hk0.trans k1).size
      go_wp2
      go_ret
      exact ⟨rfl, HK.out.alloc _⟩
    · rw [decide_eq_false h1, Bool.not_false, Bool.true_and]
      have i1 : decide ((a : Int) < (n : Int)) = false := by simp; omega
      go_enter Tryz.func37, Tryz.ntmps37
      go_wp2_with fail
      refine HNW.out.mono ?_
      rintro e w1 ⟨rfl, k1⟩
      have HK := Lib.hid (hk0.trans k1)
      have hs := (hk0.trans k1).size
      have hb1 := k1.block' hb0
      have hka := (Kept.refl w1).alloc (.cells #[.int .i64 (a : Int), .int .i64 (b : Int), .int .i64 (c : Int)] 94)
      have hu := hka.block' hb1
      have u0 := cell_at hu 0
      have u1 := cell_at hu 1
      simp only [List.getElem?_toArray, List.getElem?_cons_zero, List.getElem?_cons_succ] at u0 u1
      have HKA := Lib.hid (HK.out.trans hka)
      clear hb0 hb1 hu hka
      go_wp2_with fail
      refine (HDO.out _ HKA.out).mono ?_
      rintro e w2 ⟨v2, rfl, ho2, k2⟩
      obtain ⟨A2, c2, rfl⟩ := own_form ho2
      clear ho2
      go_wp2
      go_ret
      exact ⟨rfl, HKA.out.trans k2⟩
set_option maxRecDepth 100000 in
set_option maxHeartbeats 4000000 in
theorem load_any (d : Value) (nm : Nm) (cap : Nat) (fs : Fls) (F : Nat → Prop) (w : World) (hd : Disk w d cap fs F) (hT : Tb w) (hnm : goodL nm = true) :
    Calls Tryz.prog 19 #[d, .string ⟨nm.toArray⟩] w fun e w' => ∃ v, e = .returned (.tuple #[.int .i64 (((loadS nm fs).getD (0, [])).1 : Nat), v, .bool (loadS nm fs).isSome, .int .i64 0]) ∧ w'.ownsRow w.heap.size 5 1 v ((loadS nm fs).getD (0, [])).2.length (Lib.byteCells ((loadS nm fs).getD (0, [])).2) ∧ Kept w w' := by
  obtain ⟨db, rfl⟩ := hd.form
  have HIN := Lib.hid (isNameS_any nm _ cap fs F w hd)
  rw [hnm] at HIN
  have HNW := Lib.hid (show ∀ W, Kept w W → _ from fun W hW => newest_any _ nm cap fs F W (hd.kept hW) (goodL_ok hnm).2 (okN_man hnm))
  cases hn : newS nm fs with
  | none =>
    rw [hn] at HNW
    rw [load_none hn]
    unfold stN stV at HNW
    simp only [Option.getD_none, Option.isSome_none] at HNW
    clear hd hT hn
    go_enter Tryz.func19, Tryz.ntmps19
    go_wp2_with fail
    refine HIN.out.mono ?_
    rintro e w1 ⟨rfl, k1⟩
    have hka := k1.alloc (.cells #[.pointer (some ⟨db, 0, none⟩), .string ⟨nm.toArray⟩] 90)
    have HKA := Lib.hid hka
    clear hka
    go_wp2_with fail
    refine (HNW.out _ HKA.out).mono ?_
    rintro e w2 ⟨rfl, k2⟩
    have HK := Lib.hid (HKA.out.trans k2)
    go_wp2
    refine bodyPost_ret (v := .tuple #[.int .i64 0, .slice none 0 0, .bool false, .int .i64 0]) (by simp [results, Tryz.results19, go_sem]) rfl ?_
    exact ⟨_, rfl, World.ownsRow_nil _ _ _ _, HK.out.alloc _⟩
  | some m =>
    have hm := newS_le hn
    have HDO := Lib.hid (show ∀ W, Kept w W → _ from fun W hW => dataOf_any _ nm m cap fs F W (hd.kept hW) (hT.kept hW) hm (goodL_ok hnm).2 (okN_dat hnm m.1 hm))
    rw [hn] at HNW
    rw [load_some hn]
    unfold stN stV at HNW HDO
    simp only [Option.getD_some, Option.isSome_some] at HNW
    generalize datS nm m fs = o at *
    obtain ⟨a, b, c⟩ := m
    simp only at HNW HDO ⊢
    clear hd hT hn hm
    go_enter Tryz.func19, Tryz.ntmps19
    go_wp2_with fail
    refine HIN.out.mono ?_
    rintro e w1 ⟨rfl, k1⟩
    have hka := k1.alloc (.cells #[.pointer (some ⟨db, 0, none⟩), .string ⟨nm.toArray⟩] 90)
    have hb1 := heap_alloc_new w1 (.cells #[.pointer (some ⟨db, 0, none⟩), .string ⟨nm.toArray⟩] 90)
    have HKA := Lib.hid hka
    have HB1 := Lib.hid hb1
    clear hka hb1
    go_wp2_with fail
    refine (HNW.out _ HKA.out).mono ?_
    rintro e w2 ⟨rfl, k2⟩
    have hkb := (Kept.refl w2).alloc (.cells #[.int .i64 (a : Int), .int .i64 (b : Int), .int .i64 (c : Int)] 94)
    have HK := Lib.hid ((HKA.out.trans k2).trans hkb)
    have hu := hkb.block' (k2.block' HB1.out)
    have HV := Lib.hid (heap_alloc_new w2 (.cells #[.int .i64 (a : Int), .int .i64 (b : Int), .int .i64 (c : Int)] 94))
    have u0 := cell_at hu 0
    have u1 := cell_at hu 1
    simp only [List.getElem?_toArray, List.getElem?_cons_zero, List.getElem?_cons_succ] at u0 u1
    clear hu hkb HB1
    go_wp2_with fail
    refine (HDO.out _ HK.out).mono ?_
    rintro e w3 ⟨v3, rfl, ho3, k3⟩
    have HO3 := Lib.hid (own_base' ho3 HK.out.size)
    have HK3 := Lib.hid (HK.out.trans k3)
    have z0 := cell_at (k3.block' HV.out) 0
    simp only [List.getElem?_toArray, List.getElem?_cons_zero, List.getElem?_cons_succ] at z0
    obtain ⟨A3, c3, rfl⟩ := own_form ho3
    clear ho3
    cases o with
    | none =>
      go_wp2
      refine bodyPost_ret (v := .tuple #[.int .i64 0, .slice none 0 0, .bool false, .int .i64 0]) (by simp [results, Tryz.results19, go_sem]) rfl ?_
      exact ⟨_, rfl, World.ownsRow_nil _ _ _ _, HK3.out⟩
    | some x =>
      go_wp2
      refine bodyPost_ret (v := .tuple #[.int .i64 (a : Int), .slice A3 x.length c3, .bool true, .int .i64 0]) (by simp [results, Tryz.results19, go_sem]) rfl ?_
      exact ⟨_, rfl, HO3.out, HK3.out⟩
set_option maxRecDepth 100000 in
set_option maxHeartbeats 4000000 in
theorem load_bad (d : Value) (nm : Nm) (cap : Nat) (fs : Fls) (F : Nat → Prop) (w : World) (hd : Disk w d cap fs F) (hnm : goodL nm = false) :
    Calls Tryz.prog 19 #[d, .string ⟨nm.toArray⟩] w fun e w' => e = .returned (.tuple #[.int .i64 0, .slice none 0 0, .bool false, .int .i64 40]) ∧ Kept w w' := by
  obtain ⟨db, rfl⟩ := hd.form
  have HIN := Lib.hid (isNameS_any nm _ cap fs F w hd)
  rw [hnm] at HIN
  clear hd
  go_enter Tryz.func19, Tryz.ntmps19
  go_wp2_with fail
  refine HIN.out.mono ?_
  rintro e w1 ⟨rfl, k1⟩
  go_wp2
  exact bodyPost_ret (v := .tuple #[.int .i64 0, .slice none 0 0, .bool false, .int .i64 40]) (by simp [results, Tryz.results19, go_sem]) rfl ⟨rfl, k1⟩
end Go.Proofs.YtngbgngfdklnlaaGreatDoor
