/- Both disks side by side: what a call on one does to the other. The walk of alike. The walk of the statements' alike. -/
import Derived.Test.YtngbgngfdklnlaaGreatDoorGDRapp2
import Derived.Lib.ConvBytes
set_option linter.unusedSimpArgs false
set_option linter.unusedVariables false
namespace Go.Proofs.YtngbgngfdklnlaaGreatDoor
open Go.RowKit
/-- The program's disk and the document's, apart from each other, both younger than w0. -/
def JK (w0 w : World) (d x : Value) (cap : Nat) (fs fr : Fls) : Prop := ∃ F G : Nat → Prop, Disk w d cap fs F ∧ Ref w x cap fr G ∧ (∀ g, F g → w0.heap.size ≤ g ∧ g < w.heap.size) ∧ (∀ g, G g → w0.heap.size ≤ g ∧ g < w.heap.size) ∧ (∀ g, F g → ¬ G g) ∧ Kept w0 w
theorem JK.kept {w0 w w' : World} {d x : Value} {cap : Nat} {fs fr : Fls} (h : JK w0 w d x cap fs fr) (k : Kept w w') : JK w0 w' d x cap fs fr := by
  obtain ⟨F, G, h1, h2, h3, h4, h5, h6⟩ := h
  have hs := k.size
  exact ⟨F, G, h1.kept k, h2.kept k, fun g x => ⟨(h3 g x).1, by have := (h3 g x).2; omega⟩, fun g x => ⟨(h4 g x).1, by have := (h4 g x).2; omega⟩, h5, h6.trans k⟩
theorem JK.old {w0 w : World} {d x : Value} {cap : Nat} {fs fr : Fls} (h : JK w0 w d x cap fs fr) : Kept w0 w := by
  obtain ⟨F, G, -, -, -, -, -, h6⟩ := h
  exact h6
theorem JK.form {w0 w : World} {d x : Value} {cap : Nat} {fs fr : Fls} (h : JK w0 w d x cap fs fr) : (∃ db, d = .pointer (some ⟨db, 0, none⟩)) ∧ (∃ rb, x = .pointer (some ⟨rb, 0, none⟩)) := by
  obtain ⟨F, G, h1, h2, -⟩ := h
  obtain ⟨rb, vL, rs, e, -⟩ := h2
  exact ⟨h1.form, rb, e⟩
theorem JK.good {w0 w : World} {d x : Value} {cap : Nat} {fs fr : Fls} (h : JK w0 w d x cap fs fr) : Good fs ∧ used fs ≤ cap ∧ cap ≤ 1073741824 ∧ fs.length ≤ 2000000000000 := by
  obtain ⟨F, G, h1, -⟩ := h
  exact h1.good
theorem JK.disk {w0 w : World} {d x : Value} {cap : Nat} {fs fr : Fls} (h : JK w0 w d x cap fs fr) : ∃ F, Disk w d cap fs F := by
  obtain ⟨F, G, h1, -⟩ := h
  exact ⟨F, h1⟩
theorem JK.ref {w0 w : World} {d x : Value} {cap : Nat} {fs fr : Fls} (h : JK w0 w d x cap fs fr) : ∃ G, Ref w x cap fr G := by
  obtain ⟨F, G, -, h2, -⟩ := h
  exact ⟨G, h2⟩
/-- A call on the program's disk. -/
theorem JK.onDisk {w0 w w1 : World} {d x : Value} {cap : Nat} {fs fr : Fls} (h : JK w0 w d x cap fs fr) (k : Kept w w1) : ∃ F : Nat → Prop, Disk w1 d cap fs F ∧ (∀ g, F g → w0.heap.size ≤ g ∧ g < w.heap.size) ∧ Kept w0 w1 ∧ ∀ w' fs', Disk w' d cap fs' (ext F w1 w') → Chg F w1 w' → JK w0 w' d x cap fs' fr := by
  obtain ⟨F, G, h1, h2, h3, h4, h5, h6⟩ := h
  have hs := k.size
  have hs0 := h6.size
  refine ⟨F, h1.kept k, h3, h6.trans k, fun w' fs' hd hc => ?_⟩
  have hs' := hc.size
  refine ⟨ext F w1 w', G, hd, (h2.kept k).chg hc (fun g hg hf => h5 g hf hg), fun g x => ?_, fun g x => ⟨(h4 g x).1, by have := (h4 g x).2; omega⟩, fun g x hg => ?_, hc.kept (h6.trans k) (fun g x => (h3 g x).1)⟩
  · rcases x with x | x
    · exact ⟨(h3 g x).1, by have := (h3 g x).2; omega⟩
    · exact ⟨by omega, x.2⟩
  · rcases x with x | x
    · exact h5 g x hg
    · have := (h4 g hg).2
      omega
/-- A call on the document's disk. -/
theorem JK.onRef {w0 w w1 : World} {d x : Value} {cap : Nat} {fs fr : Fls} (h : JK w0 w d x cap fs fr) (k : Kept w w1) : ∃ G : Nat → Prop, Ref w1 x cap fr G ∧ (∀ g, G g → w0.heap.size ≤ g ∧ g < w.heap.size) ∧ Kept w0 w1 ∧ ∀ w' fr', Ref w' x cap fr' (ext G w1 w') → Chg G w1 w' → JK w0 w' d x cap fs fr' := by
  obtain ⟨F, G, h1, h2, h3, h4, h5, h6⟩ := h
  have hs := k.size
  have hs0 := h6.size
  refine ⟨G, h2.kept k, h4, h6.trans k, fun w' fr' hd hc => ?_⟩
  have hs' := hc.size
  refine ⟨F, ext G w1 w', (h1.kept k).chg hc (fun g hf hg => h5 g hf hg), hd, fun g x => ⟨(h3 g x).1, by have := (h3 g x).2; omega⟩, fun g x => ?_, fun g hf x => ?_, hc.kept (h6.trans k) (fun g x => (h4 g x).1)⟩
  · rcases x with x | x
    · exact ⟨(h4 g x).1, by have := (h4 g x).2; omega⟩
    · exact ⟨by omega, x.2⟩
  · rcases x with x | x
    · exact h5 g hf x
    · have := (h3 g hf).2
      omega
/-- The document's disk, new. -/
theorem ref_new (w : World) (cap : Nat) (hc : cap ≤ 1073741824) : Ref (w.alloc (.cells #[.int .i64 (cap : Int), .slice none 0 0] 31)) (.pointer (some ⟨w.heap.size, 0, none⟩)) cap [] (fun g => g = w.heap.size) :=
  ⟨w.heap.size, .slice none 0 0, [], rfl, rfl, heap_alloc_new w _, by simpa [rcs] using World.ownsRow_nil _ 0 _ _, fun p hp => (by cases hp), rfl, fun g hg => (by cases hg), fun p hp => (by cases hp), ⟨List.Pairwise.nil, fun p hp => (by cases hp)⟩, Nat.zero_le _, hc, by decide⟩
/-- Both, new: the program's first. -/
theorem jk_new {w0 w : World} {d : Value} {cap : Nat} (h : DK w0 w d cap []) (hc : cap ≤ 1073741824) : JK w0 (w.alloc (.cells #[.int .i64 (cap : Int), .slice none 0 0] 31)) d (.pointer (some ⟨w.heap.size, 0, none⟩)) cap [] [] := by
  have hs := h.2.size
  refine ⟨fun g => w0.heap.size ≤ g ∧ g < w.heap.size, fun g => g = w.heap.size, h.1.tight.kept ((Kept.refl w).alloc _), ref_new w cap hc, fun g x => ⟨x.1, by have := x.2; simp; omega⟩, fun g x => by subst x; exact ⟨hs, by simp⟩, fun g x e => by have := x.2; omega, h.2.alloc _⟩
/-- []byte(s). -/
theorem conv_sb (w : World) (l : List UInt8) (hl : l.length ≤ maxLen) : ∃ A c w', (convert 9 32 (.string ⟨l.toArray⟩)).run Tryz.prog w = .ok (.slice A l.length c) w' ∧ Bts w' (.slice A l.length c) l ∧ Kept w w' := by
  have hrun := Lib.run_convert_string_bytes (P := Tryz.prog) w 9 32 5 ⟨l.toArray⟩ Tryz.underlying9 Tryz.underlying32 Tryz.underlying5
  rw [str_size] at hrun
  refine ⟨_, _, _, hrun, ⟨_, _, rfl, grownCap_ge _ _ _ _, grownCap_le_maxLen _ _ _ _ hl, fun hp => ⟨_, 0, rfl, fun k x hx => ?_⟩⟩, ⟨rfl, rfl, rfl, ?_, fun j hj => Lib.bytesWorld_at_old w _ _ j hj⟩⟩
  · have hk : k < l.length := (List.getElem?_eq_some_iff.1 hx).1
    rw [Nat.zero_add, Lib.bytesWorld_cell w _ _ k (by rw [str_size]; exact hk)]
    simp [List.getD, hx]
  · have := Lib.bytesWorld_size w 5 ⟨l.toArray⟩
    rw [this]
    omega
end Go.Proofs.YtngbgngfdklnlaaGreatDoor
set_option linter.unusedSimpArgs false
set_option linter.unusedVariables false
namespace Go.Proofs.YtngbgngfdklnlaaGreatDoor
open Go.RowKit
/-- A row of bytes, whatever they are. -/
def Row8 (w : World) (base : Nat) (v : Value) (n : Nat) : Prop := ∃ zs : List Int, w.ownsRow base 5 1 v n (zs.map (Value.int .u8))
theorem Row8.of_own {w : World} {base : Nat} {v : Value} {l : List UInt8} (h : w.ownsRow base 5 1 v l.length (Lib.byteCells l)) : Row8 w base v l.length := ⟨l.map fun b => (b.toNat : Int), by rw [List.map_map]; exact h⟩
theorem Row8.at {w : World} {base : Nat} {A : Option Addr} {n c : Nat} (h : Row8 w base (.slice A n c) n) {k : Nat} (hk : k < n) : ∃ g z, A = some ⟨g, 0, none⟩ ∧ base ≤ g ∧ w.cell? ⟨g, k, none⟩ = some (.int .u8 z) ∧ w.frozen? ⟨g, k, none⟩ = false ∧ ∀ u, Row8 (w.setCell ⟨g, k, none⟩ (.int .u8 u)) base (.slice A n c) n := by
  obtain ⟨zs, h⟩ := h
  have hl : zs.length = n := by have := h.1; simpa using this
  rcases h.2 with ⟨e, h0⟩ | ⟨g, cap, cur, e, hb, hc, h1, h2, h3, h4⟩
  · omega
  · obtain ⟨rfl, rfl⟩ : A = some ⟨g, 0, none⟩ ∧ c = cap := by simpa using e
    have hcell := h.cells (g := g) rfl k (.int .u8 (zs[k]'(by omega))) (by simp [hl, hk])
    have ea : ((⟨g, 0, none⟩ : Addr).add k) = ⟨g, k, none⟩ := by unfold Addr.add; split <;> simp_all
    rw [ea] at hcell
    refine ⟨g, _, rfl, hb, hcell, frozen_at hc k, fun u => ⟨zs.set k u, ?_⟩⟩
    have := own_set h (g := g) rfl k (.int .u8 u)
    rw [List.map_set]
    exact this
theorem same_same (l m : List UInt8) (v u : Value) (w : World) (hv : Bts w v l) (hu : Bts w u m) : Calls Tryz.prog 21 #[v, u] w fun e w' => e = .returned (.bool (l == m)) ∧ w' = w := (same_any l m v u w hv hu).mono fun _ _ ⟨a, b⟩ => ⟨a, b.symm⟩
end Go.Proofs.YtngbgngfdklnlaaGreatDoor
set_option linter.unusedSimpArgs false
set_option linter.unusedVariables false
namespace Go.Proofs.YtngbgngfdklnlaaGreatDoor
open Go.RowKit
set_option maxRecDepth 100000 in
set_option maxHeartbeats 8000000 in
theorem alikeS_any (d x : Value) (cap : Nat) (fs : Fls) (w0 w : World) (h : JK w0 w d x cap fs fs) : Calls Tryz.prog 22 #[d, x] w fun e w' => e = .returned (.bool true) ∧ Kept w w' := by
  obtain ⟨F, hF⟩ := h.disk
  obtain ⟨G, hG⟩ := h.ref
  have hgd := h.good
  clear h
  obtain ⟨db, rfl⟩ := hF.form
  obtain ⟨rb, vL, rs, rfl, hm, hrd⟩ := hG
  obtain ⟨AL, cL, rfl, hcl1, hcl2⟩ := hrd.form
  unfold maxLen at hcl2
  have hlen : rs.length = fs.length := by rw [← hm, length_mapV]
  have HFI := Lib.hid (files_any cap fs F _ w hF)
  have HUS := Lib.hid (show ∀ W, Kept w W → _ from fun W hW => used_any cap fs F _ W (hF.kept hW))
  have HRU := Lib.hid (show ∀ W, Kept w W → _ from fun W hW => rused_any rb _ rs cap G W (hrd.kept hW))
  rw [hm] at HRU
  have HRE := Lib.hid (show ∀ k W, Kept w W → _ from fun k W hW => read_any k cap fs F _ W (hF.kept hW))
  have HSA := Lib.hid (show ∀ k W, Kept w W → _ from fun k W hW => safe_any k cap fs F _ W (hF.kept hW))
  have HRD := Lib.hid hrd
  have HM := Lib.hid hm
  have HGD := Lib.hid hgd.1
  have hsm := hgd.2.2.2
  have HLEN := Lib.hid hlen
  clear hF hrd hm hgd hlen
  go_enter Tryz.func22, Tryz.ntmps22
  go_wp2_with fail
  refine HFI.out.mono ?_
  rintro e w1 ⟨vn, rfl, hn, k1⟩
  obtain ⟨An, cn, rfl, hcn1, hcn2⟩ := hn.form
  unfold maxLen at hcn2
  have hnl : (namesA fs).length = rs.length := by rw [HLEN.out]; simp [namesA]
  rw [hnl] at hcn1
  have HNT := Lib.hid hn
  have HNL := Lib.hid hnl
  rw [hnl]
  clear hn hnl
  have c1 := (HRD.out.kept k1).c1
  go_wp2
  go_loopw [27] (fun i W => ∃ k : Nat, i = .int .i64 (k : Int) ∧ k ≤ rs.length ∧ Kept w1 W) (fun i _ => rs.length - (intOf i).toNat)
  case atStart => exact ⟨0, rfl, Nat.zero_le _, Kept.refl _⟩
  case round =>
    obtain ⟨k, rfl, hk, hkw⟩ := hrel
    by_cases hlt : k < rs.length
    · have hkk := k1.trans hkw
      obtain ⟨gL, rfl, q0, q1, q2, -⟩ := (HRD.out.kept hkk).at hlt
      have g1 : (k : Int) < (rs.length : Int) := by omega
      obtain ⟨bn, on, rfl, hcell⟩ := (HNT.out.kept hkw).at (k := k) (by rw [HNL.out]; exact hlt)
      have hob := HRD.out.files _ (List.getElem_mem hlt)
      obtain ⟨Ab, cb, hvb⟩ := own_form hob
      rw [hvb] at q1 hob
      have hfsk : k < fs.length := by rw [← HLEN.out]; exact hlt
      have hget : fs[k] = (rs[k].1, rs[k].2.2) := by
        have := mapV_get hlt
        simp only [HM.out] at this
        exact this
      have hnk : (namesA fs)[k]'(by rw [HNL.out]; exact hlt) = rs[k].1 := by simp [namesA, hget]
      rw [hnk] at hcell
      have hmem : (rs[k].1, rs[k].2.2) ∈ fs := by rw [← hget]; exact List.getElem_mem hfsk
      have hal : allS [rs[k].1] fs = 0 ∧ (getA rs[k].1 fs).getD ([], 0) = rs[k].2.2 := by
        have h1 := get_of_mem HGD.out.1 hmem
        have h2 : hasA rs[k].1 fs = true := by rw [hasA_get, h1]; rfl
        have h3 := (HGD.out.2 _ hmem).1
        simp only at h3
        exact ⟨by simp [allS, h2, h3], by rw [h1]; rfl⟩
      have HOB := Lib.hid (Bts.of_own hob)
      have HAL := Lib.hid hal.1
      have HGE := Lib.hid hal.2
      clear hal hmem hnk hget hvb hob
      generalize rs[k].1 = nm at *
      generalize rs[k].2.2 = f at *
      obtain ⟨fb, s⟩ := f
      simp only at *
      go_wp2_with fail
      have hKa : Kept wr (wr.alloc (.cells #[.string ⟨nm.toArray⟩, .slice Ab fb.length cb, .int .i64 (s : Int)] 108)) := (Kept.refl wr).alloc _
      have hba := heap_alloc_new wr (.cells #[.string ⟨nm.toArray⟩, .slice Ab fb.length cb, .int .i64 (s : Int)] 108)
      generalize wr.alloc (.cells #[.string ⟨nm.toArray⟩, .slice Ab fb.length cb, .int .i64 (s : Int)] 108) = wa at *
      have HBA := Lib.hid hba
      clear hba q0 q1 q2
      refine (HRE.out nm wa (hkk.trans hKa)).mono ?_
      rw [HAL.out, if_pos rfl, HGE.out]
      rintro e wb ⟨vb, rfl, hrow, kb⟩
      obtain ⟨Av, cv, rfl⟩ := own_form hrow
      have HROW := Lib.hid hrow
      clear hrow
      have p0 := cell_at (kb.block' HBA.out) 0
      simp only [List.getElem?_toArray, List.getElem?_cons_zero] at p0
      go_wp2_with fail
      refine (HSA.out nm wb ((hkk.trans hKa).trans kb)).mono ?_
      rw [HAL.out, if_pos rfl, HGE.out]
      rintro e wc ⟨rfl, kc⟩
      have m0 := cell_at ((kb.trans kc).block' HBA.out) 0
      have m1 := cell_at ((kb.trans kc).block' HBA.out) 1
      have m2 := cell_at ((kb.trans kc).block' HBA.out) 2
      simp only [List.getElem?_toArray, List.getElem?_cons_zero, List.getElem?_cons_succ] at m0 m1 m2
      have hkc := (hKa.trans kb).trans kc
      have hcell2 := hkc.cell hcell
      have HSM := Lib.hid (show ∀ W, Kept wc W → Calls Tryz.prog 21 #[.slice Av fb.length cv, .slice Ab fb.length cb] W fun e w' => e = .returned (.bool true) ∧ w' = W from fun W hW => by
        have := same_same fb fb _ _ W ((Bts.of_own HROW.out).kept (kc.trans hW)) (HOB.out.kept ((hkk.trans hkc).trans hW))
        rw [show (fb == fb) = true by simp] at this
        exact this)
      clear p0
      go_wp2
      go_quiet ((go_at_call 21; exact Calls.quiet_of_same (HSM.out _ ((Kept.refl wc).drewN _))))
      rename_i nq
      have hkd : Kept wc (wc.drewN nq) := (Kept.refl wc).drewN nq
      clear m0 m1 m2 hcell2
      go_wp2
      go_roundw
      case rel => exact ⟨k + 1, by go_num, by omega, (hkw.trans hkc).trans hkd⟩
      case measure => simp [intOf]; omega
    · obtain rfl : k = rs.length := by omega
      go_wp2
      go_ret
      exact ⟨rfl, k1.trans hkw⟩
end Go.Proofs.YtngbgngfdklnlaaGreatDoor
