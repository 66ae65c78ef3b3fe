/- The walk of the document's drop. -/
import Derived.Test.YtmjlhgamhjfjlaaDLay2
set_option linter.unusedSimpArgs false
set_option linter.unusedVariables false
namespace Go.Proofs.Ytmjlhgamhjfjlaa
open Go.RowKit
def dropAt {α : Type} (i : Nat) (m : List α) : List α := m.take i ++ m.drop (i + 1)
theorem dropAt_len {α : Type} {i : Nat} {m : List α} (h : i < m.length) : (dropAt i m).length + 1 = m.length := by
  unfold dropAt
  simp
  omega
theorem dropAt_sub {α : Type} (i : Nat) (m : List α) : (dropAt i m).Sublist m := by
  unfold dropAt
  have h : (m.take i ++ m.drop (i + 1)).Sublist (m.take i ++ m.drop i) := by
    refine List.Sublist.append (List.Sublist.refl _) ?_
    rw [← List.drop_drop]
    exact List.drop_sublist _ _
  rw [List.take_append_drop] at h
  exact h
theorem mapV_dropAt {α β : Type} (g : α → β) (i : Nat) (m : List (Nm × α)) : mapV g (dropAt i m) = dropAt i (mapV g m) := by
  unfold dropAt mapV
  rw [List.map_append, List.map_take, List.map_drop]
theorem used_sub {a b : Fls} (h : a.Sublist b) : used a ≤ used b := by
  unfold used
  induction h with
  | slnil => exact Nat.le_refl _
  | cons p _ ih => simp only [List.map_cons, List.sum_cons]; omega
  | cons_cons p _ ih => simp only [List.map_cons, List.sum_cons]; omega
theorem Good.sub {a b : Fls} (h : Good b) (hs : a.Sublist b) : Good a := ⟨h.1.sublist hs, fun p hp => h.2 p (hs.subset hp)⟩
/-- A row of files, from one place on. -/
theorem tail_files (g n c : Nat) (rs : St) (i : Nat) (hi : i < n) (hn : n = rs.length) (hc : n ≤ c) :
    ∃ SV, (∀ W, (Instr.sliceAt 29 (.slice (some ⟨g, 0, none⟩) n c) (some (.int .i64 ((i : Int) + 1))) none none).run Try.prog W = .ok SV W) ∧
      ∀ W, (∀ j u, (rcs rs)[j]? = some u → W.cell? ⟨g, j, none⟩ = some u) → Frow W SV (rs.drop (i + 1)) := by
  subst hn
  obtain ⟨i0, hii, -, hs, -⟩ := info_file
  refine ⟨sliced (some ⟨g, 0, none⟩) (i + 1) rs.length c 3, fun W => ?_, fun W hcell => ?_⟩
  · have hel : Try.prog.elem 29 = 58 := by kernel_rfl
    have hu : Try.prog.underlying 29 = some (.slice (Try.prog.elem 29)) := by rw [hel]; exact Try.underlying29
    rw [run_sliceAt_slice W _ _ _ _ _ hu, run_slice_l W _ _ rs.length c hu .i64 _ (by omega) (by omega), hel]
    have e1 : ((i : Int) + 1).toNat = i + 1 := by omega
    simp [sizeOf, typeInfo, hii, hs, e1]
  · unfold sliced
    refine ⟨_, c - (i + 1), by rw [List.length_drop], fun hp => ⟨g, (i + 1) * 3, ?_, fun j u hu => ?_⟩⟩
    · rw [List.length_drop] at hp
      rw [if_neg (by omega)]
      have : ((⟨g, 0, none⟩ : Addr).add ((i + 1) * 3)) = ⟨g, (i + 1) * 3, none⟩ := by unfold Addr.add; split <;> simp_all
      simp [this]
    · apply hcell
      have e : rcs rs = rcs (rs.take (i + 1)) ++ rcs (rs.drop (i + 1)) := by rw [← rcs_app, List.take_append_drop]
      rw [e]
      have hl : (rcs (rs.take (i + 1))).length = (i + 1) * 3 := by rw [rcs_len]; simp; omega
      rw [List.getElem?_append_right (by omega), hl]
      simpa using hu
theorem head_files {W : World} {g c i : Nat} {rs : St} (hi : i ≤ rs.length) (hcell : ∀ j u, (rcs rs)[j]? = some u → W.cell? ⟨g, j, none⟩ = some u) : Frow W (.slice (some ⟨g, 0, none⟩) i c) (rs.take i) := by
  have hl : (rs.take i).length = i := by simp; omega
  refine ⟨_, c, by rw [hl], fun hp => ⟨g, 0, rfl, fun j u hu => ?_⟩⟩
  rw [Nat.zero_add]
  apply hcell
  have e : rcs rs = rcs (rs.take i) ++ rcs (rs.drop i) := by rw [← rcs_app, List.take_append_drop]
  rw [e, List.getElem?_append_left (List.getElem?_eq_some_iff.1 hu).1]
  exact hu
theorem RD.cellsAll {w : World} {rb : Nat} {g n c : Nat} {rs : St} {cap : Nat} {G : Nat → Prop} (h : RD w rb (.slice (some ⟨g, 0, none⟩) n c) rs cap G) : ∀ j u, (rcs rs)[j]? = some u → w.cell? ⟨g, j, none⟩ = some u := by
  intro j u hu
  have := h.row.cells (g := g) rfl j u hu
  have e : ((⟨g, 0, none⟩ : Addr).add j) = ⟨g, j, none⟩ := by unfold Addr.add; split <;> simp_all
  rw [e] at this
  exact this
set_option maxRecDepth 100000 in
set_option maxHeartbeats 4000000 in
theorem rdrop_any (i : Nat) (rb : Nat) (vL : Value) (rs : St) (cap : Nat) (G : Nat → Prop) (w : World) (h : RD w rb vL rs cap G) (hi : i < rs.length) :
    Calls Try.prog 39 #[.pointer (some ⟨rb, 0, none⟩), .int .i64 (i : Int)] w fun e w' => e = .returned (.tuple #[]) ∧ (∃ vL', RD w' rb vL' (dropAt i rs) cap (ext G w w')) ∧ Chg (fun g => g = rb) w w' := by
  obtain ⟨A, c, rfl, hc1, hc2⟩ := h.form
  obtain ⟨g, rfl, -, -, -, -⟩ := h.at hi
  have c1 := h.c1
  have H := Lib.hid h
  have hsm := h.small
  clear h
  unfold maxLen at hc2
  have hfil : ∀ p ∈ dropAt i rs, w.ownsRow 0 5 1 p.2.1 p.2.2.1.length (Lib.byteCells p.2.2.1) ∧ ∀ g, p.2.1.ownBlock = some g → G g := fun p hp => ⟨H.out.files p ((dropAt_sub i rs).subset hp), H.out.filG p ((dropAt_sub i rs).subset hp)⟩
  have hgood : Good (mapV Prod.snd (dropAt i rs)) := by rw [mapV_dropAt]; exact H.out.good.sub (dropAt_sub _ _)
  have hfit : used (mapV Prod.snd (dropAt i rs)) ≤ cap := by rw [mapV_dropAt]; exact Nat.le_trans (used_sub (dropAt_sub _ _)) H.out.fits
  have hlen := dropAt_len hi
  have HFIL := Lib.hid hfil
  have HGOOD := Lib.hid hgood
  obtain ⟨SV, hsv, hsf⟩ := tail_files g rs.length c rs i hi rfl hc1
  have HSF := Lib.hid hsf
  have hl1 : (rs.take i).length = i := by simp; omega
  have HL1 := Lib.hid hl1
  have hdl : (rs.drop (i + 1)).length = rs.length - (i + 1) := by simp
  have HDL := Lib.hid hdl
  have HONE := Lib.hid (ins_mem_one H.out)
  have g1 : (i : Int) ≤ (c : Int) := by omega
  obtain ⟨As, cs, hSV, -⟩ := hsf w H.out.cellsAll
  rw [hdl] at hSV
  subst hSV
  clear hfil hgood hsf hl1 hdl
  go_enter Try.func39, Try.ntmps39
  go_wp2_with (first
    | (at_builtin; refine wpList_append_files rfl _ _ rfl w.heap.size (.slice none 0 0) 0 [] (rs.take i) _ rfl rfl (by simpa [rcs] using World.ownsRow_nil w w.heap.size _ _) (head_files (by omega) H.out.cellsAll) (fun p hp => HONE.out p (List.mem_of_mem_take hp)) (by rw [HL1.out]; omega) (Nat.le_refl _) ?_; intro v5 w5 h51 h52 h53; rw [HL1.out, Nat.zero_add, List.nil_append] at h51; obtain ⟨A5, c5, rfl⟩ := own_form h51; have H5 := Lib.hid h51; have hk5 := (Kept.refl w).grown h52 (fun g hg => by cases hg); have p5 := (H.out.kept hk5).c1; clear h51)
    | (at_builtin; refine wpList_append_files rfl _ _ rfl w.heap.size _ i (rs.take i) (rs.drop (i + 1)) _ rfl rfl H5.out (HSF.out _ (H.out.kept hk5).cellsAll) (fun p hp => HONE.out p (List.mem_of_mem_drop hp)) (by rw [HDL.out]; omega) hk5.size ?_; intro v7 w7 h71 h72 h73; rw [HDL.out] at h71; obtain ⟨A7, c7, rfl⟩ := own_form h71; have hk7 := hk5.grown h72 (own_ge H5.out); have p7 := (H.out.kept hk7).c1; have f7 := (H.out.kept hk7).f1; have HT := Lib.hid (H.out.turn hk7 (rs' := dropAt i rs) (base := w.heap.size) (by rw [show (dropAt i rs).length = i + (rs.length - (i + 1)) by omega]; exact h71) (Nat.le_refl _) HFIL.out HGOOD.out hfit (by omega)); clear h71))
  go_end0
  exact ⟨rfl, ⟨_, HT.out.1⟩, HT.out.2⟩
end Go.Proofs.Ytmjlhgamhjfjlaa
