/- The walk of copied: ops of the call's own. -/
import Derived.Test.YtennlckfmgfjbaaGreatDoorGMOn2
set_option linter.unusedSimpArgs false
set_option linter.unusedVariables false
namespace Go.Proofs.YtennlckfmgfjbaaGreatDoor
open Go.RowKit
def opCells (o : OpM) (dv : Value) : List Value := [.int .i64 o.kind, .string ⟨o.path.toArray⟩, dv, .int .i64 o.ver, .bool o.eph, .bool o.seq]
def cells6 (xs : List OpX) : List Value := xs.flatMap fun x => opCells x.o x.dv
theorem cells6_len (xs : List OpX) : (cells6 xs).length = xs.length * 6 := by
  unfold cells6
  induction xs with
  | nil => rfl
  | cons x xs ih => rw [List.flatMap_cons, List.length_append, ih]; simp [opCells]; omega
theorem cells6_at : ∀ (xs : List OpX) {k j : Nat} (hk : k < xs.length) (hj : j < 6), (cells6 xs)[k * 6 + j]? = (opCells xs[k].o xs[k].dv)[j]?
  | [], k, j, hk, _ => by simp at hk
  | x :: xs, 0, j, _, hj => by
    unfold cells6
    rw [List.flatMap_cons, List.getElem?_append_left (by simp [opCells]; omega)]
    simp
  | x :: xs, k + 1, j, hk, hj => by
    have ih := cells6_at xs (k := k) (j := j) (by simpa using hk) hj
    unfold cells6 at ih ⊢
    rw [List.flatMap_cons, List.getElem?_append_right (by simp [opCells]; omega)]
    rw [show (k + 1) * 6 + j - (opCells x.o x.dv).length = k * 6 + j by simp [opCells]; omega, ih]
    simp
theorem cells6_snoc (xs : List OpX) (x : OpX) : cells6 (xs ++ [x]) = cells6 xs ++ opCells x.o x.dv := by unfold cells6; simp [List.flatMap_append]
/-- The value is a row of ops, all its blocks no younger than base. -/
def OpsAt (base : Nat) (w : World) (rv : Value) (xs : List OpX) : Prop :=
  w.ownsRow base 46 6 rv xs.length (cells6 xs) ∧ ∀ x ∈ xs, w.ownsRow base 5 1 x.dv x.o.data.length (Lib.byteCells x.o.data)
theorem OpsAt.nil (base : Nat) (w : World) : OpsAt base w (.slice none 0 0) [] := ⟨World.ownsRow_nil _ _ _ _, fun x hx => by cases hx⟩
theorem OpsAt.kept {base : Nat} {w w' : World} {rv : Value} {xs : List OpX} (h : OpsAt base w rv xs) (k : Kept w w') : OpsAt base w' rv xs := ⟨own_kept h.1 k, fun x hx => own_kept (h.2 x hx) k⟩
theorem OpsAt.base {base base' : Nat} {w : World} {rv : Value} {xs : List OpX} (h : OpsAt base w rv xs) (hb : base' ≤ base) : OpsAt base' w rv xs := ⟨own_base' h.1 hb, fun x hx => own_base' (h.2 x hx) hb⟩
/-- It reads as ops wherever blocks from base on that were there are kept. -/
theorem OpsAt.ops8 {base : Nat} {w w' : World} {rv : Value} {xs : List OpX} (h : OpsAt base w rv xs) (hk : ∀ g, base ≤ g → g < w.heap.size → w'.heap[g]? = w.heap[g]?) : Ops8 w' rv xs := by
  have hrow : w'.ownsRow base 46 6 rv xs.length (cells6 xs) := by
    refine ⟨h.1.1, ?_⟩
    rcases h.1.2 with h2 | ⟨g, cap, cur, a1, a2, a3, a4⟩
    · exact .inl h2
    · exact .inr ⟨g, cap, cur, a1, a2, (hk g a2 (Array.getElem?_eq_some_iff.1 a3).1).trans a3, a4⟩
  have hbt : ∀ x ∈ xs, Bts w' x.dv x.o.data := fun x hx => by
    have hx := h.2 x hx
    refine Bts.of_own (base := base) (e := 5) ⟨hx.1, ?_⟩
    rcases hx.2 with h2 | ⟨g, cap, cur, a1, a2, a3, a4⟩
    · exact .inl h2
    · exact .inr ⟨g, cap, cur, a1, a2, (hk g a2 (Array.getElem?_eq_some_iff.1 a3).1).trans a3, a4⟩
  rcases hrow.2 with ⟨rfl, h0⟩ | ⟨g, cap, cur, rfl, -, -, h3, h4, -⟩
  · obtain rfl : xs = [] := List.eq_nil_of_length_eq_zero h0
    exact ⟨none, 0, rfl, Nat.le_refl _, by decide, fun hp => absurd hp (by simp)⟩
  · refine ⟨_, cap, rfl, h3, h4, fun hp => ⟨g, 0, rfl, fun k x hx => ?_⟩⟩
    obtain ⟨hk', rfl⟩ := List.getElem?_eq_some_iff.1 hx
    have ha : ∀ j, ((⟨g, 0, none⟩ : Addr).add j) = ⟨g, j, none⟩ := fun j => by unfold Addr.add; split <;> simp_all
    have hc : ∀ j v, j < 6 → (opCells xs[k].o xs[k].dv)[j]? = some v → w'.cell? ⟨g, k * 6 + j, none⟩ = some v := fun j v hj hv => by
      have := hrow.cells (g := g) rfl (k * 6 + j) v (by rw [cells6_at xs hk' hj]; exact hv)
      rwa [ha] at this
    rw [Nat.zero_add]
    exact ⟨hc 0 _ (by omega) rfl, hc 1 _ (by omega) rfl, hc 2 _ (by omega) rfl, hc 3 _ (by omega) rfl, hc 4 _ (by omega) rfl, hc 5 _ (by omega) rfl, hbt _ (List.getElem_mem hk')⟩
theorem OpsAt.form {base : Nat} {w : World} {rv : Value} {xs : List OpX} (h : OpsAt base w rv xs) : ∃ A c, rv = .slice A xs.length c ∧ xs.length ≤ c ∧ c ≤ maxLen := by
  rcases h.1.2 with ⟨rfl, h0⟩ | ⟨g, cap, cur, rfl, -, -, h1, h2, -⟩
  · exact ⟨none, 0, by rw [h0], by omega, by decide⟩
  · exact ⟨_, _, rfl, h1, h2⟩
/-- One op more behind a row of the call's own. -/
theorem OpsAt.more {base : Nat} {w w' : World} {v : Value} {xs : List OpX} {o : Obj} {v' : Value} {x : OpX} (h : OpsAt base w v xs) (hx : w.ownsRow base 5 1 x.dv x.o.data.length (Lib.byteCells x.o.data)) (hg : (w.alloc o).grownBy w' v.ownBlock)
    (hr : w'.ownsRow base 46 6 v' (xs.length + 1) (cells6 xs ++ opCells x.o x.dv)) :
    OpsAt base w' v' (xs ++ [x]) ∧ Chg (fun g => v.ownBlock = some g) w w' := by
  have hC : Chg (fun g => v.ownBlock = some g) w w' := (Chg.of_kept ((Kept.refl w).alloc o)).trans (Chg.of_grown hg (fun g hg _ => hg)) (fun g _ x => x)
  have hb : ∀ {y : Value} {l : List UInt8}, w.ownsRow base 5 1 y l.length (Lib.byteCells l) → w'.ownsRow base 5 1 y l.length (Lib.byteCells l) := fun hy => own_chg hy hC (fun g hg e => by
    obtain ⟨cur, h1⟩ := own_type hy hg
    obtain ⟨cur', h2⟩ := own_type h.1 e
    rw [h1] at h2
    injection h2 with h2
    injection h2 with _ h2
    exact absurd h2 (by decide))
  refine ⟨⟨by rw [cells6_snoc, List.length_append]; exact hr, fun y hy => ?_⟩, hC⟩
  rcases List.mem_append.1 hy with hy | hy
  · exact hb (h.2 y hy)
  · rw [List.mem_singleton.1 hy]; exact hb hx
theorem elemOp : ∃ n, Elem 26 46 6 n ∧ n ≤ 80 := by
  refine ⟨64, elem_of (z := .agg #[.int .i64 0, .string ⟨#[]⟩, .slice none 0 0, .int .i64 0, .bool false, .bool false]) Tryz.underlying26 (by kernel_rfl) rfl (by decide), by decide⟩
/-- The copies: the same ops, data of their own. -/
def CopTo (w : World) (ps : List OpM) (e : Ending) (w' : World) : Prop := ∃ v xs, e = .returned v ∧ OpsAt w.heap.size w' v xs ∧ xs.map OpX.o = ps ∧ Kept w w'
theorem cell_new6 (w : World) (c0 c1 c2 c3 c4 c5 : Value) (t : TypeId) : ∀ j u, ([c0, c1, c2, c3, c4, c5] : List Value)[j]? = some u → (w.alloc (.cells #[c0, c1, c2, c3, c4, c5] t)).cell? ⟨w.heap.size, j, none⟩ = some u := by
  intro j u hu
  rw [cell_at (heap_alloc_new w _)]
  match j, hu with
  | 0, hu => simpa using hu
  | 1, hu => simpa using hu
  | 2, hu => simpa using hu
  | 3, hu => simpa using hu
  | 4, hu => simpa using hu
  | 5, hu => simpa using hu
theorem six_cell (o : OpM) (dv : Value) (h : dv.oneCell' = true) : ∀ u ∈ opCells o dv, u.oneCell' = true := by
  intro u hu
  simp only [opCells, List.mem_cons, List.not_mem_nil, or_false] at hu
  rcases hu with rfl | rfl | rfl | rfl | rfl | rfl
  · rfl
  · rfl
  · exact h
  · rfl
  · rfl
  · rfl
theorem set2_6 {w : World} {b : Nat} {t : TypeId} {c0 c1 c2 c3 c4 c5 : Value} (h : w.heap[b]? = some (.cells #[c0, c1, c2, c3, c4, c5] t (0, 0))) (u : Value) : (w.setCell ⟨b, 2, none⟩ u).heap[b]? = some (.cells #[c0, c1, u, c3, c4, c5] t (0, 0)) := by
  have := Lib.heap_setCell_same (i := 2) h u
  simpa using this
set_option maxRecDepth 100000 in
set_option maxHeartbeats 4000000 in
theorem mcopied_any (xs : List OpX) (v : Value) (w : World) (hv : Ops8 w v xs) (hl : xs.length ≤ 1048576) (hd : ∀ x ∈ xs, x.o.data.length ≤ 140737488355328) :
    Calls Tryz.prog 8 #[v] w (CopTo w (plainO xs)) := by
  obtain ⟨A, c, rfl, hc1, hc2⟩ := hv.form
  unfold maxLen at hc2
  obtain ⟨nb, hE, hnb⟩ := elemOp
  have HE := Lib.hid hE
  have HV := Lib.hid hv
  have HD := Lib.hid hd
  clear hv hd hE
  go_enter Tryz.func8, Tryz.ntmps8
  go_wp2
  go_loopw [3, 8] (fun t i W => ∃ (k : Nat) (ys : List OpX), i = .int .i64 (k : Int) ∧ k ≤ xs.length ∧ OpsAt w.heap.size W t ys ∧ ys.map OpX.o = (plainO xs).take k ∧ Kept w W) (fun _ i _ => xs.length - (intOf i).toNat)
  case atStart => exact ⟨0, [], rfl, Nat.zero_le _, OpsAt.nil _ _, by simp, Kept.refl w⟩
  case round =>
    obtain ⟨k, ys, rfl, hk, hR, hys, hK⟩ := hrel
    have hyl : ys.length = k := by
      have := congrArg List.length hys
      simpa [plainO, Nat.min_eq_left hk] using this
    obtain ⟨A3, c3, hv3, hd1, hd2⟩ := hR.form
    rw [hyl] at hv3 hd1
    subst hv3
    unfold maxLen at hd2
    have HYL := Lib.hid hyl
    clear hyl
    have HR := Lib.hid hR
    have HYS := Lib.hid hys
    clear hR hys
    by_cases hlt : k < xs.length
    · obtain ⟨b, o, rfl, p0, p1, p2, p3, p4, p5, hbt⟩ := HV.out.at hlt
      have a0 := hK.cell p0
      have a1 := hK.cell p1
      have a2 := hK.cell p2
      have a3 := hK.cell p3
      have a4 := hK.cell p4
      have a5 := hK.cell p5
      have HDL := Lib.hid (HD.out _ (List.getElem_mem hlt))
      have HTS := Lib.hid (show (plainO xs).take (k + 1) = (plainO xs).take k ++ [xs[k].o] from by
        rw [List.take_succ_eq_append_getElem (by simp [plainO]; exact hlt)]
        simp [plainO])
      have HBT := Lib.hid (hbt.kept hK)
      obtain ⟨Ad, cd, hdv⟩ := hbt.form
      rw [hdv] at a2 HBT
      clear hbt hdv p0 p1 p2 p3 p4 p5
      generalize xs[k].o = x at *
      have g1 : (k : Int) < (xs.length : Int) := by omega
      have hwr := hK.size
      have hka := (Kept.refl wr).alloc (opO x (.slice Ad x.data.length cd))
      have hba := heap_alloc_new wr (opO x (.slice Ad x.data.length cd))
      have hopo : opO x (.slice Ad x.data.length cd) = .cells #[.int .i64 x.kind, .string ⟨x.path.toArray⟩, .slice Ad x.data.length cd, .int .i64 x.ver, .bool x.eph, .bool x.seq] 46 := rfl
      rw [hopo] at hka hba
      have HKA := Lib.hid hka
      have HBA := Lib.hid hba
      have x2 := cell_at hba 2
      simp only [List.getElem?_toArray, List.getElem?_cons_zero, List.getElem?_cons_succ] at x2
      clear hka hba hopo
      go_wp2_with fail
      refine (copy_any x.data _ _ (HBT.out.kept HKA.out) HDL.out).mono ?_
      rintro e w4 ⟨v4, rfl, ho4, k4⟩
      obtain ⟨A4, c4, hv4⟩ := own_form ho4
      subst hv4
      have hb4 := k4.block' HBA.out
      have y2 := cell_at hb4 2
      have f2 := frozen_at hb4 2
      simp only [List.getElem?_toArray, List.getElem?_cons_zero, List.getElem?_cons_succ] at y2
      have hs4 := (HKA.out.trans k4).size
      have hsa : (wr.alloc (.cells #[.int .i64 x.kind, .string ⟨x.path.toArray⟩, .slice Ad x.data.length cd, .int .i64 x.ver, .bool x.eph, .bool x.seq] 46)).heap.size = wr.heap.size + 1 := by simp
      have hc5 : Chg (fun g => g = wr.heap.size) w4 (w4.setCell ⟨wr.heap.size, 2, none⟩ (.slice A4 x.data.length c4)) := (Chg.refl (fun g => g = wr.heap.size) w4).setCell _ (fun _ => rfl)
      have HB5 := Lib.hid (set2_6 hb4 (.slice A4 x.data.length c4))
      have HO5 := Lib.hid (own_base' (b' := w.heap.size) (own_chg ho4 hc5 (fun g hg e => by
        have := (ho4.lt g hg).1
        rw [hsa] at this
        omega)) (by rw [hsa]; omega))
      have HR5 := Lib.hid (show OpsAt w.heap.size (w4.setCell ⟨wr.heap.size, 2, none⟩ (.slice A4 x.data.length c4)) (.slice A3 k c3) ys from by
        have h4 := HR.out.kept (HKA.out.trans k4)
        exact ⟨own_chg h4.1 hc5 (fun g hg e => by have := (HR.out.1.lt g hg).2; omega), fun y hy => own_chg (h4.2 y hy) hc5 (fun g hg e => by have := ((HR.out.2 y hy).lt g hg).2; omega)⟩)
      have HK5 := Lib.hid (show Kept w (w4.setCell ⟨wr.heap.size, 2, none⟩ (.slice A4 x.data.length c4)) from Chg.kept (hK.trans (HKA.out.trans k4)) hc5 (fun g e => by omega))
      obtain ⟨z0, z1, z2, z3, z4, z5⟩ : _ ∧ _ ∧ _ ∧ _ ∧ _ ∧ _ := ⟨cell_at HB5.out 0, cell_at HB5.out 1, cell_at HB5.out 2, cell_at HB5.out 3, cell_at HB5.out 4, cell_at HB5.out 5⟩
      simp only [List.getElem?_toArray, List.getElem?_cons_zero, List.getElem?_cons_succ] at z0 z1 z2 z3 z4 z5
      clear ho4 k4 hb4 hc5 x2 a0 a1 a2 a3 a4 a5 hsa
      go_upto_region 6 with (fail)
      generalize w4.setCell ⟨wr.heap.size, 2, none⟩ (.slice A4 x.data.length c4) = w5 at *
      go_wp2_with (at_builtin; refine wpList_append_one HE.out rfl _ _ rfl w.heap.size _ _ (cells6 ys) (opCells x (.slice A4 x.data.length c4)) w5.heap.size 1 rfl rfl (own_kept HR5.out.1 ((Kept.refl w5).alloc _)) rfl (cell_new6 w5 _ _ _ _ _ _ _) (six_cell _ _ rfl) (by have h1 := HYL.out; have : (ys.length + 1) * nb ≤ (ys.length + 1) * 80 := Nat.mul_le_mul_left _ hnb; omega) (by have h1 := HYL.out; unfold maxLen; omega) (by have := HK5.out.size; simp; omega) ?_; intro v5 w6 e1 e2 e3)
      go_roundw
      case rel =>
        obtain ⟨r1, r2⟩ := OpsAt.more (x := ⟨x, .slice A4 x.data.length c4⟩) HR5.out HO5.out e2 e1
        refine ⟨k + 1, ys ++ [⟨x, .slice A4 x.data.length c4⟩], by go_num, by omega, r1, by rw [List.map_append, HYS.out, HTS.out]; rfl, r2.kept HK5.out (fun g hg => ?_)⟩
        exact (HR5.out.1.lt g hg).1
      case measure => simp [intOf]; omega
    · obtain rfl : k = xs.length := by omega
      have HG := Lib.hid (show CopTo w (plainO xs) (.returned (.slice A3 xs.length c3)) wr from ⟨_, ys, rfl, HR.out, by rw [HYS.out, List.take_of_length_le (by simp [plainO])], hK⟩)
      go_wp2
      go_ret
      exact HG.out
end Go.Proofs.YtennlckfmgfjbaaGreatDoor
