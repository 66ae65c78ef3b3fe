/- The document's index: its list in memory; the walk of its Add. -/
import Derived.Test.YtgmpbalibdlhdaaQIAw
import Derived.Deep.RegionWith
set_option linter.unusedSimpArgs false
set_option linter.unusedVariables false
namespace Go.Proofs.Ytgmpbalibdlhdaa
open Go.RowKit
/-- The document's index lies at db: a list of items, of its own. -/
structure RxAt (w : World) (base db n : Nat) (lv : Value) (L : List It) : Prop where
  blk : w.heap[db]? = some (.cells #[.int .i64 (n : Int), lv] 63 (0, 0))
  row : w.ownsRow base 49 6 lv L.length (cellsIt L)
/-- What Add leaves. -/
def RAddTo (w : World) (base db n : Nat) (lv : Value) (L : List It) (x : It) (e : Ending) (w' : World) : Prop :=
  e = .returned (.int .i64 (addE n x)) ∧ (∃ lv', RxAt w' base db n lv' (addL n x L) ∧ ∀ g, lv'.ownBlock = some g → lv.ownBlock = some g ∨ w.heap.size ≤ g) ∧ Chg (fun g => g = db ∨ lv.ownBlock = some g) w w'
section
variable {w w' : World} {base db n : Nat} {lv : Value} {L : List It} {F : Nat → Prop}
theorem RxAt.chg (h : RxAt w base db n lv L) (c : Chg F w w') (hx : ¬ F db) (hm : ∀ g, lv.ownBlock = some g → ¬ F g) : RxAt w' base db n lv L := ⟨c.block' h.blk hx, own_chg h.row c hm⟩
theorem RxAt.kept (h : RxAt w base db n lv L) (k : Kept w w') : RxAt w' base db n lv L := h.chg (Chg.of_kept (F := no) k) (fun x => x) (fun _ _ x => x)
theorem RxAt.ne (h : RxAt w base db n lv L) : lv.ownBlock ≠ some db := fun e => by
  obtain ⟨cur, h1⟩ := own_type h.row e
  have h2 := h.blk
  rw [h1] at h2
  simp only [Option.some.injEq, Obj.cells.injEq] at h2
  exact absurd h2.2.1 (by decide)
theorem RAddTo.same (h : RxAt w base db n lv L) {x : It} {e : Int} (k : Kept w w') (he : addE n x = e) (hne : e ≠ 0) : RAddTo w base db n lv L x (.returned (.int .i64 e)) w' := by
  refine ⟨by rw [he], ⟨lv, ?_, fun g hg => .inl hg⟩, Chg.of_kept k⟩
  unfold addL
  rw [if_neg (by rw [he]; exact hne)]
  exact h.kept k
/-- One item more. -/
theorem RAddTo.push (h : RxAt w base db n lv L) {x : It} (hx : okI n x) {wn w5 : World} {v5 : Value} (kn : Kept w wn) (p1 : w5.ownsRow base 49 6 v5 (L.length + 1) (cellsIt L ++ x.cs)) (p2 : wn.grownBy w5 lv.ownBlock) (p3 : v5.ownBlock = lv.ownBlock ∨ v5.ownBlock = some wn.heap.size) :
    RAddTo w base db n lv L x (.returned (.int .i64 0)) (w5.setCell ⟨db, 1, none⟩ v5) := by
  have c5 : Chg (fun g => lv.ownBlock = some g) w w5 := (Chg.of_kept kn).trans (Chg.of_grown p2 (fun g hg _ => hg)) (fun g _ x => x)
  have b5 := c5.block' h.blk h.ne
  have hwl : db < w.heap.size := (Array.getElem?_eq_some_iff.1 h.blk).1
  have s1 := kn.size
  have c6 : Chg (fun g => g = db) w5 (w5.setCell ⟨db, 1, none⟩ v5) := (Chg.refl (fun g => g = db) w5).setCell _ (fun _ => rfl)
  have h6 := Lib.heap_setCell_same (i := 1) b5 v5
  have hv5 : v5.ownBlock ≠ some db := fun e => by
    rcases p3 with x | x
    · rw [e] at x; exact h.ne x.symm
    · rw [e] at x
      have : db = wn.heap.size := Option.some.inj x
      omega
  refine ⟨by rw [okI_iff.2 hx], ⟨v5, ?_, fun g hg => ?_⟩, ?_⟩
  · unfold addL
    rw [if_pos (okI_iff.2 hx)]
    refine ⟨by simpa using h6, ?_⟩
    rw [List.length_append, cellsIt_snoc]
    exact own_chg p1 c6 (fun g hg e => hv5 (by rw [hg, e]))
  · rcases p3 with x | x
    · rw [x] at hg; exact .inl hg
    · rw [hg] at x
      have : g = wn.heap.size := Option.some.inj x
      exact .inr (by omega)
  · exact (c5.mono fun g _ x => .inr x).trans c6 (fun g _ x => .inl x)
set_option maxHeartbeats 1000000 in
theorem radd_kind (h : RxAt w base db n lv L) (x : It) (hk : ¬ (0 ≤ x.c.kind ∧ x.c.kind ≤ 2)) : Calls Try.prog 19 #[.pointer (some ⟨db, 0, none⟩), x.c.v, x.id, .int .i64 x.seq] w (RAddTo w base db n lv L x) := by
  have HR := Lib.hid (fun w' (k : Kept w w') => RAddTo.same h k (addE_kind (n := n) hk) (by decide))
  have HK := Lib.hid (fun o o' => ((Kept.refl w).alloc o).alloc o')
  obtain ⟨⟨kind, home, da, dn, dc⟩, rep, num, seq⟩ := x
  simp only at *
  unfold Cm.v It.id Cm.dv
  clear h
  by_cases h1 : kind < 0
  · have t1 : decide (kind < 0) = true := decide_eq_true h1
    go_enter Try.func19, Try.ntmps19
    go_wp2
    go_ret
    exact HR.out _ (HK.out _ _)
  · have t1 : decide (kind < 0) = false := decide_eq_false h1
    have t2 : decide (2 < kind) = true := decide_eq_true (by omega)
    go_enter Try.func19, Try.ntmps19
    go_wp2
    go_ret
    exact HR.out _ (HK.out _ _)
set_option maxRecDepth 100000 in
set_option maxHeartbeats 4000000 in
theorem radd_num (h : RxAt w base db n lv L) (x : It) (hk : 0 ≤ x.c.kind ∧ x.c.kind ≤ 2) (h2 : ¬ ((0 ≤ x.rep ∧ x.rep < n) ∧ (1 ≤ x.num ∧ x.num ≤ 4611686018427387903) ∧ 0 ≤ x.seq ∧ x.seq ≤ 4611686018427387902)) : Calls Try.prog 19 #[.pointer (some ⟨db, 0, none⟩), x.c.v, x.id, .int .i64 x.seq] w (RAddTo w base db n lv L x) := by
  have HR := Lib.hid (fun w' (k : Kept w w') => RAddTo.same h k (addE_num hk h2) (by decide))
  have HK := Lib.hid (fun o o' => ((Kept.refl w).alloc o).alloc o')
  have HB := Lib.hid h.blk
  obtain ⟨A0, c0, rfl⟩ := own_form h.row
  obtain ⟨⟨kind, home, da, dn, dc⟩, rep, num, seq⟩ := x
  simp only at *
  unfold Cm.v It.id Cm.dv
  clear h
  have t1 : decide (kind < 0) = false := decide_eq_false (by omega)
  have t2 : decide (2 < kind) = false := decide_eq_false (by omega)
  by_cases q0 : rep < 0
  · have s1 : decide (rep < 0) = true := decide_eq_true q0
    clear h2 hk
    have HK0 := Lib.hid (HK.out (.cells #[.int .i64 kind, .string ⟨home.toArray⟩, .slice da dn dc] 34) (.cells #[.int .i64 rep, .int .i64 num] 47))
    have HI := Lib.hid (two_new w (.cells #[.int .i64 kind, .string ⟨home.toArray⟩, .slice da dn dc] 34) 47 (.int .i64 rep) (.int .i64 num))
    have HC := Lib.hid (cells3 (((Kept.refl _).alloc (.cells #[.int .i64 rep, .int .i64 num] 47)).block' (heap_alloc_new w (.cells #[.int .i64 kind, .string ⟨home.toArray⟩, .slice da dn dc] 34))))
    go_enter Try.func19, Try.ntmps19
    go_upto_region 1 with (fail)
    generalize (w.alloc (.cells #[.int .i64 kind, .string ⟨home.toArray⟩, .slice da dn dc] 34)).alloc (.cells #[.int .i64 rep, .int .i64 num] 47) = w1 at *
    obtain ⟨i0, i1⟩ := cells2 HI.out
    obtain ⟨c0, c1, c2⟩ := HC.out
    obtain ⟨d0, d1⟩ := cells2 (HK0.out.block' HB.out)
    go_wp2
    go_quiet (fail)
    go_wp2
    go_ret
    exact HR.out _ (by first | exact HK0.out | exact HK0.out.drew | exact HK0.out.drewN _)
  · have s1 : decide (rep < 0) = false := decide_eq_false q0
    by_cases q1 : (n : Int) ≤ rep
    · have s2 : decide ((n : Int) ≤ rep) = true := decide_eq_true q1
      clear h2 hk
      have HK0 := Lib.hid (HK.out (.cells #[.int .i64 kind, .string ⟨home.toArray⟩, .slice da dn dc] 34) (.cells #[.int .i64 rep, .int .i64 num] 47))
      have HI := Lib.hid (two_new w (.cells #[.int .i64 kind, .string ⟨home.toArray⟩, .slice da dn dc] 34) 47 (.int .i64 rep) (.int .i64 num))
      have HC := Lib.hid (cells3 (((Kept.refl _).alloc (.cells #[.int .i64 rep, .int .i64 num] 47)).block' (heap_alloc_new w (.cells #[.int .i64 kind, .string ⟨home.toArray⟩, .slice da dn dc] 34))))
      go_enter Try.func19, Try.ntmps19
      go_upto_region 1 with (fail)
      generalize (w.alloc (.cells #[.int .i64 kind, .string ⟨home.toArray⟩, .slice da dn dc] 34)).alloc (.cells #[.int .i64 rep, .int .i64 num] 47) = w1 at *
      obtain ⟨i0, i1⟩ := cells2 HI.out
      obtain ⟨c0, c1, c2⟩ := HC.out
      obtain ⟨d0, d1⟩ := cells2 (HK0.out.block' HB.out)
      go_wp2
      go_quiet (fail)
      go_wp2
      go_ret
      exact HR.out _ (by first | exact HK0.out | exact HK0.out.drew | exact HK0.out.drewN _)
    · have s2 : decide ((n : Int) ≤ rep) = false := decide_eq_false q1
      by_cases q2 : num < 1
      · have s3 : decide (num < 1) = true := decide_eq_true q2
        clear h2 hk
        have HK0 := Lib.hid (HK.out (.cells #[.int .i64 kind, .string ⟨home.toArray⟩, .slice da dn dc] 34) (.cells #[.int .i64 rep, .int .i64 num] 47))
        have HI := Lib.hid (two_new w (.cells #[.int .i64 kind, .string ⟨home.toArray⟩, .slice da dn dc] 34) 47 (.int .i64 rep) (.int .i64 num))
        have HC := Lib.hid (cells3 (((Kept.refl _).alloc (.cells #[.int .i64 rep, .int .i64 num] 47)).block' (heap_alloc_new w (.cells #[.int .i64 kind, .string ⟨home.toArray⟩, .slice da dn dc] 34))))
        go_enter Try.func19, Try.ntmps19
        go_upto_region 1 with (fail)
        generalize (w.alloc (.cells #[.int .i64 kind, .string ⟨home.toArray⟩, .slice da dn dc] 34)).alloc (.cells #[.int .i64 rep, .int .i64 num] 47) = w1 at *
        obtain ⟨i0, i1⟩ := cells2 HI.out
        obtain ⟨c0, c1, c2⟩ := HC.out
        obtain ⟨d0, d1⟩ := cells2 (HK0.out.block' HB.out)
        go_wp2
        go_quiet (fail)
        go_wp2
        go_ret
        exact HR.out _ (by first | exact HK0.out | exact HK0.out.drew | exact HK0.out.drewN _)
      · have s3 : decide (num < 1) = false := decide_eq_false q2
        by_cases q3 : 4611686018427387903 < num
        · have s4 : decide (4611686018427387903 < num) = true := decide_eq_true q3
          clear h2 hk
          have HK0 := Lib.hid (HK.out (.cells #[.int .i64 kind, .string ⟨home.toArray⟩, .slice da dn dc] 34) (.cells #[.int .i64 rep, .int .i64 num] 47))
          have HI := Lib.hid (two_new w (.cells #[.int .i64 kind, .string ⟨home.toArray⟩, .slice da dn dc] 34) 47 (.int .i64 rep) (.int .i64 num))
          have HC := Lib.hid (cells3 (((Kept.refl _).alloc (.cells #[.int .i64 rep, .int .i64 num] 47)).block' (heap_alloc_new w (.cells #[.int .i64 kind, .string ⟨home.toArray⟩, .slice da dn dc] 34))))
          go_enter Try.func19, Try.ntmps19
          go_upto_region 1 with (fail)
          generalize (w.alloc (.cells #[.int .i64 kind, .string ⟨home.toArray⟩, .slice da dn dc] 34)).alloc (.cells #[.int .i64 rep, .int .i64 num] 47) = w1 at *
          obtain ⟨i0, i1⟩ := cells2 HI.out
          obtain ⟨c0, c1, c2⟩ := HC.out
          obtain ⟨d0, d1⟩ := cells2 (HK0.out.block' HB.out)
          go_wp2
          go_quiet (fail)
          go_wp2
          go_ret
          exact HR.out _ (by first | exact HK0.out | exact HK0.out.drew | exact HK0.out.drewN _)
        · have s4 : decide (4611686018427387903 < num) = false := decide_eq_false q3
          by_cases q4 : seq < 0
          · have s5 : decide (seq < 0) = true := decide_eq_true q4
            clear h2 hk
            have HK0 := Lib.hid (HK.out (.cells #[.int .i64 kind, .string ⟨home.toArray⟩, .slice da dn dc] 34) (.cells #[.int .i64 rep, .int .i64 num] 47))
            have HI := Lib.hid (two_new w (.cells #[.int .i64 kind, .string ⟨home.toArray⟩, .slice da dn dc] 34) 47 (.int .i64 rep) (.int .i64 num))
            have HC := Lib.hid (cells3 (((Kept.refl _).alloc (.cells #[.int .i64 rep, .int .i64 num] 47)).block' (heap_alloc_new w (.cells #[.int .i64 kind, .string ⟨home.toArray⟩, .slice da dn dc] 34))))
            go_enter Try.func19, Try.ntmps19
            go_upto_region 1 with (fail)
            generalize (w.alloc (.cells #[.int .i64 kind, .string ⟨home.toArray⟩, .slice da dn dc] 34)).alloc (.cells #[.int .i64 rep, .int .i64 num] 47) = w1 at *
            obtain ⟨i0, i1⟩ := cells2 HI.out
            obtain ⟨c0, c1, c2⟩ := HC.out
            obtain ⟨d0, d1⟩ := cells2 (HK0.out.block' HB.out)
            go_wp2
            go_quiet (fail)
            go_wp2
            go_ret
            exact HR.out _ (by first | exact HK0.out | exact HK0.out.drew | exact HK0.out.drewN _)
          · have s5 : decide (seq < 0) = false := decide_eq_false q4
            have s6 : decide (4611686018427387902 < seq) = true := decide_eq_true (by omega)
            clear h2 hk
            have HK0 := Lib.hid (HK.out (.cells #[.int .i64 kind, .string ⟨home.toArray⟩, .slice da dn dc] 34) (.cells #[.int .i64 rep, .int .i64 num] 47))
            have HI := Lib.hid (two_new w (.cells #[.int .i64 kind, .string ⟨home.toArray⟩, .slice da dn dc] 34) 47 (.int .i64 rep) (.int .i64 num))
            have HC := Lib.hid (cells3 (((Kept.refl _).alloc (.cells #[.int .i64 rep, .int .i64 num] 47)).block' (heap_alloc_new w (.cells #[.int .i64 kind, .string ⟨home.toArray⟩, .slice da dn dc] 34))))
            go_enter Try.func19, Try.ntmps19
            go_upto_region 1 with (fail)
            generalize (w.alloc (.cells #[.int .i64 kind, .string ⟨home.toArray⟩, .slice da dn dc] 34)).alloc (.cells #[.int .i64 rep, .int .i64 num] 47) = w1 at *
            obtain ⟨i0, i1⟩ := cells2 HI.out
            obtain ⟨c0, c1, c2⟩ := HC.out
            obtain ⟨d0, d1⟩ := cells2 (HK0.out.block' HB.out)
            go_wp2
            go_quiet (fail)
            go_wp2
            go_ret
            exact HR.out _ (by first | exact HK0.out | exact HK0.out.drew | exact HK0.out.drewN _)
set_option maxRecDepth 100000 in
set_option maxHeartbeats 4000000 in
theorem radd_ok (h : RxAt w base db n lv L) (x : It) (hx : okI n x) (hb : base ≤ w.heap.size) (hlim : (L.length + 1) * 72 ≤ 140737488355328) : Calls Try.prog 19 #[.pointer (some ⟨db, 0, none⟩), x.c.v, x.id, .int .i64 x.seq] w (RAddTo w base db n lv L x) := by
  have HK := Lib.hid (fun o o' => ((Kept.refl w).alloc o).alloc o')
  have HB := Lib.hid h.blk
  have HW := Lib.hid h.row
  have HNE := Lib.hid h.ne
  have HP := Lib.hid (fun wn w5 v5 kn p1 p2 p3 => RAddTo.push (wn := wn) (w5 := w5) (v5 := v5) h hx kn p1 p2 p3)
  obtain ⟨A0, cp0, rfl⟩ := own_form h.row
  obtain ⟨hk, h1, ⟨n1, n2⟩, z1, z2⟩ := hx
  obtain ⟨⟨kind, home, da, dn, dc⟩, rep, num, seq⟩ := x
  simp only at *
  unfold Cm.v It.id Cm.dv
  clear h
  unfold It.cs Cm.dv at HP
  simp only at HP
  have t1 : decide (kind < 0) = false := decide_eq_false (by omega)
  have t2 : decide (2 < kind) = false := decide_eq_false (by omega)
  have s1 : decide (rep < 0) = false := decide_eq_false (by omega)
  have s2 : decide ((n : Int) ≤ rep) = false := decide_eq_false (by omega)
  have s3 : decide (num < 1) = false := decide_eq_false (by omega)
  have s4 : decide (4611686018427387903 < num) = false := decide_eq_false (by omega)
  have s5 : decide (seq < 0) = false := decide_eq_false (by omega)
  have s6 : decide (4611686018427387902 < seq) = false := decide_eq_false (by omega)
  clear h1 n1 n2 z1 z2 hk
  have HK0 := Lib.hid (HK.out (.cells #[.int .i64 kind, .string ⟨home.toArray⟩, .slice da dn dc] 34) (.cells #[.int .i64 rep, .int .i64 num] 47))
  have HI := Lib.hid (two_new w (.cells #[.int .i64 kind, .string ⟨home.toArray⟩, .slice da dn dc] 34) 47 (.int .i64 rep) (.int .i64 num))
  have HC := Lib.hid (cells3 (((Kept.refl _).alloc (.cells #[.int .i64 rep, .int .i64 num] 47)).block' (heap_alloc_new w (.cells #[.int .i64 kind, .string ⟨home.toArray⟩, .slice da dn dc] 34))))
  go_enter Try.func19, Try.ntmps19
  go_upto_region 1 with (fail)
  generalize (w.alloc (.cells #[.int .i64 kind, .string ⟨home.toArray⟩, .slice da dn dc] 34)).alloc (.cells #[.int .i64 rep, .int .i64 num] 47) = w1 at *
  obtain ⟨i0, i1⟩ := cells2 HI.out
  obtain ⟨c0, c1, c2⟩ := HC.out
  obtain ⟨d0, d1⟩ := cells2 (HK0.out.block' HB.out)
  go_wp2
  go_quiet (fail)
  have HK2 := Lib.hid (HK0.out.trans (show Kept w1 (w1.drewN nq) from (Kept.refl w1).drewN nq))
  have i0 := (show (w1.drewN nq).cell? _ = _ from i0)
  have i1 := (show (w1.drewN nq).cell? _ = _ from i1)
  have c0 := (show (w1.drewN nq).cell? _ = _ from c0)
  have c1 := (show (w1.drewN nq).cell? _ = _ from c1)
  have c2 := (show (w1.drewN nq).cell? _ = _ from c2)
  have d1 := (show (w1.drewN nq).cell? _ = _ from d1)
  clear d0
  go_wp2
  generalize w1.drewN nq = w2 at *
  have hkd := (Kept.refl w2).drew
  have kn := ((Kept.refl w2).alloc (.cells #[.int .i64 kind, .string ⟨home.toArray⟩, .slice da dn dc, .int .i64 rep, .int .i64 num, .int .i64 seq] 49)).drew
  have i0' := hkd.cell i0
  have i1' := hkd.cell i1
  have c0' := hkd.cell c0
  have c1' := hkd.cell c1
  have c2' := hkd.cell c2
  have d1' := hkd.cell d1
  have e0' := kn.cell i0
  have e1' := kn.cell i1
  have e2' := kn.cell c0
  have e3' := kn.cell c1
  have e4' := kn.cell c2
  have e5' := kn.cell d1
  have HKN := Lib.hid (HK2.out.trans kn)
  clear i0 i1 c0 c1 c2 d1
  go_region_law (refine step_append_one elemIt (by rfl) _ _ (by rfl) base _ _ (cellsIt L) [.int .i64 kind, .string ⟨home.toArray⟩, .slice da dn dc, .int .i64 rep, .int .i64 num, .int .i64 seq] w2.heap.size 1 (by rfl) (by rfl) (own_kept HW.out HKN.out) (by rfl) (cell_new6 w2 _ _ _ _ _ _ _) (by intro u hu; simp at hu; rcases hu with rfl | rfl | rfl | rfl | rfl | rfl <;> rfl) hlim (by unfold maxLen; omega) (Nat.le_trans hb HKN.out.size) ?_; intro v5 w5 p1 p2 p3; obtain ⟨A6, c6, rfl⟩ := own_form p1; have P1 := Lib.hid p1; have P2 := Lib.hid p2; have P3 := Lib.hid p3; have hC5 : Chg (fun g => (Value.slice A0 L.length cp0).ownBlock = some g) w w5 := (Chg.of_kept HKN.out).trans (Chg.of_grown p2 (fun g hg _ => hg)) (fun g _ x => x); have HNT := Lib.hid (hC5.block' HB.out HNE.out); have f5 : w5.frozen? ⟨db, 1, none⟩ = false := frozen_at HNT.out 1; have z5 : w5.cell? ⟨db, 1, none⟩ = some (.slice A0 L.length cp0) := (cell_at HNT.out 1).trans rfl; clear p1 p2 p3 hC5)
  all_goals
    have HF := Lib.hid (HP.out _ _ _ HKN.out P1.out P2.out P3.out)
    go_wp2
    go_ret
    exact HF.out
end
end Go.Proofs.Ytgmpbalibdlhdaa
