/- The walks of Next, of the document's Next, and of told. -/
import Derived.Test.YteopgcbihekcjaaDoorQVBal
set_option linter.unusedSimpArgs false
set_option linter.unusedVariables false
namespace Go.Proofs.YteopgcbihekcjaaDoor
open Go.RowKit
theorem bLess_same (n r s : Int) : bLess n r n s = decide (r < s) := by unfold bLess; simp
theorem nextN_lt {n r rep : Int} (h : r < rep) : nextN n r rep = n := by unfold nextN; rw [if_neg (by omega)]
theorem nextN_le {n r rep : Int} (h : ¬ r < rep) : nextN n r rep = n + 1 := by unfold nextN; rw [if_pos (by omega)]
theorem next_bad {n r rep : Int} (h : nextOk n r rep = false) : nextA n r rep = 0 ∧ nextB n r rep = 0 ∧ nextE n r rep = 110 := by
  unfold nextA nextB nextE
  rw [h]
  exact ⟨rfl, rfl, rfl⟩
theorem next_good {n r rep : Int} (h : nextOk n r rep = true) : nextA n r rep = nextN n r rep ∧ nextB n r rep = rep ∧ nextE n r rep = 0 := by
  unfold nextA nextB nextE
  rw [h]
  exact ⟨rfl, rfl, rfl⟩
theorem put2 {w : World} {b : Nat} {t : TypeId} {x y : Value} (h : w.heap[b]? = some (.cells #[x, y] t (0, 0))) (u v : Value) : ((w.setCell ⟨b, 0, none⟩ u).setCell ⟨b, 1, none⟩ v).heap[b]? = some (.cells #[u, v] t (0, 0)) := by
  have h1 := Lib.heap_setCell_same (i := 0) h u
  have h2 := Lib.heap_setCell_same (i := 1) h1 v
  simpa using h2
theorem put2_kept {w0 w : World} {b : Nat} (k : Kept w0 w) (hb : w0.heap.size ≤ b) (u v : Value) : Kept w0 ((w.setCell ⟨b, 0, none⟩ u).setCell ⟨b, 1, none⟩ v) :=
  (Chg.setCell (F := fun g => w0.heap.size ≤ g) (Chg.setCell (F := fun g => w0.heap.size ≤ g) (Chg.of_kept k) _ (fun _ => hb)) _ (fun _ => hb)).kept (Kept.refl w0) (fun g x => x)
theorem two_new (w : World) (o : Obj) (t : TypeId) (x y : Value) : ((w.alloc o).alloc (.cells #[x, y] t)).heap[w.heap.size + 1]? = some (.cells #[x, y] t (0, 0)) := by
  have := heap_alloc_new (w.alloc o) (.cells #[x, y] t)
  simpa using this
theorem cells2 {w : World} {b : Nat} {t : TypeId} {x y : Value} (h : w.heap[b]? = some (.cells #[x, y] t (0, 0))) : w.cell? ⟨b, 0, none⟩ = some x ∧ w.cell? ⟨b, 1, none⟩ = some y := ⟨(cell_at h 0).trans rfl, (cell_at h 1).trans rfl⟩
theorem size_alloc2 (w : World) (o p : Obj) : ((w.alloc o).alloc p).heap.size = w.heap.size + 1 + 1 := by simp
theorem put1 {w : World} {b : Nat} {t : TypeId} {x y : Value} (h : w.heap[b]? = some (.cells #[x, y] t (0, 0))) (u : Value) : (w.setCell ⟨b, 0, none⟩ u).heap[b]? = some (.cells #[u, y] t (0, 0)) := by
  have h1 := Lib.heap_setCell_same (i := 0) h u
  simpa using h1
theorem put1_kept {w0 w : World} {b : Nat} (k : Kept w0 w) (hb : w0.heap.size ≤ b) (u : Value) : Kept w0 (w.setCell ⟨b, 0, none⟩ u) :=
  (Chg.setCell (F := fun g => w0.heap.size ≤ g) (Chg.of_kept k) _ (fun _ => hb)).kept (Kept.refl w0) (fun g x => x)
theorem heap_other (w : World) {b i : Nat} (u : Value) {k : Nat} (h : k ≠ b) : (w.setCell ⟨b, i, none⟩ u).heap[k]? = w.heap[k]? := Below.heap_setCell w ⟨b, i, none⟩ u k h
/-- What is known of the boxes when the first check is done. -/
theorem nextFacts {w w1 : World} {n r rep : Int} (k1 : Kept ((w.alloc (.cells #[.int .i64 n, .int .i64 r] 23)).alloc (.cells #[.int .i64 0, .int .i64 0] 23)) w1) :
    w1.cell? ⟨w.heap.size, 0, none⟩ = some (.int .i64 n) ∧ w1.cell? ⟨w.heap.size, 1, none⟩ = some (.int .i64 r) ∧
    w1.heap[w.heap.size + 1]? = some (.cells #[.int .i64 0, .int .i64 0] 23 (0, 0)) ∧ w.heap.size < w1.heap.size ∧
    (w1.alloc (.cells #[.int .i64 n, .int .i64 rep] 23)).cell? ⟨w.heap.size, 0, none⟩ = some (.int .i64 n) ∧ (w1.alloc (.cells #[.int .i64 n, .int .i64 rep] 23)).cell? ⟨w.heap.size, 1, none⟩ = some (.int .i64 r) ∧
    (w1.alloc (.cells #[.int .i64 n, .int .i64 rep] 23)).cell? ⟨w1.heap.size, 0, none⟩ = some (.int .i64 n) ∧ (w1.alloc (.cells #[.int .i64 n, .int .i64 rep] 23)).cell? ⟨w1.heap.size, 1, none⟩ = some (.int .i64 rep) := by
  have b0 := k1.block' (((Kept.refl _).alloc _).block' (heap_alloc_new w (.cells #[.int .i64 n, .int .i64 r] 23)))
  have b1 := k1.block' (two_new w (.cells #[.int .i64 n, .int .i64 r] 23) 23 (.int .i64 0) (.int .i64 0))
  have b2 := ((Kept.refl w1).alloc (.cells #[.int .i64 n, .int .i64 rep] 23)).block' b0
  have b3 := heap_alloc_new w1 (.cells #[.int .i64 n, .int .i64 rep] 23)
  obtain ⟨a1, a2⟩ := cells2 b0
  obtain ⟨a3, a4⟩ := cells2 b2
  obtain ⟨a5, a6⟩ := cells2 b3
  exact ⟨a1, a2, b1, (Array.getElem?_eq_some_iff.1 b0).1, a3, a4, a5, a6⟩
set_option maxHeartbeats 1000000 in
theorem bnext_any (n r rep : Int) (w : World) : Calls Tryd.prog 30 #[bal n r, .int .i64 rep] w fun e w' => e = .returned (.tuple #[bal (nextA n r rep) (nextB n r rep), .int .i64 (nextE n r rep)]) ∧ Kept w w' := by
  cases hb : bOk n r with
  | false =>
    obtain ⟨e1, e2, e3⟩ := next_bad (rep := rep) (show nextOk n r rep = false by unfold nextOk; rw [hb]; rfl)
    rw [e1, e2, e3]
    have HE := Lib.hid (show bE n r = 110 by unfold bE; rw [hb]; rfl)
    clear e1 e2 e3 hb
    go_enter Tryd.func30, Tryd.ntmps30
    go_wp2_with fail
    refine (bcheck_any n r _).mono ?_
    rintro e w1 ⟨rfl, k1⟩
    rw [HE.out]
    have c1 := k1.block' (two_new w (.cells #[.int .i64 n, .int .i64 r] 23) 23 (.int .i64 0) (.int .i64 0))
    have K1 := Lib.hid ((((Kept.refl w).alloc _).alloc _).trans k1)
    have q0 := cell_at c1 0
    have q1 := cell_at c1 1
    have f0 := frozen_at c1 0
    have f1 := frozen_at c1 1
    have HP := Lib.hid (put2 c1 (.int .i64 0) (.int .i64 0))
    have HK := Lib.hid (put2_kept K1.out (Nat.le_succ _) (.int .i64 0) (.int .i64 0))
    go_wp2
    (try simp only [Exit.inBlock, Exit.then])
    have hp := HP.out
    have hk := HK.out
    generalize (w1.setCell ⟨w.heap.size + 1, 0, none⟩ (.int .i64 0)).setCell ⟨w.heap.size + 1, 1, none⟩ (.int .i64 0) = w9 at hp hk ⊢
    have d0 := cell_at hp 0
    have d1 := cell_at hp 1
    refine bodyPost_ret (v := .tuple #[bal 0 0, .int .i64 110]) (by simp [results, Tryd.results30, go_sem, d0, d1]) rfl ?_
    exact ⟨rfl, hk⟩
  | true =>
    have HN := Lib.hid (show nextOk n r rep = bOk (nextN n r rep) rep by unfold nextOk; rw [hb]; rfl)
    have HE := Lib.hid (show bE n r = 0 by unfold bE; rw [hb]; rfl)
    have hr := (bOk_iff n r).1 hb
    have HB := Lib.hid hb
    clear hb
    by_cases hlt : r < rep
    · have HL := Lib.hid (show bLess n r n rep = true by rw [bLess_same]; exact decide_eq_true hlt)
      have hnn := nextN_lt (n := n) hlt
      rw [hnn] at HN
      cases hb2 : bOk n rep with
      | false =>
        have hno : nextOk n r rep = false := HN.out.trans hb2
        have HE2 := Lib.hid (show bE n rep = 110 by unfold bE; rw [hb2]; rfl)
        obtain ⟨e1, e2, e3⟩ := next_bad hno
        rw [e1, e2, e3]
        clear e1 e2 e3 hno hb2 hnn HN
        go_enter Tryd.func30, Tryd.ntmps30
        go_wp2_with fail
        refine (bcheck_any n r _).mono ?_
        rintro e w1 ⟨rfl, k1⟩
        rw [HE.out]
        obtain ⟨q0, q1, c0, c1, p0, p1, p2, p3⟩ := nextFacts (rep := rep) k1
        have HC := Lib.hid c0
        have K1 := Lib.hid ((((Kept.refl w).alloc _).alloc _).trans k1)
        have hs1 := k1.size
        simp only [size_alloc2] at hs1
        clear c0 c1 k1
        go_wp2_with fail
        refine (bless_any n r n rep _).mono ?_
        rintro e w2 ⟨rfl, k2⟩
        rw [HL.out]
        have HN2 := Lib.hid (k2.block' (heap_alloc_new w1 (.cells #[.int .i64 n, .int .i64 rep] 23)))
        have HC2 := Lib.hid (((Kept.refl w1).alloc (.cells #[.int .i64 n, .int .i64 rep] 23)).block' HC.out |> k2.block')
        have K2 := Lib.hid ((K1.out.alloc (.cells #[.int .i64 n, .int .i64 rep] 23)).trans k2)
        have hs2 := k2.size
        clear k2 q0 q1 p0 p1 p2 p3
        obtain ⟨v0, v1⟩ := cells2 HN2.out
        have hs3 : w2.heap.size = w2.heap.size := rfl
        go_wp2_with fail
        refine (bcheck_any n rep _).mono ?_
        rintro e w4 ⟨rfl, k4⟩
        rw [HE2.out]
        have hn4 := k4.block' HN2.out
        have hc4 := k4.block' HC2.out
        have K4 := Lib.hid (K2.out.trans k4)
        clear k4 hs3 v0 v1
        obtain ⟨z0, z1⟩ := cells2 hn4
        obtain ⟨x0, x1⟩ := cells2 hc4
        have y0 := frozen_at hc4 0
        have y1 := frozen_at hc4 1
        have HP := Lib.hid (put2 hc4 (.int .i64 0) (.int .i64 0))
        have HKK := Lib.hid (put2_kept K4.out (b := w.heap.size + 1) (Nat.le_succ _) (.int .i64 0) (.int .i64 0))
        clear hn4 hc4
        go_wp2
        (try simp only [Exit.inBlock, Exit.then])
        have hp := HP.out
        have hk := HKK.out
        generalize (w4.setCell ⟨w.heap.size + 1, 0, none⟩ (.int .i64 0)).setCell ⟨w.heap.size + 1, 1, none⟩ (.int .i64 0) = w9 at hp hk ⊢
        obtain ⟨d0, d1⟩ := cells2 hp
        refine bodyPost_ret (v := .tuple #[bal 0 0, .int .i64 110]) (by simp [results, Tryd.results30, go_sem, d0, d1]) rfl ?_
        exact ⟨rfl, hk⟩
      | true =>
        have hno : nextOk n r rep = true := HN.out.trans hb2
        have HE2 := Lib.hid (show bE n rep = 0 by unfold bE; rw [hb2]; rfl)
        obtain ⟨e1, e2, e3⟩ := next_good hno
        rw [e1, e2, e3, hnn]
        clear e1 e2 e3 hno hb2 hnn HN
        go_enter Tryd.func30, Tryd.ntmps30
        go_wp2_with fail
        refine (bcheck_any n r _).mono ?_
        rintro e w1 ⟨rfl, k1⟩
        rw [HE.out]
        obtain ⟨q0, q1, c0, c1, p0, p1, p2, p3⟩ := nextFacts (rep := rep) k1
        have HC := Lib.hid c0
        have K1 := Lib.hid ((((Kept.refl w).alloc _).alloc _).trans k1)
        have hs1 := k1.size
        simp only [size_alloc2] at hs1
        clear c0 c1 k1
        go_wp2_with fail
        refine (bless_any n r n rep _).mono ?_
        rintro e w2 ⟨rfl, k2⟩
        rw [HL.out]
        have HN2 := Lib.hid (k2.block' (heap_alloc_new w1 (.cells #[.int .i64 n, .int .i64 rep] 23)))
        have HC2 := Lib.hid (((Kept.refl w1).alloc (.cells #[.int .i64 n, .int .i64 rep] 23)).block' HC.out |> k2.block')
        have K2 := Lib.hid ((K1.out.alloc (.cells #[.int .i64 n, .int .i64 rep] 23)).trans k2)
        have hs2 := k2.size
        clear k2 q0 q1 p0 p1 p2 p3
        obtain ⟨v0, v1⟩ := cells2 HN2.out
        have hs3 : w2.heap.size = w2.heap.size := rfl
        go_wp2_with fail
        refine (bcheck_any n rep _).mono ?_
        rintro e w4 ⟨rfl, k4⟩
        rw [HE2.out]
        have hn4 := k4.block' HN2.out
        have hc4 := k4.block' HC2.out
        have K4 := Lib.hid (K2.out.trans k4)
        clear k4 hs3 v0 v1
        obtain ⟨z0, z1⟩ := cells2 hn4
        obtain ⟨x0, x1⟩ := cells2 hc4
        have y0 := frozen_at hc4 0
        have y1 := frozen_at hc4 1
        have HP := Lib.hid (put2 hc4 (.int .i64 n) (.int .i64 rep))
        have HKK := Lib.hid (put2_kept K4.out (b := w.heap.size + 1) (Nat.le_succ _) (.int .i64 n) (.int .i64 rep))
        clear hn4 hc4
        go_wp2
        (try simp only [Exit.inBlock, Exit.then])
        have hp := HP.out
        have hk := HKK.out
        generalize (w4.setCell ⟨w.heap.size + 1, 0, none⟩ (.int .i64 n)).setCell ⟨w.heap.size + 1, 1, none⟩ (.int .i64 rep) = w9 at hp hk ⊢
        obtain ⟨d0, d1⟩ := cells2 hp
        refine bodyPost_ret (v := .tuple #[bal n rep, .int .i64 0]) (by simp [results, Tryd.results30, go_sem, d0, d1]) rfl ?_
        exact ⟨rfl, hk⟩
    · have HL := Lib.hid (show bLess n r n rep = false by rw [bLess_same]; exact decide_eq_false hlt)
      have hnn := nextN_le (n := n) hlt
      rw [hnn] at HN
      cases hb2 : bOk (n + 1) rep with
      | false =>
        have hno : nextOk n r rep = false := HN.out.trans hb2
        have HE2 := Lib.hid (show bE (n + 1) rep = 110 by unfold bE; rw [hb2]; rfl)
        obtain ⟨e1, e2, e3⟩ := next_bad hno
        rw [e1, e2, e3]
        clear e1 e2 e3 hno hb2 hnn HN
        go_enter Tryd.func30, Tryd.ntmps30
        go_wp2_with fail
        refine (bcheck_any n r _).mono ?_
        rintro e w1 ⟨rfl, k1⟩
        rw [HE.out]
        obtain ⟨q0, q1, c0, c1, p0, p1, p2, p3⟩ := nextFacts (rep := rep) k1
        have HC := Lib.hid c0
        have K1 := Lib.hid ((((Kept.refl w).alloc _).alloc _).trans k1)
        have hs1 := k1.size
        simp only [size_alloc2] at hs1
        clear c0 c1 k1
        go_wp2_with fail
        refine (bless_any n r n rep _).mono ?_
        rintro e w2 ⟨rfl, k2⟩
        rw [HL.out]
        have HN2 := Lib.hid (k2.block' (heap_alloc_new w1 (.cells #[.int .i64 n, .int .i64 rep] 23)))
        have HC2 := Lib.hid (((Kept.refl w1).alloc (.cells #[.int .i64 n, .int .i64 rep] 23)).block' HC.out |> k2.block')
        have K2 := Lib.hid ((K1.out.alloc (.cells #[.int .i64 n, .int .i64 rep] 23)).trans k2)
        have hs2 := k2.size
        clear k2 q0 q1 p0 p1 p2 p3
        obtain ⟨u0, -⟩ := cells2 HN2.out
        have uf := frozen_at HN2.out 0
        have HN3 := Lib.hid (put1 HN2.out (.int .i64 (n + 1)))
        have HC3 := Lib.hid ((heap_other w2 (b := w1.heap.size) (i := 0) (.int .i64 (n + 1)) (k := w.heap.size + 1) (by omega)).trans HC2.out)
        have K3 := Lib.hid (put1_kept K2.out (b := w1.heap.size) (by omega) (.int .i64 (n + 1)))
        obtain ⟨v0, v1⟩ := cells2 HN3.out
        have hs3 : w2.heap.size = (w2.setCell ⟨w1.heap.size, 0, none⟩ (.int .i64 (n + 1))).heap.size := (by simp [World.setCell])
        go_wp2_with fail
        refine (bcheck_any (n + 1) rep _).mono ?_
        rintro e w4 ⟨rfl, k4⟩
        rw [HE2.out]
        have hn4 := k4.block' HN3.out
        have hc4 := k4.block' HC3.out
        have K4 := Lib.hid (K3.out.trans k4)
        clear k4 hs3 v0 v1 u0 uf
        obtain ⟨z0, z1⟩ := cells2 hn4
        obtain ⟨x0, x1⟩ := cells2 hc4
        have y0 := frozen_at hc4 0
        have y1 := frozen_at hc4 1
        have HP := Lib.hid (put2 hc4 (.int .i64 0) (.int .i64 0))
        have HKK := Lib.hid (put2_kept K4.out (b := w.heap.size + 1) (Nat.le_succ _) (.int .i64 0) (.int .i64 0))
        clear hn4 hc4
        go_wp2
        (try simp only [Exit.inBlock, Exit.then])
        have hp := HP.out
        have hk := HKK.out
        generalize (w4.setCell ⟨w.heap.size + 1, 0, none⟩ (.int .i64 0)).setCell ⟨w.heap.size + 1, 1, none⟩ (.int .i64 0) = w9 at hp hk ⊢
        obtain ⟨d0, d1⟩ := cells2 hp
        refine bodyPost_ret (v := .tuple #[bal 0 0, .int .i64 110]) (by simp [results, Tryd.results30, go_sem, d0, d1]) rfl ?_
        exact ⟨rfl, hk⟩
      | true =>
        have hno : nextOk n r rep = true := HN.out.trans hb2
        have HE2 := Lib.hid (show bE (n + 1) rep = 0 by unfold bE; rw [hb2]; rfl)
        obtain ⟨e1, e2, e3⟩ := next_good hno
        rw [e1, e2, e3, hnn]
        clear e1 e2 e3 hno hb2 hnn HN
        go_enter Tryd.func30, Tryd.ntmps30
        go_wp2_with fail
        refine (bcheck_any n r _).mono ?_
        rintro e w1 ⟨rfl, k1⟩
        rw [HE.out]
        obtain ⟨q0, q1, c0, c1, p0, p1, p2, p3⟩ := nextFacts (rep := rep) k1
        have HC := Lib.hid c0
        have K1 := Lib.hid ((((Kept.refl w).alloc _).alloc _).trans k1)
        have hs1 := k1.size
        simp only [size_alloc2] at hs1
        clear c0 c1 k1
        go_wp2_with fail
        refine (bless_any n r n rep _).mono ?_
        rintro e w2 ⟨rfl, k2⟩
        rw [HL.out]
        have HN2 := Lib.hid (k2.block' (heap_alloc_new w1 (.cells #[.int .i64 n, .int .i64 rep] 23)))
        have HC2 := Lib.hid (((Kept.refl w1).alloc (.cells #[.int .i64 n, .int .i64 rep] 23)).block' HC.out |> k2.block')
        have K2 := Lib.hid ((K1.out.alloc (.cells #[.int .i64 n, .int .i64 rep] 23)).trans k2)
        have hs2 := k2.size
        clear k2 q0 q1 p0 p1 p2 p3
        obtain ⟨u0, -⟩ := cells2 HN2.out
        have uf := frozen_at HN2.out 0
        have HN3 := Lib.hid (put1 HN2.out (.int .i64 (n + 1)))
        have HC3 := Lib.hid ((heap_other w2 (b := w1.heap.size) (i := 0) (.int .i64 (n + 1)) (k := w.heap.size + 1) (by omega)).trans HC2.out)
        have K3 := Lib.hid (put1_kept K2.out (b := w1.heap.size) (by omega) (.int .i64 (n + 1)))
        obtain ⟨v0, v1⟩ := cells2 HN3.out
        have hs3 : w2.heap.size = (w2.setCell ⟨w1.heap.size, 0, none⟩ (.int .i64 (n + 1))).heap.size := (by simp [World.setCell])
        go_wp2_with fail
        refine (bcheck_any (n + 1) rep _).mono ?_
        rintro e w4 ⟨rfl, k4⟩
        rw [HE2.out]
        have hn4 := k4.block' HN3.out
        have hc4 := k4.block' HC3.out
        have K4 := Lib.hid (K3.out.trans k4)
        clear k4 hs3 v0 v1 u0 uf
        obtain ⟨z0, z1⟩ := cells2 hn4
        obtain ⟨x0, x1⟩ := cells2 hc4
        have y0 := frozen_at hc4 0
        have y1 := frozen_at hc4 1
        have HP := Lib.hid (put2 hc4 (.int .i64 (n + 1)) (.int .i64 rep))
        have HKK := Lib.hid (put2_kept K4.out (b := w.heap.size + 1) (Nat.le_succ _) (.int .i64 (n + 1)) (.int .i64 rep))
        clear hn4 hc4
        go_wp2
        (try simp only [Exit.inBlock, Exit.then])
        have hp := HP.out
        have hk := HKK.out
        generalize (w4.setCell ⟨w.heap.size + 1, 0, none⟩ (.int .i64 (n + 1))).setCell ⟨w.heap.size + 1, 1, none⟩ (.int .i64 rep) = w9 at hp hk ⊢
        obtain ⟨d0, d1⟩ := cells2 hp
        refine bodyPost_ret (v := .tuple #[bal (n + 1) rep, .int .i64 0]) (by simp [results, Tryd.results30, go_sem, d0, d1]) rfl ?_
        exact ⟨rfl, hk⟩
end Go.Proofs.YteopgcbihekcjaaDoor
