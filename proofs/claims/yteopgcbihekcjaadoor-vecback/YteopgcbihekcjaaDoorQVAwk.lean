/- The walk of awake. -/
import Derived.Test.YteopgcbihekcjaaDoorQVJoin
import Derived.Test.YteopgcbihekcjaaDoorQVNxt
set_option linter.unusedSimpArgs false
set_option linter.unusedVariables false
namespace Go.Proofs.YteopgcbihekcjaaDoor
open Go.RowKit
theorem awake_next : nextA 1 2 2 = 2 ∧ nextB 1 2 2 = 2 ∧ nextE 1 2 2 = 0 := by decide
theorem awake_join : joinT [[1, 5], [3, 2]] = [3, 5] ∧ joinE [[1, 5], [3, 2]] = 0 := by decide
/-- The two vectors that awake hands on, as they lie. -/
theorem awake_vecs (w : World) (n : Nat) (hn : w.heap.size = n) : Vecs (((w.alloc (.cells #[.int .i64 1, .int .i64 5] 3)).alloc (.cells #[.int .i64 3, .int .i64 2] 3)).alloc (.cells #[.slice (some ⟨n, 0, none⟩) 2 2, .slice (some ⟨n + 1, 0, none⟩) 2 2] 29)) (.slice (some ⟨n + 1 + 1, 0, none⟩) 2 2) [[1, 5], [3, 2]] := by
  subst hn
  have h1 := (Ints.two w 1 5 3).kept ((Kept.refl _).alloc (.cells #[.int .i64 3, .int .i64 2] 3))
  have h2 := Ints.two (w.alloc (.cells #[.int .i64 1, .int .i64 5] 3)) 3 2 3
  rw [show (w.alloc (.cells #[.int .i64 1, .int .i64 5] 3)).heap.size = w.heap.size + 1 by simp] at h2
  have h3 := Vecs.two (t := 29) h1 h2
  rw [size_alloc2] at h3
  exact h3
set_option maxRecDepth 100000 in
set_option maxHeartbeats 1000000 in
theorem awake_any (w : World) : Calls Tryd.prog 15 #[] w fun e w' => e = .returned (.bool true) ∧ Kept w w' := by
  have HN := Lib.hid awake_next
  have HJ := Lib.hid awake_join
  go_enter Tryd.func15, Tryd.ntmps15
  go_wp2_with fail
  refine (bnext_any 1 2 2 _).mono ?_
  rintro e w1 ⟨rfl, k1⟩
  rw [HN.out.1, HN.out.2.1, HN.out.2.2]
  have HK1 := Lib.hid k1
  have HV := Lib.hid (awake_vecs (w1.alloc (.cells #[.int .i64 2, .int .i64 2] 23)) (w1.heap.size + 1) (by simp))
  clear k1
  go_wp2_with fail
  refine (vjoin_any [[1, 5], [3, 2]] _ _ HV.out).mono ?_
  rintro e w2 ⟨vj, rfl, ho, k2⟩
  rw [HJ.out.1] at ho
  rw [HJ.out.2]
  have hb := heap_alloc_new w1 (.cells #[.int .i64 2, .int .i64 2] 23)
  have hk3 := ((((Kept.refl (w1.alloc (.cells #[.int .i64 2, .int .i64 2] 23))).alloc (.cells #[.int .i64 1, .int .i64 5] 3)).alloc (.cells #[.int .i64 3, .int .i64 2] 3)).alloc (.cells #[.slice (some ⟨w1.heap.size + 1, 0, none⟩) 2 2, .slice (some ⟨w1.heap.size + 1 + 1, 0, none⟩) 2 2] 29)).trans k2
  obtain ⟨q0, q1⟩ := cells2 (hk3.block' hb)
  have HKF := Lib.hid ((HK1.out.alloc _).trans hk3)
  obtain ⟨g, c, rfl, -, -, hc1, hc2⟩ := row_form (n := 2) ho (by omega)
  unfold maxLen at hc2
  obtain ⟨r0, -⟩ := row_at (n := 2) ho (k := 0) (by decide)
  obtain ⟨r1, -⟩ := row_at (n := 2) ho (k := 1) (by decide)
  simp only [List.getElem_cons_zero, List.getElem_cons_succ] at r0 r1
  clear ho k2 hk3 hb
  go_wp2
  go_ret
  exact ⟨rfl, HKF.out⟩
end Go.Proofs.YteopgcbihekcjaaDoor
