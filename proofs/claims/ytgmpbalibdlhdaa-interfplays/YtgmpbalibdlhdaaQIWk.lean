/- The walks of isKind, hasPlace, meet, with and join. -/
import Derived.Test.YtgmpbalibdlhdaaQIMem
import Derived.Lib.MinMax
set_option linter.unusedSimpArgs false
set_option linter.unusedVariables false
namespace Go.Proofs.Ytgmpbalibdlhdaa
open Go.RowKit
set_option maxHeartbeats 400000 in
theorem isKind_any (k : Int) (w : World) : Calls Try.prog 20 #[.int .i64 k] w fun e w' => e = .returned (.bool (okK k)) ∧ w = w' := by
  by_cases h0 : k = 0
  · subst h0
    go_enter Try.func20, Try.ntmps20
    go_wp2
    go_ret
    exact ⟨rfl, rfl⟩
  · by_cases h1 : k = 1
    · subst h1
      go_enter Try.func20, Try.ntmps20
      go_wp2
      go_ret
      exact ⟨rfl, rfl⟩
    · have t0 : decide (k = 0) = false := decide_eq_false h0
      have t1 : decide (k = 1) = false := decide_eq_false h1
      by_cases h2 : k = 2
      · subst h2
        go_enter Try.func20, Try.ntmps20
        go_wp2
        go_ret
        exact ⟨rfl, rfl⟩
      · have t2 : decide (k = 2) = false := decide_eq_false h2
        rw [show okK k = false from decide_eq_false (by omega)]
        go_enter Try.func20, Try.ntmps20
        go_wp2
        go_ret
        exact ⟨by simp [h0, h1, h2], rfl⟩
set_option maxHeartbeats 400000 in
theorem xPlace_any (n : Nat) (r : Int) (xb : Nat) (w : World) (hc : w.cell? ⟨xb, 0, none⟩ = some (.int .i64 (n : Int))) : Calls Try.prog 30 #[.pointer (some ⟨xb, 0, none⟩), .int .i64 r] w fun e w' => e = .returned (.bool (decide (0 ≤ r ∧ r < n))) ∧ w = w' := by
  by_cases h1 : 0 ≤ r
  · have t1 : decide (0 ≤ r) = true := decide_eq_true h1
    by_cases h2 : r < n
    · have t2 : decide (r < (n : Int)) = true := decide_eq_true h2
      rw [show decide (0 ≤ r ∧ r < n) = true from decide_eq_true ⟨h1, h2⟩]
      go_enter Try.func30, Try.ntmps30
      go_wp2
      go_ret
      exact ⟨rfl, rfl⟩
    · have t2 : decide (r < (n : Int)) = false := decide_eq_false h2
      rw [show decide (0 ≤ r ∧ r < n) = false from decide_eq_false (fun h => h2 h.2)]
      go_enter Try.func30, Try.ntmps30
      go_wp2
      go_ret
      exact ⟨rfl, rfl⟩
  · have t1 : decide (0 ≤ r) = false := decide_eq_false h1
    rw [show decide (0 ≤ r ∧ r < n) = false from decide_eq_false (fun h => h1 h.1)]
    go_enter Try.func30, Try.ntmps30
    go_wp2
    go_ret
    exact ⟨rfl, rfl⟩
set_option maxRecDepth 100000 in
set_option maxHeartbeats 1000000 in
theorem with_any (f : Nat → Int) (r m s : Int) (w : World) (hr : 0 ≤ r ∧ r < 7) : Calls Try.prog 31 #[tv f, .agg #[.int .i64 r, .int .i64 m], .int .i64 s] w fun e w' => e = .returned (tv (wiT f r m s)) ∧ Kept w w' := by
  have hk := ((((Kept.refl w).alloc (.cells (tcs f) 59)).alloc (.cells #[.int .i64 r, .int .i64 m] 47)).alloc (.cells (tcs fun _ => 0) 59))
  have HK := Lib.hid hk
  clear hk
  unfold tv tcs wiT at *
  have h7 : r = 0 ∨ r = 1 ∨ r = 2 ∨ r = 3 ∨ r = 4 ∨ r = 5 ∨ r = 6 := by omega
  generalize f 0 = f0 at *
  generalize f 1 = f1 at *
  generalize f 2 = f2 at *
  generalize f 3 = f3 at *
  generalize f 4 = f4 at *
  generalize f 5 = f5 at *
  generalize f 6 = f6 at *
  generalize f 7 = f7 at *
  clear hr
  rcases h7 with rfl | rfl | rfl | rfl | rfl | rfl | rfl
  all_goals
    go_enter Try.func31, Try.ntmps31
    go_wp2
    go_region
    go_wp2
    refine bodyPost_ret (v := .agg _) (by simp [results, Try.results31, go_sem]; rfl) rfl ?_
    exact ⟨rfl, (((Kept.refl w).alloc _).alloc _).alloc _ |>.drew⟩
end Go.Proofs.Ytgmpbalibdlhdaa
