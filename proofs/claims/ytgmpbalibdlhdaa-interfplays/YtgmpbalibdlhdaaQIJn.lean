/- The walk of join. -/
import Derived.Test.YtgmpbalibdlhdaaQIWk
set_option linter.unusedSimpArgs false
set_option linter.unusedVariables false
namespace Go.Proofs.Ytgmpbalibdlhdaa
open Go.RowKit
def jf (k : Nat) (f g : Nat → Int) : Nat → Int := fun j => if j ≤ k then max (f j) (g j) else f j
set_option maxRecDepth 100000 in
set_option maxHeartbeats 2000000 in
theorem join_any (f g : Nat → Int) (w : World) : Calls Try.prog 32 #[tv f, tv g] w fun e w' => e = .returned (tv (joT f g)) ∧ Kept w w' := by
  have HK := Lib.hid (fun o o' o'' => (((Kept.refl w).alloc o).alloc o').alloc o'')
  have HJ := Lib.hid (show tv (jf 7 f g) = tv (joT f g) from rfl)
  have hx0 : ∀ W : World, (Instr.index 57 (.agg #[.int .i64 (g 1), .int .i64 (g 2), .int .i64 (g 3), .int .i64 (g 4), .int .i64 (g 5), .int .i64 (g 6), .int .i64 (g 7)]) (.int .i64 0)).run Try.prog W = .ok (.int .i64 (g 1)) W := fun W => by kernel_rfl
  have hx1 : ∀ W : World, (Instr.index 57 (.agg #[.int .i64 (g 1), .int .i64 (g 2), .int .i64 (g 3), .int .i64 (g 4), .int .i64 (g 5), .int .i64 (g 6), .int .i64 (g 7)]) (.int .i64 1)).run Try.prog W = .ok (.int .i64 (g 2)) W := fun W => by kernel_rfl
  have hx2 : ∀ W : World, (Instr.index 57 (.agg #[.int .i64 (g 1), .int .i64 (g 2), .int .i64 (g 3), .int .i64 (g 4), .int .i64 (g 5), .int .i64 (g 6), .int .i64 (g 7)]) (.int .i64 2)).run Try.prog W = .ok (.int .i64 (g 3)) W := fun W => by kernel_rfl
  have hx3 : ∀ W : World, (Instr.index 57 (.agg #[.int .i64 (g 1), .int .i64 (g 2), .int .i64 (g 3), .int .i64 (g 4), .int .i64 (g 5), .int .i64 (g 6), .int .i64 (g 7)]) (.int .i64 3)).run Try.prog W = .ok (.int .i64 (g 4)) W := fun W => by kernel_rfl
  have hx4 : ∀ W : World, (Instr.index 57 (.agg #[.int .i64 (g 1), .int .i64 (g 2), .int .i64 (g 3), .int .i64 (g 4), .int .i64 (g 5), .int .i64 (g 6), .int .i64 (g 7)]) (.int .i64 4)).run Try.prog W = .ok (.int .i64 (g 5)) W := fun W => by kernel_rfl
  have hx5 : ∀ W : World, (Instr.index 57 (.agg #[.int .i64 (g 1), .int .i64 (g 2), .int .i64 (g 3), .int .i64 (g 4), .int .i64 (g 5), .int .i64 (g 6), .int .i64 (g 7)]) (.int .i64 5)).run Try.prog W = .ok (.int .i64 (g 6)) W := fun W => by kernel_rfl
  have hx6 : ∀ W : World, (Instr.index 57 (.agg #[.int .i64 (g 1), .int .i64 (g 2), .int .i64 (g 3), .int .i64 (g 4), .int .i64 (g 5), .int .i64 (g 6), .int .i64 (g 7)]) (.int .i64 6)).run Try.prog W = .ok (.int .i64 (g 7)) W := fun W => by kernel_rfl
  unfold tv tcs
  go_enter Try.func32, Try.ntmps32
  go_wp2
  go_loopw [15] (fun i W => ∃ k : Nat, i = .int .i64 (k : Int) ∧ k ≤ 7 ∧ W = ((w.alloc (.cells (tcs (jf k f g)) 59)).alloc (.cells (tcs g) 59)).alloc (.cells (tcs fun _ => 0) 59)) (fun i _ => 7 - (intOf i).toNat)
  case atStart => exact ⟨0, rfl, by omega, by simp [tcs, jf]⟩
  case round =>
    obtain ⟨k, rfl, hk, rfl⟩ := hrel
    obtain ⟨j, hj⟩ : ∃ j, j = k + 1 := ⟨_, rfl⟩
    have h7 : k = 7 ∨ k = 0 ∨ k = 1 ∨ k = 2 ∨ k = 3 ∨ k = 4 ∨ k = 5 ∨ k = 6 := by omega
    clear hk
    rcases h7 with rfl | rfl | rfl | rfl | rfl | rfl | rfl | rfl
    · simp only [tcs, jf]
      go_wp2
      refine bodyPost_ret (v := .agg _) (by simp [results, Try.results32, go_sem]; rfl) rfl ?_
      exact ⟨rfl, HK.out _ _ _⟩
    all_goals
      simp only [tcs, jf]
      go_wp2
      go_roundw
      case rel => exact ⟨j, by subst hj; rfl, by omega, by subst hj; simp [tcs, jf]⟩
      case measure => simp [intOf]
end Go.Proofs.Ytgmpbalibdlhdaa
