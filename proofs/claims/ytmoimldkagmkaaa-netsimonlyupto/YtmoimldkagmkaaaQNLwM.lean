/- NetsimOnly, whatever the number of nodes. -/
import Derived.Test.YtmoimldkagmkaaaQNLwN
set_option linter.unusedSimpArgs false
set_option linter.unusedVariables false
namespace Go.Proofs.Ytmoimldkagmkaaa
open Go.RowKit
set_option maxRecDepth 100000 in
set_option maxHeartbeats 1000000 in
theorem netsimOnly_bad (n : Int) (v : Value) (w : World) (hn : n < 1 ∨ 32 < n) :
    Calls Try.prog 4 #[.int .i64 n, v] w fun e w' => e = .returned (.bool true) ∧ Kept w w' := by
  have he : newE n 4096 = 60 := by unfold newE; rw [if_pos hn]
  have HN := Lib.hid (new_bad n 4096 w (by rw [he]; decide))
  rw [he] at HN
  rcases hn with hn | hn
  · have t1 : decide (n < 1) = true := by simpa using hn
    go_enter Try.func4, Try.ntmps4
    go_wp2_with fail
    refine HN.out.mono ?_
    rintro e w1 ⟨rfl, rfl⟩
    go_wp2_with fail
    refine (awake_any _).mono ?_
    rintro e w9 ⟨rfl, k9⟩
    go_wp2
    go_ret
    exact ⟨rfl, k9⟩
  · have t1 : decide (n < 1) = false := by simp; omega
    have t2 : decide (32 < n) = true := by simpa using hn
    go_enter Try.func4, Try.ntmps4
    go_wp2_with fail
    refine HN.out.mono ?_
    rintro e w1 ⟨rfl, rfl⟩
    go_wp2_with fail
    refine (awake_any _).mono ?_
    rintro e w9 ⟨rfl, k9⟩
    go_wp2
    go_ret
    exact ⟨rfl, k9⟩
theorem netsimOnly_any (n : Int) (xs : List Op6) (v : Value) (w : World) (hv : Script6 w v xs) (hl : xs.length ≤ 1759218604390) (hf : ∀ x ∈ xs, x.Fits) (ht : total xs ≤ 1048576) :
    Calls Try.prog 4 #[.int .i64 n, v] w fun e w' => e = .returned (.bool true) ∧ Kept w w' := by
  by_cases h : n < 1 ∨ 32 < n
  · exact netsimOnly_bad n v w h
  · obtain ⟨m, rfl⟩ : ∃ m : Nat, n = (m : Int) := ⟨n.toNat, by omega⟩
    exact netsimOnly_ok m xs v w (by omega) hv hl hf ht
end Go.Proofs.Ytmoimldkagmkaaa
