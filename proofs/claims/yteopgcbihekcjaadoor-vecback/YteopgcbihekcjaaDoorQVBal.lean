/- Ballots: as plain data, and the walks of their methods and of the document's. -/
import Derived.Test.YteopgcbihekcjaaDoorQVVec
set_option linter.unusedSimpArgs false
set_option linter.unusedVariables false
namespace Go.Proofs.YteopgcbihekcjaaDoor
open Go.RowKit
/-- Is it right? -/
def bOk (n r : Int) : Bool := decide (0 ≤ n) && decide (n ≤ 1099511627776) && decide (0 ≤ r) && decide (r ≤ 6)
def bE (n r : Int) : Int := if bOk n r then 0 else 110
def bLess (n r m s : Int) : Bool := decide (n < m) || (decide (n = m) && decide (r < s))
/-- The number of the next one, whether there is one, and which it is. -/
def nextN (n r rep : Int) : Int := if rep ≤ r then n + 1 else n
def nextOk (n r rep : Int) : Bool := bOk n r && bOk (nextN n r rep) rep
def nextA (n r rep : Int) : Int := if nextOk n r rep then nextN n r rep else 0
def nextB (n r rep : Int) : Int := if nextOk n r rep then rep else 0
def nextE (n r rep : Int) : Int := if nextOk n r rep then 0 else 110
abbrev bal (n r : Int) : Value := .agg #[.int .i64 n, .int .i64 r]
theorem bOk_iff (n r : Int) : bOk n r = true ↔ 0 ≤ n ∧ n ≤ 1099511627776 ∧ 0 ≤ r ∧ r ≤ 6 := by
  unfold bOk
  simp only [Bool.and_eq_true, decide_eq_true_eq]
  omega
theorem bOk_no {n r : Int} (h : n < 0 ∨ 1099511627776 < n ∨ r < 0 ∨ 6 < r) : bOk n r = false := by
  cases hb : bOk n r with
  | false => rfl
  | true => have := (bOk_iff n r).1 hb; omega
theorem ret_e {a b : Int} (h : a = b) : Ending.returned (.int .i64 a) = .returned (.int .i64 b) := by rw [h]
theorem ret_b {a b : Bool} (h : a = b) : Ending.returned (.bool a) = .returned (.bool b) := by rw [h]
set_option maxHeartbeats 400000 in
theorem bcheck_any (n r : Int) (w : World) : Calls Tryd.prog 16 #[bal n r] w fun e w' => e = .returned (.int .i64 (bE n r)) ∧ Kept w w' := by
  have hk := fun o => (Kept.refl w).alloc o
  by_cases h1 : n < 0
  · have he : bE n r = 110 := by unfold bE; rw [bOk_no (.inl h1)]; rfl
    rw [he]
    have t1 : decide (n < 0) = true := decide_eq_true h1
    go_enter Tryd.func16, Tryd.ntmps16
    go_wp2
    go_ret
    exact ⟨rfl, hk _⟩
  · have t1 : decide (n < 0) = false := decide_eq_false h1
    by_cases h2 : 1099511627776 < n
    · have he : bE n r = 110 := by unfold bE; rw [bOk_no (.inr (.inl h2))]; rfl
      rw [he]
      have t2 : decide (1099511627776 < n) = true := decide_eq_true h2
      go_enter Tryd.func16, Tryd.ntmps16
      go_wp2
      go_ret
      exact ⟨rfl, hk _⟩
    · have t2 : decide (1099511627776 < n) = false := decide_eq_false h2
      by_cases h3 : r < 0
      · have he : bE n r = 110 := by unfold bE; rw [bOk_no (.inr (.inr (.inl h3)))]; rfl
        rw [he]
        have t3 : decide (r < 0) = true := decide_eq_true h3
        go_enter Tryd.func16, Tryd.ntmps16
        go_wp2
        go_ret
        exact ⟨rfl, hk _⟩
      · have t3 : decide (r < 0) = false := decide_eq_false h3
        by_cases h4 : 7 ≤ r
        · have he : bE n r = 110 := by unfold bE; rw [bOk_no (.inr (.inr (.inr (by omega))))]; rfl
          rw [he]
          have t4 : decide (7 ≤ r) = true := decide_eq_true h4
          go_enter Tryd.func16, Tryd.ntmps16
          go_wp2
          go_ret
          exact ⟨rfl, hk _⟩
        · have he : bE n r = 0 := by unfold bE; rw [(bOk_iff n r).2 (by omega)]; rfl
          rw [he]
          have t4 : decide (7 ≤ r) = false := decide_eq_false h4
          go_enter Tryd.func16, Tryd.ntmps16
          go_wp2
          go_ret
          exact ⟨rfl, hk _⟩
set_option maxHeartbeats 400000 in
theorem bbad_any (n r : Int) (w : World) : Calls Tryd.prog 6 #[bal n r] w fun e w' => e = .returned (.bool (!bOk n r)) ∧ Kept w w' := by
  have hk := fun o => (Kept.refl w).alloc o
  by_cases h1 : n < 0
  · rw [bOk_no (.inl h1)]
    have t1 : decide (n < 0) = true := decide_eq_true h1
    go_enter Tryd.func6, Tryd.ntmps6
    go_wp2
    go_ret
    exact ⟨rfl, hk _⟩
  · have t1 : decide (n < 0) = false := decide_eq_false h1
    by_cases h2 : 1099511627776 < n
    · rw [bOk_no (.inr (.inl h2))]
      have t2 : decide (1099511627776 < n) = true := decide_eq_true h2
      go_enter Tryd.func6, Tryd.ntmps6
      go_wp2
      go_ret
      exact ⟨rfl, hk _⟩
    · have t2 : decide (1099511627776 < n) = false := decide_eq_false h2
      by_cases h3 : r < 0
      · rw [bOk_no (.inr (.inr (.inl h3)))]
        have t3 : decide (r < 0) = true := decide_eq_true h3
        go_enter Tryd.func6, Tryd.ntmps6
        go_wp2
        go_ret
        exact ⟨rfl, hk _⟩
      · have t3 : decide (r < 0) = false := decide_eq_false h3
        by_cases h4 : 6 < r
        · rw [bOk_no (.inr (.inr (.inr h4)))]
          have t4 : decide (6 < r) = true := decide_eq_true h4
          go_enter Tryd.func6, Tryd.ntmps6
          go_wp2
          go_ret
          exact ⟨rfl, hk _⟩
        · rw [(bOk_iff n r).2 (by omega)]
          have t4 : decide (6 < r) = false := decide_eq_false h4
          go_enter Tryd.func6, Tryd.ntmps6
          go_wp2
          go_ret
          exact ⟨rfl, hk _⟩
set_option maxHeartbeats 400000 in
theorem bless_any (n r m s : Int) (w : World) : Calls Tryd.prog 37 #[bal n r, bal m s] w fun e w' => e = .returned (.bool (bLess n r m s)) ∧ Kept w w' := by
  have hk := fun o p => ((Kept.refl w).alloc o).alloc p
  by_cases h1 : n < m
  · have he : bLess n r m s = true := by unfold bLess; simp [h1]
    rw [he]
    have t1 : decide (n < m) = true := decide_eq_true h1
    go_enter Tryd.func37, Tryd.ntmps37
    go_wp2
    go_ret
    exact ⟨rfl, hk _ _⟩
  · have t1 : decide (n < m) = false := decide_eq_false h1
    by_cases h2 : n = m
    · have he : bLess n r m s = decide (r < s) := by unfold bLess; simp [h1, h2]
      rw [he]
      have t2 : (n == m) = true := beq_iff_eq.2 h2
      by_cases h3 : r < s
      · have t3 : decide (r < s) = true := decide_eq_true h3
        rw [t3]
        go_enter Tryd.func37, Tryd.ntmps37
        go_wp2
        go_ret
        exact ⟨rfl, hk _ _⟩
      · have t3 : decide (r < s) = false := decide_eq_false h3
        rw [t3]
        go_enter Tryd.func37, Tryd.ntmps37
        go_wp2
        go_ret
        exact ⟨rfl, hk _ _⟩
    · have he : bLess n r m s = false := by unfold bLess; simp [h1, h2]
      rw [he]
      have t2 : (n == m) = false := beq_eq_false_iff_ne.2 h2
      go_enter Tryd.func37, Tryd.ntmps37
      go_wp2
      go_ret
      exact ⟨rfl, hk _ _⟩
end Go.Proofs.YteopgcbihekcjaaDoor
