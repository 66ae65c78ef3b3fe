/- Ballots: as plain data, and the walks of their methods and of the document's. -/
import Derived.Test.YtgmpbalibdlhdaaQVVec
set_option linter.unusedSimpArgs false
set_option linter.unusedVariables false
namespace Go.Proofs.Ytgmpbalibdlhdaa
open Go.RowKit
/-- Is it right? -/
def bOk (n r : Int) : Bool := decide (0 ≤ n) && decide (n ≤ 1099511627776) && decide (0 ≤ r) && decide (r ≤ 6)
def bE (n r : Int) : Int := if bOk n r then 0 else 110
def bLess (n r m s : Int) : Bool := decide (n < m) || (decide (n = m) && decide (r < s))
/-- The number of the next one, whether there is one, and which it is. -/
def nextN (n r rep : Int) : Int := if rep ≤ r then n + 1 else n
def nextOk (n r rep : Int) : Bool := bOk n r && bOk (nextN n r rep) rep
def nextA (n r rep : Int) : Int := if nextOk n r rep then nextN n r rep else 0
def nextB (n r rep : Int) : Int := if nextOk n r rep then rep else 0
def nextE (n r rep : Int) : Int := if nextOk n r rep then 0 else 110
abbrev bal (n r : Int) : Value := .agg #[.int .i64 n, .int .i64 r]
theorem bOk_iff (n r : Int) : bOk n r = true ↔ 0 ≤ n ∧ n ≤ 1099511627776 ∧ 0 ≤ r ∧ r ≤ 6 := by
  unfold bOk
  simp only [Bool.and_eq_true, decide_eq_true_eq]
  omega
theorem bOk_no {n r : Int} (h : n < 0 ∨ 1099511627776 < n ∨ r < 0 ∨ 6 < r) : bOk n r = false := by
  cases hb : bOk n r with
  | false => rfl
  | true => have := (bOk_iff n r).1 hb; omega
theorem ret_e {a b : Int} (h : a = b) : Ending.returned (.int .i64 a) = .returned (.int .i64 b) := by rw [h]
theorem ret_b {a b : Bool} (h : a = b) : Ending.returned (.bool a) = .returned (.bool b) := by rw [h]
end Go.Proofs.Ytgmpbalibdlhdaa
