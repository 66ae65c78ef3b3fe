/- A script, as it lies in memory. No program in it. -/
import Derived.Test.YtnpenabkmpoafaaQNMem
set_option linter.unusedSimpArgs false
set_option linter.unusedVariables false
namespace Go.Proofs.Ytnpenabkmpoafaa
open Go.RowKit
/-- One call, as it lies in memory. -/
structure Op6 where
  kind : Int
  a : Int
  b : Int
  n : Int
  lv : Value
  list : List (List UInt8)
  nv : Value
  nodes : List Int
def Op6.Reads (w : World) (x : Op6) : Prop := Parts w x.lv x.list ∧ Ints w x.nv x.nodes
theorem Op6.Reads.kept {w w' : World} {x : Op6} (h : x.Reads w) (k : Kept w w') : x.Reads w' := ⟨h.1.kept k, h.2.kept k⟩
/-- What the row says of one call's sizes. -/
def Op6.Fits (x : Op6) : Prop := x.list.length ≤ 5864062014805 ∧ (∀ l ∈ x.list, l.length ≤ 140737488355328) ∧ x.nodes.length ≤ 17592186044416
def Script6 (w : World) (v : Value) (xs : List Op6) : Prop :=
  ∃ A c, v = .slice A xs.length c ∧ xs.length ≤ c ∧ c ≤ maxLen ∧ (0 < xs.length → ∃ b o, A = some ⟨b, o, none⟩ ∧ ∀ k x, xs[k]? = some x →
    w.cell? ⟨b, o + k * 6, none⟩ = some (.int .i64 x.kind) ∧ w.cell? ⟨b, o + k * 6 + 1, none⟩ = some (.int .i64 x.a) ∧ w.cell? ⟨b, o + k * 6 + 2, none⟩ = some (.int .i64 x.b) ∧
    w.cell? ⟨b, o + k * 6 + 3, none⟩ = some (.int .i64 x.n) ∧ w.cell? ⟨b, o + k * 6 + 4, none⟩ = some x.lv ∧ w.cell? ⟨b, o + k * 6 + 5, none⟩ = some x.nv ∧ x.Reads w)
theorem Script6.form {w : World} {v : Value} {xs : List Op6} (h : Script6 w v xs) : ∃ A c, v = .slice A xs.length c ∧ xs.length ≤ c ∧ c ≤ maxLen := by
  obtain ⟨A, c, h1, h2, h3, -⟩ := h
  exact ⟨A, c, h1, h2, h3⟩
theorem Script6.at {w : World} {A : Option Addr} {n c : Nat} {xs : List Op6} (h : Script6 w (.slice A n c) xs) {k : Nat} (hk : k < xs.length) : ∃ b o, A = some ⟨b, o, none⟩ ∧
    w.cell? ⟨b, o + k * 6, none⟩ = some (.int .i64 xs[k].kind) ∧ w.cell? ⟨b, o + k * 6 + 1, none⟩ = some (.int .i64 xs[k].a) ∧ w.cell? ⟨b, o + k * 6 + 2, none⟩ = some (.int .i64 xs[k].b) ∧
    w.cell? ⟨b, o + k * 6 + 3, none⟩ = some (.int .i64 xs[k].n) ∧ w.cell? ⟨b, o + k * 6 + 4, none⟩ = some xs[k].lv ∧ w.cell? ⟨b, o + k * 6 + 5, none⟩ = some xs[k].nv ∧ xs[k].Reads w := by
  obtain ⟨A', c', hv, -, -, h3⟩ := h
  obtain ⟨rfl, -, -⟩ : A = A' ∧ n = xs.length ∧ c = c' := by simpa using hv
  obtain ⟨b, o, e, hc⟩ := h3 (by omega)
  exact ⟨b, o, e, hc k xs[k] (by simp [hk])⟩
theorem Script6.kept {w w' : World} {v : Value} {xs : List Op6} (h : Script6 w v xs) (k : Kept w w') : Script6 w' v xs := by
  obtain ⟨A, c, h1, h2, h3, h4⟩ := h
  refine ⟨A, c, h1, h2, h3, fun hp => ?_⟩
  obtain ⟨b, o, e, hc⟩ := h4 hp
  refine ⟨b, o, e, fun i x hx => ?_⟩
  obtain ⟨a0, a1, a2, a3, a4, a5, a6⟩ := hc i x hx
  exact ⟨k.cell a0, k.cell a1, k.cell a2, k.cell a3, k.cell a4, k.cell a5, a6.kept k⟩
/-- How many messages a script bears. -/
def total (xs : List Op6) : Nat := (xs.map fun x => x.list.length).sum
end Go.Proofs.Ytnpenabkmpoafaa
