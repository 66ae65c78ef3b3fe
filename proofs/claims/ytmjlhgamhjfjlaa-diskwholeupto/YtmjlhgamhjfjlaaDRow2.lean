/- How an argument of two slices of bytes and two ints is opened. -/
import Derived.Test.YtmjlhgamhjfjlaaDRow
set_option linter.unusedVariables false
namespace Go.Proofs.Ytmjlhgamhjfjlaa
open Go.ChangeShapes Go.WideShapes Go.ChangeAt Go.RowKit Go.Joins
theorem cellsSwap : Try.prog.cellsOf 63 = 4 := by kernel_rfl
set_option maxRecDepth 100000 in
theorem openSwap {H : Type} {enc : TypeId × Value → H} {W : World} {base : Nat} {v : Value} {d : DataW H} {p : List MemPlace} (hv : Value.okWide Try.prog W .any base 63 v) (h : DataW.Trod enc Try.prog W 0 (fun _ => true) true 63 v d p) :
    ∃ (vo vf : Value) (lo lf : List UInt8) (a b : Int), v = .agg #[vo, vf, .int .i64 a, .int .i64 b] ∧ Bts W vo lo ∧ Bts W vf lf ∧ lo.length ≤ Rows.uptoBulk d ∧ lf.length ≤ Rows.uptoBulk d := by
  obtain ⟨v0, v1, v2, v3, y0, y1, y2, y3, n, rfl, rfl, rfl, h0, h1, h2, h3⟩ := open_agg4 Try.underlying63 (by kernel_rfl) cellsSwap hv h
  obtain ⟨lo, b0, g0⟩ := openBtsAt h0
  obtain ⟨lf, b1, g1⟩ := openBtsAt h1
  obtain ⟨x, e2, -, -⟩ := DataW.trod_int Try.underlying3 h2
  obtain rfl : v2 = .int .i64 x := by simpa using e2
  obtain ⟨y, e3, -, -⟩ := DataW.trod_int Try.underlying3 h3
  obtain rfl : v3 = .int .i64 y := by simpa using e3
  have k0 := g0.bulk; have k1 := g1.bulk
  refine ⟨v0, v1, lo, lf, x, y, rfl, b0, b1, ?_, ?_⟩ <;> simp only [Rows.uptoBulk, Rows.uptoBulkAll] <;> omega
end Go.Proofs.Ytmjlhgamhjfjlaa
