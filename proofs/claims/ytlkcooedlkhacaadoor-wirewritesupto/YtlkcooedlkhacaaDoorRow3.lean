/- How arguments with depth are opened: a struct of an int and three slices of bytes. -/
import Derived.Test.YtlkcooedlkhacaaDoorRow2
import Derived.Lib.SmallJoins
namespace Go.Proofs.YtlkcooedlkhacaaDoor
open Go.ChangeShapes Go.WideShapes Go.ChangeAt Go.RowKit Go.Joins
theorem Long.bulk {H : Type} {d : DataW H} {n : Nat} (hl : Long d n) : n ≤ Rows.uptoBulk d := by
  rcases hl with rfl | ⟨elems, spare, rfl, hn⟩
  · exact Nat.zero_le _
  · have h2 := bulk_len elems
    have h3 := bulk_len spare
    simp only [Rows.uptoBulk]
    omega
theorem openBtsAt {H : Type} {enc : TypeId × Value → H} {W : World} {fuel : Nat} {v : Value} {y : DataW H × List MemPlace} (h : DataW.trod enc Tryd.prog W 0 (fun _ => true) true fuel 23 [v] = some y) :
    ∃ l : List UInt8, Bts W v l ∧ Long y.1 l.length := by
  obtain ⟨a, len, cap, hv⟩ := slice_form Tryd.underlying23 h
  obtain rfl : v = .slice a len cap := by simpa using hv
  exact openBts (p := y.2) ⟨fuel, h⟩
theorem cellsBack : Tryd.prog.cellsOf 48 = 4 := by kernel_rfl
set_option maxRecDepth 100000 in
theorem openBack {H : Type} {enc : TypeId × Value → H} {W : World} {base : Nat} {v : Value} {d : DataW H} {p : List MemPlace} (hv : Value.okWide Tryd.prog W .any base 48 v) (h : DataW.Trod enc Tryd.prog W 0 (fun _ => true) true 48 v d p) :
    ∃ (n : Int) (vp va ve : Value) (lp la le : List UInt8), v = .agg #[.int .i64 n, vp, va, ve] ∧ Bts W vp lp ∧ Bts W va la ∧ Bts W ve le ∧ lp.length ≤ Rows.uptoBulk d ∧ la.length ≤ Rows.uptoBulk d ∧ le.length ≤ Rows.uptoBulk d := by
  obtain ⟨v0, v1, v2, v3, y0, y1, y2, y3, n, rfl, rfl, rfl, h0, h1, h2, h3⟩ := open_agg4 Tryd.underlying48 (by kernel_rfl) cellsBack hv h
  obtain ⟨x, e0, -, -⟩ := DataW.trod_int Tryd.underlying3 h0
  obtain rfl : v0 = .int .i64 x := by simpa using e0
  obtain ⟨lp, b1, g1⟩ := openBtsAt h1
  obtain ⟨la, b2, g2⟩ := openBtsAt h2
  obtain ⟨le, b3, g3⟩ := openBtsAt h3
  have k1 := g1.bulk; have k2 := g2.bulk; have k3 := g3.bulk
  refine ⟨x, v1, v2, v3, lp, la, le, rfl, b1, b2, b3, ?_, ?_, ?_⟩ <;> simp only [Rows.uptoBulk, Rows.uptoBulkAll] <;> omega
end Go.Proofs.YtlkcooedlkhacaaDoor
