/- How the arguments of WalKeeps and WalAgain are opened. -/
import Derived.Test.YtcdeagmoldbicaaGreatDoorGDRow2
set_option linter.unusedVariables false
namespace Go.Proofs.YtcdeagmoldbicaaGreatDoor
open Go.ChangeShapes Go.WideShapes Go.ChangeAt Go.RowKit Go.Joins
theorem cellsKept : Tryz.prog.cellsOf 60 = 4 := by kernel_rfl
theorem cellsAgain : Tryz.prog.cellsOf 67 = 4 := by kernel_rfl
theorem openRecsAt {H : Type} {enc : TypeId × Value → H} {W : World} {fuel : Nat} {v : Value} {y : DataW H × List MemPlace} (h : DataW.trod enc Tryz.prog W 0 (fun _ => true) true fuel 41 [v] = some y) :
    ∃ ls : List (List UInt8), Parts W v ls ∧ sizes ls ≤ Rows.uptoBulk y.1 := by
  obtain ⟨a, len, cap, hv⟩ := slice_form Tryz.underlying41 h
  obtain rfl : v = .slice a len cap := by simpa using hv
  exact openRecs (d0 := y.1) (p := y.2) h
set_option maxRecDepth 100000 in
theorem openKept {H : Type} {enc : TypeId × Value → H} {W : World} {base : Nat} {v : Value} {d : DataW H} {p : List MemPlace} (hv : Value.okWide Tryz.prog W .any base 60 v) (h : DataW.Trod enc Tryz.prog W 0 (fun _ => true) true 60 v d p) :
    ∃ (i : Int) (x y u : Value) (lx ly : List (List UInt8)) (lu : List Int), v = .agg #[.int .i64 i, x, y, u] ∧ Parts W x lx ∧ Parts W y ly ∧ Ints W u lu ∧ sizes lx + sizes ly + lu.length ≤ Rows.uptoBulk d := by
  obtain ⟨v0, v1, v2, v3, y0, y1, y2, y3, n, rfl, rfl, rfl, h0, h1, h2, h3⟩ := open_agg4 Tryz.underlying60 (by kernel_rfl) cellsKept hv h
  obtain ⟨i, e0, -, -⟩ := DataW.trod_int Tryz.underlying3 h0
  obtain rfl : v0 = .int .i64 i := by simpa using e0
  obtain ⟨lx, b1, g1⟩ := openRecsAt h1
  obtain ⟨ly, b2, g2⟩ := openRecsAt h2
  obtain ⟨lu, b3, g3⟩ := openIntsAt h3
  have k3 := g3.bulk
  refine ⟨i, v1, v2, v3, lx, ly, lu, rfl, b1, b2, b3, ?_⟩
  simp only [Rows.uptoBulk, Rows.uptoBulkAll]
  omega
set_option maxRecDepth 100000 in
theorem openAgain {H : Type} {enc : TypeId × Value → H} {W : World} {base : Nat} {v : Value} {d : DataW H} {p : List MemPlace} (hv : Value.okWide Tryz.prog W .any base 67 v) (h : DataW.Trod enc Tryz.prog W 0 (fun _ => true) true 67 v d p) :
    ∃ (i : Int) (x y u : Value) (lx : List (List UInt8)) (ly : List UInt8) (lu : List Int), v = .agg #[.int .i64 i, x, y, u] ∧ Parts W x lx ∧ Bts W y ly ∧ Ints W u lu ∧ sizes lx + ly.length + lu.length ≤ Rows.uptoBulk d := by
  obtain ⟨v0, v1, v2, v3, y0, y1, y2, y3, n, rfl, rfl, rfl, h0, h1, h2, h3⟩ := open_agg4 Tryz.underlying67 (by kernel_rfl) cellsAgain hv h
  obtain ⟨i, e0, -, -⟩ := DataW.trod_int Tryz.underlying3 h0
  obtain rfl : v0 = .int .i64 i := by simpa using e0
  obtain ⟨lx, b1, g1⟩ := openRecsAt h1
  obtain ⟨ly, b2, g2⟩ := openBtsAt h2
  obtain ⟨lu, b3, g3⟩ := openIntsAt h3
  have k2 := g2.bulk
  have k3 := g3.bulk
  refine ⟨i, v1, v2, v3, lx, ly, lu, rfl, b1, b2, b3, ?_⟩
  simp only [Rows.uptoBulk, Rows.uptoBulkAll]
  omega
end Go.Proofs.YtcdeagmoldbicaaGreatDoor
