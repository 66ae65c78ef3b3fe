/- How a ballot is opened in the seat with bytes. -/
import Derived.Test.YteopgcbihekcjaaDoorQNRow
import Derived.Test.YteopgcbihekcjaaDoorQVBal
set_option linter.unusedSimpArgs false
set_option linter.unusedVariables false
namespace Go.Proofs.YteopgcbihekcjaaDoor
open Go.ChangeShapes Go.WideShapes Go.ChangeAt Go.RowKit Go.Joins
/-- A ballot, opened. -/
theorem openBal {H : Type} {enc : TypeId × Value → H} {W : World} {base : Nat} {v : Value} {d : DataW H} {p : List MemPlace} (hv : Value.okWide Tryd.prog W .any base 23 v) (h : DataW.Trod enc Tryd.prog W 0 (fun _ => true) true 23 v d p) :
    ∃ n r : Int, v = bal n r := by
  obtain ⟨cs, rfl, hsz⟩ := okWide_struct Tryd.underlying23 hv
  have hc2 : Tryd.prog.cellsOf 23 = 2 := by kernel_rfl
  rw [hc2] at hsz
  obtain ⟨fuel, hf⟩ := h
  obtain ⟨xs, m, -, -, -, hl, hff⟩ := DataW.trod_struct Tryd.underlying23 hf
  have hl2 : xs.length = 2 := hl
  obtain ⟨l⟩ := cs
  match l, hsz with
  | [c0, c1], _ =>
    match xs, hl2 with
    | [y0, y1], _ =>
      have h0 : DataW.trod enc Tryd.prog W 0 (fun _ => true) true m 3 [c0] = some y0 := by have := hff 0 _ rfl; simpa [cellsInt, Value.cells] using this
      have h1 : DataW.trod enc Tryd.prog W 0 (fun _ => true) true m 3 [c1] = some y1 := by have := hff 1 _ rfl; simpa [cellsInt, Value.cells] using this
      obtain ⟨x0, e0, -, -⟩ := DataW.trod_int Tryd.underlying3 h0
      obtain rfl : c0 = .int .i64 x0 := by simpa using e0
      obtain ⟨x1, e1, -, -⟩ := DataW.trod_int Tryd.underlying3 h1
      obtain rfl : c1 = .int .i64 x1 := by simpa using e1
      exact ⟨x0, x1, rfl⟩
end Go.Proofs.YteopgcbihekcjaaDoor
