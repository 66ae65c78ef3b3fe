/- An argument that is a slice of booleans, opened. -/
import Derived.Test.YtnpenabkmpoafaaDoorQPRow
import Derived.Test.YtnpenabkmpoafaaDoorQZLwN
import Derived.Deep.Grids
set_option linter.unusedVariables false
set_option linter.unusedSimpArgs false
namespace Go.Proofs.YtnpenabkmpoafaaDoor
open Go.ChangeShapes Go.WideShapes Go.ChangeAt Go.RowKit
theorem cellsBool : Tryd.prog.cellsOf 4 = 1 := by kernel_rfl
theorem openBls {H : Type} {enc : TypeId × Value → H} {W : World} {a0 : Option Addr} {len cap : Nat} {d0 : DataW H} {p : List MemPlace} (h0 : DataW.Trod enc Tryd.prog W 0 (fun _ => true) true 39 (.slice a0 len cap) d0 p) :
    ∃ l : List Bool, Bls W (.slice a0 len cap) l := by
  obtain ⟨fuel, hf⟩ := h0
  rcases Go.Deep.open_bools Tryd.underlying39 Tryd.underlying4 cellsBool hf with ⟨hcs, hx⟩ | ⟨a, len', cap', B, hcs, _, hl, hm, hx, hcell⟩
  · simp [Value.cells] at hcs
    obtain ⟨rfl, rfl, rfl⟩ := hcs
    exact ⟨[], ⟨none, 0, rfl, Nat.le_refl _, by decide, fun h => absurd h (by simp)⟩⟩
  · simp [Value.cells] at hcs
    obtain ⟨rfl, rfl, rfl⟩ := hcs
    have hlen : ((List.range len).map B).length = len := by simp
    refine ⟨(List.range len).map B, ⟨some a, cap, by rw [hlen], by omega, hm, fun hpos => ?_⟩⟩
    rw [hlen] at hpos
    obtain ⟨b, o, rfl⟩ := addr_plain (hcell 0 (by omega))
    refine ⟨b, o, rfl, fun k x hx => ?_⟩
    have hk : k < len := by
      have := (List.getElem?_eq_some_iff.1 hx).1
      omega
    rw [List.getElem?_map, List.getElem?_range hk] at hx
    have := hcell k (by omega)
    rw [Go.WideShapes.add_plain] at this
    rw [this]
    injection hx with hx
    rw [hx]
end Go.Proofs.YtnpenabkmpoafaaDoor
