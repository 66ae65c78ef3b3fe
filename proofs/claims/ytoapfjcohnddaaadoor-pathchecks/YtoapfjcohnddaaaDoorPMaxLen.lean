/- PathChecks in a world of the program's own shape: the library's internal/bytealg.MaxLen holds some number. -/
import Derived.Test.YtoapfjcohnddaaaDoorPLawChecks
import Derived.Shelf.Vars
import Derived.KernelRfl
namespace Go.Proofs.YtoapfjcohnddaaaDoor
open Go.RowKit
theorem maxLen_cell {W : World} (h : W.ShapedOpen Tryd.prog) : ∃ m, W.cell? ⟨0, 0, none⟩ = some (.int .i64 m) :=
  cell_of_shapedOpen_int (t := 3) (zero := #[.int .i64 0]) h (of_decide_eq_true (by kernel_rfl)) (by kernel_rfl) rfl (by kernel_rfl) (by kernel_rfl) Tryd.underlying3
theorem pathChecks_shaped (l : List UInt8) (W : World) (h : W.ShapedOpen Tryd.prog) :
    Calls Tryd.prog 3 #[.string ⟨l.toArray⟩] W fun e w' => e = .returned (.bool true) ∧ Kept W w' := by
  obtain ⟨m, hm⟩ := maxLen_cell h
  exact pathChecks_walk l m W hm
end Go.Proofs.YtoapfjcohnddaaaDoor
