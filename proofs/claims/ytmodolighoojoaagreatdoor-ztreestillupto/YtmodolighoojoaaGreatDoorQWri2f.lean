/- The form of a slice of ints. -/
import Derived.Test.YtmodolighoojoaaGreatDoorQWri2
namespace Go.Proofs.YtmodolighoojoaaGreatDoor
open Go.RowKit
theorem Ints.form {w : World} {v : Value} {l : List Int} (h : Ints w v l) : ∃ A c, v = .slice A l.length c := by
  obtain ⟨A, c, rfl, -⟩ := h
  exact ⟨A, c, rfl⟩
end Go.Proofs.YtmodolighoojoaaGreatDoor
