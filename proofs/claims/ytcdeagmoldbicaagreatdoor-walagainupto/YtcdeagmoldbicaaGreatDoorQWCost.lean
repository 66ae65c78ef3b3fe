/- What records cost on a disk, by their bulk. -/
import Derived.Test.YtcdeagmoldbicaaGreatDoorQWLawA
import Derived.Test.YtcdeagmoldbicaaGreatDoorQWRow2
namespace Go.Proofs.YtcdeagmoldbicaaGreatDoor
theorem costs_sizes (ls : List (List UInt8)) : costs ls ≤ 25 * sizes ls := by
  induction ls with
  | nil => simp [costs]
  | cons a r ih =>
    simp only [costs, sizes, List.map_cons, List.sum_cons] at *
    omega
end Go.Proofs.YtcdeagmoldbicaaGreatDoor
