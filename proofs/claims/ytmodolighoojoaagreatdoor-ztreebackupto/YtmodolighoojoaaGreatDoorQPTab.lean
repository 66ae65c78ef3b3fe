/- What the listed variable and the world's shape give: the table of powers of ten. -/
import Derived.Test.YtmodolighoojoaaGreatDoorRows
import Derived.Test.YtmodolighoojoaaGreatDoorGPDig2
import Derived.LaidSub
import Derived.MakeChecks
import Derived.LaidMore
namespace Go.Proofs.YtmodolighoojoaaGreatDoor
open Go.RowKit
theorem tab_one {W : World} {laid : List (String × DataW Unit)} (h : laidMetH Tryz.prog laid W)
    (hf : (laid.filter fun x => x.1 == "internal/strconv.uint64pow10") = [("internal/strconv.uint64pow10", Lib.tabData .u64 Lib.pow10Tab)]) : Lib.TabIs Tryz.prog W "internal/strconv.uint64pow10" .u64 Lib.pow10Tab := by
  have h1 := h.filter (fun x => x.1 == "internal/strconv.uint64pow10")
  rw [hf, MakeChecks.laidMetH_plain _ _ _ (by kernel_rfl)] at h1
  exact Lib.tabIs_of_head (g := 2) (t := 381) (e := 346) (n := 20) (by kernel_rfl) (by kernel_rfl) (by kernel_rfl) (by kernel_rfl) (by kernel_rfl) (by kernel_rfl) h1
end Go.Proofs.YtmodolighoojoaaGreatDoor
