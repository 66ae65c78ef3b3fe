/- The walk of the statement WireSums: whatever bytes are handed in, it answers true, and all that was there reads as it did. -/
import Derived.Test.YtlkcooedlkhacaaDoorAwake
import Derived.Test.YtlkcooedlkhacaaDoorRefSum
namespace Go.Proofs.YtlkcooedlkhacaaDoor
open Go.RowKit
set_option maxRecDepth 100000 in
set_option maxHeartbeats 400000 in
theorem wireSums_walk (l : List UInt8) (v : Value) (w : World) (hv : Bts w v l) (hlim : l.length ≤ 140737488355328) :
    Calls Tryd.prog 4 #[v] w fun e w' => e = .returned (.bool true) ∧ Kept w w' := by
  obtain ⟨A, c, hv', -, -, -⟩ := id hv
  subst hv'
  have HV := Lib.hid hv
  clear hv
  go_enter Tryd.func4, Tryd.ntmps4
  go_wp2_with fail
  refine (copy_any l _ _ HV.out hlim).mono ?_
  rintro e w1 ⟨v1, rfl, h1, hk1⟩
  have hb1 := Bts.of_own h1
  clear h1
  go_wp2_with fail
  refine (sum_any l _ _ hb1).mono ?_
  rintro e w2 ⟨rfl, hk2⟩
  have hk := hk1.trans hk2
  clear hk1 hk2 hb1
  go_wp2_with fail
  refine (awake_any _).mono ?_
  rintro e w3 ⟨rfl, hk3⟩
  have hk' := hk.trans hk3
  clear hk hk3
  have hle := crc_le l
  go_wp2_with fail
  refine (refSum_any l _ _ (HV.out.kept hk')).mono ?_
  rintro e w4 ⟨rfl, rfl⟩
  generalize crc l = s at *
  have hlt : decide ((s : Int) < 4294967296) = true := by simp; omega
  have hge : decide ((0 : Int) ≤ (s : Int)) = true := by simp
  have heq : ((s : Int) == (s : Int)) = true := by simp
  go_wp2
  go_ret
  exact ⟨rfl, hk'⟩
end Go.Proofs.YtlkcooedlkhacaaDoor
