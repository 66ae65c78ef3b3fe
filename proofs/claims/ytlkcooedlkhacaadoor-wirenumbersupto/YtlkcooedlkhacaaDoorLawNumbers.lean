/- The walk of the statement WireNumbers. -/
import Derived.Test.YtlkcooedlkhacaaDoorAwake
import Derived.Test.YtlkcooedlkhacaaDoorRefNum2
import Derived.Test.YtlkcooedlkhacaaDoorRefNum3
namespace Go.Proofs.YtlkcooedlkhacaaDoor
open Go.RowKit
set_option maxRecDepth 100000 in
set_option maxHeartbeats 1000000 in
theorem wireNumbers_walk (ns : List Int) (l : List UInt8) (a : Int) (u v : Value) (w : World) (hu : Ints w u ns) (hv : Bts w v l) (hn : ns.length ≤ 1048576) (hlim : l.length ≤ 1048576) :
    Calls Tryd.prog 3 #[u, v, .int .i64 a] w fun e w' => e = .returned (.bool true) ∧ Kept w w' := by
  obtain ⟨A, c, hv', -, -, -⟩ := id hv
  subst hv'
  obtain ⟨A', c', hu', -, -, -⟩ := id hu
  subst hu'
  have HV := Lib.hid hv
  have HU := Lib.hid hu
  clear hv hu
  go_enter Tryd.func3, Tryd.ntmps3
  go_wp2_with fail
  refine (copyInts_any ns _ _ HU.out hn).mono ?_
  rintro e w1 ⟨v1, rfl, hi1, hk1⟩
  go_wp2_with fail
  refine (numbers_any ns _ _ hi1 (by omega)).mono ?_
  rintro e w2 ⟨v2, rfl, ho2, hk2⟩
  have hb2 := Bts.of_own ho2
  have hk := hk1.trans hk2
  clear ho2 hk1 hk2 hi1
  go_wp2_with fail
  refine (refNumbers_any ns _ _ (HU.out.kept hk) (by omega)).mono ?_
  rintro e w3 ⟨v3, rfl, ho3, hk3⟩
  have hb3 := Bts.of_own ho3
  have hb2' := hb2.kept hk3
  have hk' := hk.trans hk3
  clear ho3 hk hk3 hb2
  go_wp2_with fail
  refine (copy_any l _ _ (HV.out.kept hk') (by omega)).mono ?_
  rintro e w4 ⟨v4, rfl, ho4, hk4⟩
  have hb4 := Bts.of_own ho4
  have b2 := hb2'.kept hk4
  have b3 := hb3.kept hk4
  have hK := hk'.trans hk4
  clear ho4 hk' hk4 hb2' hb3
  go_wp2_with fail
  refine (number_read l a _ _ hb4 (by omega)).mono ?_
  rintro e w5 ⟨rfl, rfl⟩
  go_wp2_with fail
  refine (refNumber_any l a _ _ (HV.out.kept hK) (by omega)).mono ?_
  rintro e w6 ⟨rfl, rfl⟩
  go_wp2_with fail
  refine (awake_any _).mono ?_
  rintro e w7 ⟨rfl, hk7⟩
  have c2 := b2.kept hk7
  have c3 := b3.kept hk7
  have c4 := hb4.kept hk7
  have hK' := hK.trans hk7
  clear b2 b3 hb4 hK hk7
  go_wp2_with fail
  refine (same_any _ _ _ _ _ c2 c3).mono ?_
  rintro e w8 ⟨rfl, rfl⟩
  rw [beq_self_eq_true]
  have e1 : (numsErr ns == numsErr ns) = true := beq_self_eq_true _
  have e2 : ((numAt l a).1 == (numAt l a).1) = true := beq_self_eq_true _
  have e3 : ((numAt l a).2.1 == (numAt l a).2.1) = true := beq_self_eq_true _
  have e4 : ((numAt l a).2.2 == (numAt l a).2.2) = true := beq_self_eq_true _
  go_wp2_with fail
  refine (same_any l l _ _ _ c4 (HV.out.kept hK')).mono ?_
  rintro e w9 ⟨rfl, rfl⟩
  rw [beq_self_eq_true]
  go_wp2
  go_ret
  exact ⟨rfl, hK'⟩
end Go.Proofs.YtlkcooedlkhacaaDoor
