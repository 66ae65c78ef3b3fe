/- The walk of the document's Blob: bytes with their number ahead. -/
import Derived.Test.YtlkcooedlkhacaaDoorWri2
import Derived.Test.YtlkcooedlkhacaaDoorRefNum
namespace Go.Proofs.YtlkcooedlkhacaaDoor
open Go.RowKit
set_option maxRecDepth 100000 in
set_option maxHeartbeats 1000000 in
theorem refBlob_any (l : List UInt8) (v : Value) (w : World) (hv : Bts w v l) (hlim : l.length + 9 ≤ 140737488355328) :
    Calls Tryd.prog 31 #[v] w fun e w' => ∃ v', e = .returned v' ∧ w'.ownsRow w.heap.size 5 1 v' (put l.length ++ l).length (Lib.byteCells (put l.length ++ l)) ∧ Kept w w' := by
  obtain ⟨A, c, rfl⟩ := hv.form
  have HV := Lib.hid hv
  clear hv
  go_enter Tryd.func31, Tryd.ntmps31
  go_wp2_with fail
  refine (refPut_any l.length _ (by omega)).mono ?_
  rintro e w1 ⟨v1, rfl, ho1, hk1⟩
  have hb1 := Bts.of_own ho1
  obtain ⟨A1, c1, rfl⟩ := hb1.form
  have hpl : (put l.length).length ≤ 9 := putF_len 9 _
  clear ho1
  go_wp2_with fail
  refine (join_any [put l.length, l] _ _ (Parts.two hb1 (HV.out.kept hk1)) (by simp; omega)).mono ?_
  rintro e w2 ⟨v2, rfl, ho2, hk2⟩
  rw [show [put l.length, l].flatten = put l.length ++ l by simp] at ho2
  have hsz := hk1.size
  have HO := Lib.hid ho2
  have HK := Lib.hid ((hk1.alloc _).trans hk2)
  clear ho2 hk2 hk1 hb1
  go_wp2
  go_ret
  exact ⟨_, rfl, own_base HO.out (by simp; omega), HK.out⟩
end Go.Proofs.YtlkcooedlkhacaaDoor
