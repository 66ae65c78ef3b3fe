/- Frames: what they are, and the walks of Frame, the program's and the document's. -/
import Derived.Test.YtmodolighoojoaaGreatDoorGFrSpec4
import Derived.Test.YtmodolighoojoaaGreatDoorQCat
import Derived.Test.YtmodolighoojoaaGreatDoorGSum2
namespace Go.Proofs.YtmodolighoojoaaGreatDoor
open Go.RowKit
set_option maxRecDepth 100000 in
set_option maxHeartbeats 1000000 in
theorem frame_any (p : List UInt8) (v : Value) (w : World) (hv : Bts w v p) :
    Calls Tryz.prog 184 #[v] w fun e w' => ∃ v', e = .returned (.tuple #[v', .int .i64 (frErr p)]) ∧ w'.ownsRow w.heap.size 5 1 v' (frRes p).length (Lib.byteCells (frRes p)) ∧ Kept w w' := by
  obtain ⟨A, c, hv', hc1, hc2, -⟩ := id hv
  subst hv'
  unfold maxLen at hc2
  have HV := Lib.hid hv
  clear hv
  by_cases hp : 65536 < p.length
  · have f1 : frErr p = 14 := by simp [frErr, hp]
    have f2 : frRes p = [] := by simp [frRes, hp]
    have F1 := Lib.hid f1
    have F2 := Lib.hid f2
    clear f1 f2
    go_enter Tryz.func184, Tryz.ntmps184
    go_wp2
    go_ret2
    exact ⟨_, by rw [F1.out]; rfl, by rw [F2.out]; exact World.ownsRow_nil _ _ _ _, Kept.refl _⟩
  · have f1 : frErr p = 0 := by simp [frErr, hp]
    have f2 : frRes p = frameOf p := by simp [frRes, hp]
    have F1 := Lib.hid f1
    have F2 := Lib.hid f2
    clear f1 f2
    have hcl := crc_le (le4 p.length ++ p)
    go_enter Tryz.func184, Tryz.ntmps184
    go_wp2_with fail
    refine (field_any p.length _ (by omega)).mono ?_
    rintro e w1 ⟨v1, rfl, ho1, hk1⟩
    have hb1 := Bts.of_own ho1
    obtain ⟨A1, c1, rfl⟩ := hb1.form
    clear ho1
    have hbp := HV.out.kept hk1
    go_wp2_with fail
    refine (sumOf_any [le4 p.length, p] _ _ (Parts.two hb1 hbp)).mono ?_
    rintro e w2 ⟨rfl, rfl⟩
    rw [show [le4 p.length, p].flatten = le4 p.length ++ p by simp]
    go_wp2_with fail
    refine (field_any (crc (le4 p.length ++ p)) _ (by omega)).mono ?_
    rintro e w3 ⟨v3, rfl, ho3, hk3⟩
    have hb3 := Bts.of_own ho3
    obtain ⟨A3, c3, rfl⟩ := hb3.form
    have hkA := ((Kept.refl w1).alloc _).trans hk3
    have hb1' := hb1.kept hkA
    have hbp' := hbp.kept hkA
    have hK := hk1.trans hkA
    clear ho3 hk3 hkA hb1 hbp hk1
    go_wp2_with fail
    refine (concat_any [le4 p.length, le4 (crc (le4 p.length ++ p)), p] _ _ (Parts.three hb1' hb3 hbp') (by simp [le4]; omega)).mono ?_
    rintro e w4 ⟨v4, rfl, ho4, hk4⟩
    rw [show [le4 p.length, le4 (crc (le4 p.length ++ p)), p].flatten = frameOf p by simp [frameOf]] at ho4
    have HO := Lib.hid ho4
    have hK' := (hK.alloc _).trans hk4
    have hsz := hK.size
    clear ho4 hk4
    go_wp2
    go_ret2
    exact ⟨v4, by rw [F1.out]; rfl, by rw [F2.out]; exact own_base' HO.out (by simp; omega), hK'⟩

end Go.Proofs.YtmodolighoojoaaGreatDoor
