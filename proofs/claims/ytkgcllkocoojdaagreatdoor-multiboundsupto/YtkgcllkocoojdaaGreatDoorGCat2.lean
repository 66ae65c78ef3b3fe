/- The walks of the library's Grow and Concat over bytes. Frames: what they are, and the walks of Frame, the program's and the document's. -/
import Derived.Test.YtkgcllkocoojdaaGreatDoorQShelf2
import Derived.Test.YtkgcllkocoojdaaGreatDoorGApp3
import Derived.Test.YtkgcllkocoojdaaGreatDoorGCrc3
import Derived.Test.YtkgcllkocoojdaaGreatDoorGFrSpec4
import Derived.Test.YtkgcllkocoojdaaGreatDoorGSum2
namespace Go.Proofs.YtkgcllkocoojdaaGreatDoor
open Go.RowKit
/-- The length of all together, behind a name that the walk does not open. -/
def flen (ls : List (List UInt8)) : Nat := ls.flatten.length
theorem growNil_any (n : Nat) (w : World) (hlim : n ≤ 140737488355328) :
    Calls Tryz.prog 252 #[.slice none 0 0, .int .i64 (n : Int)] w fun e w' => ∃ v', e = .returned v' ∧ w'.ownsRow w.heap.size 5 1 v' 0 (Lib.byteCells []) ∧ Kept w w' := by
  by_cases h0 : n = 0
  · subst h0
    refine (Any8.slices_Grow_room Tryz.laysN84 none 0 0 0 w (Nat.le_refl _) (by decide) (by decide) (Nat.le_refl _)).mono ?_
    rintro e w' ⟨rfl, rfl⟩
    exact ⟨_, rfl, World.ownsRow_nil _ _ _ _, Kept.refl _⟩
  · obtain ⟨i0, hi, hz0, hz1, hz2⟩ := info_byte
    refine (Any8.slices_Grow_grow Tryz.laysN84 i0 (.int .u8 0) hi hz0 (by omega) none 0 0 n [] w (Nat.le_refl _) (by omega) (by rw [hz2]; omega) (by omega) (by simp) (fun _ => rfl) (fun a h => by cases h)).mono ?_
    rintro e w' ⟨rfl, rfl⟩
    refine ⟨_, rfl, ?_, (Kept.refl w).drew.alloc _⟩
    have hge := grownCap_ge w (0 + n) 0 5
    have hle := grownCap_le_maxLen w (0 + n) 0 5 (by unfold maxLen; omega)
    refine World.ownsRow_made (e := 5) (size := 1) (base := w.heap.size) w.drew _ _ (Nat.le_refl _) hle ?_
    simp only [Array.size_append, size_zeroCells, List.size_toArray, List.length_nil, Value.cells]
    show 0 + (0 + n - 0) * 1 + (grownCap w (0 + n) 0 5 - (0 + n)) * 1 = grownCap w (0 + n) 0 5 * 1
    omega

set_option maxRecDepth 100000 in
set_option maxHeartbeats 1000000 in
theorem concat_any (ls : List (List UInt8)) (v : Value) (w : World) (hp : Parts w v ls) (hlim : ls.flatten.length ≤ 140737488355328) :
    Calls Tryz.prog 218 #[v] w fun e w' => ∃ v', e = .returned v' ∧ w'.ownsRow w.heap.size 5 1 v' ls.flatten.length (Lib.byteCells ls.flatten) ∧ Kept w w' := by
  obtain ⟨A, c, rfl, hc1, hc2, hcs⟩ := hp
  unfold maxLen at hc2
  have HCS := Lib.hid hcs
  clear hcs
  go_enter Tryz.func218, Tryz.ntmps218
  go_wp2
  go_loop [3, 11] (fun t i => ∃ k : Nat, k ≤ ls.length ∧ i = .int .i64 (k : Int) ∧ t = .int .i64 (flen (ls.take k) : Nat)) (fun _ i => ls.length - (intOf i).toNat)
  case atStart => exact ⟨0, Nat.zero_le _, rfl, rfl⟩
  case round =>
    obtain ⟨k, hk, rfl, rfl⟩ := hrel
    by_cases hlt : k < ls.length
    · obtain ⟨b, o, rfl, hcell⟩ := HCS.out (by omega)
      obtain ⟨x, hx, A2, c2, rfl, hd1, hd2, -⟩ := hcell k ls[k] (by simp [hlt])
      have e1 : flen (ls.take (k + 1)) = flen (ls.take k) + ls[k].length := by
        have := congrArg List.length (take_flat' ls k hlt)
        rwa [List.length_append] at this
      have E1 := Lib.hid e1
      have hle : flen (ls.take k) + ls[k].length ≤ 140737488355328 := Nat.le_trans (flat_le ls k hlt) hlim
      unfold maxLen at hd2
      clear e1 hcell
      generalize ls[k].length = m at *
      generalize hs : flen (ls.take k) = s at *
      clear hs
      have tneg : decide ((s : Int) + (m : Int) < 0) = false := by simp; omega
      go_wp2
      go_round
      case rel => exact ⟨k + 1, by omega, by go_num, congrArg (Value.int .i64) (by rw [E1.out]; omega)⟩
      case measure => simp [intOf]; omega
    · obtain rfl : k = ls.length := by omega
      rw [List.take_length]
      go_wp2_with fail
      refine (growNil_any (flen ls) _ hlim).mono ?_
      rintro e w1 ⟨v1, rfl, ho1, hk1⟩
      have HO1 := Lib.hid ho1
      obtain ⟨A1, c1, hv1⟩ : ∃ A1 c1, v1 = .slice A1 0 c1 := by
        rcases ho1.2 with ⟨rfl, h0⟩ | ⟨g, cap, cur, rfl, -⟩
        · exact ⟨none, 0, rfl⟩
        · exact ⟨_, _, rfl⟩
      subst hv1
      clear ho1
      have hszw := hk1.size
      go_wp2
      go_loopw [6, 27] (fun t i W => ∃ k : Nat, i = .int .i64 (k : Int) ∧ k ≤ ls.length ∧ W.ownsRow w.heap.size 5 1 t (ls.take k).flatten.length (Lib.byteCells (ls.take k).flatten) ∧ Kept w W) (fun _ i _ => ls.length - (intOf i).toNat)
      case atStart => exact ⟨0, rfl, Nat.zero_le _, HO1.out, hk1⟩
      case round =>
        obtain ⟨k, rfl, hk, hO, hK⟩ := hrel
        by_cases hlt : k < ls.length
        · obtain ⟨b, o, rfl, hcell⟩ := HCS.out (by omega)
          obtain ⟨x, hx, hbx⟩ := hcell k ls[k] (by simp [hlt])
          have hx1 := hK.cell hx
          have hbx1 := hbx.kept hK
          have e1 := take_flat' ls k hlt
          have hle := flat_le ls k hlt
          obtain ⟨A2, c2, rfl, -, -, -⟩ := id hbx
          have HO := Lib.hid hO
          have HB := Lib.hid hbx1
          have E1 := Lib.hid e1
          clear hO hbx1 e1 hcell hbx hx
          have hsz := hK.size
          obtain ⟨A3, c3, hv3⟩ : ∃ A3 c3, u6 = .slice A3 (ls.take k).flatten.length c3 := by
            rcases HO.out.2 with ⟨rfl, h0⟩ | ⟨g, cap, cur, rfl, -⟩
            · exact ⟨none, 0, by rw [h0]⟩
            · exact ⟨_, _, rfl⟩
          subst hv3
          go_wp2_with (at_builtin; refine wpList_append_bts rfl _ _ rfl w.heap.size _ _ (ls.take k).flatten ls[k] _ rfl rfl HO.out HB.out (by omega) hsz ?_; intro v' w' h1 h2 h3)
          go_roundw
          case rel =>
            refine ⟨k + 1, by go_num, by omega, ?_, ?_⟩
            · rw [E1.out, List.length_append]; exact h1
            · exact hK.grown h2 (own_ge HO.out)
          case measure => simp [intOf]; omega
        · obtain rfl : k = ls.length := by omega
          rw [List.take_length] at hO
          have HO := Lib.hid hO
          clear hO
          go_wp2
          go_ret
          exact ⟨_, rfl, HO.out, hK⟩
end Go.Proofs.YtkgcllkocoojdaaGreatDoor
namespace Go.Proofs.YtkgcllkocoojdaaGreatDoor
open Go.RowKit
set_option maxRecDepth 100000 in
set_option maxHeartbeats 1000000 in
theorem frame_any (p : List UInt8) (v : Value) (w : World) (hv : Bts w v p) :
    Calls Tryz.prog 181 #[v] w fun e w' => ∃ v', e = .returned (.tuple #[v', .int .i64 (frErr p)]) ∧ w'.ownsRow w.heap.size 5 1 v' (frRes p).length (Lib.byteCells (frRes p)) ∧ Kept w w' := by
  obtain ⟨A, c, hv', hc1, hc2, -⟩ := id hv
  subst hv'
  unfold maxLen at hc2
  have HV := Lib.hid hv
  clear hv
  by_cases hp : 65536 < p.length
  · have f1 : frErr p = 14 := by simp [frErr, hp]
    have f2 : frRes p = [] := by simp [frRes, hp]
    have F1 := Lib.hid f1
    have F2 := Lib.hid f2
    clear f1 f2
    go_enter Tryz.func181, Tryz.ntmps181
    go_wp2
    go_ret2
    exact ⟨_, by rw [F1.out]; rfl, by rw [F2.out]; exact World.ownsRow_nil _ _ _ _, Kept.refl _⟩
  · have f1 : frErr p = 0 := by simp [frErr, hp]
    have f2 : frRes p = frameOf p := by simp [frRes, hp]
    have F1 := Lib.hid f1
    have F2 := Lib.hid f2
    clear f1 f2
    have hcl := crc_le (le4 p.length ++ p)
    go_enter Tryz.func181, Tryz.ntmps181
    go_wp2_with fail
    refine (field_any p.length _ (by omega)).mono ?_
    rintro e w1 ⟨v1, rfl, ho1, hk1⟩
    have hb1 := Bts.of_own ho1
    obtain ⟨A1, c1, rfl⟩ := hb1.form
    clear ho1
    have hbp := HV.out.kept hk1
    go_wp2_with fail
    refine (sumOf_any [le4 p.length, p] _ _ (Parts.two hb1 hbp)).mono ?_
    rintro e w2 ⟨rfl, rfl⟩
    rw [show [le4 p.length, p].flatten = le4 p.length ++ p by simp]
    go_wp2_with fail
    refine (field_any (crc (le4 p.length ++ p)) _ (by omega)).mono ?_
    rintro e w3 ⟨v3, rfl, ho3, hk3⟩
    have hb3 := Bts.of_own ho3
    obtain ⟨A3, c3, rfl⟩ := hb3.form
    have hkA := ((Kept.refl w1).alloc _).trans hk3
    have hb1' := hb1.kept hkA
    have hbp' := hbp.kept hkA
    have hK := hk1.trans hkA
    clear ho3 hk3 hkA hb1 hbp hk1
    go_wp2_with fail
    refine (concat_any [le4 p.length, le4 (crc (le4 p.length ++ p)), p] _ _ (Parts.three hb1' hb3 hbp') (by simp [le4]; omega)).mono ?_
    rintro e w4 ⟨v4, rfl, ho4, hk4⟩
    rw [show [le4 p.length, le4 (crc (le4 p.length ++ p)), p].flatten = frameOf p by simp [frameOf]] at ho4
    have HO := Lib.hid ho4
    have hK' := (hK.alloc _).trans hk4
    have hsz := hK.size
    clear ho4 hk4
    go_wp2
    go_ret2
    exact ⟨v4, by rw [F1.out]; rfl, by rw [F2.out]; exact own_base' HO.out (by simp; omega), hK'⟩

end Go.Proofs.YtkgcllkocoojdaaGreatDoor
