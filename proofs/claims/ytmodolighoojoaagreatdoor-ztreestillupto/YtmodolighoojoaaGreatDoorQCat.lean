/- The walks of the library's Grow and Concat over bytes. -/
import Derived.Test.YtmodolighoojoaaGreatDoorQShelf2
import Derived.Test.YtmodolighoojoaaGreatDoorQApp
import Derived.Test.YtmodolighoojoaaGreatDoorGCrc3
namespace Go.Proofs.YtmodolighoojoaaGreatDoor
open Go.RowKit
/-- The length of all together, behind a name that the walk does not open. -/
def flen (ls : List (List UInt8)) : Nat := ls.flatten.length
theorem growNil_any (n : Nat) (w : World) (hlim : n ≤ 140737488355328) :
    Calls Tryz.prog 255 #[.slice none 0 0, .int .i64 (n : Int)] w fun e w' => ∃ v', e = .returned v' ∧ w'.ownsRow w.heap.size 5 1 v' 0 (Lib.byteCells []) ∧ Kept w w' := by
  by_cases h0 : n = 0
  · subst h0
    refine (Any8.slices_Grow_room Tryz.laysN84 none 0 0 0 w (Nat.le_refl _) (by decide) (by decide) (Nat.le_refl _)).mono ?_
    rintro e w' ⟨rfl, rfl⟩
    exact ⟨_, rfl, World.ownsRow_nil _ _ _ _, Kept.refl _⟩
  · obtain ⟨i0, hi, hz0, hz1, hz2⟩ := info_byte
    refine (Any8.slices_Grow_grow Tryz.laysN84 i0 (.int .u8 0) hi hz0 (by omega) none 0 0 n [] w (Nat.le_refl _) (by omega) (by rw [hz2]; omega) (by omega) (by simp) (fun _ => rfl) (fun a h => by cases h)).mono ?_
    rintro e w' ⟨rfl, rfl⟩
    refine ⟨_, rfl, ?_, (Kept.refl w).drew.alloc _⟩
    have hge := grownCap_ge w (0 + n) 0 5
    have hle := grownCap_le_maxLen w (0 + n) 0 5 (by unfold maxLen; omega)
    refine World.ownsRow_made (e := 5) (size := 1) (base := w.heap.size) w.drew _ _ (Nat.le_refl _) hle ?_
    simp only [Array.size_append, size_zeroCells, List.size_toArray, List.length_nil, Value.cells]
    show 0 + (0 + n - 0) * 1 + (grownCap w (0 + n) 0 5 - (0 + n)) * 1 = grownCap w (0 + n) 0 5 * 1
    omega

set_option maxRecDepth 100000 in
set_option maxHeartbeats 1000000 in
theorem concat_any (ls : List (List UInt8)) (v : Value) (w : World) (hp : Parts w v ls) (hlim : ls.flatten.length ≤ 140737488355328) :
    Calls Tryz.prog 221 #[v] w fun e w' => ∃ v', e = .returned v' ∧ w'.ownsRow w.heap.size 5 1 v' ls.flatten.length (Lib.byteCells ls.flatten) ∧ Kept w w' := by
  obtain ⟨A, c, rfl, hc1, hc2, hcs⟩ := hp
  unfold maxLen at hc2
  have HCS := Lib.hid hcs
  clear hcs
  go_enter Tryz.func221, Tryz.ntmps221
  go_wp2
  go_loop [3, 11] (fun t i => ∃ k : Nat, k ≤ ls.length ∧ i = .int .i64 (k : Int) ∧ t = .int .i64 (flen (ls.take k) : Nat)) (fun _ i => ls.length - (intOf i).toNat)
  case atStart => exact ⟨0, Nat.zero_le _, rfl, rfl⟩
  case round =>
    obtain ⟨k, hk, rfl, rfl⟩ := hrel
    by_cases hlt : k < ls.length
    · obtain ⟨b, o, rfl, hcell⟩ := HCS.out (by omega)
      obtain ⟨x, hx, A2, c2, rfl, hd1, hd2, -⟩ := hcell k ls[k] (by simp [hlt])
      have e1 : flen (ls.take (k + 1)) = flen (ls.take k) + ls[k].length := by
        have := congrArg List.length (take_flat' ls k hlt)
        rwa [List.length_append] at this
      have E1 := Lib.hid e1
      have hle : flen (ls.take k) + ls[k].length ≤ 140737488355328 := Nat.le_trans (flat_le ls k hlt) hlim
      unfold maxLen at hd2
      clear e1 hcell
      generalize ls[k].length = m at *
      generalize hs : flen (ls.take k) = s at *
      clear hs
      have tneg : decide ((s : Int) + (m : Int) < 0) = false := by simp; omega
      go_wp2
      go_round
      case rel => exact ⟨k + 1, by omega, by go_num, congrArg (Value.int .i64) (by rw [E1.out]; omega)⟩
      case measure => simp [intOf]; omega
    · obtain rfl : k = ls.length := by omega
      rw [List.take_length]
      go_wp2_with fail
      refine (growNil_any (flen ls) _ hlim).mono ?_
      rintro e w1 ⟨v1, rfl, ho1, hk1⟩
      have HO1 := Lib.hid ho1
      obtain ⟨A1, c1, hv1⟩ : ∃ A1 c1, v1 = .slice A1 0 c1 := by
        rcases ho1.2 with ⟨rfl, h0⟩ | ⟨g, cap, cur, rfl, -⟩
        · exact ⟨none, 0, rfl⟩
        · exact ⟨_, _, rfl⟩
      subst hv1
      clear ho1
      have hszw := hk1.size
      go_wp2
      go_loopw [6, 27] (fun t i W => ∃ k : Nat, i = .int .i64 (k : Int) ∧ k ≤ ls.length ∧ W.ownsRow w.heap.size 5 1 t (ls.take k).flatten.length (Lib.byteCells (ls.take k).flatten) ∧ Kept w W) (fun _ i _ => ls.length - (intOf i).toNat)
      case atStart => exact ⟨0, rfl, Nat.zero_le _, HO1.out, hk1⟩
      case round =>
        obtain ⟨k, rfl, hk, hO, hK⟩ := hrel
        by_cases hlt : k < ls.length
        · obtain ⟨b, o, rfl, hcell⟩ := HCS.out (by omega)
          obtain ⟨x, hx, hbx⟩ := hcell k ls[k] (by simp [hlt])
          have hx1 := hK.cell hx
          have hbx1 := hbx.kept hK
          have e1 := take_flat' ls k hlt
          have hle := flat_le ls k hlt
          obtain ⟨A2, c2, rfl, -, -, -⟩ := id hbx
          have HO := Lib.hid hO
          have HB := Lib.hid hbx1
          have E1 := Lib.hid e1
          clear hO hbx1 e1 hcell hbx hx
          have hsz := hK.size
          obtain ⟨A3, c3, hv3⟩ : ∃ A3 c3, u6 = .slice A3 (ls.take k).flatten.length c3 := by
            rcases HO.out.2 with ⟨rfl, h0⟩ | ⟨g, cap, cur, rfl, -⟩
            · exact ⟨none, 0, by rw [h0]⟩
            · exact ⟨_, _, rfl⟩
          subst hv3
          go_wp2_with (at_builtin; refine wpList_append_bts rfl _ _ rfl w.heap.size _ _ (ls.take k).flatten ls[k] _ rfl rfl HO.out HB.out (by omega) hsz ?_; intro v' w' h1 h2 h3)
          go_roundw
          case rel =>
            refine ⟨k + 1, by go_num, by omega, ?_, ?_⟩
            · rw [E1.out, List.length_append]; exact h1
            · exact hK.grown h2 (own_ge HO.out)
          case measure => simp [intOf]; omega
        · obtain rfl : k = ls.length := by omega
          rw [List.take_length] at hO
          have HO := Lib.hid hO
          clear hO
          go_wp2
          go_ret
          exact ⟨_, rfl, HO.out, hK⟩
end Go.Proofs.YtmodolighoojoaaGreatDoor
