/- The walk of the statement WireFrames. -/
import Derived.Test.YtlkcooedlkhacaaDoorAwake
import Derived.Test.YtlkcooedlkhacaaDoorRefUnf
namespace Go.Proofs.YtlkcooedlkhacaaDoor
open Go.RowKit
/-- Block g is a row of bytes, at least n of them, whatever they are. -/
def QRow (W : World) (g n : Nat) : Prop := ∃ cur, W.heap[g]? = some (.cells cur 5 (0, 0)) ∧ n ≤ cur.size ∧ ∀ i, i < n → ∃ x : Nat, x < 256 ∧ cur[i]? = some (.int .u8 (x : Int))
theorem QRow.at_ {W : World} {g n i : Nat} (h : QRow W g n) (hi : i < n) : (∃ x : Nat, x < 256 ∧ W.cell? ⟨g, i, none⟩ = some (.int .u8 (x : Int))) ∧ W.frozen? ⟨g, i, none⟩ = false := by
  obtain ⟨cur, h1, h2, h3⟩ := h
  obtain ⟨x, hx, hc⟩ := h3 i hi
  exact ⟨⟨x, hx, by rw [Lib.cell_of_heap h1]; exact hc⟩, Lib.frozen_of_heap h1 i⟩
theorem QRow.set_ {W : World} {g n : Nat} (h : QRow W g n) (i : Nat) (y : Nat) (hy : y < 256) : QRow (W.setCell ⟨g, i, none⟩ (.int .u8 (y : Int))) g n := by
  obtain ⟨cur, h1, h2, h3⟩ := h
  refine ⟨_, Lib.heap_setCell_same (i := i) h1 _, by simpa using h2, fun k hk => ?_⟩
  obtain ⟨x, hx, hc⟩ := h3 k hk
  by_cases e : i = k
  · subst e
    have : i < cur.size := by omega
    exact ⟨y, hy, by simp [this]⟩
  · exact ⟨x, hx, by rw [Array.getElem?_setIfInBounds_ne e]; exact hc⟩
theorem QRow.of_own {W : World} {base g n cap : Nat} {l : List UInt8} (h : W.ownsRow base 5 1 (.slice (some ⟨g, 0, none⟩) n cap) l.length (Lib.byteCells l)) : QRow W g l.length := by
  rcases h.2 with ⟨h0, -⟩ | ⟨g', cap', cur, hv, -, hg, hn, -, hs, ht⟩
  · cases h0
  · obtain rfl : g = g' := by
      injection hv with h1; injection h1 with h1; injection h1
    refine ⟨cur, hg, by omega, fun i hi => ⟨l[i].toNat, l[i].toNat_lt, ?_⟩⟩
    have h1 := congrArg (·[i]?) ht
    simp only [Nat.mul_one] at h1
    rw [List.getElem?_take_of_lt hi, Array.getElem?_toList] at h1
    rw [h1]
    simp [Lib.byteCells, hi]
theorem u8_not (x : Nat) (h : x < 256) : bits BinOp.xor IntKind.u8 IntKind.u8.max (x : Int) = ((255 ^^^ x : Nat) : Int) := by
  have e : IntKind.u8.max = ((255 : Nat) : Int) := rfl
  rw [e, u8_xor_nat _ _ (by decide) h]
theorem xor255_lt (x : Nat) (h : x < 256) : 255 ^^^ x < 256 := Nat.xor_lt_two_pow (n := 8) (by decide) (by omega)

set_option maxRecDepth 100000 in
set_option maxHeartbeats 2000000 in
theorem wireFrames_walk (p l : List UInt8) (a : Int) (u v : Value) (w : World) (hu : Bts w u p) (hv : Bts w v l) (hp : p.length ≤ 140737488355328) (hlim : l.length ≤ 140737488355328) :
    Calls Tryd.prog 5 #[u, v, .int .i64 a] w fun e w' => e = .returned (.bool true) ∧ Kept w w' := by
  obtain ⟨A, c, hv', -, -, -⟩ := id hv
  subst hv'
  obtain ⟨A', c', hu', -, -, -⟩ := id hu
  subst hu'
  have HV := Lib.hid hv
  have HU := Lib.hid hu
  clear hv hu
  go_enter Tryd.func5, Tryd.ntmps5
  go_wp2_with fail
  refine (copy_any p _ _ HU.out hp).mono ?_
  rintro e w1 ⟨v1, rfl, ho1, hk1⟩
  have hb1 := Bts.of_own ho1
  clear ho1
  go_wp2_with fail
  refine (frame_any p _ _ hb1).mono ?_
  rintro e w2 ⟨v2, rfl, ho2, hk2⟩
  have hb2 := Bts.of_own ho2
  have hb1a := hb1.kept hk2
  have hk := hk1.trans hk2
  clear ho2 hk1 hk2 hb1
  go_wp2_with fail
  refine (refFrame_any p _ _ (HU.out.kept hk)).mono ?_
  rintro e w3 ⟨v3, rfl, ho3, hk3⟩
  have hb3 := Bts.of_own ho3
  have hb2a := hb2.kept hk3
  have hb1b := hb1a.kept hk3
  have hk' := hk.trans hk3
  clear ho3 hk3 hk hb2 hb1a
  go_wp2_with fail
  refine (copy_any l _ _ (HV.out.kept hk') hlim).mono ?_
  rintro e w4 ⟨v4, rfl, ho4, hk4⟩
  have hb4 := Bts.of_own ho4
  have b1 := hb1b.kept hk4
  have b2 := hb2a.kept hk4
  have b3 := hb3.kept hk4
  have hK4 := hk'.trans hk4
  clear ho4 hk4 hk' hb1b hb2a hb3
  go_wp2_with fail
  refine (unframe_any l a _ _ hb4 hlim).mono ?_
  rintro e w5 ⟨v5, rfl, ho5, hk5⟩
  go_wp2_with fail
  refine (refUnframe_any l a _ _ (HV.out.kept (hK4.trans hk5)) hlim).mono ?_
  rintro e w6 ⟨v6, rfl, ho6, hk6⟩
  have hb6 := Bts.of_own ho6
  have ho5' := own_kept ho5 hk6
  have hb5 := Bts.of_own ho5'
  have hk46 := hk5.trans hk6
  have B2 := Lib.hid (b2.kept hk46)
  have B3 := Lib.hid (b3.kept hk46)
  have B1 := Lib.hid b1
  have B4 := Lib.hid hb4
  have HO5 := Lib.hid ho5'
  have HB5 := Lib.hid hb5
  have HB6 := Lib.hid hb6
  have HK4 := Lib.hid hK4
  have HK46 := Lib.hid hk46
  clear ho5 ho6 ho5' hb5 hb6 b1 b2 b3 hb4 hK4 hk46 hk5 hk6
  have e1 : (frErr p != frErr p) = false := by simp
  have e2 : ((unAt l a).2.1 != (unAt l a).2.1) = false := by simp
  have e3 : ((unAt l a).2.2 != (unAt l a).2.2) = false := by simp
  go_wp2_with fail
  refine (same_any _ _ _ _ _ B2.out B3.out).mono ?_
  rintro e w7 ⟨rfl, rfl⟩
  rw [beq_self_eq_true]
  go_wp2_with fail
  refine (same_any _ _ _ _ _ HB5.out HB6.out).mono ?_
  rintro e w8 ⟨rfl, rfl⟩
  rw [beq_self_eq_true]
  generalize hr : (unAt l a).1 = r at *
  clear hr
  have hend : ∀ W, Kept w4 W → Bts W v1 p ∧ Bts W (.slice A' p.length c') p ∧ Bts W v4 l ∧ Bts W (.slice A l.length c) l ∧ Kept w W := fun W hW => ⟨B1.out.kept hW, HU.out.kept (HK4.out.trans hW), B4.out.kept hW, HV.out.kept (HK4.out.trans hW), HK4.out.trans hW⟩
  have HEND := Lib.hid hend
  clear hend
  rcases HO5.out.2 with ⟨hv5, h0⟩ | ⟨g, cap, cur, hv5, hB, -, hn, hcm, -, -⟩
  · subst hv5
    go_wp2
    go_loopw [75] (fun i W => i = .int .i64 0 ∧ Kept w4 W) (fun _ _ => 0)
    case atStart => exact ⟨rfl, HK46.out⟩
    case round =>
      obtain ⟨rfl, hW⟩ := hrel
      obtain ⟨m1, m2, m3, m4, m5⟩ := HEND.out _ hW
      go_wp2_with fail
      refine (same_any _ _ _ _ _ m1 m2).mono ?_
      rintro e w9 ⟨rfl, rfl⟩
      rw [beq_self_eq_true]
      go_wp2_with fail
      refine (same_any _ _ _ _ _ m3 m4).mono ?_
      rintro e w10 ⟨rfl, rfl⟩
      rw [beq_self_eq_true]
      go_wp2_with fail
      refine (awake_any _).mono ?_
      rintro e w11 ⟨rfl, hk11⟩
      have hK := m5.trans hk11
      clear m1 m2 m3 m4 m5 hk11 hW
      go_wp2
      go_ret
      exact ⟨rfl, hK⟩
  · subst hv5
    have hq := QRow.of_own HO5.out
    have HQ := Lib.hid hq
    clear hq
    unfold maxLen at hcm
    go_wp2
    go_loopw [75, 19] (fun i _ W => ∃ k : Nat, i = .int .i64 (k : Int) ∧ k ≤ r.length ∧ QRow W g r.length ∧ Kept w4 W) (fun i _ _ => r.length - (intOf i).toNat)
    case atStart => exact ⟨0, rfl, Nat.zero_le _, HQ.out, HK46.out⟩
    case round =>
      obtain ⟨k, rfl, hk, hQ, hW⟩ := hrel
      have HQ2 := Lib.hid hQ
      have HW := Lib.hid hW
      clear hQ hW
      by_cases hlt : k < r.length
      · obtain ⟨⟨x, hx, hc⟩, hf⟩ := HQ2.out.at_ hlt
        have hsg : IntKind.u8.signed = false := rfl
        have hb := u8_not x hx
        have hy := xor255_lt x hx
        have hq2 := HQ2.out.set_ k (255 ^^^ x) hy
        have HQ3 := Lib.hid hq2
        have HW3 := Lib.hid (HW.out.grown (Lib.grownBy_setCell wr g k (.int .u8 ((255 ^^^ x : Nat) : Int))) (fun g' hg' => by cases hg'; exact hB))
        clear hq2
        generalize 255 ^^^ x = y at *
        go_wp2
        go_roundw
        case rel => exact ⟨k + 1, by go_num, by omega, HQ3.out, HW3.out⟩
        case measure => simp [intOf]; omega
      · obtain ⟨m1, m2, m3, m4, m5⟩ := HEND.out _ HW.out
        go_wp2_with fail
        refine (same_any _ _ _ _ _ m1 m2).mono ?_
        rintro e w9 ⟨rfl, rfl⟩
        rw [beq_self_eq_true]
        go_wp2_with fail
        refine (same_any _ _ _ _ _ m3 m4).mono ?_
        rintro e w10 ⟨rfl, rfl⟩
        rw [beq_self_eq_true]
        go_wp2_with fail
        refine (awake_any _).mono ?_
        rintro e w11 ⟨rfl, hk11⟩
        have hK := m5.trans hk11
        clear m1 m2 m3 m4 m5 hk11
        go_wp2
        go_ret
        exact ⟨rfl, hK⟩
end Go.Proofs.YtlkcooedlkhacaaDoor
