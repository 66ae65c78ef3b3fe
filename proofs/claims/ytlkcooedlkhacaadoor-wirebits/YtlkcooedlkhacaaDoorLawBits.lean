/- The walk of the statement WireBits. -/
import Derived.Test.YtlkcooedlkhacaaDoorAwake
import Derived.Test.YtlkcooedlkhacaaDoorUnf
import Derived.Test.YtlkcooedlkhacaaDoorBitSpec
import Derived.RegionTactic
import Derived.ChangeAlike
namespace Go.Proofs.YtlkcooedlkhacaaDoor
open Go.RowKit
set_option maxRecDepth 100000 in
set_option maxHeartbeats 2000000 in
theorem wireBits_out (p : List UInt8) (a i : Int) (v : Value) (w : World) (hv : Bts w v p) (hp : p.length ≤ 140737488355328) (h : 2000 < p.length ∨ a < 4 ∨ 8 + (p.length : Int) ≤ a ∨ i < 0 ∨ 7 < i) :
    Calls Tryd.prog 8 #[v, .int .i64 a, .int .i64 i] w fun e w' => e = .returned (.bool true) ∧ Kept w w' := by
  obtain ⟨A, c, rfl, hc1, hc2, hcs⟩ := hv
  unfold maxLen at hc2
  clear hcs
  by_cases h1 : 2000 < p.length
  · clear h
    go_enter Tryd.func8, Tryd.ntmps8
    go_wp2_with fail
    refine (awake_any _).mono ?_
    rintro e w1 ⟨rfl, hk⟩
    go_wp2
    go_ret
    exact ⟨rfl, hk⟩
  · have t1 : decide (2000 < p.length) = false := by simp; omega
    have t1' : decide ((2000 : Int) < (p.length : Int)) = false := by simp; omega
    by_cases h2 : a < 4
    · clear h
      go_enter Tryd.func8, Tryd.ntmps8
      go_wp2_with fail
      refine (awake_any _).mono ?_
      rintro e w1 ⟨rfl, hk⟩
      go_wp2
      go_ret
      exact ⟨rfl, hk⟩
    · have t2 : decide (a < 4) = false := by simp; omega
      by_cases h3 : 8 + (p.length : Int) ≤ a
      · clear h
        go_enter Tryd.func8, Tryd.ntmps8
        go_wp2_with fail
        refine (awake_any _).mono ?_
        rintro e w1 ⟨rfl, hk⟩
        go_wp2
        go_ret
        exact ⟨rfl, hk⟩
      · have t3 : decide (8 + (p.length : Int) ≤ a) = false := by simp; omega
        by_cases h4 : i < 0
        · clear h
          go_enter Tryd.func8, Tryd.ntmps8
          go_wp2_with fail
          refine (awake_any _).mono ?_
          rintro e w1 ⟨rfl, hk⟩
          go_wp2
          go_ret
          exact ⟨rfl, hk⟩
        · have t4 : decide (i < 0) = false := by simp; omega
          have h5 : 7 < i := by omega
          clear h
          go_enter Tryd.func8, Tryd.ntmps8
          go_wp2_with fail
          refine (awake_any _).mono ?_
          rintro e w1 ⟨rfl, hk⟩
          go_wp2
          go_ret
          exact ⟨rfl, hk⟩
theorem turn_byte (x : UInt8) (i : Nat) (hi : i ≤ 7) : ∃ y : UInt8, bits BinOp.xor IntKind.u8 (x.toNat : Int) (2 ^ i % 256) = (y.toNat : Int) ∧ y ≠ x := by
  have h2 : 2 ^ i ≤ 2 ^ 7 := Nat.pow_le_pow_right (by decide) hi
  have h1 : 0 < 2 ^ i := Nat.pow_pos (by decide)
  have e : ((2 : Int) ^ i % 256) = ((2 ^ i : Nat) : Int) := by
    have : ((2 : Int) ^ i) = ((2 ^ i : Nat) : Int) := by rw [Int.natCast_pow]; rfl
    rw [this]; omega
  have hx := x.toNat_lt
  have hlt : x.toNat ^^^ 2 ^ i < 2 ^ 8 := Nat.xor_lt_two_pow (by omega) (by omega)
  have hy : (UInt8.ofNat (x.toNat ^^^ 2 ^ i)).toNat = x.toNat ^^^ 2 ^ i := by rw [UInt8.toNat_ofNat']; exact Nat.mod_eq_of_lt hlt
  refine ⟨UInt8.ofNat (x.toNat ^^^ 2 ^ i), by rw [e, u8_xor_nat _ _ (by omega) (by omega), hy], fun h => ?_⟩
  have h3 := congrArg UInt8.toNat h
  rw [hy] at h3
  have h4 : x.toNat ^^^ (x.toNat ^^^ 2 ^ i) = x.toNat ^^^ x.toNat := by rw [h3]
  rw [← Nat.xor_assoc, Nat.xor_self, Nat.zero_xor] at h4
  omega
theorem frRes_ok {p : List UInt8} (h : p.length ≤ 2000) : frRes p = frameOf p ∧ frErr p = 0 := by
  have : ¬ 65536 < p.length := by omega
  exact ⟨by simp [frRes, this], by simp [frErr, this]⟩
set_option maxRecDepth 100000 in
set_option maxHeartbeats 2000000 in
theorem wireBits_in (p : List UInt8) (a i : Nat) (v : Value) (w : World) (hv : Bts w v p) (hp : p.length ≤ 2000) (h4 : 4 ≤ a) (h8 : a < 8 + p.length) (hi : i ≤ 7) :
    Calls Tryd.prog 8 #[v, .int .i64 (a : Int), .int .i64 (i : Int)] w fun e w' => e = .returned (.bool true) ∧ Kept w w' := by
  obtain ⟨A, c, hv', hc1, hc2, -⟩ := id hv
  subst hv'
  unfold maxLen at hc2
  have HV := Lib.hid hv
  clear hv
  have t1 : decide (2000 < p.length) = false := by simp; omega
  have t1' : decide ((2000 : Int) < (p.length : Int)) = false := by simp; omega
  have t2 : decide ((a : Int) < 4) = false := by simp; omega
  have t3 : decide (8 + (p.length : Int) ≤ (a : Int)) = false := by simp; omega
  have t4 : decide ((i : Int) < 0) = false := by simp
  have t5 : decide ((7 : Int) < (i : Int)) = false := by simp; omega
  go_enter Tryd.func8, Tryd.ntmps8
  go_wp2_with fail
  refine (copy_any p _ _ HV.out (by omega)).mono ?_
  rintro e w1 ⟨v1, rfl, ho1, hk1⟩
  have hb1 := Bts.of_own ho1
  clear ho1
  go_wp2_with fail
  refine (frame_any p _ _ hb1).mono ?_
  rintro e w2 ⟨v2, rfl, ho2, hk2⟩
  rw [(frRes_ok hp).1] at ho2
  rw [(frRes_ok hp).2]
  have hk := hk1.trans hk2
  have hfl := frameOf_len p
  have hsz := hk1.size
  clear hk1 hk2 hb1
  rcases id ho2.2 with ⟨-, h0⟩ | ⟨g, cap, cur, hv2, hB, -, hn, hcm, -, -⟩
  · omega
  · subst hv2
    unfold maxLen at hcm
    have hlt : a < (frameOf p).length := by omega
    have hcell := ho2.cellAt a (by rw [Nat.mul_one]; exact hlt)
    have hfz := ho2.frozenAt a
    have hcx : (Lib.byteCells (frameOf p))[a]? = some (.int .u8 ((frameOf p)[a].toNat : Int)) := by simp [Lib.byteCells, hlt]
    rw [hcx] at hcell
    have hst := fun u => ho2.stored a u
    have hx8 := (frameOf p)[a].toNat_lt
    have HFL := Lib.hid hfl
    have HST := Lib.hid hst
    have HO2 := Lib.hid ho2
    clear hcx hst ho2
    rw [hfl]
    rw [hfl] at hn
    generalize hx : (frameOf p)[a] = x at *
    have HX := Lib.hid hx
    clear hx hfl
    have ia : (a : Int) < 8 + (p.length : Int) := by omega
    have ib : (0 : Int) ≤ (a : Int) := by omega
    have t6 : ((8 + (p.length : Int)) != 8 + (p.length : Int)) = false := by simp
    obtain ⟨y, hy1, hy2⟩ := turn_byte x i hi
    have hset : (Lib.byteCells (frameOf p)).set a (.int .u8 (y.toNat : Int)) = Lib.byteCells ((frameOf p).set a y) := by simp [Lib.byteCells, List.map_set]
    have hown := HST.out (.int .u8 (y.toNat : Int))
    have hbt : Bts (w2.setCell ⟨g, a, none⟩ (.int .u8 (y.toNat : Int))) (.slice (some ⟨g, 0, none⟩) (8 + p.length) cap) ((frameOf p).set a y) := by
      have h1 := hown.1
      rw [hset] at h1
      have h2 := Bts.of_own h1
      rwa [HFL.out] at h2
    have hKw : Kept w (w2.setCell ⟨g, a, none⟩ (.int .u8 (y.toNat : Int))) := hk.grown hown.2 (fun g' hg' => by cases hg'; omega)
    have hun : unAt ((frameOf p).set a y) 0 = ([], 0, 15) := by
      have h1 := unAt_good (l := (frameOf p).set a y) (a := 0) (Nat.zero_le _)
      rw [List.drop_zero] at h1
      refine h1.trans (unOf_turned p a y _ (by omega) h4 h8 ?_)
      rw [List.getD_eq_getElem?_getD, List.getElem?_eq_getElem hlt, Option.getD_some, HX.out]
      exact hy2
    have HBT := Lib.hid hbt
    have HKW := Lib.hid hKw
    have HUN := Lib.hid hun
    clear hset hown hbt hKw hun hk HST HO2 hy2
    go_wp2
    go_region
    refine Hid.out ?_
    refine Lib.hid ?_
    go_wp2_with fail
    refine (unframe_any ((frameOf p).set a y) 0 _ _ (HBT.out.kept (Kept.refl _).drew) (by rw [List.length_set, HFL.out]; omega)).mono ?_
    rintro e w4 ⟨v4, rfl, ho4, hk4⟩
    rw [HUN.out] at ho4 ⊢
    have hK := HKW.out.drew.trans hk4
    obtain ⟨A4, c4, hv4⟩ : ∃ A4 c4, v4 = .slice A4 0 c4 := by
      rcases ho4.2 with ⟨rfl, -⟩ | ⟨g', cap', cur', rfl, -⟩
      · exact ⟨none, 0, rfl⟩
      · exact ⟨_, _, rfl⟩
    subst hv4
    clear ho4 hk4
    go_wp2_with fail
    refine (awake_any _).mono ?_
    rintro e w5 ⟨rfl, hk5⟩
    have hK5 := hK.trans hk5
    clear hK hk5
    go_wp2
    go_ret
    exact ⟨rfl, hK5⟩
/-- WireBits, whatever the input is. -/
theorem wireBits_walk (p : List UInt8) (a i : Int) (v : Value) (w : World) (hv : Bts w v p) (hp : p.length ≤ 140737488355328) :
    Calls Tryd.prog 8 #[v, .int .i64 a, .int .i64 i] w fun e w' => e = .returned (.bool true) ∧ Kept w w' := by
  by_cases h : 2000 < p.length ∨ a < 4 ∨ 8 + (p.length : Int) ≤ a ∨ i < 0 ∨ 7 < i
  · exact wireBits_out p a i v w hv hp h
  · obtain ⟨n, rfl⟩ := Int.eq_ofNat_of_zero_le (show 0 ≤ a by omega)
    obtain ⟨m, rfl⟩ := Int.eq_ofNat_of_zero_le (show 0 ≤ i by omega)
    exact wireBits_in p n m v w hv (by omega) (by omega) (by omega) (by omega)
end Go.Proofs.YtlkcooedlkhacaaDoor
