/- The walk of the statement WireBack. -/
import Derived.Test.YtlkcooedlkhacaaDoorLawOne
import Derived.Test.YtlkcooedlkhacaaDoorUnf
import Derived.Test.YtlkcooedlkhacaaDoorBitSpec
import Derived.Test.YtlkcooedlkhacaaDoorRefNum
namespace Go.Proofs.YtlkcooedlkhacaaDoor
open Go.RowKit
theorem numAt_put (s t : List UInt8) (n : Nat) (h : n ≤ 4611686018427387903) : numAt (s ++ (put n ++ t)) (s.length : Nat) = ((n : Int), (s.length : Int) + ((put n).length : Nat), 0) := by
  rw [numAt_good (by simp), List.drop_append_of_le_length (Nat.le_refl _), List.drop_length, List.nil_append, numOf_put n h t]
  rfl
theorem unAt_put (s t p : List UInt8) (h : p.length ≤ 65536) : unAt (s ++ (frameOf p ++ t)) (s.length : Nat) = (p, (s.length : Int) + (8 + p.length : Nat), 0) := by
  rw [unAt_good (by simp), List.drop_append_of_le_length (Nat.le_refl _), List.drop_length, List.nil_append, unOf_frame p t _ h]
  refine Prod.ext rfl (Prod.ext ?_ rfl)
  show (s.length : Int) + 8 + (p.length : Nat) = (s.length : Int) + (8 + p.length : Nat)
  omega
theorem nums_none (n : Int) (h : okNum n = false) : numsRes [n] = [] ∧ numsErr [n] = 10 := by
  have hb : badAll [n] = true := by simp [badAll, h]
  exact ⟨by simp [numsRes, hb], by simp [numsErr, hb]⟩
theorem put_len (n : Nat) : (put n).length ≤ 9 := putF_len 9 n
theorem fr_none {p : List UInt8} (h : ¬ p.length ≤ 65536) : frRes p = [] ∧ frErr p = 14 := by
  have h' : 65536 < p.length := by omega
  exact ⟨by simp [frRes, h'], by simp [frErr, h']⟩
theorem fr_some {p : List UInt8} (h : p.length ≤ 65536) : frRes p = frameOf p ∧ frErr p = 0 := by
  have h' : ¬ 65536 < p.length := by omega
  exact ⟨by simp [frRes, h'], by simp [frErr, h']⟩
set_option maxRecDepth 100000 in
set_option maxHeartbeats 4000000 in
theorem wireBack_walk (n : Int) (p ahead behind : List UInt8) (vp va ve : Value) (w : World) (hp : Bts w vp p) (ha : Bts w va ahead) (he : Bts w ve behind) (zp : p.length ≤ 1048576) (za : ahead.length ≤ 1048576) (ze : behind.length ≤ 1048576) :
    Calls Tryd.prog 6 #[.agg #[.int .i64 n, vp, va, ve]] w fun e w' => e = .returned (.bool true) ∧ Kept w w' := by
  obtain ⟨Ap, cp, rfl⟩ := hp.form
  obtain ⟨Aa, ca, rfl⟩ := ha.form
  obtain ⟨Ae, ce, rfl⟩ := he.form
  have HP := Lib.hid hp
  have HA := Lib.hid ha
  have HE := Lib.hid he
  clear hp ha he
  by_cases hok : okNum n = true
  · obtain ⟨m, rfl, hm⟩ : ∃ m : Nat, n = m ∧ m ≤ 4611686018427387903 := by
      unfold okNum at hok
      simp only [Bool.and_eq_true, decide_eq_true_eq] at hok
      exact ⟨n.toNat, by omega, by omega⟩
    have HOK := Lib.hid hok
    clear hok
    go_enter Tryd.func6, Tryd.ntmps6
    go_wp2
    go_quiet (fail)
    have hK0 := ((Kept.refl w).alloc (.cells #[.int .i64 (m : Int), .slice Ap p.length cp, .slice Aa ahead.length ca, .slice Ae behind.length ce] 48)).drewN nq
    generalize (w.alloc (.cells #[.int .i64 (m : Int), .slice Ap p.length cp, .slice Aa ahead.length ca, .slice Ae behind.length ce] 48)).drewN nq = W0 at *
    go_wp2_with fail
    refine (numbers_any [(m : Int)] _ _ (Ints.one _ (m : Int) _) (by simp)).mono ?_
    rintro e w2 ⟨v2, rfl, ho2, hk2⟩
    have hK := (hK0.alloc _).trans hk2
    clear hk2 hK0
    rw [(nums_one m hm).1] at ho2
    rw [(nums_one m hm).2]
    have hb2 := Bts.of_own ho2
    obtain ⟨A2, c2, rfl⟩ := hb2.form
    clear ho2
    have hpl := put_len m
    have q1 := HA.out.kept hK
    have q2 := HE.out.kept hK
    go_wp2_with fail
    refine (join_any [ahead, put m, behind] _ _ (Parts.three q1 hb2 q2) (by simp; omega)).mono ?_
    rintro e w3 ⟨v3, rfl, ho3, hk3⟩
    rw [show [ahead, put m, behind].flatten = ahead ++ (put m ++ behind) by simp] at ho3
    have hb3 := Bts.of_own ho3
    have hK3 := (hK.alloc _).trans hk3
    clear ho3 hk3 hK q1 q2 hb2
    go_wp2_with fail
    refine (number_read (ahead ++ (put m ++ behind)) (ahead.length : Nat) _ _ hb3 (by simp; omega)).mono ?_
    rintro e w4 ⟨rfl, rfl⟩
    rw [numAt_put ahead behind m hm]
    have hK := hK3
    clear hK3 hb3
    have g1 : ((m : Int) != (m : Int)) = false := by simp
    have g2 : (((ahead.length : Int) + ((put m).length : Nat)) != ((ahead.length : Int) + ((put m).length : Nat))) = false := by simp
    by_cases hfr : p.length ≤ 65536
    · have hfr' := hfr
      go_wp2_with fail
      refine (copy_any p _ _ (HP.out.kept hK) (by omega)).mono ?_
      rintro e w5 ⟨v5, rfl, ho5, hk5⟩
      have hb5 := Bts.of_own ho5
      have hK5 := hK.trans hk5
      clear ho5 hk5 hK
      go_wp2_with fail
      refine (frame_any p _ _ hb5).mono ?_
      rintro e w6 ⟨v6, rfl, ho6, hk6⟩
      have hK := hK5.trans hk6
      clear hk6 hK5 hb5
      rw [(fr_some hfr).1] at ho6
      rw [(fr_some hfr).2]
      have hb6 := Bts.of_own ho6
      have HFL := Lib.hid (frameOf_len p)
      obtain ⟨A6, c6, rfl⟩ := hb6.form
      rw [HFL.out] at hb6
      rw [HFL.out]
      clear ho6
      have q1 := HA.out.kept hK
      have q2 := HE.out.kept hK
      go_wp2_with fail
      refine (join_any [ahead, frameOf p, behind] _ _ (Parts.three q1 hb6 q2) (by simp [HFL.out]; omega)).mono ?_
      rintro e w7 ⟨v7, rfl, ho7, hk7⟩
      rw [show [ahead, frameOf p, behind].flatten = ahead ++ (frameOf p ++ behind) by simp] at ho7
      have hb7 := Bts.of_own ho7
      have hK7 := (hK.alloc _).trans hk7
      clear ho7 hk7 hK q1 q2 hb6
      go_wp2_with fail
      refine (unframe_any (ahead ++ (frameOf p ++ behind)) (ahead.length : Nat) _ _ hb7 (by simp [HFL.out]; omega)).mono ?_
      rintro e w8 ⟨v8, rfl, ho8, hk8⟩
      rw [unAt_put ahead behind p hfr] at ho8 ⊢
      have hb8 := Bts.of_own ho8
      have hK := hK7.trans hk8
      clear ho8 hk8 hK7 hb7
      have f1 : (((ahead.length : Int) + ((8 + p.length : Nat) : Int)) != ((ahead.length : Int) + ((8 + p.length : Nat) : Int))) = false := by simp
      have f2 : (((ahead.length : Int) + (8 + (p.length : Int))) != ((ahead.length : Int) + (8 + (p.length : Int)))) = false := by simp
      go_wp2_with fail
      refine (same_any p p _ _ _ hb8 (HP.out.kept hK)).mono ?_
      rintro e wy ⟨rfl, rfl⟩
      rw [beq_self_eq_true]
      clear hb8
      have u1 : ((0 : Int) == 0) = true := by decide
      have u2 : ((0 : Int) == 0) = true := by decide
      have u3 : decide ((p.length : Int) ≤ 65536) = true := by simp; omega
      have u4 : decide (p.length ≤ 65536) = true := by simp; omega
      go_wp2_with fail
      refine (bad_any _ _).mono ?_
      rintro e wx ⟨rfl, rfl⟩
      rw [HOK.out]
      go_wp2_with fail
      refine (awake_any _).mono ?_
      rintro e wz ⟨rfl, hkz⟩
      have hKz := hK.trans hkz
      clear hK hkz
      go_wp2
      go_ret
      exact ⟨rfl, hKz⟩
    · have hfr' := hfr
      go_wp2_with fail
      refine (copy_any p _ _ (HP.out.kept hK) (by omega)).mono ?_
      rintro e w5 ⟨v5, rfl, ho5, hk5⟩
      have hb5 := Bts.of_own ho5
      have hK5 := hK.trans hk5
      clear ho5 hk5 hK
      go_wp2_with fail
      refine (frame_any p _ _ hb5).mono ?_
      rintro e w6 ⟨v6, rfl, ho6, hk6⟩
      have hK := hK5.trans hk6
      clear hk6 hK5 hb5
      rw [(fr_none hfr).1] at ho6
      rw [(fr_none hfr).2]
      clear ho6
      have u1 : ((0 : Int) == 0) = true := by decide
      have u2 : ((14 : Int) == 0) = false := by decide
      have u3 : decide ((p.length : Int) ≤ 65536) = false := by simp; omega
      have u4 : decide (p.length ≤ 65536) = false := by simp; omega
      go_wp2_with fail
      refine (bad_any _ _).mono ?_
      rintro e wx ⟨rfl, rfl⟩
      rw [HOK.out]
      go_wp2_with fail
      refine (awake_any _).mono ?_
      rintro e wz ⟨rfl, hkz⟩
      have hKz := hK.trans hkz
      clear hK hkz
      go_wp2
      go_ret
      exact ⟨rfl, hKz⟩
  · have hok' : okNum n = false := by simpa using hok
    have HOK := Lib.hid hok'
    have HOKF := Lib.hid hok'
    clear hok hok'
    go_enter Tryd.func6, Tryd.ntmps6
    go_wp2
    go_quiet (fail)
    have hK0 := ((Kept.refl w).alloc (.cells #[.int .i64 n, .slice Ap p.length cp, .slice Aa ahead.length ca, .slice Ae behind.length ce] 48)).drewN nq
    generalize (w.alloc (.cells #[.int .i64 n, .slice Ap p.length cp, .slice Aa ahead.length ca, .slice Ae behind.length ce] 48)).drewN nq = W0 at *
    go_wp2_with fail
    refine (numbers_any [n] _ _ (Ints.one _ n _) (by simp)).mono ?_
    rintro e w2 ⟨v2, rfl, ho2, hk2⟩
    have hK := (hK0.alloc _).trans hk2
    clear hk2 hK0
    rw [(nums_none n HOKF.out).1] at ho2
    rw [(nums_none n HOKF.out).2]
    clear ho2
    by_cases hfr : p.length ≤ 65536
    · have hfr' := hfr
      go_wp2_with fail
      refine (copy_any p _ _ (HP.out.kept hK) (by omega)).mono ?_
      rintro e w5 ⟨v5, rfl, ho5, hk5⟩
      have hb5 := Bts.of_own ho5
      have hK5 := hK.trans hk5
      clear ho5 hk5 hK
      go_wp2_with fail
      refine (frame_any p _ _ hb5).mono ?_
      rintro e w6 ⟨v6, rfl, ho6, hk6⟩
      have hK := hK5.trans hk6
      clear hk6 hK5 hb5
      rw [(fr_some hfr).1] at ho6
      rw [(fr_some hfr).2]
      have hb6 := Bts.of_own ho6
      have HFL := Lib.hid (frameOf_len p)
      obtain ⟨A6, c6, rfl⟩ := hb6.form
      rw [HFL.out] at hb6
      rw [HFL.out]
      clear ho6
      have q1 := HA.out.kept hK
      have q2 := HE.out.kept hK
      go_wp2_with fail
      refine (join_any [ahead, frameOf p, behind] _ _ (Parts.three q1 hb6 q2) (by simp [HFL.out]; omega)).mono ?_
      rintro e w7 ⟨v7, rfl, ho7, hk7⟩
      rw [show [ahead, frameOf p, behind].flatten = ahead ++ (frameOf p ++ behind) by simp] at ho7
      have hb7 := Bts.of_own ho7
      have hK7 := (hK.alloc _).trans hk7
      clear ho7 hk7 hK q1 q2 hb6
      go_wp2_with fail
      refine (unframe_any (ahead ++ (frameOf p ++ behind)) (ahead.length : Nat) _ _ hb7 (by simp [HFL.out]; omega)).mono ?_
      rintro e w8 ⟨v8, rfl, ho8, hk8⟩
      rw [unAt_put ahead behind p hfr] at ho8 ⊢
      have hb8 := Bts.of_own ho8
      have hK := hK7.trans hk8
      clear ho8 hk8 hK7 hb7
      have f1 : (((ahead.length : Int) + ((8 + p.length : Nat) : Int)) != ((ahead.length : Int) + ((8 + p.length : Nat) : Int))) = false := by simp
      have f2 : (((ahead.length : Int) + (8 + (p.length : Int))) != ((ahead.length : Int) + (8 + (p.length : Int)))) = false := by simp
      go_wp2_with fail
      refine (same_any p p _ _ _ hb8 (HP.out.kept hK)).mono ?_
      rintro e wy ⟨rfl, rfl⟩
      rw [beq_self_eq_true]
      clear hb8
      have u1 : ((10 : Int) == 0) = false := by decide
      have u2 : ((0 : Int) == 0) = true := by decide
      have u3 : decide ((p.length : Int) ≤ 65536) = true := by simp; omega
      have u4 : decide (p.length ≤ 65536) = true := by simp; omega
      go_wp2_with fail
      refine (bad_any _ _).mono ?_
      rintro e wx ⟨rfl, rfl⟩
      rw [HOK.out]
      go_wp2_with fail
      refine (awake_any _).mono ?_
      rintro e wz ⟨rfl, hkz⟩
      have hKz := hK.trans hkz
      clear hK hkz
      go_wp2
      go_ret
      exact ⟨rfl, hKz⟩
    · have hfr' := hfr
      go_wp2_with fail
      refine (copy_any p _ _ (HP.out.kept hK) (by omega)).mono ?_
      rintro e w5 ⟨v5, rfl, ho5, hk5⟩
      have hb5 := Bts.of_own ho5
      have hK5 := hK.trans hk5
      clear ho5 hk5 hK
      go_wp2_with fail
      refine (frame_any p _ _ hb5).mono ?_
      rintro e w6 ⟨v6, rfl, ho6, hk6⟩
      have hK := hK5.trans hk6
      clear hk6 hK5 hb5
      rw [(fr_none hfr).1] at ho6
      rw [(fr_none hfr).2]
      clear ho6
      have u1 : ((10 : Int) == 0) = false := by decide
      have u2 : ((14 : Int) == 0) = false := by decide
      have u3 : decide ((p.length : Int) ≤ 65536) = false := by simp; omega
      have u4 : decide (p.length ≤ 65536) = false := by simp; omega
      go_wp2_with fail
      refine (bad_any _ _).mono ?_
      rintro e wx ⟨rfl, rfl⟩
      rw [HOK.out]
      go_wp2_with fail
      refine (awake_any _).mono ?_
      rintro e wz ⟨rfl, hkz⟩
      have hKz := hK.trans hkz
      clear hK hkz
      go_wp2
      go_ret
      exact ⟨rfl, hKz⟩
end Go.Proofs.YtlkcooedlkhacaaDoor
