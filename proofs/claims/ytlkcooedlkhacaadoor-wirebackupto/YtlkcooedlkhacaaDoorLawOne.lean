/- The walk of the statement WireOne. -/
import Derived.Test.YtlkcooedlkhacaaDoorAwake
import Derived.Test.YtlkcooedlkhacaaDoorNumWalk
import Derived.Test.YtlkcooedlkhacaaDoorNumBack
import Derived.Test.YtlkcooedlkhacaaDoorMem2
namespace Go.Proofs.YtlkcooedlkhacaaDoor
open Go.RowKit
theorem nums_one (n : Nat) (h : n ≤ 4611686018427387903) : numsRes [(n : Int)] = put n ∧ numsErr [(n : Int)] = 0 := by
  have hk : okNum (n : Int) = true := by unfold okNum; simp; omega
  have hb : badAll [(n : Int)] = false := by simp [badAll, hk]
  exact ⟨by simp [numsRes, hb, putAll, hk], by simp [numsErr, hb]⟩
set_option maxRecDepth 100000 in
set_option maxHeartbeats 400000 in
theorem wireOne_walk (l : List UInt8) (a : Int) (v : Value) (w : World) (hv : Bts w v l) (hlim : l.length ≤ 140737488355328) :
    Calls Tryd.prog 7 #[v, .int .i64 a] w fun e w' => e = .returned (.bool true) ∧ Kept w w' := by
  obtain ⟨A, c, hv', hc1, hc2, -⟩ := id hv
  subst hv'
  unfold maxLen at hc2
  have HV := Lib.hid hv
  clear hv
  rcases numAt_cases l a with ⟨er, h1, h2, h3⟩ | ⟨m, n, cc, rfl, h1, h2, h3, h4, h5⟩
  · have H3 := Lib.hid h3
    clear h3
    go_enter Tryd.func7, Tryd.ntmps7
    go_wp2_with fail
    refine (copy_any l _ _ HV.out hlim).mono ?_
    rintro e w1 ⟨v1, rfl, h1', hk1⟩
    have hb1 := Bts.of_own h1'
    clear h1'
    go_wp2_with fail
    refine (number_read l a _ _ hb1 hlim).mono ?_
    rintro e w2 ⟨rfl, rfl⟩
    rw [H3.out]
    have t1 : ((er : Int) != 0) = true := by rw [bne_iff_ne]; omega
    clear hb1
    go_wp2_with fail
    refine (awake_any _).mono ?_
    rintro e w3 ⟨rfl, hk3⟩
    have hk' := hk1.trans hk3
    clear hk1 hk3
    go_wp2
    go_ret
    exact ⟨rfl, hk'⟩
  · have H1 := Lib.hid h1
    have H4 := Lib.hid h4
    clear h1 h4
    obtain ⟨b, o, rfl⟩ := HV.out.addr (by omega)
    have hcut := HV.out.cut m cc h3
    rw [← H4.out] at hcut
    have HCUT := Lib.hid hcut
    clear hcut
    go_enter Tryd.func7, Tryd.ntmps7
    go_wp2_with fail
    refine (copy_any l _ _ HV.out hlim).mono ?_
    rintro e w1 ⟨v1, rfl, h1', hk1⟩
    have hb1 := Bts.of_own h1'
    clear h1'
    go_wp2_with fail
    refine (number_read l m _ _ hb1 hlim).mono ?_
    rintro e w2 ⟨rfl, rfl⟩
    rw [H1.out]
    clear hb1
    go_wp2_with fail
    refine (numbers_any [(n : Int)] _ _ (Ints.one _ (n : Int) _) (by simp)).mono ?_
    rintro e w2 ⟨v2, rfl, ho, hk2⟩
    rw [(nums_one n h5).1] at ho
    rw [(nums_one n h5).2]
    have hb2 := Bts.of_own ho
    have hk' := (hk1.alloc _).trans hk2
    clear ho hk1 hk2
    have hb3 := HCUT.out.kept hk'
    have t1 : decide ((m : Int) + (cc : Int) ≤ (l.length : Int)) = true := by simp; omega
    have t2 : decide (m + cc ≤ l.length) = true := by simp; omega
    have t3 : decide ((0 : Int) ≤ (m : Int)) = true := by simp
    go_wp2_with fail
    refine (same_any (put n) (put n) _ _ _ hb2 hb3).mono ?_
    rintro e w3 ⟨rfl, rfl⟩
    rw [beq_self_eq_true]
    clear hb2 hb3
    go_wp2_with fail
    refine (awake_any _).mono ?_
    rintro e w4 ⟨rfl, hk4⟩
    have hk5 := hk'.trans hk4
    clear hk' hk4
    go_wp2
    go_ret
    exact ⟨rfl, hk5⟩
end Go.Proofs.YtlkcooedlkhacaaDoor
