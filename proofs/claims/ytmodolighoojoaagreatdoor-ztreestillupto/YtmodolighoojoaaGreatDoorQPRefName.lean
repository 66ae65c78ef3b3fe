/- The walk of the document's Name. -/
import Derived.Test.YtmodolighoojoaaGreatDoorQPName
namespace Go.Proofs.YtmodolighoojoaaGreatDoor
open Go.RowKit
set_option maxRecDepth 100000 in
set_option maxHeartbeats 1000000 in
theorem refName_long (l : List UInt8) (w : World) (h0 : l ≠ []) (h1 : l ≠ [46]) (h2 : l ≠ [46, 46]) (h3 : l.length ≤ 32) :
    Calls Tryz.prog 200 #[.string ⟨l.toArray⟩] w fun e w' => e = .returned (.bool (isName l)) ∧ w = w' := by
  have HN := Lib.hid (isName_iff l h0 h1 h2 h3)
  have hpos : 1 ≤ l.length := by
    cases l with
    | nil => exact absurd rfl h0
    | cons c r => simp
  have t1 : (l == [46]) = false := by simpa using h1
  have t2 : (l == [46, 46]) = false := by simpa using h2
  have t3 : decide ((32 : Int) < (l.length : Int)) = false := by simp; omega
  have t4 : decide ((l.length : Int) < 1) = false := by simp; omega
  clear h0 h1 h2
  go_enter Tryz.func200, Tryz.ntmps200
  go_wp2
  go_loop [3, 4] (fun i _ => ∃ k : Nat, k ≤ l.length ∧ i = .int .i64 (k : Int) ∧ (l.take k).all okB = true) (fun i _ => l.length - (intOf i).toNat)
  case atStart => exact ⟨0, Nat.zero_le _, rfl, rfl⟩
  case round =>
    obtain ⟨k, hk, rfl, hall⟩ := hrel
    have HA := Lib.hid hall
    clear hall
    by_cases hlt : k < l.length
    · have hp : k < (⟨l.toArray⟩ : ByteArray).size := by rw [str_size]; exact hlt
      have hbx : okR (((⟨l.toArray⟩ : ByteArray)[k]'hp).toNat : Int) = okB l[k] := by rw [okR_byte, str_get]
      have hcase : ((97 ≤ (((⟨l.toArray⟩ : ByteArray)[k]'hp).toNat : Int) ∧ (((⟨l.toArray⟩ : ByteArray)[k]'hp).toNat : Int) ≤ 122) ∧ okB l[k] = true)
          ∨ ((48 ≤ (((⟨l.toArray⟩ : ByteArray)[k]'hp).toNat : Int) ∧ (((⟨l.toArray⟩ : ByteArray)[k]'hp).toNat : Int) ≤ 57) ∧ okB l[k] = true)
          ∨ ((((⟨l.toArray⟩ : ByteArray)[k]'hp).toNat : Int) = 46 ∧ okB l[k] = true)
          ∨ ((((⟨l.toArray⟩ : ByteArray)[k]'hp).toNat : Int) = 95 ∧ okB l[k] = true)
          ∨ ((((⟨l.toArray⟩ : ByteArray)[k]'hp).toNat : Int) = 45 ∧ okB l[k] = true)
          ∨ (122 < (((⟨l.toArray⟩ : ByteArray)[k]'hp).toNat : Int) ∧ okB l[k] = false)
          ∨ ((57 < (((⟨l.toArray⟩ : ByteArray)[k]'hp).toNat : Int) ∧ (((⟨l.toArray⟩ : ByteArray)[k]'hp).toNat : Int) < 97 ∧ (((⟨l.toArray⟩ : ByteArray)[k]'hp).toNat : Int) ≠ 95) ∧ okB l[k] = false)
          ∨ (((((⟨l.toArray⟩ : ByteArray)[k]'hp).toNat : Int) < 48 ∧ (((⟨l.toArray⟩ : ByteArray)[k]'hp).toNat : Int) ≠ 46 ∧ (((⟨l.toArray⟩ : ByteArray)[k]'hp).toNat : Int) ≠ 45) ∧ okB l[k] = false) := by
        rw [← hbx]
        generalize (((⟨l.toArray⟩ : ByteArray)[k]'hp).toNat : Int) = x
        cases ho : okR x <;> simp [okR] at ho <;> simp <;> omega
      clear hbx
      rcases hcase with ⟨⟨c1, c2⟩, hb⟩ | ⟨⟨c1, c2⟩, hb⟩ | ⟨c1, hb⟩ | ⟨c1, hb⟩ | ⟨c1, hb⟩ | ⟨c1, hb⟩ | ⟨⟨c1, c2, c3⟩, hb⟩ | ⟨⟨c1, c2, c3⟩, hb⟩
      · have HB := Lib.hid hb
        clear hb
        go_wp2
        go_round
        case rel => exact ⟨k + 1, by omega, by go_num, all_take hlt HA.out HB.out⟩
        case measure => simp [intOf]; omega
      · have HB := Lib.hid hb
        clear hb
        go_wp2
        go_round
        case rel => exact ⟨k + 1, by omega, by go_num, all_take hlt HA.out HB.out⟩
        case measure => simp [intOf]; omega
      · have HB := Lib.hid hb
        clear hb
        go_wp2
        go_round
        case rel => exact ⟨k + 1, by omega, by go_num, all_take hlt HA.out HB.out⟩
        case measure => simp [intOf]; omega
      · have HB := Lib.hid hb
        clear hb
        go_wp2
        go_round
        case rel => exact ⟨k + 1, by omega, by go_num, all_take hlt HA.out HB.out⟩
        case measure => simp [intOf]; omega
      · have HB := Lib.hid hb
        clear hb
        go_wp2
        go_round
        case rel => exact ⟨k + 1, by omega, by go_num, all_take hlt HA.out HB.out⟩
        case measure => simp [intOf]; omega
      · have HB := Lib.hid (all_bad hlt hb)
        clear hb
        have e46 : ((((⟨l.toArray⟩ : ByteArray)[k]'hp).toNat : Int) == 46) = false := by rw [beq_eq_false_iff_ne]; omega
        have e95 : ((((⟨l.toArray⟩ : ByteArray)[k]'hp).toNat : Int) == 95) = false := by rw [beq_eq_false_iff_ne]; omega
        have e45 : ((((⟨l.toArray⟩ : ByteArray)[k]'hp).toNat : Int) == 45) = false := by rw [beq_eq_false_iff_ne]; omega
        have d1 : decide ((((⟨l.toArray⟩ : ByteArray)[k]'hp).toNat : Int) ≤ 122) = false := by simp only [decide_eq_false_iff_not]; omega
        have d2 : decide ((((⟨l.toArray⟩ : ByteArray)[k]'hp).toNat : Int) ≤ 57) = false := by simp only [decide_eq_false_iff_not]; omega
        go_wp2
        go_ret
        exact ⟨ret_bool (by rw [HN.out, HB.out]), rfl⟩
      · have HB := Lib.hid (all_bad hlt hb)
        clear hb
        have e46 : ((((⟨l.toArray⟩ : ByteArray)[k]'hp).toNat : Int) == 46) = false := by rw [beq_eq_false_iff_ne]; omega
        have e95 : ((((⟨l.toArray⟩ : ByteArray)[k]'hp).toNat : Int) == 95) = false := by rw [beq_eq_false_iff_ne]; omega
        have e45 : ((((⟨l.toArray⟩ : ByteArray)[k]'hp).toNat : Int) == 45) = false := by rw [beq_eq_false_iff_ne]; omega
        have d2 : decide ((((⟨l.toArray⟩ : ByteArray)[k]'hp).toNat : Int) ≤ 57) = false := by simp only [decide_eq_false_iff_not]; omega
        go_wp2
        go_ret
        exact ⟨ret_bool (by rw [HN.out, HB.out]), rfl⟩
      · have HB := Lib.hid (all_bad hlt hb)
        clear hb
        have e46 : ((((⟨l.toArray⟩ : ByteArray)[k]'hp).toNat : Int) == 46) = false := by rw [beq_eq_false_iff_ne]; omega
        have e95 : ((((⟨l.toArray⟩ : ByteArray)[k]'hp).toNat : Int) == 95) = false := by rw [beq_eq_false_iff_ne]; omega
        have e45 : ((((⟨l.toArray⟩ : ByteArray)[k]'hp).toNat : Int) == 45) = false := by rw [beq_eq_false_iff_ne]; omega
        go_wp2
        go_ret
        exact ⟨ret_bool (by rw [HN.out, HB.out]), rfl⟩
    · obtain rfl : k = l.length := by omega
      have HA' := HA.out
      rw [List.take_length] at HA'
      have HB := Lib.hid HA'
      clear HA HA'
      go_wp2
      go_ret
      exact ⟨ret_bool (by rw [HN.out, HB.out]), rfl⟩

set_option maxHeartbeats 400000 in
theorem refName_any (l : List UInt8) (w : World) :
    Calls Tryz.prog 200 #[.string ⟨l.toArray⟩] w fun e w' => e = .returned (.bool (isName l)) ∧ w = w' := by
  by_cases h0 : l = []
  · subst h0
    go_enter Tryz.func200, Tryz.ntmps200
    go_wp2
    go_ret
    exact ⟨rfl, rfl⟩
  by_cases h1 : l = [46]
  · subst h1
    go_enter Tryz.func200, Tryz.ntmps200
    go_wp2
    go_ret
    exact ⟨rfl, rfl⟩
  by_cases h2 : l = [46, 46]
  · subst h2
    go_enter Tryz.func200, Tryz.ntmps200
    go_wp2
    go_ret
    exact ⟨rfl, rfl⟩
  by_cases h3 : l.length ≤ 32
  · exact refName_long l w h0 h1 h2 h3
  · have HN := Lib.hid (isName_short l (.inr (.inr (.inr (by omega)))))
    have t1 : (l == [46]) = false := by simpa using h1
    have t2 : (l == [46, 46]) = false := by simpa using h2
    have t3 : decide ((32 : Int) < (l.length : Int)) = true := by simp; omega
    have t4 : decide ((l.length : Int) < 1) = false := by simp; omega
    clear h0 h1 h2
    go_enter Tryz.func200, Tryz.ntmps200
    go_wp2
    go_ret
    exact ⟨ret_bool HN.out.symm, rfl⟩
end Go.Proofs.YtmodolighoojoaaGreatDoor
