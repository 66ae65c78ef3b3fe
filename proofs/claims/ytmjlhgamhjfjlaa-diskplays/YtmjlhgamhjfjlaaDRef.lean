/- The document's disk in memory; the walks of its Name, Used and Find. -/
import Derived.Test.YtmjlhgamhjfjlaaDOps
set_option linter.unusedSimpArgs false
set_option linter.unusedVariables false
namespace Go.Proofs.Ytmjlhgamhjfjlaa
open Go.RowKit
set_option maxRecDepth 100000 in
set_option maxHeartbeats 1000000 in
theorem name_any (l : List UInt8) (w : World) : Calls Try.prog 33 #[.string ⟨l.toArray⟩] w fun e w' => e = .returned (.bool (okN l)) ∧ w = w' := by
  by_cases h1 : l.length < 1
  · have HN := Lib.hid (okN_short l (.inl h1))
    have t1 : decide ((l.length : Int) < 1) = true := by simp; omega
    go_enter Try.func33, Try.ntmps33
    go_wp2
    go_ret
    exact ⟨ret_bool HN.out.symm, rfl⟩
  by_cases h2 : 40 < l.length
  · have HN := Lib.hid (okN_short l (.inr h2))
    have t1 : decide ((l.length : Int) < 1) = false := by simp; omega
    have t2 : decide ((40 : Int) < (l.length : Int)) = true := by simp; omega
    go_enter Try.func33, Try.ntmps33
    go_wp2
    go_ret
    exact ⟨ret_bool HN.out.symm, rfl⟩
  have HN := Lib.hid (okN_iff l (by omega) (by omega))
  have t1 : decide ((l.length : Int) < 1) = false := by simp; omega
  have t2 : decide ((40 : Int) < (l.length : Int)) = false := by simp; omega
  go_enter Try.func33, Try.ntmps33
  go_wp2
  go_loop [3] (fun i => ∃ k : Nat, k ≤ l.length ∧ i = .int .i64 (k : Int) ∧ (l.take k).all okC = true) (fun i => l.length - (intOf i).toNat)
  case atStart => exact ⟨0, Nat.zero_le _, rfl, rfl⟩
  case round =>
    obtain ⟨k, hk, rfl, hall⟩ := hrel
    have HA := Lib.hid hall
    clear hall
    by_cases hlt : k < l.length
    · have hp : k < (⟨l.toArray⟩ : ByteArray).size := by rw [str_size]; exact hlt
      have g1 : (k : Int) < (l.length : Int) := by omega
      have hg := str_get l k hp
      generalize hc : l[k] = c at *
      have HC := Lib.hid hc
      clear hc
      cases hb : okC c with
      | true =>
        have HB := Lib.hid hb
        have hx : (97 ≤ c.toNat ∧ c.toNat ≤ 122) ∨ (48 ≤ c.toNat ∧ c.toNat ≤ 57) ∨ c.toNat = 46 ∨ c.toNat = 45 := by
          simp only [okC, Bool.or_eq_true, Bool.and_eq_true, decide_eq_true_eq] at hb
          omega
        clear hb
        rcases hx with hx | hx | hx | hx
        · have d1 : decide ((97 : Int) ≤ (c.toNat : Int)) = true := by simp; omega
          have d2 : decide ((c.toNat : Int) ≤ 122) = true := by simp; omega
          go_wp2
          go_round
          case rel => exact ⟨k + 1, by omega, by go_num, all_take hlt HA.out (by rw [HC.out]; exact HB.out)⟩
          case measure => simp [intOf]; omega
        · have d1 : decide ((97 : Int) ≤ (c.toNat : Int)) = false := by simp; omega
          have d3 : decide ((48 : Int) ≤ (c.toNat : Int)) = true := by simp; omega
          have d4 : decide ((c.toNat : Int) ≤ 57) = true := by simp; omega
          go_wp2
          go_round
          case rel => exact ⟨k + 1, by omega, by go_num, all_take hlt HA.out (by rw [HC.out]; exact HB.out)⟩
          case measure => simp [intOf]; omega
        · have d1 : decide ((97 : Int) ≤ (c.toNat : Int)) = false := by simp; omega
          have d3 : decide ((48 : Int) ≤ (c.toNat : Int)) = false := by simp; omega
          have d5 : ((c.toNat : Int) == 46) = true := by simp; omega
          go_wp2
          go_round
          case rel => exact ⟨k + 1, by omega, by go_num, all_take hlt HA.out (by rw [HC.out]; exact HB.out)⟩
          case measure => simp [intOf]; omega
        · have d1 : decide ((97 : Int) ≤ (c.toNat : Int)) = false := by simp; omega
          have d3 : decide ((48 : Int) ≤ (c.toNat : Int)) = false := by simp; omega
          have d5 : ((c.toNat : Int) == 46) = false := by simp; omega
          have d6 : ((c.toNat : Int) == 45) = true := by simp; omega
          go_wp2
          go_round
          case rel => exact ⟨k + 1, by omega, by go_num, all_take hlt HA.out (by rw [HC.out]; exact HB.out)⟩
          case measure => simp [intOf]; omega
      | false =>
        have HB := Lib.hid (show l.all okC = false from all_bad hlt (by rw [HC.out]; exact hb))
        have hx : (c.toNat < 45 ∨ c.toNat = 47) ∨ (57 < c.toNat ∧ c.toNat < 97) ∨ 122 < c.toNat := by
          simp only [okC, Bool.or_eq_false_iff, Bool.and_eq_false_iff, decide_eq_false_iff_not] at hb
          omega
        clear hb
        have d5 : ((c.toNat : Int) == 46) = false := by simp; omega
        have d6 : ((c.toNat : Int) == 45) = false := by simp; omega
        rcases hx with hx | hx | hx
        · have d1 : decide ((97 : Int) ≤ (c.toNat : Int)) = false := by simp; omega
          have d3 : decide ((48 : Int) ≤ (c.toNat : Int)) = false := by simp; omega
          go_wp2
          go_ret
          exact ⟨ret_bool (by rw [HN.out, HB.out]), rfl⟩
        · have d1 : decide ((97 : Int) ≤ (c.toNat : Int)) = false := by simp; omega
          have d3 : decide ((48 : Int) ≤ (c.toNat : Int)) = true := by simp; omega
          have d4 : decide ((c.toNat : Int) ≤ 57) = false := by simp; omega
          go_wp2
          go_ret
          exact ⟨ret_bool (by rw [HN.out, HB.out]), rfl⟩
        · have d1 : decide ((97 : Int) ≤ (c.toNat : Int)) = true := by simp; omega
          have d2 : decide ((c.toNat : Int) ≤ 122) = false := by simp; omega
          have d3 : decide ((48 : Int) ≤ (c.toNat : Int)) = true := by simp; omega
          have d4 : decide ((c.toNat : Int) ≤ 57) = false := by simp; omega
          go_wp2
          go_ret
          exact ⟨ret_bool (by rw [HN.out, HB.out]), rfl⟩
    · obtain rfl : k = l.length := by omega
      rw [List.take_length] at HA
      go_wp2
      go_ret
      exact ⟨ret_bool (by rw [HN.out, HA.out]), rfl⟩
end Go.Proofs.Ytmjlhgamhjfjlaa
