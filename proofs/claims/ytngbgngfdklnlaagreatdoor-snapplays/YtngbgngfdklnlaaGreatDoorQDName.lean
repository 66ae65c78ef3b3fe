/- The walks of the program's fits, isName, checkNames, and of the document's Name. -/
import Derived.Test.YtngbgngfdklnlaaGreatDoorProg
import Derived.Test.YtngbgngfdklnlaaGreatDoorGPStrs2
import Derived.Test.YtngbgngfdklnlaaGreatDoorGDPure2
import Derived.OwnWalk
import Derived.BigQuiet
set_option linter.unusedSimpArgs false
set_option linter.unusedVariables false
namespace Go.Proofs.YtngbgngfdklnlaaGreatDoor
open Go.RowKit
theorem ret_bool {a b : Bool} (h : a = b) : Ending.returned (.bool a) = .returned (.bool b) := by rw [h]
theorem ret_int {a b : Int} (h : a = b) : Ending.returned (.int .i64 a) = .returned (.int .i64 b) := by rw [h]
def okI (r : Int) : Bool := (decide (97 ≤ r) && decide (r ≤ 122)) || (decide (48 ≤ r) && decide (r ≤ 57)) || decide (r = 46) || decide (r = 45)
theorem okI_byte (c : UInt8) : okI (c.toNat : Int) = okC c := by
  rw [Bool.eq_iff_iff]
  simp only [okI, okC, Bool.or_eq_true, Bool.and_eq_true, decide_eq_true_eq]
  omega
set_option maxHeartbeats 400000 in
theorem fits_any (r : Int) (w : World) : Calls Tryz.prog 122 #[.int .u8 r] w fun e w' => e = .returned (.bool (okI r)) ∧ w = w' := by
  go_enter Tryz.func122, Tryz.ntmps122
  go_wp2
  all_goals (go_ret; refine ⟨ret_bool ?_, rfl⟩; first | rfl | (rw [Bool.eq_iff_iff]; simp [okI]; omega))
theorem str_size (l : List UInt8) : (⟨l.toArray⟩ : ByteArray).size = l.length := by simp [ByteArray.size]
theorem str_get (l : List UInt8) (k : Nat) (h : k < (⟨l.toArray⟩ : ByteArray).size) : (⟨l.toArray⟩ : ByteArray)[k]'h = l[k]'(by rw [str_size] at h; exact h) := by
  show (l.toArray)[k] = _
  simp
theorem all_bad {α : Type} {f : α → Bool} {l : List α} {k : Nat} (hk : k < l.length) (h : f l[k] = false) : l.all f = false := by
  rw [List.all_eq_false]
  exact ⟨l[k], List.getElem_mem hk, by simp [h]⟩
theorem all_take {α : Type} {f : α → Bool} {l : List α} {k : Nat} (hk : k < l.length) (h : (l.take k).all f = true) (hb : f l[k] = true) : (l.take (k + 1)).all f = true := by
  rw [List.take_succ_eq_append_getElem hk, List.all_append, h, Bool.true_and]
  simp [hb]
theorem okN_short (l : Nm) (h : l.length < 1 ∨ 40 < l.length) : okN l = false := by
  unfold okN
  rcases h with h | h
  · simp; omega
  · simp; omega
theorem okN_iff (l : Nm) (h1 : 1 ≤ l.length) (h2 : l.length ≤ 40) : okN l = l.all okC := by simp [okN, h1, h2]
set_option maxRecDepth 100000 in
set_option maxHeartbeats 400000 in
theorem isName_any (l : List UInt8) (w : World) : Calls Tryz.prog 99 #[.string ⟨l.toArray⟩] w fun e w' => e = .returned (.bool (okN l)) ∧ w = w' := by
  by_cases h1 : l.length < 1
  · have HN := Lib.hid (okN_short l (.inl h1))
    have t1 : decide ((l.length : Int) < 1) = true := by simp; omega
    go_enter Tryz.func99, Tryz.ntmps99
    go_wp2
    go_ret
    exact ⟨ret_bool HN.out.symm, rfl⟩
  by_cases h2 : 40 < l.length
  · have HN := Lib.hid (okN_short l (.inr h2))
    have t1 : decide ((l.length : Int) < 1) = false := by simp; omega
    have t2 : decide ((40 : Int) < (l.length : Int)) = true := by simp; omega
    go_enter Tryz.func99, Tryz.ntmps99
    go_wp2
    go_ret
    exact ⟨ret_bool HN.out.symm, rfl⟩
  have HN := Lib.hid (okN_iff l (by omega) (by omega))
  have t1 : decide ((l.length : Int) < 1) = false := by simp; omega
  have t2 : decide ((40 : Int) < (l.length : Int)) = false := by simp; omega
  go_enter Tryz.func99, Tryz.ntmps99
  go_wp2
  go_loop [14] (fun i => ∃ k : Nat, k ≤ l.length ∧ i = .int .i64 (k : Int) ∧ (l.take k).all okC = true) (fun i => l.length - (intOf i).toNat)
  case atStart => exact ⟨0, Nat.zero_le _, rfl, rfl⟩
  case round =>
    obtain ⟨k, hk, rfl, hall⟩ := hrel
    have HA := Lib.hid hall
    clear hall
    by_cases hlt : k < l.length
    · have hp : k < (⟨l.toArray⟩ : ByteArray).size := by rw [str_size]; exact hlt
      have g1 : (k : Int) < (l.length : Int) := by omega
      cases hb : okC l[k] with
      | true =>
        have HB := Lib.hid hb
        clear hb
        go_wp2_with fail
        first | rw [str_get] | skip
        refine (fits_any _ _).mono ?_
        rintro e w' ⟨rfl, rfl⟩
        have e1 : okI (l[k].toNat : Int) = true := by rw [okI_byte]; exact HB.out
        simp only [e1]
        go_wp2
        go_round
        case rel => exact ⟨k + 1, by omega, by go_num, all_take hlt HA.out HB.out⟩
        case measure => simp [intOf]; omega
      | false =>
        have HB := Lib.hid (all_bad hlt hb)
        have e1 : okI (l[k].toNat : Int) = false := by rw [okI_byte]; exact hb
        clear hb
        go_wp2_with fail
        first | rw [str_get] | skip
        refine (fits_any _ _).mono ?_
        rintro e w' ⟨rfl, rfl⟩
        simp only [e1]
        go_wp2
        go_ret
        exact ⟨ret_bool (by rw [HN.out, HB.out]), rfl⟩
    · obtain rfl : k = l.length := by omega
      rw [List.take_length] at HA
      go_wp2
      go_ret
      exact ⟨ret_bool (by rw [HN.out, HA.out]), rfl⟩
end Go.Proofs.YtngbgngfdklnlaaGreatDoor
