/- The walks of check, New, Count, Clock. -/
import Derived.Test.YtmoimldkagmkaaaQNShf
set_option linter.unusedSimpArgs false
set_option linter.unusedVariables false
namespace Go.Proofs.Ytmoimldkagmkaaa
open Go.RowKit
def okI (n : Nat) (x : Int) : Bool := decide (0 ≤ x) && decide (x < n)
def chk (n : Nat) (l : List Int) : Int := if l.all (okI n) then 0 else 60
theorem ret_int' {a b : Int} (h : a = b) : Ending.returned (.int .i64 a) = Ending.returned (.int .i64 b) := by rw [h]
theorem Ints.at' {w : World} {A : Option Addr} {n c : Nat} {l : List Int} (h : Ints w (.slice A n c) l) {k : Nat} (hk : k < l.length) : ∃ b o, A = some ⟨b, o, none⟩ ∧ w.cell? ⟨b, o + k, none⟩ = some (.int .i64 l[k]) := by
  obtain ⟨A', c', hv, -, -, h3⟩ := h
  obtain ⟨rfl, -, -⟩ : A = A' ∧ n = l.length ∧ c = c' := by simpa using hv
  obtain ⟨b, o, e, hc⟩ := h3 (by omega)
  exact ⟨b, o, e, hc k l[k] (by simp [hk])⟩
theorem chk_bad {n : Nat} {l : List Int} {k : Nat} (hk : k < l.length) (h : okI n l[k] = false) : chk n l = 60 := by
  unfold chk
  rw [if_neg]
  intro ha
  rw [List.all_eq_true] at ha
  rw [ha _ (List.getElem_mem hk)] at h
  cases h
set_option maxRecDepth 100000 in
set_option maxHeartbeats 1000000 in
theorem check_any (l : List Int) (v : Value) (nb n : Nat) (A : Option Addr) (c : Nat) (w : World) (hv : Ints w v l) (hc : w.cell? ⟨nb, 0, none⟩ = some (.slice A n c)) (hn : n ≤ 32) :
    Calls Try.prog 33 #[.pointer (some ⟨nb, 0, none⟩), v] w fun e w' => e = .returned (.int .i64 (chk n l)) ∧ w' = w := by
  have HV := Lib.hid hv
  obtain ⟨Av, cv, rfl, hc1, hc2, -⟩ := hv
  unfold maxLen at hc2
  go_enter Try.func33, Try.ntmps33
  go_wp2
  go_loop [9] (fun i => ∃ k : Nat, k ≤ l.length ∧ i = .int .i64 (k : Int) ∧ (l.take k).all (okI n) = true) (fun i => l.length - (intOf i).toNat)
  case atStart => exact ⟨0, Nat.zero_le _, rfl, rfl⟩
  case round =>
    obtain ⟨k, hk, rfl, hall⟩ := hrel
    have HA := Lib.hid hall
    clear hall
    by_cases hlt : k < l.length
    · obtain ⟨b, o, rfl, hcell⟩ := HV.out.at' hlt
      have g1 : (k : Int) < (l.length : Int) := by omega
      cases hb : okI n l[k] with
      | true =>
        have HB := Lib.hid hb
        have hb2 := hb
        unfold okI at hb2
        simp only [Bool.and_eq_true, decide_eq_true_eq] at hb2
        have t1 : decide (l[k] < 0) = false := by simp; omega
        have t2 : decide ((n : Int) ≤ l[k]) = false := by simp; omega
        have ht : (l.take (k + 1)).all (okI n) = true := by
          rw [List.take_succ_eq_append_getElem hlt, List.all_append, HA.out, List.all_cons, hb]; rfl
        have HT := Lib.hid ht
        clear hb hb2 ht
        generalize l[k] = x at *
        go_wp2
        go_round
        case rel => exact ⟨k + 1, by omega, by go_num, HT.out⟩
        case measure => simp [intOf]; omega
      | false =>
        have HB := Lib.hid (chk_bad hlt hb)
        have hb2 := hb
        unfold okI at hb2
        clear hb
        by_cases h0 : l[k] < 0
        · have t1 : decide (l[k] < 0) = true := by simpa using h0
          clear hb2
          generalize l[k] = x at *
          go_wp2
          go_ret
          exact ⟨ret_int' HB.out.symm, rfl⟩
        · have t1 : decide (l[k] < 0) = false := by simpa using h0
          have t2 : decide ((n : Int) ≤ l[k]) = true := by
            simp only [Bool.and_eq_false_iff, decide_eq_false_iff_not] at hb2
            simp; omega
          have t3 : (n : Int) ≤ l[k] := by simpa using t2
          clear hb2
          generalize l[k] = x at *
          go_wp2
          go_ret
          exact ⟨ret_int' HB.out.symm, rfl⟩
    · obtain rfl : k = l.length := by omega
      rw [List.take_length] at HA
      go_wp2
      go_ret
      exact ⟨ret_int' (by unfold chk; rw [HA.out]; rfl), rfl⟩
end Go.Proofs.Ytmoimldkagmkaaa
