/- The walks of a vector's Check, of Zero, and of the document's Bad, BadVec, SameInts. -/
import Derived.Test.YtgmpbalibdlhdaaQVBal
set_option linter.unusedSimpArgs false
set_option linter.unusedVariables false
namespace Go.Proofs.Ytgmpbalibdlhdaa
open Go.RowKit
theorem okNum_iff (n : Int) : okNum n = true ↔ 0 ≤ n ∧ n ≤ 4611686018427387903 := by unfold okNum; simp
theorem vok_no {l : List Int} {x : Int} (h : x ∈ l) (hx : ¬ (0 ≤ x ∧ x ≤ 4611686018427387903)) : vok l = false := by
  cases hv : vok l with
  | false => rfl
  | true => exact absurd (vok_all hv x h) hx
theorem vok_noLen {l : List Int} (h : l.length < 1 ∨ 7 < l.length) : vok l = false := by
  cases hv : vok l with
  | false => rfl
  | true => have := vok_len hv; omega
theorem vE_no {l : List Int} (h : vok l = false) : vE l = 90 := by unfold vE; rw [h]; rfl
theorem vE_ok {l : List Int} (h : vok l = true) : vE l = 0 := by unfold vE; rw [h]; rfl
theorem vok_take {l : List Int} (h1 : 1 ≤ l.length) (h2 : l.length ≤ 7) (h : ∀ x ∈ l.take l.length, 0 ≤ x ∧ x ≤ 4611686018427387903) : vok l = true := vok_of h1 h2 (by rw [List.take_length] at h; exact h)
theorem take_more {l : List Int} {k : Nat} (hk : k < l.length) {Q : Int → Prop} (h : ∀ x ∈ l.take k, Q x) (hx : Q l[k]) : ∀ x ∈ l.take (k + 1), Q x := by
  rw [List.take_succ_eq_append_getElem hk]
  intro x hm
  rcases List.mem_append.1 hm with hm | hm
  · exact h x hm
  · rw [List.mem_singleton.1 hm]; exact hx
set_option maxRecDepth 100000 in
set_option maxHeartbeats 1000000 in
theorem vcheck_any (l : List Int) (v : Value) (w : World) (hv : Ints w v l) : Calls Try.prog 28 #[v] w fun e w' => e = .returned (.int .i64 (vE l)) ∧ w = w' := by
  obtain ⟨A, c, rfl, hc1, hc2⟩ := hv.form
  unfold maxLen at hc2
  have HV := Lib.hid hv
  clear hv
  by_cases h1 : l.length < 1
  · have he := vE_no (vok_noLen (.inl h1))
    rw [he]
    have t1 : decide ((l.length : Int) < 1) = true := decide_eq_true (by omega)
    go_enter Try.func28, Try.ntmps28
    go_wp2
    go_ret
    exact ⟨rfl, rfl⟩
  · have t1 : decide ((l.length : Int) < 1) = false := decide_eq_false (by omega)
    by_cases h2 : 7 < l.length
    · have he := vE_no (vok_noLen (.inr h2))
      rw [he]
      have t2 : decide ((7 : Int) < (l.length : Int)) = true := decide_eq_true (by omega)
      go_enter Try.func28, Try.ntmps28
      go_wp2
      go_ret
      exact ⟨rfl, rfl⟩
    · have t2 : decide ((7 : Int) < (l.length : Int)) = false := decide_eq_false (by omega)
      have HL := Lib.hid (And.intro (show 1 ≤ l.length by omega) (show l.length ≤ 7 by omega))
      go_enter Try.func28, Try.ntmps28
      go_wp2
      go_loop [15] (fun i => ∃ k : Nat, i = .int .i64 (k : Int) ∧ k ≤ l.length ∧ ∀ x ∈ l.take k, 0 ≤ x ∧ x ≤ 4611686018427387903) (fun i => l.length - (intOf i).toNat)
      case atStart => exact ⟨0, rfl, Nat.zero_le _, fun x hx => by simp at hx⟩
      case round =>
        obtain ⟨k, rfl, hk, hall⟩ := hrel
        have HALL := Lib.hid hall
        clear hall
        by_cases hlt : k < l.length
        · obtain ⟨b, o, rfl, hcell⟩ := HV.out.atI hlt
          have HM := Lib.hid (List.getElem_mem hlt)
          have HT := Lib.hid (fun (h : 0 ≤ l[k] ∧ l[k] ≤ 4611686018427387903) => take_more (Q := fun x => 0 ≤ x ∧ x ≤ 4611686018427387903) hlt HALL.out h)
          have g1 : (k : Int) < (l.length : Int) := by omega
          generalize l[k] = x at *
          by_cases hx1 : x < 0
          · have s1 : decide (x < 0) = true := decide_eq_true hx1
            have he := Lib.hid (vE_no (vok_no HM.out (by omega)))
            go_wp2
            go_ret
            exact ⟨ret_e he.out.symm, rfl⟩
          · have s1 : decide (x < 0) = false := decide_eq_false hx1
            by_cases hx2 : 4611686018427387903 < x
            · have s2 : decide (4611686018427387903 < x) = true := decide_eq_true hx2
              have he := Lib.hid (vE_no (vok_no HM.out (by omega)))
              go_wp2
              go_ret
              exact ⟨ret_e he.out.symm, rfl⟩
            · have s2 : decide (4611686018427387903 < x) = false := decide_eq_false hx2
              go_wp2
              go_round
              case rel => exact ⟨k + 1, by go_num, by omega, HT.out (by omega)⟩
              case measure => simp [intOf]; omega
        · obtain rfl : k = l.length := by omega
          have he := Lib.hid (vE_ok (vok_take HL.out.1 HL.out.2 HALL.out))
          go_wp2
          go_ret
          exact ⟨ret_e he.out.symm, rfl⟩
end Go.Proofs.Ytgmpbalibdlhdaa
