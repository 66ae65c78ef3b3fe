/- The walks of a vector's Check, of Zero, and of the document's Bad, BadVec, SameInts. -/
import Derived.Test.YteopgcbihekcjaaDoorQVBal
set_option linter.unusedSimpArgs false
set_option linter.unusedVariables false
namespace Go.Proofs.YteopgcbihekcjaaDoor
open Go.RowKit
theorem okNum_iff (n : Int) : okNum n = true ↔ 0 ≤ n ∧ n ≤ 4611686018427387903 := by unfold okNum; simp
theorem vok_no {l : List Int} {x : Int} (h : x ∈ l) (hx : ¬ (0 ≤ x ∧ x ≤ 4611686018427387903)) : vok l = false := by
  cases hv : vok l with
  | false => rfl
  | true => exact absurd (vok_all hv x h) hx
theorem vok_noLen {l : List Int} (h : l.length < 1 ∨ 7 < l.length) : vok l = false := by
  cases hv : vok l with
  | false => rfl
  | true => have := vok_len hv; omega
theorem vE_no {l : List Int} (h : vok l = false) : vE l = 90 := by unfold vE; rw [h]; rfl
theorem vE_ok {l : List Int} (h : vok l = true) : vE l = 0 := by unfold vE; rw [h]; rfl
theorem vok_take {l : List Int} (h1 : 1 ≤ l.length) (h2 : l.length ≤ 7) (h : ∀ x ∈ l.take l.length, 0 ≤ x ∧ x ≤ 4611686018427387903) : vok l = true := vok_of h1 h2 (by rw [List.take_length] at h; exact h)
theorem take_more {l : List Int} {k : Nat} (hk : k < l.length) {Q : Int → Prop} (h : ∀ x ∈ l.take k, Q x) (hx : Q l[k]) : ∀ x ∈ l.take (k + 1), Q x := by
  rw [List.take_succ_eq_append_getElem hk]
  intro x hm
  rcases List.mem_append.1 hm with hm | hm
  · exact h x hm
  · rw [List.mem_singleton.1 hm]; exact hx
set_option maxRecDepth 100000 in
set_option maxHeartbeats 1000000 in
theorem vcheck_any (l : List Int) (v : Value) (w : World) (hv : Ints w v l) : Calls Tryd.prog 17 #[v] w fun e w' => e = .returned (.int .i64 (vE l)) ∧ w = w' := by
  obtain ⟨A, c, rfl, hc1, hc2⟩ := hv.form
  unfold maxLen at hc2
  have HV := Lib.hid hv
  clear hv
  by_cases h1 : l.length < 1
  · have he := vE_no (vok_noLen (.inl h1))
    rw [he]
    have t1 : decide ((l.length : Int) < 1) = true := decide_eq_true (by omega)
    go_enter Tryd.func17, Tryd.ntmps17
    go_wp2
    go_ret
    exact ⟨rfl, rfl⟩
  · have t1 : decide ((l.length : Int) < 1) = false := decide_eq_false (by omega)
    by_cases h2 : 7 < l.length
    · have he := vE_no (vok_noLen (.inr h2))
      rw [he]
      have t2 : decide ((7 : Int) < (l.length : Int)) = true := decide_eq_true (by omega)
      go_enter Tryd.func17, Tryd.ntmps17
      go_wp2
      go_ret
      exact ⟨rfl, rfl⟩
    · have t2 : decide ((7 : Int) < (l.length : Int)) = false := decide_eq_false (by omega)
      have HL := Lib.hid (And.intro (show 1 ≤ l.length by omega) (show l.length ≤ 7 by omega))
      go_enter Tryd.func17, Tryd.ntmps17
      go_wp2
      go_loop [15] (fun i => ∃ k : Nat, i = .int .i64 (k : Int) ∧ k ≤ l.length ∧ ∀ x ∈ l.take k, 0 ≤ x ∧ x ≤ 4611686018427387903) (fun i => l.length - (intOf i).toNat)
      case atStart => exact ⟨0, rfl, Nat.zero_le _, fun x hx => by simp at hx⟩
      case round =>
        obtain ⟨k, rfl, hk, hall⟩ := hrel
        have HALL := Lib.hid hall
        clear hall
        by_cases hlt : k < l.length
        · obtain ⟨b, o, rfl, hcell⟩ := HV.out.atI hlt
          have HM := Lib.hid (List.getElem_mem hlt)
          have HT := Lib.hid (fun (h : 0 ≤ l[k] ∧ l[k] ≤ 4611686018427387903) => take_more (Q := fun x => 0 ≤ x ∧ x ≤ 4611686018427387903) hlt HALL.out h)
          have g1 : (k : Int) < (l.length : Int) := by omega
          generalize l[k] = x at *
          by_cases hx1 : x < 0
          · have s1 : decide (x < 0) = true := decide_eq_true hx1
            have he := Lib.hid (vE_no (vok_no HM.out (by omega)))
            go_wp2
            go_ret
            exact ⟨ret_e he.out.symm, rfl⟩
          · have s1 : decide (x < 0) = false := decide_eq_false hx1
            by_cases hx2 : 4611686018427387903 < x
            · have s2 : decide (4611686018427387903 < x) = true := decide_eq_true hx2
              have he := Lib.hid (vE_no (vok_no HM.out (by omega)))
              go_wp2
              go_ret
              exact ⟨ret_e he.out.symm, rfl⟩
            · have s2 : decide (4611686018427387903 < x) = false := decide_eq_false hx2
              go_wp2
              go_round
              case rel => exact ⟨k + 1, by go_num, by omega, HT.out (by omega)⟩
              case measure => simp [intOf]; omega
        · obtain rfl : k = l.length := by omega
          have he := Lib.hid (vE_ok (vok_take HL.out.1 HL.out.2 HALL.out))
          go_wp2
          go_ret
          exact ⟨ret_e he.out.symm, rfl⟩
set_option maxHeartbeats 400000 in
theorem badI_any (n : Int) (w : World) : Calls Tryd.prog 21 #[.int .i64 n] w fun e w' => e = .returned (.bool (!okNum n)) ∧ w = w' := by
  by_cases h1 : n < 0
  · have he : okNum n = false := by unfold okNum; simp; omega
    rw [he]
    have t1 : decide (n < 0) = true := decide_eq_true h1
    go_enter Tryd.func21, Tryd.ntmps21
    go_wp2
    go_ret
    exact ⟨rfl, rfl⟩
  · have t1 : decide (n < 0) = false := decide_eq_false h1
    by_cases h2 : 4611686018427387903 < n
    · have he : okNum n = false := by unfold okNum; simp; omega
      rw [he]
      have t2 : decide (4611686018427387903 < n) = true := decide_eq_true h2
      go_enter Tryd.func21, Tryd.ntmps21
      go_wp2
      go_ret
      exact ⟨rfl, rfl⟩
    · have he : okNum n = true := (okNum_iff n).2 (by omega)
      rw [he]
      have t2 : decide (4611686018427387903 < n) = false := decide_eq_false h2
      go_enter Tryd.func21, Tryd.ntmps21
      go_wp2
      go_ret
      exact ⟨rfl, rfl⟩
set_option maxRecDepth 100000 in
set_option maxHeartbeats 1000000 in
theorem badvec_any (l : List Int) (v : Value) (w : World) (hv : Ints w v l) : Calls Tryd.prog 7 #[v] w fun e w' => e = .returned (.bool (!vok l)) ∧ w = w' := by
  obtain ⟨A, c, rfl, hc1, hc2⟩ := hv.form
  unfold maxLen at hc2
  have HV := Lib.hid hv
  clear hv
  go_enter Tryd.func7, Tryd.ntmps7
  go_wp2
  go_loop [3] (fun i => ∃ k : Nat, i = .int .i64 (k : Int) ∧ k ≤ l.length ∧ ∀ x ∈ l.take k, 0 ≤ x ∧ x ≤ 4611686018427387903) (fun i => l.length - (intOf i).toNat)
  case atStart => exact ⟨0, rfl, Nat.zero_le _, fun x hx => by simp at hx⟩
  case round =>
    obtain ⟨k, rfl, hk, hall⟩ := hrel
    have HALL := Lib.hid hall
    clear hall
    by_cases hlt : k < l.length
    · obtain ⟨b, o, rfl, hcell⟩ := HV.out.atI hlt
      have HM := Lib.hid (List.getElem_mem hlt)
      have HT := Lib.hid (fun (h : 0 ≤ l[k] ∧ l[k] ≤ 4611686018427387903) => take_more (Q := fun x => 0 ≤ x ∧ x ≤ 4611686018427387903) hlt HALL.out h)
      have g1 : (k : Int) < (l.length : Int) := by omega
      generalize l[k] = x at *
      cases hx : okNum x with
      | false =>
        have hx' : ¬ (0 ≤ x ∧ x ≤ 4611686018427387903) := fun h => by rw [(okNum_iff x).2 h] at hx; cases hx
        have he := Lib.hid (vok_no HM.out hx')
        have HX := Lib.hid hx
        clear hx
        go_wp2_with fail
        refine (badI_any x _).mono ?_
        rintro e w2 ⟨rfl, rfl⟩
        rw [HX.out]
        go_wp2
        go_ret
        exact ⟨ret_b (by rw [he.out]; rfl), rfl⟩
      | true =>
        have hx' := (okNum_iff x).1 hx
        have HX := Lib.hid hx
        clear hx
        go_wp2_with fail
        refine (badI_any x _).mono ?_
        rintro e w2 ⟨rfl, rfl⟩
        rw [HX.out]
        go_wp2
        go_round
        case rel => exact ⟨k + 1, by go_num, by omega, HT.out hx'⟩
        case measure => simp [intOf]; omega
    · obtain rfl : k = l.length := by omega
      by_cases h1 : l.length < 1
      · have he := vok_noLen (.inl h1)
        have t1 : decide ((l.length : Int) < 1) = true := decide_eq_true (by omega)
        have HE := Lib.hid he
        clear he
        go_wp2
        go_ret
        exact ⟨ret_b (by rw [HE.out]; rfl), rfl⟩
      · have t1 : decide ((l.length : Int) < 1) = false := decide_eq_false (by omega)
        by_cases h2 : 7 < l.length
        · have he := vok_noLen (.inr h2)
          have t2 : decide ((7 : Int) < (l.length : Int)) = true := decide_eq_true (by omega)
          have HE := Lib.hid he
          clear he
          go_wp2
          go_ret
          exact ⟨ret_b (by rw [HE.out]; rfl), rfl⟩
        · have t2 : decide ((7 : Int) < (l.length : Int)) = false := decide_eq_false (by omega)
          have HE := Lib.hid (vok_take (by omega) (by omega) HALL.out)
          go_wp2
          go_ret
          exact ⟨ret_b (by rw [HE.out]; rfl), rfl⟩
set_option maxHeartbeats 400000 in
theorem zero_bad (n : Int) (w : World) (h : n < 1 ∨ 7 < n) : Calls Tryd.prog 24 #[.int .i64 n] w fun e w' => e = .returned (.tuple #[.slice none 0 0, .int .i64 90]) ∧ w = w' := by
  by_cases h1 : n < 1
  · have t1 : decide (n < 1) = true := decide_eq_true h1
    go_enter Tryd.func24, Tryd.ntmps24
    go_wp2
    go_ret2
    exact ⟨rfl, rfl⟩
  · have t1 : decide (n < 1) = false := decide_eq_false h1
    have t2 : decide (7 < n) = true := decide_eq_true (by omega)
    go_enter Tryd.func24, Tryd.ntmps24
    go_wp2
    go_ret2
    exact ⟨rfl, rfl⟩
set_option maxHeartbeats 400000 in
theorem zero_good (n : Nat) (w : World) (h1 : 1 ≤ n) (h7 : n ≤ 7) : Calls Tryd.prog 24 #[.int .i64 (n : Int)] w fun e w' => ∃ v, e = .returned (.tuple #[v, .int .i64 0]) ∧ w'.ownsRow w.heap.size 3 1 v n (iv (zeros n)) ∧ Kept w w' := by
  obtain ⟨i, hi, hz, hs, hb⟩ := info_int
  obtain ⟨w1, hmk, hrow, hgr⟩ := run_make_full (P := Tryd.prog) w w.heap.size 29 3 i (.int .i64 0) 1 Tryd.underlying29 hi hz hs .i64 .i64 n (by rw [hb]; omega) (by unfold maxLen; omega) (Nat.le_refl _)
  have hk1 : Kept w w1 := (Chg.of_grown (F := no) hgr (fun g hg => by cases hg)).to_kept
  have t1 : decide ((n : Int) < 1) = false := decide_eq_false (by omega)
  have t2 : decide (7 < (n : Int)) = false := decide_eq_false (by omega)
  have HR := Lib.hid hrow
  have HK := Lib.hid hk1
  clear hrow hgr hi hz hs hb hk1
  go_enter Tryd.func24, Tryd.ntmps24
  go_wp2
  go_ret2
  refine ⟨_, rfl, ?_, HK.out⟩
  have := HR.out
  have e : (madeCells (Value.int .i64 0).cells (n * 1)).toList = iv (zeros n) := by
    show (madeCells #[.int .i64 0] (n * 1)).toList = _
    rw [toList_madeCells_one]
    simp [iv, zeros]
  rw [e] at this
  exact this
end Go.Proofs.YteopgcbihekcjaaDoor
