/- The walk of NetsimOrder. -/
import Derived.Test.YtmoimldkagmkaaaQNNk
set_option linter.unusedSimpArgs false
set_option linter.unusedVariables false
namespace Go.Proofs.Ytmoimldkagmkaaa
open Go.RowKit
theorem order_send (list : List (List UInt8)) (h : list.length ≤ 4096) : sendE (NS.new 2 4096) 1 0 list.length = 0 ∧ sendS (NS.new 2 4096) 1 0 list = (NS.new 2 4096).turn 1 0 list := by
  have hk : chk (NS.new 2 4096).n [1, 0] = 0 := by decide
  unfold sendE sendS
  rw [if_neg (by simp [hk]), if_neg (by simp [NS.new]), if_neg (by simp [NS.new]; omega), if_pos ⟨hk, rfl, by simp [NS.new]; omega⟩]
  exact ⟨rfl, rfl⟩
theorem order_full (list : List (List UInt8)) (h : 4096 < list.length) : sendE (NS.new 2 4096) 1 0 list.length = 61 := by
  have hk : chk (NS.new 2 4096).n [1, 0] = 0 := by decide
  unfold sendE
  rw [if_neg (by simp [hk]), if_neg (by simp [NS.new]), if_pos (by simp [NS.new]; omega)]
theorem order_wait (list : List (List UInt8)) {k : Nat} (h : k < list.length) : waitE ((NS.new 2 4096).turn 1 0 (list.drop k)) 1 0 0 = 0 := by
  have hk : chk ((NS.new 2 4096).turn 1 0 (list.drop k)).n [1, 0] = 0 := by show chk 2 [1, 0] = 0; decide
  unfold waitE
  rw [if_neg (by simp [hk]), if_neg]
  show ¬ ((0 : Int) < 0 ∨ ((upd (NS.new 2 4096).q 1 0 (list.drop k) 1 0).length : Int) ≤ 0)
  rw [upd_same, List.length_drop]
  omega
theorem order_msg (list : List (List UInt8)) {k : Nat} (h : k < list.length) : msgS ((NS.new 2 4096).turn 1 0 (list.drop k)) 1 0 0 = list[k] ∧ delS ((NS.new 2 4096).turn 1 0 (list.drop k)) 1 0 0 = (NS.new 2 4096).turn 1 0 (list.drop (k + 1)) := by
  have hw := order_wait list h
  unfold msgS delS
  rw [if_pos hw, if_pos hw]
  have e : ((NS.new 2 4096).turn 1 0 (list.drop k)).q (1 : Int).toNat (0 : Int).toNat = list.drop k := by
    show upd (NS.new 2 4096).q 1 0 (list.drop k) 1 0 = list.drop k
    exact upd_same (NS.new 2 4096).q 1 0 _
  rw [e, show (1 : Int).toNat = 1 from rfl, show (0 : Int).toNat = 0 from rfl, turn_turn, List.drop_eq_getElem_cons h]
  exact ⟨rfl, rfl⟩
theorem fresh_new {A : Nat → Prop} {w w' : World} {g : Nat} (x : fresh w w' g) : w.heap.size ≤ g ∨ A g := by
  rcases x with x | x
  · exact x.elim
  · exact .inl x.1
set_option maxRecDepth 100000 in
set_option maxHeartbeats 1000000 in
theorem netsimOrder_any (list : List (List UInt8)) (v : Value) (w : World) (hv : Parts w v list) (hl : list.length ≤ 5864062014805) (hs : ∀ l ∈ list, l.length ≤ 140737488355328) :
    Calls Try.prog 5 #[v] w fun e w' => e = .returned (.bool true) ∧ Kept w w' := by
  have HN := Lib.hid (new_nk 2 4096 w (by omega) (by omega))
  have HV := Lib.hid hv
  have HS := Lib.hid hs
  obtain ⟨A, c, hvv, hc1, hc2, -⟩ := hv
  subst hvv
  unfold maxLen at hc2
  clear hs
  go_enter Try.func5, Try.ntmps5
  go_wp2_with fail
  refine HN.out.mono ?_
  rintro e w1 ⟨nb, rfl, hn1⟩
  have HN1 := Lib.hid hn1
  have HK1 := Lib.hid hn1.old
  clear hn1
  go_wp2_with fail
  refine (copied_any list _ w1 (HV.out.kept HK1.out) hl HS.out).mono ?_
  rintro e w2 ⟨v2, rfl, hr2, hk2⟩
  have HR2 := Lib.hid hr2
  have HK2 := Lib.hid hk2
  clear hr2 hk2
  go_wp2_with fail
  refine (send_nk HN1.out HK2.out (fun g x => x.elim) 1 0 list v2 (fresh w1 w2) HR2.out (fun g x => fresh_new x) HS.out (by decide)).mono ?_
  rintro e w3 ⟨rfl, hn3, -, -⟩
  have HN3 := Lib.hid hn3
  clear hn3
  by_cases hbig : 4096 < list.length
  · have he := order_full list hbig
    rw [he]
    have t1 : decide ((4096 : Int) < (list.length : Int)) = true := by simp; omega
    go_wp2_with fail
    refine (awake_any _).mono ?_
    rintro e w9 ⟨rfl, k9⟩
    have hkk := HN3.out.old.trans k9
    go_wp2
    go_ret
    exact ⟨rfl, hkk⟩
  · obtain ⟨he, hss⟩ := order_send list (by omega)
    rw [he]
    rw [hss] at HN3
    have t1 : decide ((4096 : Int) < (list.length : Int)) = false := by simp; omega
    clear he hss
    go_wp2
    go_loopw [36] (fun i W => ∃ k : Nat, i = .int .i64 (k : Int) ∧ k ≤ list.length ∧ NK none0 w W nb ((NS.new 2 4096).turn 1 0 (list.drop k)) (1 + k)) (fun i _ => list.length - (intOf i).toNat)
    case atStart => exact ⟨0, rfl, Nat.zero_le _, HN3.out⟩
    case round =>
      obtain ⟨k, rfl, hk, hn⟩ := hrel
      have HNR := Lib.hid hn
      have HKR := Lib.hid hn.old
      clear hn
      by_cases hlt : k < list.length
      · obtain ⟨bb, bo, bu, rfl, hcell0, hbu⟩ := HV.out.at hlt
        have hcell := HKR.out.cell hcell0
        clear hcell0
        have HBU := Lib.hid hbu
        obtain ⟨Ab, cb, hbe, -, -, -⟩ := hbu
        subst hbe
        have g1 : (k : Int) < (list.length : Int) := by omega
        obtain ⟨hm, hd⟩ := order_msg list hlt
        have HDV := Lib.hid (deliver_nk HNR.out (fun g x => x.elim) 1 0 0 (by unfold maxLen; omega))
        rw [order_wait list hlt, hm, hd] at HDV
        generalize list[k] = r at *
        clear hm hd
        go_wp2_with fail
        refine HDV.out.mono ?_
        rintro e w4 ⟨v4, rfl, ho4, -, hn4, hc4⟩
        have HN4 := Lib.hid (hn4.widen (A' := none0) (fun g x => x.elim))
        have hbt := Bts.of_own ho4
        have HB4 := Lib.hid hbt
        obtain ⟨A4, c4, rfl⟩ := own_form ho4
        have hbr : Bts w4 (.slice Ab r.length cb) r := HBU.out.kept hn4.old
        clear hn4 ho4 hbt hc4
        go_wp2_with fail
        refine (same_any r r _ _ w4 hbr HB4.out).mono ?_
        rintro e w5 ⟨rfl, rfl⟩
        have hbb : (r == r) = true := by simp
        rw [hbb]
        go_wp2
        go_roundw
        case rel => exact ⟨k + 1, by go_num, by omega, HN4.out⟩
        case measure => simp [intOf]; omega
      · obtain rfl : k = list.length := by omega
        have HCT := Lib.hid (count_nk HNR.out 1 0)
        have hce : countE ((NS.new 2 4096).turn 1 0 (list.drop list.length)) 1 0 = 0 := by
          have hk : chk ((NS.new 2 4096).turn 1 0 (list.drop list.length)).n [1, 0] = 0 := by show chk 2 [1, 0] = 0; decide
          unfold countE
          rw [if_pos hk]
          show ((upd (NS.new 2 4096).q 1 0 (list.drop list.length) 1 0).length : Int) = 0
          rw [upd_same, List.length_drop]
          omega
        rw [hce] at HCT
        clear hce
        go_wp2_with fail
        refine HCT.out.mono ?_
        rintro e w6 ⟨rfl, hn6, -⟩
        have HK6 := Lib.hid hn6.old
        clear hn6
        go_wp2_with fail
        refine (awake_any _).mono ?_
        rintro e w9 ⟨rfl, k9⟩
        have hkk := HK6.out.trans k9
        go_wp2
        go_ret
        exact ⟨rfl, hkk⟩
end Go.Proofs.Ytmoimldkagmkaaa
