/- The walks of the document's count and find. -/
import Derived.Test.YtnpenabkmpoafaaQNRef
set_option linter.unusedSimpArgs false
set_option linter.unusedVariables false
namespace Go.Proofs.Ytnpenabkmpoafaa
open Go.RowKit
def isAt (a b : Int) (y : Int × Int × List UInt8) : Bool := decide (y.1 = a) && decide (y.2.1 = b)
def cntR (d : RS) (a b : Int) : Nat := (d.list.filter (isAt a b)).length
/-- How many of these are between two nodes. -/
def hits (a b : Int) (vs : List Sent) : Nat := (vs.filter fun y => isAt a b (bare y)).length
theorem hits_bare (a b : Int) (vs : List Sent) : ((vs.map bare).filter (isAt a b)).length = (vs.filter fun y => isAt a b (bare y)).length := by
  rw [List.filter_map, List.length_map]
  rfl
theorem hits_le (a b : Int) (vs : List Sent) : hits a b vs ≤ vs.length := List.length_filter_le _ _
theorem hits_succ (a b : Int) {vs : List Sent} {k : Nat} (hk : k < vs.length) : hits a b (vs.take (k + 1)) = hits a b (vs.take k) + if vs[k].1 = a ∧ vs[k].2.1 = b then 1 else 0 := by
  unfold hits
  rw [List.take_succ_eq_append_getElem hk, List.filter_append, List.length_append]
  congr 1
  by_cases h : vs[k].1 = a ∧ vs[k].2.1 = b
  · rw [if_pos h, List.filter_cons_of_pos (by simp [isAt, bare, h.1, h.2])]
    rfl
  · rw [if_neg h, List.filter_cons_of_neg (fun e => by simp only [isAt, bare, Bool.and_eq_true] at e; exact h ⟨of_decide_eq_true e.1, of_decide_eq_true e.2⟩)]
    rfl
set_option maxRecDepth 100000 in
set_option maxHeartbeats 1000000 in
theorem countR_any (a b : Int) (w : World) (db : Nat) (Z : Array Value) (lv : Value) (vs : List Sent) (d : RS) (G : Nat → Prop) (h : RefAt w db Z lv vs d G) :
    Calls Try.prog 32 #[.pointer (some ⟨db, 0, none⟩), .int .i64 a, .int .i64 b] w fun e w' => e = .returned (.int .i64 (cntR d a b : Int)) ∧ w' = w := by
  have hlen := h.len
  have hfew := h.few
  obtain ⟨A, c, rfl⟩ := own_form h.row
  have H := Lib.hid h
  have c2 := h.c2
  have HSM := Lib.hid h.same
  clear h
  go_enter Try.func32, Try.ntmps32
  go_wp2
  go_loop [7, 8] (fun q i => ∃ k : Nat, k ≤ vs.length ∧ i = .int .i64 (k : Int) ∧ q = .int .i64 (hits a b (vs.take k) : Int)) (fun _ i => vs.length - (intOf i).toNat)
  case atStart => exact ⟨0, Nat.zero_le _, rfl, rfl⟩
  case round =>
    obtain ⟨k, hk, rfl, rfl⟩ := hrel
    by_cases hlt : k < vs.length
    · obtain ⟨g, rfl, r0, r1, -⟩ := H.out.at hlt
      have g1 : (k : Int) < (vs.length : Int) := by omega
      have hle := hits_le a b (vs.take k)
      rw [List.length_take] at hle
      have HTA := Lib.hid (hits_succ a b hlt)
      generalize vs[k] = y at *
      obtain ⟨ya, yb, yv, yl⟩ := y
      simp only at r0 r1
      generalize hits a b (vs.take k) = acc at *
      by_cases ha : ya = a
      · subst ha
        by_cases hb : yb = b
        · subst hb
          go_wp2
          go_round
          case rel => exact ⟨k + 1, by omega, by go_num, by rw [HTA.out, if_pos ⟨rfl, rfl⟩]; go_num⟩
          case measure => simp [intOf]; omega
        · have tb : decide (yb = b) = false := by simpa using hb
          have tb' : (yb == b) = false := by simpa using hb
          have e := HTA.out
          rw [if_neg (fun h => hb h.2)] at e
          have HE := Lib.hid e
          clear e hb
          go_wp2
          go_round
          case rel => exact ⟨k + 1, by omega, by go_num, by rw [HE.out, Nat.add_zero]⟩
          case measure => simp [intOf]; omega
      · have ta : decide (ya = a) = false := by simpa using ha
        have ta' : (ya == a) = false := by simpa using ha
        have e := HTA.out
        rw [if_neg (fun h => ha h.1)] at e
        have HE := Lib.hid e
        clear e ha
        go_wp2
        go_round
        case rel => exact ⟨k + 1, by omega, by go_num, by rw [HE.out, Nat.add_zero]⟩
        case measure => simp [intOf]; omega
    · obtain rfl : k = vs.length := by omega
      rw [List.take_length]
      have hc : hits a b vs = cntR d a b := by unfold cntR hits; rw [← HSM.out, hits_bare]
      rw [hc]
      go_wp2
      go_ret
      exact ⟨rfl, rfl⟩
/-- The i-th message between two nodes stands at the place p. -/
def Place (a b : Int) (vs : List Sent) (i p : Nat) : Prop := ∃ y, vs[p]? = some y ∧ y.1 = a ∧ y.2.1 = b ∧ hits a b (vs.take p) = i
set_option maxRecDepth 100000 in
set_option maxHeartbeats 1000000 in
theorem findR_any (a b : Int) (i : Nat) (w : World) (db : Nat) (Z : Array Value) (lv : Value) (vs : List Sent) (d : RS) (G : Nat → Prop) (h : RefAt w db Z lv vs d G) (hi : i < hits a b vs) :
    Calls Try.prog 37 #[.pointer (some ⟨db, 0, none⟩), .int .i64 a, .int .i64 b, .int .i64 (i : Int)] w fun e w' => (∃ p : Nat, e = .returned (.int .i64 (p : Int)) ∧ p < vs.length ∧ Place a b vs i p) ∧ w' = w := by
  have hfew := h.few
  obtain ⟨A, c, rfl⟩ := own_form h.row
  have H := Lib.hid h
  have c2 := h.c2
  have HI := Lib.hid hi
  have hil := hits_le a b vs
  have hib : i ≤ 5000000 := by omega
  clear h hi hil
  go_enter Try.func37, Try.ntmps37
  go_wp2
  go_loop [3, 9] (fun q i' => ∃ k : Nat, k ≤ vs.length ∧ i' = .int .i64 (k : Int) ∧ hits a b (vs.take k) ≤ i ∧ q = .int .i64 ((i - hits a b (vs.take k) : Nat) : Int)) (fun _ i => vs.length - (intOf i).toNat)
  case atStart => exact ⟨0, Nat.zero_le _, rfl, Nat.zero_le _, rfl⟩
  case round =>
    obtain ⟨k, hk, rfl, hacc, rfl⟩ := hrel
    by_cases hlt : k < vs.length
    · obtain ⟨g, rfl, r0, r1, -⟩ := H.out.at hlt
      have g1 : (k : Int) < (vs.length : Int) := by omega
      have HTA := Lib.hid (hits_succ a b hlt)
      have HPL := Lib.hid (show vs[k].1 = a → vs[k].2.1 = b → hits a b (vs.take k) = i → Place a b vs i k from fun h1 h2 h3 => ⟨vs[k], by simp, h1, h2, h3⟩)
      generalize vs[k] = y at *
      obtain ⟨ya, yb, yv, yl⟩ := y
      simp only at r0 r1
      obtain ⟨acc, hac⟩ : ∃ acc, hits a b (vs.take k) = acc := ⟨_, rfl⟩
      rw [hac] at HTA hacc HPL ⊢
      clear hac
      by_cases ha : ya = a
      · subst ha
        by_cases hb : yb = b
        · subst hb
          have e := HTA.out
          rw [if_pos ⟨rfl, rfl⟩] at e
          have HE := Lib.hid e
          clear e HTA
          by_cases hz : acc = i
          · have HP := Lib.hid (HPL.out rfl rfl hz)
            have hsub : i - acc = 0 := by omega
            rw [hsub]
            clear hz hsub HPL
            go_wp2
            go_ret
            exact ⟨⟨k, rfl, hlt, HP.out⟩, rfl⟩
          · obtain ⟨dd, hdd⟩ : ∃ dd, i - acc = dd + 1 := ⟨i - acc - 1, by omega⟩
            have hdd2 : i - (acc + 1) = dd := by omega
            have hdb : dd ≤ 5000000 := by omega
            have hle1 : acc + 1 ≤ i := by omega
            rw [hdd]
            have HD2 := Lib.hid hdd2
            clear hz hdd hdd2 HPL
            have tz : decide (((dd + 1 : Nat) : Int) = 0) = false := by simp; omega
            go_wp2
            go_round
            case rel => exact ⟨k + 1, by omega, by go_num, by rw [HE.out]; exact hle1, by rw [HE.out, HD2.out]⟩
            case measure => simp [intOf]; omega
        · have tb : decide (yb = b) = false := by simpa using hb
          have tb' : (yb == b) = false := by simpa using hb
          have e := HTA.out
          rw [if_neg (fun h => hb h.2)] at e
          have HE := Lib.hid e
          clear e hb HTA HPL
          go_wp2
          go_round
          case rel => exact ⟨k + 1, by omega, by go_num, by rw [HE.out, Nat.add_zero]; exact hacc, by rw [HE.out, Nat.add_zero]⟩
          case measure => simp [intOf]; omega
      · have ta : decide (ya = a) = false := by simpa using ha
        have ta' : (ya == a) = false := by simpa using ha
        have e := HTA.out
        rw [if_neg (fun h => ha h.1)] at e
        have HE := Lib.hid e
        clear e ha HTA HPL
        go_wp2
        go_round
        case rel => exact ⟨k + 1, by omega, by go_num, by rw [HE.out, Nat.add_zero]; exact hacc, by rw [HE.out, Nat.add_zero]⟩
        case measure => simp [intOf]; omega
    · obtain rfl : k = vs.length := by omega
      rw [List.take_length] at hacc
      have := HI.out
      omega
end Go.Proofs.Ytnpenabkmpoafaa
