/- The walk of Lose. -/
import Derived.Test.YtnpenabkmpoafaaQNWk4
set_option linter.unusedSimpArgs false
set_option linter.unusedVariables false
namespace Go.Proofs.Ytnpenabkmpoafaa
open Go.RowKit
def NS.lost (s : NS) (P : Nat → Nat → Bool) : NS := { s with q := fun i j => if P i j then [] else s.q i j }
def hit (l : List Int) : Nat → Nat → Bool := fun i j => l.any fun x => decide (x = i) || decide (x = j)
def loseS (s : NS) (l : List Int) : NS := if chk s.n l = 0 then s.lost (hit l) else s
theorem NetAt.congr {w : World} {nb : Nat} {m : NM} {s : NS} {lim : Nat} {F : Nat → Prop} (h : NetAt w nb m s lim F) {q' : Nat → Nat → List (List UInt8)} (hq : ∀ a b, a < s.n → b < s.n → q' a b = s.q a b) : NetAt w nb m { s with q := q' } lim F :=
  ⟨h.net, h.tms, h.tlen, h.qs, h.cs, h.apart, h.rows, h.msgs, fun a b ha hb => (h.same a b ha hb).trans (hq a b ha hb).symm, h.cuts, h.rowAp, h.msgAp, h.one, h.small, h.roomy, fun a b ha hb => by rw [show ({ s with q := q' } : NS).q a b = q' a b from rfl, hq a b ha hb]; exact h.full a b ha hb, h.late, fun a b ha hb l hl => h.light a b ha hb l (by rw [← hq a b ha hb]; exact hl), h.inN, h.inT, h.inQ, h.inC, h.inR, h.inM⟩
theorem chk_all {n : Nat} {l : List Int} (h : chk n l = 0) {k : Nat} (hk : k < l.length) : ∃ x : Nat, l[k] = x ∧ x < n := by
  have h : l.all (okI n) = true := by
    unfold chk at h
    split at h
    · assumption
    · cases h
  have := List.all_eq_true.1 h l[k] (List.getElem_mem hk)
  simp only [okI, Bool.and_eq_true, decide_eq_true_eq] at this
  exact ⟨l[k].toNat, by omega, by omega⟩
theorem ite_three {α : Type} {a b c d : Prop} [Decidable a] [Decidable b] [Decidable c] [Decidable d] {x y : α} (h : a ↔ b ∨ c ∨ d) : (if a then x else y) = if b then x else if c then x else if d then x else y := by
  by_cases h1 : b <;> by_cases h2 : c <;> by_cases h3 : d <;> simp [h, h1, h2, h3]
/-- Node x has lost what it shares with the first k others. -/
def hitK (P : Nat → Nat → Bool) (x k : Nat) : Nat → Nat → Bool := fun i j => P i j || (decide (i = x) && decide (j < k)) || (decide (j = x) && decide (i < k))
theorem NetAt.hitStep {w : World} {nb : Nat} {m : NM} {s : NS} {lim : Nat} {F : Nat → Prop} {P : Nat → Nat → Bool} {x k : Nat} (h : NetAt w nb m ((s.lost (hitK P x k)).lose x k) lim F) : NetAt w nb m (s.lost (hitK P x (k + 1))) lim F := by
  refine NetAt.congr (s := (s.lost (hitK P x k)).lose x k) h (q' := (s.lost (hitK P x (k + 1))).q) (fun i j hi hj => ?_)
  show (if hitK P x (k + 1) i j then [] else s.q i j) = upd (upd (fun i j => if hitK P x k i j then [] else s.q i j) x k []) k x [] i j
  unfold upd
  refine ite_three ?_
  unfold hitK
  cases hP : P i j with
  | true => simp
  | false =>
    simp only [Bool.false_or, Bool.or_eq_true, Bool.and_eq_true, decide_eq_true_eq]
    omega
theorem NetAt.hitEnd {w : World} {nb : Nat} {m : NM} {s : NS} {lim : Nat} {F : Nat → Prop} {l : List Int} {k x : Nat} (hk : k < l.length) (hx : l[k] = x) (h : NetAt w nb m (s.lost (hitK (hit (l.take k)) x s.n)) lim F) : NetAt w nb m (s.lost (hit (l.take (k + 1)))) lim F := by
  refine NetAt.congr (s := s.lost (hitK (hit (l.take k)) x s.n)) h (q' := (s.lost (hit (l.take (k + 1)))).q) (fun i j hi hj => ?_)
  have hi : i < s.n := hi
  have hj : j < s.n := hj
  have e : hit (l.take (k + 1)) i j = hitK (hit (l.take k)) x s.n i j := by
    unfold hitK hit
    rw [List.take_succ_eq_append_getElem hk, List.any_append, List.any_cons, List.any_nil, Bool.or_false, hx, Bool.eq_iff_iff]
    cases (l.take k).any fun y => decide (y = (i : Int)) || decide (y = (j : Int)) with
    | true => simp
    | false =>
      simp only [Bool.false_or, Bool.or_eq_true, Bool.and_eq_true, decide_eq_true_eq]
      omega
  show (if hit (l.take (k + 1)) i j then [] else s.q i j) = if hitK (hit (l.take k)) x s.n i j then [] else s.q i j
  rw [e]
theorem NetAt.hitStart {w : World} {nb : Nat} {m : NM} {s : NS} {lim : Nat} {F : Nat → Prop} {P : Nat → Nat → Bool} {x : Nat} (h : NetAt w nb m (s.lost P) lim F) : NetAt w nb m (s.lost (hitK P x 0)) lim F := by
  have e : hitK P x 0 = P := by funext i j; simp [hitK]
  rw [e]
  exact h
theorem NetAt.hitNone {w : World} {nb : Nat} {m : NM} {s : NS} {lim : Nat} {F : Nat → Prop} {l : List Int} (h : NetAt w nb m s lim F) : NetAt w nb m (s.lost (hit (l.take 0))) lim F := by
  have e : s.lost (hit (l.take 0)) = s := by simp [NS.lost, hit]
  rw [e]
  exact h
set_option maxRecDepth 100000 in
set_option maxHeartbeats 1000000 in
theorem lose_ok (w : World) (nb : Nat) (m : NM) (s : NS) (lim : Nat) (F : Nat → Prop) (h : NetAt w nb m s lim F) (l : List Int) (v : Value) (hv : ∀ W, Chg (fun g => g = m.qb) w W → Ints W v l) (hk : chk s.n l = 0) :
    Calls Try.prog 25 #[.pointer (some ⟨nb, 0, none⟩), v] w fun e w' => e = .returned (.int .i64 0) ∧ (∃ m', NetAt w' nb m' (s.lost (hit l)) lim (ext F w w')) ∧ Chg (fun g => g = m.qb) w w' := by
  have hsm := h.small
  have hv0 := hv w (Chg.refl _ _)
  have HV := Lib.hid hv
  have HCK := Lib.hid (check_any l v nb s.n _ _ w hv0 h.c0 hsm)
  rw [hk] at HCK
  obtain ⟨A, c, rfl, hc1, hc2, -⟩ := hv0
  unfold maxLen at hc2
  have H := Lib.hid h
  have HK := Lib.hid hk
  clear hv h hk
  go_enter Try.func25, Try.ntmps25
  go_wp2_with fail
  refine HCK.out.mono ?_
  rintro e w1 ⟨rfl, rfl⟩
  go_wp2
  go_loopw [19] (fun i W => ∃ k : Nat, i = .int .i64 (k : Int) ∧ k ≤ l.length ∧ (∃ m', NetAt W nb m' (s.lost (hit (l.take k))) lim (ext F w1 W) ∧ m'.qb = m.qb) ∧ Chg (fun g => g = m.qb) w1 W) (fun i _ => l.length - (intOf i).toNat)
  case atStart => exact ⟨0, rfl, Nat.zero_le _, ⟨m, (H.out.mono fun g x => .inl x).hitNone, rfl⟩, Chg.refl _ _⟩
  case round =>
    obtain ⟨k, rfl, hk, ⟨m2, hN, hq2⟩, hC⟩ := hrel
    have HN := Lib.hid hN
    have HQ2 := Lib.hid hq2
    clear hN hq2
    by_cases hlt : k < l.length
    · obtain ⟨b, o, rfl, hcell⟩ := (HV.out wr hC).at' hlt
      obtain ⟨x, hx, hxn⟩ := chk_all HK.out hlt
      have g1 : (k : Int) < (l.length : Int) := by omega
      have HX := Lib.hid hx
      rw [hx] at hcell
      clear hx
      have hc0 := HN.out.c0
      have hn1 : (s.lost (hit (l.take k))).n = s.n := rfl
      rw [hn1] at hc0
      clear hn1
      go_wp2
      go_loopw [29] (fun i W => ∃ o' : Nat, i = .int .i64 (o' : Int) ∧ o' ≤ s.n ∧ (∃ m', NetAt W nb m' (s.lost (hitK (hit (l.take k)) x o')) lim (ext F w1 W) ∧ m'.qb = m.qb) ∧ Chg (fun g => g = m.qb) w1 W) (fun i _ => s.n - (intOf i).toNat)
      case atStart => exact ⟨0, rfl, Nat.zero_le _, ⟨m2, HN.out.hitStart, HQ2.out⟩, hC⟩
      case round =>
        obtain ⟨o', rfl, ho, ⟨m3, hN3, hq3⟩, hC3⟩ := hrel
        have HN3 := Lib.hid hN3
        have HQ3 := Lib.hid hq3
        clear hN3 hq3
        by_cases hlt2 : o' < s.n
        · have g2 : (o' : Int) < (s.n : Int) := by omega
          have HL := Lib.hid fun w h => lose_any w nb m3 (s.lost (hitK (hit (l.take k)) x o')) lim (ext F w1 wr) h x o' hxn hlt2
          go_wp2_with fail
          refine (HL.out _ HN3.out).mono ?_
          rintro e w4 ⟨rfl, ⟨m4, hN4, -, -, hq4⟩, hC4⟩
          rw [HQ3.out] at hC4 hq4
          have HN4 := Lib.hid hN4
          have HQ4 := Lib.hid hq4
          clear hN4 hq4
          go_wp2
          go_roundw
          case rel => exact ⟨o' + 1, by go_num, by omega, ⟨m4, (HN4.out.hitStep).mono (fun g z => ext_ext hC3.size hC4.size z), HQ4.out⟩, hC3.trans hC4 (fun _ _ z => z)⟩
          case measure => simp [intOf]; omega
        · obtain rfl : o' = s.n := by omega
          go_wp2
          go_roundw
          case rel => exact ⟨k + 1, by go_num, by omega, ⟨m3, HN3.out.hitEnd hlt HX.out, HQ3.out⟩, hC3⟩
          case measure => simp [intOf]; omega
    · obtain rfl : k = l.length := by omega
      rw [List.take_length] at HN
      go_wp2
      go_ret
      exact ⟨rfl, ⟨m2, HN.out⟩, hC⟩
theorem losen_any (w : World) (nb : Nat) (m : NM) (s : NS) (lim : Nat) (F : Nat → Prop) (h : NetAt w nb m s lim F) (l : List Int) (v : Value) (hv : ∀ W, Chg (fun g => g = m.qb) w W → Ints W v l) :
    Calls Try.prog 25 #[.pointer (some ⟨nb, 0, none⟩), v] w fun e w' => e = .returned (.int .i64 (chk s.n l)) ∧ (∃ m', NetAt w' nb m' (loseS s l) lim (ext F w w')) ∧ Chg F w w' := by
  unfold loseS
  by_cases hk : chk s.n l = 0
  · rw [hk, if_pos rfl]
    refine (lose_ok w nb m s lim F h l v hv hk).mono ?_
    rintro e w' ⟨h1, h2, h3⟩
    exact ⟨h1, h2, h3.mono fun g _ x => by rw [x]; exact h.inQ⟩
  · have hv0 := hv w (Chg.refl _ _)
    have HCK := Lib.hid (check_any l v nb s.n _ _ w hv0 h.c0 h.small)
    rcases chk_or s.n l with e | e
    · exact absurd e hk
    · rw [e] at HCK ⊢
      rw [if_neg (by decide)]
      have HN := Lib.hid h
      clear h hv hv0
      go_enter Try.func25, Try.ntmps25
      go_wp2_with fail
      refine HCK.out.mono ?_
      rintro e w1 ⟨rfl, rfl⟩
      go_wp2
      go_ret
      exact ⟨rfl, ⟨m, HN.out.mono (fun g x => .inl x)⟩, Chg.refl _ _⟩
end Go.Proofs.Ytnpenabkmpoafaa
