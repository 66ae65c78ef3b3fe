/- The walk of Send, where nothing is put. -/
import Derived.Test.YtnpenabkmpoafaaQNWk8
set_option linter.unusedSimpArgs false
set_option linter.unusedVariables false
namespace Go.Proofs.Ytnpenabkmpoafaa
open Go.RowKit
set_option maxRecDepth 100000 in
set_option maxHeartbeats 1000000 in
theorem send_cut (w : World) (nb : Nat) (m : NM) (s : NS) (lim : Nat) (F : Nat → Prop) (h : NetAt w nb m s lim F) (a b : Nat) (ha : a < s.n) (hb : b < s.n) (hcut : s.cut a b = true) (ms : List (List UInt8)) (v : Value)
    (hv : Parts w v ms) :
    Calls Try.prog 12 #[.pointer (some ⟨nb, 0, none⟩), .int .i64 (a : Int), .int .i64 (b : Int), v] w fun e w' => e = .returned (.int .i64 0) ∧ NetAt w' nb m s lim F ∧ Kept w w' := by
  have hsm := h.small
  have hrm := h.roomy
  have hv0 := hv
  have HCK := Lib.hid fun t => h.check2 a b t
  rw [chk_two ha hb] at HCK
  obtain ⟨A, c, rfl, hc1, hc2, -⟩ := hv0
  unfold maxLen at hc2
  have hk1 := (Kept.refl w).alloc (.cells #[.int .i64 (a : Int), .int .i64 (b : Int)] 3)
  have hk2 := (Kept.refl (w.alloc (.cells #[.int .i64 (a : Int), .int .i64 (b : Int)] 3))).alloc (.cells #[.int .i64 (a : Int), .int .i64 (b : Int)] 71)
  have hbx := heap_alloc_new (w.alloc (.cells #[.int .i64 (a : Int), .int .i64 (b : Int)] 3)) (.cells #[.int .i64 (a : Int), .int .i64 (b : Int)] 71)
  have hbs : (w.alloc (.cells #[.int .i64 (a : Int), .int .i64 (b : Int)] 3)).heap.size = w.heap.size + 1 := by simp
  rw [hbs] at hbx
  have b0 := cell_at hbx 0
  have b1 := cell_at hbx 1
  simp only [List.getElem?_toArray, List.getElem?_cons_zero, List.getElem?_cons_succ] at b0 b1
  have hkb := hk1.trans hk2
  obtain ⟨A0, c0, hq0⟩ := own_form (h.rows a b ha hb)
  have hul := h.ulen ha hb
  rw [hul] at hq0
  have H := Lib.hid h
  have HQ0 := Lib.hid hq0
  have HUL := Lib.hid hul
  have hfl : (s.q a b).length ≤ 4096 := by have := h.full a b ha hb; omega
  clear hv h hul hk1 hk2 hbx hbs hq0
  generalize hqn : (s.q a b).length = qn at *
  have HQN := Lib.hid hqn
  clear hqn
  go_enter Try.func12, Try.ntmps12
  go_wp2_with fail
  refine (HCK.out _).mono ?_
  rintro e w1 ⟨rfl, rfl⟩
  have h64 : IntKind.i64.wrap ((s.room : Int) - (qn : Int)) = (s.room : Int) - (qn : Int) := IntWalk.i64_in _ (by omega)
  go_wp2
  generalize (w.alloc (.cells #[.int .i64 (a : Int), .int .i64 (b : Int)] 3)).alloc (.cells #[.int .i64 (a : Int), .int .i64 (b : Int)] 71) = wb at *
  have c3 := (H.out.kept hkb).c3
  have hlk := (H.out.kept (hkb.trans (Kept.refl wb).drew)).cs.look_ok (a := a) (b := b) (by omega) (by omega)
  rw [(H.out.kept hkb).cuts a b ha hb, hcut] at hlk
  have hkc := (hkb.alloc (.cells #[] 74)).drew
  have HC := Lib.hid (H.out.kept hkc)
  have hlk' := HC.out.cs.look_ok (a := a) (b := b) (by omega) (by omega)
  rw [HC.out.cuts a b ha hb, hcut] at hlk'
  unfold pv at hlk hlk'
  go_cut [12] (fun t W => t = .bool true ∧ W = (wb.alloc (.cells #[] 74)).drew)
  case first =>
    go_region_held3 (fun W => W.cell? ⟨nb, 3, none⟩ = some (.map (some m.cb)) ∧ W.cell? ⟨w.heap.size + 1, 0, none⟩ = some (.int .i64 (a : Int)) ∧ W.cell? ⟨w.heap.size + 1, 1, none⟩ = some (.int .i64 (b : Int)) ∧ Kept wb W)
      (refine ⟨Kept.cell ?_ c3, Kept.cell ?_ b0, Kept.cell ?_ b1, ?_⟩ <;> repeat (first | exact Kept.refl _ | assumption | refine Kept.drew ?_ | refine Kept.alloc ?_ _))
      (first | (go_at_call 33))
    all_goals
      go_wp2
      go_meet
      case rel => exact ⟨rfl, rfl⟩
  case rest =>
  obtain ⟨rfl, rfl⟩ := hcut
  clear hlk hlk' c3 b0 b1
  go_wp2
  go_ret
  exact ⟨rfl, HC.out, hkc⟩
set_option maxRecDepth 100000 in
set_option maxHeartbeats 1000000 in
theorem send_full (w : World) (nb : Nat) (m : NM) (s : NS) (lim : Nat) (F : Nat → Prop) (h : NetAt w nb m s lim F) (a b : Nat) (ha : a < s.n) (hb : b < s.n) (hcut : s.cut a b = false) (ms : List (List UInt8)) (v : Value)
    (hv : Parts w v ms) (hfit : s.room < (s.q a b).length + ms.length) :
    Calls Try.prog 12 #[.pointer (some ⟨nb, 0, none⟩), .int .i64 (a : Int), .int .i64 (b : Int), v] w fun e w' => e = .returned (.int .i64 61) ∧ NetAt w' nb m s lim F ∧ Kept w w' := by
  have hsm := h.small
  have hrm := h.roomy
  have hv0 := hv
  have HCK := Lib.hid fun t => h.check2 a b t
  rw [chk_two ha hb] at HCK
  obtain ⟨A, c, rfl, hc1, hc2, -⟩ := hv0
  unfold maxLen at hc2
  have hk1 := (Kept.refl w).alloc (.cells #[.int .i64 (a : Int), .int .i64 (b : Int)] 3)
  have hk2 := (Kept.refl (w.alloc (.cells #[.int .i64 (a : Int), .int .i64 (b : Int)] 3))).alloc (.cells #[.int .i64 (a : Int), .int .i64 (b : Int)] 71)
  have hbx := heap_alloc_new (w.alloc (.cells #[.int .i64 (a : Int), .int .i64 (b : Int)] 3)) (.cells #[.int .i64 (a : Int), .int .i64 (b : Int)] 71)
  have hbs : (w.alloc (.cells #[.int .i64 (a : Int), .int .i64 (b : Int)] 3)).heap.size = w.heap.size + 1 := by simp
  rw [hbs] at hbx
  have b0 := cell_at hbx 0
  have b1 := cell_at hbx 1
  simp only [List.getElem?_toArray, List.getElem?_cons_zero, List.getElem?_cons_succ] at b0 b1
  have hkb := hk1.trans hk2
  obtain ⟨A0, c0, hq0⟩ := own_form (h.rows a b ha hb)
  have hul := h.ulen ha hb
  rw [hul] at hq0
  have H := Lib.hid h
  have HQ0 := Lib.hid hq0
  have HUL := Lib.hid hul
  have hfl : (s.q a b).length ≤ 4096 := by have := h.full a b ha hb; omega
  clear hv h hul hk1 hk2 hbx hbs hq0
  generalize hqn : (s.q a b).length = qn at *
  have HQN := Lib.hid hqn
  clear hqn
  go_enter Try.func12, Try.ntmps12
  go_wp2_with fail
  refine (HCK.out _).mono ?_
  rintro e w1 ⟨rfl, rfl⟩
  have t1 : decide ((s.room : Int) - (qn : Int) < (ms.length : Int)) = true := by simp; omega
  have h64 : IntKind.i64.wrap ((s.room : Int) - (qn : Int)) = (s.room : Int) - (qn : Int) := IntWalk.i64_in _ (by omega)
  go_wp2
  generalize (w.alloc (.cells #[.int .i64 (a : Int), .int .i64 (b : Int)] 3)).alloc (.cells #[.int .i64 (a : Int), .int .i64 (b : Int)] 71) = wb at *
  have c3 := (H.out.kept hkb).c3
  have hlk := (H.out.kept (hkb.trans (Kept.refl wb).drew)).cs.look_ok (a := a) (b := b) (by omega) (by omega)
  rw [(H.out.kept hkb).cuts a b ha hb, hcut] at hlk
  have hkc := (hkb.alloc (.cells #[] 74)).drew
  have HC := Lib.hid (H.out.kept hkc)
  have hlk' := HC.out.cs.look_ok (a := a) (b := b) (by omega) (by omega)
  rw [HC.out.cuts a b ha hb, hcut] at hlk'
  unfold pv at hlk hlk'
  go_cut [12] (fun t W => t = .bool false ∧ W = (wb.alloc (.cells #[] 74)).drew)
  case first =>
    go_region_held3 (fun W => W.cell? ⟨nb, 3, none⟩ = some (.map (some m.cb)) ∧ W.cell? ⟨w.heap.size + 1, 0, none⟩ = some (.int .i64 (a : Int)) ∧ W.cell? ⟨w.heap.size + 1, 1, none⟩ = some (.int .i64 (b : Int)) ∧ Kept wb W)
      (refine ⟨Kept.cell ?_ c3, Kept.cell ?_ b0, Kept.cell ?_ b1, ?_⟩ <;> repeat (first | exact Kept.refl _ | assumption | refine Kept.drew ?_ | refine Kept.alloc ?_ _))
      (first | (go_at_call 33))
    all_goals
      go_wp2
      go_meet
      case rel => exact ⟨rfl, rfl⟩
  case rest =>
  obtain ⟨rfl, rfl⟩ := hcut
  have e0 := ((Kept.refl wb).alloc (.cells #[] 74)).drew.cell b0
  have e1 := ((Kept.refl wb).alloc (.cells #[] 74)).drew.cell b1
  have d2 := HC.out.c2
  have d1 := HC.out.c1
  clear hlk hlk' c3 b0 b1
  generalize (wb.alloc (.cells #[] 74)).drew = W2 at *
  have hq := (HC.out.kept (Kept.refl W2).drew).qs.look (a := a) (b := b) (by omega) (by omega)
  rw [HQ0.out] at hq
  unfold pv at hq
  go_wp2
  go_region
  have hkd := hkc.trans (Kept.refl W2).drew
  have HD := Lib.hid (H.out.kept hkd)
  have d1 := HD.out.c1
  clear hq d2 hkc hkb HC e0 e1
  generalize W2.drew = W3 at *
  go_wp2
  go_ret
  exact ⟨rfl, HD.out, hkd⟩
def sendE (s : NS) (a b : Int) (k : Nat) : Int := if chk s.n [a, b] ≠ 0 then 60 else if s.cut a.toNat b.toNat then 0 else if s.room < (s.q a.toNat b.toNat).length + k then 61 else 0
def sendS (s : NS) (a b : Int) (ms : List (List UInt8)) : NS := if chk s.n [a, b] = 0 ∧ s.cut a.toNat b.toNat = false ∧ (s.q a.toNat b.toNat).length + ms.length ≤ s.room then s.turn a.toNat b.toNat (s.q a.toNat b.toNat ++ ms) else s
def growI (m : NM) (a b : Int) : Nat → Prop := grow m a.toNat b.toNat
theorem send_any (w : World) (nb : Nat) (m : NM) (s : NS) (lim : Nat) (F : Nat → Prop) (h : NetAt w nb m s lim F) (a b : Int) (ms : List (List UInt8)) (v : Value)
    (hv0 : Parts w v ms) (hv : chk s.n [a, b] = 0 → ∀ W, Chg (growI m a b) w W → Parts W v ms) (hms : ∀ x ∈ ms, x.length ≤ 140737488355328) (hl : lim < maxLen) :
    Calls Try.prog 12 #[.pointer (some ⟨nb, 0, none⟩), .int .i64 a, .int .i64 b, v] w fun e w' => e = .returned (.int .i64 (sendE s a b ms.length)) ∧ (∃ m', NetAt w' nb m' (sendS s a b ms) (lim + 1) (ext F w w')) ∧ Chg F w w' ∧ (chk s.n [a, b] = 0 → Chg (growI m a b) w w') := by
  by_cases hk : chk s.n [a, b] = 0
  · have hv := hv hk
    obtain ⟨a, b, rfl, rfl, ha, hb⟩ := chk_two_inv hk
    unfold sendE sendS growI at *
    rw [if_neg (by simp [hk])]
    simp only [Int.toNat_natCast] at *
    have hF : ∀ g, g < w.heap.size → grow m a b g → F g := fun g _ x => by
      rcases x with rfl | x
      · exact h.inQ
      · exact h.inR a b g ha hb x
    cases hc : s.cut a b with
    | true =>
      refine (send_cut w nb m s lim F h a b ha hb hc ms v hv0).mono ?_
      rintro e w' ⟨h1, h2, h3⟩
      rw [if_pos rfl, if_neg (by simp)]
      exact ⟨h1, ⟨m, (h2.mono fun g x => .inl x).more (by omega)⟩, Chg.of_kept h3, fun _ => Chg.of_kept h3⟩
    | false =>
      by_cases hf : s.room < (s.q a b).length + ms.length
      · refine (send_full w nb m s lim F h a b ha hb hc ms v hv0 hf).mono ?_
        rintro e w' ⟨h1, h2, h3⟩
        rw [if_neg (by simp), if_pos hf, if_neg (by omega)]
        exact ⟨h1, ⟨m, (h2.mono fun g x => .inl x).more (by omega)⟩, Chg.of_kept h3, fun _ => Chg.of_kept h3⟩
      · refine (send_ok w nb m s lim F h a b ha hb hc ms v hv hms (by omega) hl).mono ?_
        rintro e w' ⟨h1, h2, h3⟩
        rw [if_neg (by simp), if_neg hf, if_pos ⟨hk, rfl, by omega⟩]
        exact ⟨h1, h2, h3.mono hF, fun _ => h3⟩
  · unfold sendE sendS
    rw [if_pos hk, if_neg (by simp [hk])]
    have HCK := Lib.hid fun t => h.check2 a b t
    have hk1 := (Kept.refl w).alloc (.cells #[.int .i64 a, .int .i64 b] 3)
    rcases chk_or s.n [a, b] with e | e
    · exact absurd e hk
    · rw [e] at HCK
      have HN := Lib.hid (h.kept hk1)
      obtain ⟨A, c, rfl, hc1, hc2, -⟩ := hv0
      clear hv h
      go_enter Try.func12, Try.ntmps12
      go_wp2_with fail
      refine (HCK.out _).mono ?_
      rintro e w1 ⟨rfl, rfl⟩
      go_wp2
      go_ret
      exact ⟨rfl, ⟨m, (HN.out.mono (fun g x => .inl x)).more (by omega)⟩, Chg.of_kept hk1, fun e => absurd e hk⟩
theorem send_F (w : World) (nb : Nat) (m : NM) (s : NS) (lim : Nat) (F : Nat → Prop) (h : NetAt w nb m s lim F) (a b : Int) (ms : List (List UInt8)) (v : Value)
    (hv : ∀ W, Chg F w W → Parts W v ms) (hms : ∀ x ∈ ms, x.length ≤ 140737488355328) (hl : lim < maxLen) :
    Calls Try.prog 12 #[.pointer (some ⟨nb, 0, none⟩), .int .i64 a, .int .i64 b, v] w fun e w' => e = .returned (.int .i64 (sendE s a b ms.length)) ∧ (∃ m', NetAt w' nb m' (sendS s a b ms) (lim + 1) (ext F w w')) ∧ Chg F w w' := by
  refine (send_any w nb m s lim F h a b ms v (hv w (Chg.refl _ _)) (fun hk W c => hv W (c.mono fun g _ x => ?_)) hms hl).mono ?_
  · obtain ⟨a, b, rfl, rfl, ha, hb⟩ := chk_two_inv hk
    rcases x with rfl | x
    · exact h.inQ
    · exact h.inR a b g ha hb x
  · rintro e w' ⟨h1, h2, h3, -⟩
    exact ⟨h1, h2, h3⟩
end Go.Proofs.Ytnpenabkmpoafaa
