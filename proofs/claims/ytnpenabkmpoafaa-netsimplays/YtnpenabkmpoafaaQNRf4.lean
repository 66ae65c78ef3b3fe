/- The document's Send, any. -/
import Derived.Test.YtnpenabkmpoafaaQNRf3
set_option linter.unusedSimpArgs false
set_option linter.unusedVariables false
namespace Go.Proofs.Ytnpenabkmpoafaa
open Go.RowKit
def rSendE (d : RS) (a b : Int) (k : Nat) : Int := if badR d a b then 60 else if d.cut a.toNat b.toNat then 0 else if d.room < cntR d a b + k then 61 else 0
def rSendS (d : RS) (a b : Int) (ms : List (List UInt8)) : RS := if badR d a b then d else if d.cut a.toNat b.toNat then d else if d.room < cntR d a b + ms.length then d else { d with list := d.list ++ ms.map fun l => (a, b, l) }
/-- What a call leaves of the document's network. -/
def RefTo (w w' : World) (db : Nat) (d : RS) (G : Nat → Prop) : Prop := (∃ Z lv vs, RefAt w' db Z lv vs d (ext G w w') ∧ True) ∧ Chg G w w'
theorem RefTo.same {w w' : World} {db : Nat} {Z : Array Value} {lv : Value} {vs : List Sent} {d : RS} {G : Nat → Prop} (h : RefAt w db Z lv vs d G) (k : Kept w w') : RefTo w w' db d G := ⟨⟨Z, lv, vs, (h.kept k).mono fun g x => .inl x, trivial⟩, Chg.of_kept k⟩
set_option maxRecDepth 100000 in
set_option maxHeartbeats 1000000 in
theorem refSend_any (a b : Int) (ms : List (List UInt8)) (v : Value) (w : World) (db : Nat) (Z : Array Value) (lv : Value) (vs : List Sent) (d : RS) (G : Nat → Prop) (h : RefAt w db Z lv vs d G)
    (hv : ∀ W, Chg G w W → Parts W v ms) (hms : ∀ x ∈ ms, x.length ≤ 140737488355328) (hml : ms.length ≤ 140737488355328) (hfew : vs.length + 4096 ≤ 5000000) :
    Calls Try.prog 15 #[.pointer (some ⟨db, 0, none⟩), .int .i64 a, .int .i64 b, v] w fun e w' => e = .returned (.int .i64 (rSendE d a b ms.length)) ∧ RefTo w w' db (rSendS d a b ms) G := by
  have hn := h.small
  have HB := Lib.hid (bad_any a b w db d hn h.c0)
  by_cases hbad : badR d a b = true
  · unfold rSendE rSendS
    rw [if_pos hbad, if_pos hbad]
    rw [hbad] at HB
    have H := Lib.hid h
    clear h hv hms hbad
    go_enter Try.func15, Try.ntmps15
    go_wp2_with fail
    refine HB.out.mono ?_
    rintro e w1 ⟨rfl, rfl⟩
    go_wp2
    go_ret
    exact ⟨rfl, RefTo.same H.out (by first | exact Kept.refl _ | exact (Kept.refl _).drew | exact (Kept.refl _).drew.drew)⟩
  have hbad : badR d a b = false := by simpa using hbad
  obtain ⟨a', b', rfl, rfl, ha, hb⟩ := badR_false hbad
  have cc := h.cc (i := a') (j := b') (by omega) (by omega)
  by_cases hcut : d.cut a' b' = true
  · rw [show rSendE d a' b' ms.length = 0 by unfold rSendE; simp [hbad, hcut], show rSendS d a' b' ms = d by unfold rSendS; simp [hbad, hcut]]
    rw [hbad] at HB
    rw [hcut] at cc
    have H := Lib.hid h
    clear h hv hms hbad hcut
    go_enter Try.func15, Try.ntmps15
    go_wp2_with fail
    refine HB.out.mono ?_
    rintro e w1 ⟨rfl, rfl⟩
    go_wp2
    go_ret
    exact ⟨rfl, RefTo.same H.out (by first | exact Kept.refl _ | exact (Kept.refl _).drew | exact (Kept.refl _).drew.drew)⟩
  have hcut : d.cut a' b' = false := by simpa using hcut
  by_cases hfull : d.room < cntR d a' b' + ms.length
  · rw [show rSendE d a' b' ms.length = 61 by unfold rSendE; simp [hbad, hcut, hfull], show rSendS d a' b' ms = d by unfold rSendS; simp [hbad, hcut, hfull]]
    rw [hbad] at HB
    rw [hcut] at cc
    have hcl : cntR d a' b' ≤ 5000000 := by
      have := hits_le (a' : Int) (b' : Int) vs
      have hc : hits (a' : Int) (b' : Int) vs = cntR d a' b' := by unfold cntR hits; rw [← h.same, hits_bare]
      have := h.few
      omega
    have HC := Lib.hid (show ∀ W, Kept w W → _ from fun W k => countR_any a' b' W db Z lv vs d G (h.kept k))
    have c1 := h.c1
    have hv0 := hv w (Chg.refl _ _)
    obtain ⟨A, c, rfl, hc1, hc2, -⟩ := hv0
    unfold maxLen at hc2
    have t1 : decide ((d.room : Int) < (cntR d a' b' : Int) + (ms.length : Int)) = true := by simp; omega
    have h64 : IntKind.i64.wrap ((cntR d a' b' : Int) + (ms.length : Int)) = (cntR d a' b' : Int) + (ms.length : Int) := IntWalk.i64_in _ (by omega)
    have H := Lib.hid h
    clear h hv hms hbad hcut hfull
    go_enter Try.func15, Try.ntmps15
    go_wp2_with fail
    refine HB.out.mono ?_
    rintro e w1 ⟨rfl, rfl⟩
    go_wp2_with fail
    have hkd := (Kept.refl w1).drew
    generalize hcn : cntR d a' b' = cn at *
    go_region_held3 (fun W => W.cell? ⟨db, 1, none⟩ = some (.int .i64 (d.room : Int)))
      (first | exact c1 | exact hkd.cell c1)
      (first | (go_at_call 32; refine (HC.out _ hkd).mono ?_; rintro e w2 ⟨rfl, rfl⟩))
    go_wp2
    go_ret
    exact ⟨rfl, RefTo.same H.out (by first | exact Kept.refl _ | exact (Kept.refl _).drew | exact (Kept.refl _).drew.drew)⟩
  · rw [show rSendE d a' b' ms.length = 0 by unfold rSendE; simp [hbad, hcut, hfull], show rSendS d a' b' ms = { d with list := d.list ++ ms.map fun l => ((a' : Int), (b' : Int), l) } by unfold rSendS; simp [hbad, hcut, hfull]]
    have hrm := h.roomy
    refine (refSend_ok a' b' ms v w db Z lv vs d G h ha hb hbad hcut hv hms (by omega) (by omega)).mono ?_
    rintro e w' ⟨rfl, ⟨Z', lv', vs', h1⟩, h2⟩
    exact ⟨rfl, ⟨Z', lv', vs', h1, trivial⟩, h2⟩
end Go.Proofs.Ytnpenabkmpoafaa
