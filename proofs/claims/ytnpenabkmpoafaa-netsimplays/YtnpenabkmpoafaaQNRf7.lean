/- The document's Repeat. -/
import Derived.Test.YtnpenabkmpoafaaQNRf5
set_option linter.unusedSimpArgs false
set_option linter.unusedVariables false
namespace Go.Proofs.Ytnpenabkmpoafaa
open Go.RowKit
def rPick (d : RS) (a b i : Int) : List UInt8 := (((d.list.filter (isAt a b)).map fun y => y.2.2)[i.toNat]?).getD []
def rWait (d : RS) (a b i : Int) : Int := if badR d a b then 60 else if i < 0 ∨ (cntR d a b : Int) ≤ i then 62 else 0
def rRepE (d : RS) (a b i : Int) : Int := if rWait d a b i = 0 then (if d.room ≤ cntR d a b then 61 else 0) else rWait d a b i
def rRepS (d : RS) (a b i : Int) : RS := if rRepE d a b i = 0 then { d with list := d.list ++ [(a, b, rPick d a b i)] } else d
theorem filter_at {α : Type} (q : α → Bool) (vs : List α) {p : Nat} {y : α} (hy : vs[p]? = some y) (hq : q y = true) : (vs.filter q)[((vs.take p).filter q).length]? = some y := by
  obtain ⟨hp, rfl⟩ := List.getElem?_eq_some_iff.1 hy
  have e : vs.filter q = (vs.take p).filter q ++ vs[p] :: (vs.drop (p + 1)).filter q := by
    conv => lhs; rw [← List.take_append_drop p vs, List.drop_eq_getElem_cons hp, List.filter_append, List.filter_cons_of_pos hq]
  rw [e, List.getElem?_append_right (Nat.le_refl _), Nat.sub_self]
  rfl
theorem RefAt.place {w : World} {db : Nat} {Z : Array Value} {A : Option Addr} {c n : Nat} {vs : List Sent} {d : RS} {G : Nat → Prop} (h : RefAt w db Z (.slice A n c) vs d G) {a b : Int} {i p : Nat} (hp : p < vs.length) (hpl : Place a b vs i p) :
    ∃ (g : Nat) (Ay : Option Addr) (cy : Nat) (r : List UInt8), A = some ⟨g, 0, none⟩ ∧ w.cell? ⟨g, p * 3 + 2, none⟩ = some (.slice Ay r.length cy) ∧ (∀ W, Kept w W → Bts W (.slice Ay r.length cy) r) ∧ r = rPick d a b i ∧ (∃ y ∈ d.list, y.2.2 = r) := by
  obtain ⟨y, h1, h2, h3, h4⟩ := hpl
  obtain ⟨hp', hy⟩ := List.getElem?_eq_some_iff.1 h1
  obtain ⟨g, e, -, -, r2⟩ := h.at hp
  have hv := h.vals vs[p] (List.getElem_mem hp)
  rw [hy] at hv r2
  obtain ⟨ya, yb, yv, yl⟩ := y
  simp only at hv r2 h2 h3
  obtain ⟨Ay, cy, rfl⟩ := own_form hv
  refine ⟨g, Ay, cy, yl, e, r2, fun W k => Bts.of_own (own_kept hv k), ?_, ?_⟩
  · unfold rPick
    rw [← h.same]
    have := filter_at (fun y => isAt a b (bare y)) vs h1 (by simp [isAt, bare, h2, h3])
    rw [show ((vs.take p).filter fun y => isAt a b (bare y)).length = i from h4] at this
    rw [List.filter_map, List.getElem?_map, List.getElem?_map, Int.toNat_natCast, show (isAt a b ∘ bare) = fun y => isAt a b (bare y) from rfl, this]
    rfl
  · refine ⟨(ya, yb, yl), ?_, rfl⟩
    rw [← h.same]
    exact List.mem_map.2 ⟨_, hy ▸ List.getElem_mem hp', rfl⟩
theorem hits_cnt {w : World} {db : Nat} {Z : Array Value} {lv : Value} {vs : List Sent} {d : RS} {G : Nat → Prop} (h : RefAt w db Z lv vs d G) (a b : Int) : hits a b vs = cntR d a b := by
  unfold cntR hits
  rw [← h.same, hits_bare]
set_option maxRecDepth 100000 in
set_option maxHeartbeats 4000000 in
theorem refRepeat_any (a b i : Int) (w : World) (db : Nat) (Z : Array Value) (lv : Value) (vs : List Sent) (d : RS) (G : Nat → Prop) (h : RefAt w db Z lv vs d G) (hfew : vs.length + 1 ≤ 5000000) (hsm : ∀ y ∈ d.list, y.2.2.length ≤ 140737488355328) :
    Calls Try.prog 20 #[.pointer (some ⟨db, 0, none⟩), .int .i64 a, .int .i64 b, .int .i64 i] w fun e w' => e = .returned (.int .i64 (rRepE d a b i)) ∧ RefTo w w' db (rRepS d a b i) G := by
  have hn := h.small
  have HB := Lib.hid (bad_any a b w db d hn h.c0)
  have HC := Lib.hid (show ∀ W, Kept w W → _ from fun W k => countR_any a b W db Z lv vs d G (h.kept k))
  have c1 := h.c1
  have hcl : cntR d a b ≤ 5000000 := by
    have := hits_le a b vs
    have := hits_cnt h a b
    omega
  by_cases hbad : badR d a b = true
  · have HT := Lib.hid (show rRepE d a b i = 60 ∧ rRepS d a b i = d from ⟨by simp [rRepE, rWait, hbad], by simp [rRepS, rRepE, rWait, hbad]⟩)
    rw [hbad] at HB
    have H := Lib.hid h
    clear h hbad hcl c1
    go_enter Try.func20, Try.ntmps20
    go_wp2_with fail
    refine HB.out.mono ?_
    rintro e w1 ⟨rfl, rfl⟩
    go_wp2
    go_ret
    rw [HT.out.1, HT.out.2]
    exact ⟨rfl, RefTo.same H.out (by first | exact Kept.refl _ | exact (Kept.refl _).drew | exact (Kept.refl _).drew.drew)⟩
  have hbad : badR d a b = false := by simpa using hbad
  rw [hbad] at HB
  by_cases hneg : i < 0
  · have HT := Lib.hid (show rRepE d a b i = 62 ∧ rRepS d a b i = d from ⟨by simp [rRepE, rWait, hbad, hneg], by simp [rRepS, rRepE, rWait, hbad, hneg]⟩)
    have t1 : decide (i < 0) = true := by simpa using hneg
    have H := Lib.hid h
    clear h hbad hcl c1 hneg
    go_enter Try.func20, Try.ntmps20
    go_wp2_with fail
    refine HB.out.mono ?_
    rintro e w1 ⟨rfl, rfl⟩
    go_wp2
    go_ret
    rw [HT.out.1, HT.out.2]
    exact ⟨rfl, RefTo.same H.out (by first | exact Kept.refl _ | exact (Kept.refl _).drew | exact (Kept.refl _).drew.drew)⟩
  have t1 : decide (i < 0) = false := by simpa using hneg
  by_cases hov : (cntR d a b : Int) ≤ i
  · have HT := Lib.hid (show rRepE d a b i = 62 ∧ rRepS d a b i = d from ⟨by simp [rRepE, rWait, hbad, hov], by simp [rRepS, rRepE, rWait, hbad, hov]⟩)
    have t2 : decide ((cntR d a b : Int) ≤ i) = true := by simpa using hov
    have H := Lib.hid h
    clear h hbad hcl c1 hneg hov
    go_enter Try.func20, Try.ntmps20
    go_wp2_with fail
    refine HB.out.mono ?_
    rintro e w1 ⟨rfl, rfl⟩
    generalize cntR d a b = cn at *
    go_wp2_with fail
    refine (HC.out _ (Kept.refl _)).mono ?_
    rintro e w1 ⟨rfl, rfl⟩
    go_wp2
    go_ret
    rw [HT.out.1, HT.out.2]
    exact ⟨rfl, RefTo.same H.out (by first | exact Kept.refl _ | exact (Kept.refl _).drew | exact (Kept.refl _).drew.drew)⟩
  have t2 : decide ((cntR d a b : Int) ≤ i) = false := by simpa using hov
  have hw0 : rWait d a b i = 0 := by unfold rWait; rw [if_neg (by simp [hbad]), if_neg (by omega)]
  obtain ⟨i', rfl⟩ : ∃ i' : Nat, i = i' := ⟨i.toNat, by omega⟩
  have t2n : decide (cntR d a b ≤ i') = false := by simp; omega
  by_cases hfull : d.room ≤ cntR d a b
  · have HT := Lib.hid (show rRepE d a b i' = 61 ∧ rRepS d a b i' = d from ⟨by simp [rRepE, hw0, hfull], by simp [rRepS, rRepE, hw0, hfull]⟩)
    have t3 : decide ((d.room : Int) ≤ (cntR d a b : Int)) = true := by simpa using hfull
    have t3n : decide (d.room ≤ cntR d a b) = true := by simpa using hfull
    have H := Lib.hid h
    clear h hbad hneg hov hw0 hfull
    go_enter Try.func20, Try.ntmps20
    go_wp2_with fail
    refine HB.out.mono ?_
    rintro e w1 ⟨rfl, rfl⟩
    generalize cntR d a b = cn at *
    go_wp2_with fail
    refine (HC.out _ (Kept.refl _)).mono ?_
    rintro e w1 ⟨rfl, rfl⟩
    go_wp2_with fail
    have hkd := (Kept.refl w1).drew
    go_region_held3 (fun W => W.cell? ⟨db, 1, none⟩ = some (.int .i64 (d.room : Int)))
      (first | exact c1 | exact hkd.cell c1)
      (first | (go_at_call 32; refine (HC.out _ hkd).mono ?_; rintro e w2 ⟨rfl, rfl⟩))
    go_wp2
    go_ret
    rw [HT.out.1, HT.out.2]
    exact ⟨rfl, RefTo.same H.out (by first | exact Kept.refl _ | exact (Kept.refl _).drew | exact (Kept.refl _).drew.drew)⟩
  · have HT := Lib.hid (show rRepE d a b i' = 0 ∧ rRepS d a b i' = { d with list := d.list ++ [(a, b, rPick d a b i')] } from ⟨by simp [rRepE, hw0, hfull], by simp [rRepS, rRepE, hw0, hfull]⟩)
    have t3 : decide ((d.room : Int) ≤ (cntR d a b : Int)) = false := by simpa using hfull
    have t3n : decide (d.room ≤ cntR d a b) = false := by simpa using hfull
    have hih : i' < hits a b vs := by rw [hits_cnt h]; omega
    have HFI := Lib.hid (show ∀ W, Kept w W → _ from fun W k => findR_any a b i' W db Z lv vs d G (h.kept k) hih)
    obtain ⟨A, c, rfl⟩ := own_form h.row
    have c2 := h.c2
    have hdb : db < w.heap.size := World.block_lt_of_cell? _ _ c2
    have f2 : w.frozen? ⟨db, 2, none⟩ = false := frozen_at h.net 2
    have HSM := Lib.hid hsm
    have H := Lib.hid h
    have hbnd : (vs.length + 1) * 40 ≤ 140737488355328 := by omega
    clear h hbad hneg hov hw0 hfull hih hsm
    go_enter Try.func20, Try.ntmps20
    go_wp2_with fail
    refine HB.out.mono ?_
    rintro e w1 ⟨rfl, rfl⟩
    generalize cntR d a b = cn at *
    go_wp2_with fail
    refine (HC.out _ (Kept.refl _)).mono ?_
    rintro e w1 ⟨rfl, rfl⟩
    go_wp2_with fail
    have hkd := (Kept.refl w1).drew
    go_region_held3 (fun W => W.cell? ⟨db, 1, none⟩ = some (.int .i64 (d.room : Int)))
      (first | exact c1 | exact hkd.cell c1)
      (first | (go_at_call 32; refine (HC.out _ hkd).mono ?_; rintro e w2 ⟨rfl, rfl⟩))
    go_wp2_with fail
    have hkr := hkd.drew
    go_region_law (first
      | (go_simp; go_at_call 37; refine (HFI.out _ hkr).mono ?_; rintro e w2 ⟨⟨p, rfl, hp, hpl⟩, rfl⟩; obtain ⟨g, Ay, cy, r, rfl, r2, hbt, hrp, hrm⟩ := H.out.place hp hpl; have HBT := Lib.hid hbt; have HRP := Lib.hid hrp; obtain ⟨ym, hym, hyr⟩ := hrm; have hrl : r.length ≤ 140737488355328 := (by rw [← hyr]; exact HSM.out ym hym); clear hbt hrp hpl hyr hym; have gp : (p : Int) < (vs.length : Int) := (by omega))
      | (go_simp; go_at_call 36; refine (copy_any r (.slice Ay r.length cy) _ (HBT.out _ hkr) hrl).mono ?_; rintro e w3 ⟨v3, rfl, ho3, k3⟩; obtain ⟨A3, c3, rfl⟩ := own_form ho3; have HO3 := Lib.hid ho3; have kk := hkr.trans k3; have z2 := kk.cell c2; have kn := kk.alloc (.cells #[.int .i64 a, .int .i64 b, .slice A3 r.length c3] 81); have y2 := kn.cell c2; clear ho3)
      | (refine step_append_one elemM (by rfl) _ _ (by rfl) 0 _ _ (cells3 vs) [.int .i64 a, .int .i64 b, .slice A3 r.length c3] w3.heap.size 1 (by rfl) (by rfl) (own_kept H.out.row kn) (by rfl) (cell_new3 w3 _ _ _ _) (by intro u hu; simp at hu; rcases hu with rfl | rfl | rfl <;> rfl) (by omega) (by unfold maxLen; omega) (Nat.zero_le _) ?_; intro v5 w5 p1 p2 p3; obtain ⟨A6, c6, rfl⟩ := own_form p1; have P1 := Lib.hid p1; have P2 := Lib.hid p2; have P3 := Lib.hid p3; have hne := H.out.apart; have hC5 : Chg (fun g' => (Value.slice (some ⟨g, 0, none⟩) vs.length c).ownBlock = some g') w1 w5 := (Chg.of_kept kn).trans (Chg.of_grown p2 (fun g hg _ => hg)) (fun g _ x => x); have z5 := chg_cellS hC5 c2 hne; have HNT := Lib.hid (hC5.block' H.out.net hne); have f5 : w5.frozen? ⟨db, 2, none⟩ = false := frozen_at HNT.out 2; clear p1 p2 p3))
    all_goals
      have hC6 : Chg G w1 (w5.setCell ⟨db, 2, none⟩ (.slice A6 (vs.length + 1) c6)) := (hC5.mono fun g _ x => H.out.inL g x).setCell _ (fun _ => H.out.inN)
      have k3s := k3.size
      have hdr : w1.drew.drew.heap.size = w1.heap.size := rfl
      have hbG : ∀ g, (Value.slice A3 r.length c3).ownBlock = some g → w1.heap.size ≤ g := fun g hg => (HO3.out.lt g hg).1
      have hC35 : Chg (fun g' => (Value.slice (some ⟨g, 0, none⟩) vs.length c).ownBlock = some g') w3 w5 := (Chg.of_kept ((Kept.refl w3).alloc _)).trans (Chg.of_grown P2.out (fun g hg _ => hg)) (fun g _ x => x)
      have HNW := Lib.hid (H.out.push (G' := ext G w1 (w5.setCell ⟨db, 2, none⟩ (.slice A6 (vs.length + 1) c6))) hC5 P1.out (P3.out.imp id fun e => ⟨_, e, by simp; omega⟩) (own_chg (own_base' HO3.out (Nat.zero_le _)) hC35 fun g hg e => by
        have h1 := hbG g hg
        have h2 := (H.out.row.lt g e).2
        omega) hbG hfew (fun g hg => .inl hg) (fun g h1 h2 => .inr ⟨h1, by simpa using h2⟩))
      have HC6 := Lib.hid hC6
      clear hC6 hbG hC35 hC5 hne
      go_wp2
      go_ret
      rw [HT.out.1, HT.out.2, ← HRP.out]
      exact ⟨rfl, ⟨_, _, _, HNW.out, trivial⟩, HC6.out⟩
end Go.Proofs.Ytnpenabkmpoafaa
