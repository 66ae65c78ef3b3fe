/- The document's Advance. -/
import Derived.Test.YtnpenabkmpoafaaQNRf8
import Derived.Deep.WholeRow
set_option linter.unusedSimpArgs false
set_option linter.unusedVariables false
namespace Go.Proofs.Ytnpenabkmpoafaa
open Go.RowKit
def badK (d : RS) (l : List Int) : Bool := l.any fun x => badR d x 0
theorem badK_mem {d : RS} {l : List Int} {k : Nat} (hk : k < l.length) (h : badR d l[k] 0 = true) : badK d l = true := List.any_eq_true.2 ⟨l[k], List.getElem_mem hk, h⟩
theorem badK_at {d : RS} {l : List Int} {k : Nat} (hk : k < l.length) (h : badK d l = false) : ∃ x : Nat, l[k] = x ∧ x < d.n := by
  have : badR d l[k] 0 = false := by
    cases hb : badR d l[k] 0 with
    | false => rfl
    | true => rw [badK_mem hk hb] at h; cases h
  obtain ⟨a, b, h1, -, h3, -⟩ := badR_false this
  exact ⟨a, h1, h3⟩
theorem badK_succ {d : RS} {l : List Int} {k : Nat} (hk : k < l.length) (h : badR d l[k] 0 = false) (h0 : badK d (l.take k) = false) : badK d (l.take (k + 1)) = false := by
  unfold badK at *
  rw [List.take_succ_eq_append_getElem hk, List.any_append, h0]
  simp [h]
def stepC (tk : Int) (o : Option (Nat → Nat)) (x : Int) : Option (Nat → Nat) := o.bind fun t => if (1099511627776 : Int) - t x.toNat < tk then none else some fun i => if i = x.toNat then t i + tk.toNat else t i
def rAdvC (d : RS) (tk : Int) (l : List Int) : Option (Nat → Nat) := l.foldl (stepC tk) (some d.t)
def rAdvE (d : RS) (tk : Int) (l : List Int) : Int := if badK d l then 60 else if tk < 0 then 63 else if (rAdvC d tk l).isSome then 0 else 63
def rAdvS (d : RS) (tk : Int) (l : List Int) : RS := if badK d l then d else if tk < 0 then d else { d with t := (rAdvC d tk l).getD d.t }
theorem stepC_none (tk : Int) : ∀ l : List Int, l.foldl (stepC tk) none = none
  | [] => rfl
  | _ :: l => stepC_none tk l
theorem rAdvC_none {d : RS} {tk : Int} {l : List Int} {k : Nat} (h : (l.take k).foldl (stepC tk) (some d.t) = none) : rAdvC d tk l = none := by
  unfold rAdvC
  rw [← List.take_append_drop k l, List.foldl_append, h, stepC_none]
def crow (t : Nat → Nat) : List Value := (List.range 32).map fun i => Value.int .i64 (t i : Int)
theorem crow_len (t : Nat → Nat) : (crow t).length = 32 := by unfold crow; simp
theorem crow_at (t : Nat → Nat) {i : Nat} (hi : i < 32) : (crow t)[i]? = some (.int .i64 (t i : Int)) := by
  unfold crow
  rw [List.getElem?_map, List.getElem?_range hi]
  rfl
theorem crow_one (t : Nat → Nat) : ∀ v ∈ crow t, v.oneCell' = true := by
  intro v hv
  unfold crow at hv
  obtain ⟨i, -, rfl⟩ := List.mem_map.1 hv
  rfl
theorem crow_set (t : Nat → Nat) (x v : Nat) (hx : x < 32) : (crow t).set x (.int .i64 (v : Int)) = crow fun i => if i = x then v else t i := by
  apply List.ext_getElem?
  intro i
  by_cases h : i < 32
  · rw [crow_at _ h, List.getElem?_set]
    by_cases e : x = i
    · subst e
      rw [if_pos rfl, if_pos (by rw [crow_len]; exact hx), if_pos rfl]
    · rw [if_neg e, crow_at _ h, if_neg (fun x => e x.symm)]
  · rw [List.getElem?_eq_none (by rw [List.length_set, crow_len]; omega), List.getElem?_eq_none (by rw [crow_len]; omega)]
def zclk : Array Value := Array.replicate 32 (.int .i64 0)
theorem zero33 (w : World) : Sem.run Try.prog (zeroValue 33) w = .ok (.agg zclk) w := by kernel_rfl
theorem info33 : (Try.prog.info? 33).map (·.size) = some 32 := by kernel_rfl
theorem RefZ.adv {Z : Array Value} {d : RS} {lv : Value} (h : RefZ Z d lv) (t : Nat → Nat) : RefZ (midZ Z 1027 (crow t)) { d with t := t } lv := by
  have hl := crow_len t
  have hs := h.size
  have hb : 1027 + (crow t).length ≤ Z.size := by omega
  refine ⟨by rw [midZ_size _ _ _ hb, hs], ?_, ?_, ?_, fun i j hi hj => ?_, fun i hi => ?_⟩
  · rw [midZ_low _ _ _ hb (by omega)]; exact h.z0
  · rw [midZ_low _ _ _ hb (by omega)]; exact h.z1
  · rw [midZ_low _ _ _ hb (by omega)]; exact h.z2
  · rw [midZ_low _ _ _ hb (by omega)]; exact h.zc i j hi hj
  · rw [midZ_mid _ _ _ hb (by omega), crow_at _ hi]
set_option maxRecDepth 100000 in
set_option maxHeartbeats 4000000 in
theorem refAdvance_any (tk : Int) (l : List Int) (v : Value) (w : World) (db : Nat) (Z : Array Value) (lv : Value) (vs : List Sent) (d : RS) (G : Nat → Prop) (h : RefAt w db Z lv vs d G) (hv : Ints w v l) (htk : -9223372036854775808 ≤ tk ∧ tk ≤ 9223372036854775807) (hcl : ∀ i, i < 32 → d.t i ≤ 1099511627776) :
    Calls Try.prog 29 #[.pointer (some ⟨db, 0, none⟩), .int .i64 tk, v] w fun e w' => e = .returned (.int .i64 (rAdvE d tk l)) ∧ RefTo w w' db (rAdvS d tk l) G := by
  have hn := h.small
  have HB := Lib.hid (fun x => bad_any x 0 w db d hn h.c0)
  have HV := Lib.hid hv
  obtain ⟨A, c, rfl, hc1, hc2, -⟩ := hv
  unfold maxLen at hc2
  have hdb : db < w.heap.size := (Array.getElem?_eq_some_iff.1 h.net).1
  have H := Lib.hid h
  clear h
  go_enter Try.func29, Try.ntmps29
  go_wp2
  go_loop [7] (fun i => ∃ k : Nat, k ≤ l.length ∧ i = .int .i64 (k : Int) ∧ badK d (l.take k) = false) (fun i => l.length - (intOf i).toNat)
  case atStart => exact ⟨0, Nat.zero_le _, rfl, rfl⟩
  case round =>
    obtain ⟨k, hk, rfl, hbk⟩ := hrel
    by_cases hlt : k < l.length
    · obtain ⟨b, o, rfl, hcell⟩ := HV.out.at' hlt
      have g1 : (k : Int) < (l.length : Int) := by omega
      have HX := Lib.hid (HB.out l[k])
      have HM := Lib.hid (badK_mem (d := d) hlt)
      have HS := Lib.hid (fun h => badK_succ (d := d) hlt h hbk)
      clear hbk
      generalize l[k] = x at *
      cases hbx : badR d x 0 with
      | true =>
        have HT := Lib.hid (show rAdvE d tk l = 60 ∧ rAdvS d tk l = d from ⟨by unfold rAdvE; rw [if_pos (HM.out hbx)], by unfold rAdvS; rw [if_pos (HM.out hbx)]⟩)
        rw [hbx] at HX
        clear hbx HS HM
        go_wp2_with fail
        refine HX.out.mono ?_
        rintro e w1 ⟨rfl, rfl⟩
        go_wp2
        go_ret
        rw [HT.out.1, HT.out.2]
        exact ⟨rfl, RefTo.same H.out (by first | exact Kept.refl _ | exact (Kept.refl _).drew | exact (Kept.refl _).drew.drew)⟩
      | false =>
        have HS1 := Lib.hid (HS.out hbx)
        rw [hbx] at HX
        clear hbx HS HM
        go_wp2_with fail
        refine HX.out.mono ?_
        rintro e w1 ⟨rfl, rfl⟩
        go_wp2
        go_round
        case rel => exact ⟨k + 1, by omega, by go_num, HS1.out⟩
        case measure => simp [intOf]; omega
    · obtain rfl : k = l.length := by omega
      rw [List.take_length] at hbk
      by_cases hneg : tk < 0
      · have HT := Lib.hid (show rAdvE d tk l = 63 ∧ rAdvS d tk l = d from ⟨by simp [rAdvE, hbk, hneg], by simp [rAdvS, hbk, hneg]⟩)
        have t1 : decide (tk < 0) = true := by simpa using hneg
        clear hbk hneg
        go_wp2
        go_ret
        rw [HT.out.1, HT.out.2]
        exact ⟨rfl, RefTo.same H.out (by first | exact Kept.refl _ | exact (Kept.refl _).drew | exact (Kept.refl _).drew.drew)⟩
      · have t1 : decide (tk < 0) = false := by simpa using hneg
        have HT := Lib.hid (show rAdvE d tk l = (if (rAdvC d tk l).isSome then 0 else 63) ∧ rAdvS d tk l = { d with t := (rAdvC d tk l).getD d.t } from ⟨by simp [rAdvE, hbk, hneg], by simp [rAdvS, hbk, hneg]⟩)
        have HBK := Lib.hid hbk
        have hpos : 0 ≤ tk := by omega
        have hz := zero33 w
        have hra : w.rangeAt db 1027 (crow d.t) := fun j v hj => by
          have hj32 : j < 32 := by have := (List.getElem?_eq_some_iff.1 hj).1; rwa [crow_len] at this
          rw [crow_at _ hj32] at hj
          rw [← hj]
          exact H.out.ct hj32
        have hnw : (w.alloc (.cells zclk 33)).heap[w.heap.size]? = some (.cells zclk 33 (0, 0)) := heap_alloc_new w _
        have hst : Sem.run Try.prog (storeCells ⟨w.heap.size, 0, none⟩ (crow d.t)) (w.alloc (.cells zclk 33)) = .ok () (w.alloc (.cells (crow d.t).toArray 33)) := by
          have e := run_storeCells_at (P := Try.prog) w.heap.size 0 _ (crow d.t) 0 zclk (w.alloc (.cells zclk 33)) hnw (by rw [crow_len]; unfold zclk; simp) (crow_one _)
          rw [show (zclk.toList.take (0 + 0) ++ crow d.t ++ zclk.toList.drop (0 + 0 + (crow d.t).length)).toArray = (crow d.t).toArray by rw [crow_len]; unfold zclk; simp, World.setRow_alloc_new] at e
          exact e
        have hlen := crow_len d.t
        have HCR := Lib.hid (show ∃ cr, cr = crow d.t from ⟨_, rfl⟩)
        have HNEW := Lib.hid (heap_alloc_new w (.cells (crow d.t).toArray 33))
        clear hbk hneg hnw
        generalize zclk = zc at *
        generalize hcr : crow d.t = cr at *
        go_wp2_with (refine wpList_load_mid rfl _ _ rfl db 1027 rfl cr _ hra Try.underlying33 rfl (by rw [hlen]; exact info33) ?_)
        clear hst hz hra
        have hkA : Kept w (w.alloc (.cells cr.toArray 33)) := (Kept.refl w).alloc _
        have HKA := Lib.hid hkA
        go_loopw [9] (fun i W => ∃ (k : Nat) (t : Nat → Nat), i = .int .i64 (k : Int) ∧ k ≤ l.length ∧ (l.take k).foldl (stepC tk) (some d.t) = some t ∧ (∀ i, i < 32 → t i ≤ 1099511627776) ∧ W.heap[w.heap.size]? = some (.cells (crow t).toArray 33 (0, 0)) ∧ Kept w W) (fun i _ => l.length - (intOf i).toNat)
        case atStart => exact ⟨0, d.t, rfl, Nat.zero_le _, rfl, hcl, by rw [hcr]; exact HNEW.out, HKA.out⟩
        case round =>
          obtain ⟨k, t, rfl, hk, hf, hle, hbox, hK⟩ := hrel
          have HF := Lib.hid hf
          have HLE := Lib.hid hle
          have HBX := Lib.hid hbox
          have HK := Lib.hid hK
          clear hf hle hbox hK
          by_cases hlt : k < l.length
          · obtain ⟨b, o, rfl, hcell⟩ := (HV.out.kept HK.out).at' hlt
            obtain ⟨x, hx, hxn⟩ := badK_at hlt HBK.out
            rw [hx] at hcell
            have hx32 : x < 32 := by omega
            have g1 : (k : Int) < (l.length : Int) := by omega
            have g2 : (x : Int) < 32 := by omega
            have ct : wr.cell? ⟨w.heap.size, x, none⟩ = some (.int .i64 (t x : Int)) := by rw [cell_at HBX.out, List.getElem?_toArray, crow_at _ hx32]
            have ft : wr.frozen? ⟨w.heap.size, x, none⟩ = false := frozen_at HBX.out _
            have hq := HLE.out x hx32
            have HSX := Lib.hid (show (l.take (k + 1)).foldl (stepC tk) (some d.t) = if (1099511627776 : Int) - t x < tk then none else some fun i => if i = x then t i + tk.toNat else t i by
              rw [List.take_succ_eq_append_getElem hlt, List.foldl_append, HF.out, hx]
              rfl)
            clear hx
            obtain ⟨tn, htn⟩ : ∃ tn : Nat, tk = tn := ⟨tk.toNat, by omega⟩
            subst htn
            by_cases hov : (1099511627776 : Int) - t x < tn
            · have HN := Lib.hid (show rAdvC d tn l = none from rAdvC_none (k := k + 1) (by rw [HSX.out, if_pos hov]))
              have t3 : decide ((1099511627776 : Int) - (t x : Int) < (tn : Int)) = true := by simpa using hov
              clear hov HSX
              generalize t x = tx at *
              go_wp2
              go_ret
              rw [HT.out.1, HT.out.2, HN.out]
              exact ⟨rfl, RefTo.same H.out HK.out⟩
            · have HS1 := HSX.out
              rw [if_neg hov] at HS1
              have HS2 := Lib.hid HS1
              have t3 : decide ((1099511627776 : Int) - (t x : Int) < (tn : Int)) = false := by simpa using hov
              have htb : t x + tn ≤ 1099511627776 := by omega
              have HBN := Lib.hid (Lib.heap_setCell_same (i := x) HBX.out (.int .i64 ((t x + tn : Nat) : Int)))
              have HKN := Lib.hid (Chg.kept HK.out ((Chg.refl (fun g => g = w.heap.size) wr).setCell (b := w.heap.size) (o := x) (.int .i64 ((t x + tn : Nat) : Int)) (fun _ => rfl)) (fun g e => by omega))
              have HTX := Lib.hid (show ∃ tx, tx = t x from ⟨_, rfl⟩)
              obtain ⟨tx, htx⟩ := HTX.out
              have HTX2 := Lib.hid htx
              rw [← htx] at ct hq t3 htb HBN HKN
              clear hov HSX HS1 htx HTX
              have hcast : ((tx + tn : Nat) : Int) = (tx : Int) + (tn : Int) := by omega
              rw [hcast] at HBN HKN
              go_wp2
              go_roundw
              case rel =>
                refine ⟨k + 1, _, by go_num, by omega, HS2.out, fun i hi => ?_, ?_, HKN.out⟩
                · show (if i = x then t i + (tn : Int).toNat else t i) ≤ _
                  by_cases e : i = x
                  · subst e
                    have := HTX2.out
                    rw [if_pos rfl]
                    omega
                  · rw [if_neg e]
                    exact HLE.out i hi
                · rw [HBN.out]
                  have e := crow_set t x (tx + tn) hx32
                  rw [hcast] at e
                  have e2 : (crow fun i => if i = x then tx + tn else t i) = crow fun i => if i = x then t i + (tn : Int).toNat else t i := by
                    congr 1
                    funext i
                    by_cases e : i = x
                    · subst e
                      rw [if_pos rfl, if_pos rfl, HTX2.out]
                      rfl
                    · rw [if_neg e, if_neg e]
                  rw [List.setIfInBounds_toArray, e, e2]
              case measure => simp [intOf]; omega
          · obtain rfl : k = l.length := by omega
            have e := HF.out
            rw [List.take_length] at e
            have HC0 := Lib.hid (show rAdvC d tk l = some t from e)
            have hr0 : wr.rangeAt w.heap.size 0 (crow t) := fun j v hj => by
              rw [cell_at HBX.out, Nat.zero_add, List.getElem?_toArray]
              exact hj
            have hlen2 := crow_len t
            have HR := Lib.hid (H.out.kept HK.out)
            have hst : Sem.run Try.prog (storeCells ⟨db, 1027, none⟩ (crow t)) wr = .ok () (wr.setRow db (midZ Z 1027 (crow t))) :=
              run_storeCells_at (P := Try.prog) db 1027 _ (crow t) 0 Z wr HR.out.net (by rw [hlen2, HR.out.cells.size]; omega) (crow_one t)
            have HF2 := Lib.hid (HR.out.setZ (d' := { d with t := t }) (HR.out.cells.adv t) rfl rfl rfl)
            have HC2 := Lib.hid (show Chg G w (wr.setRow db (midZ Z 1027 (crow t))) from (Chg.of_kept (F := G) HK.out).trans (Chg.setRow (F := G) _ (fun _ => H.out.inN)) (fun _ _ x => x))
            clear e
            generalize crow t = ct at *
            go_wp2_with (refine wpList_load_mid rfl _ _ rfl w.heap.size 0 rfl ct _ hr0 Try.underlying33 rfl (by rw [hlen2]; exact info33) ?_)
            go_ret
            rw [HT.out.1, HT.out.2, HC0.out]
            exact ⟨rfl, ⟨_, _, _, HF2.out.mono (fun g x => .inl x), trivial⟩, HC2.out⟩
end Go.Proofs.Ytnpenabkmpoafaa
