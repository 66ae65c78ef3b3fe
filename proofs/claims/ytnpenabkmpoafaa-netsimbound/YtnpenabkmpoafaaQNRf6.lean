/- The document's Lose. -/
import Derived.Test.YtnpenabkmpoafaaQNRf5
import Derived.Deep.QuietTactic
import Derived.BigQuiet
set_option linter.unusedSimpArgs false
set_option linter.unusedVariables false
namespace Go.Proofs.Ytnpenabkmpoafaa
open Go.RowKit
def offL (l : List Int) (y : Int × Int × List UInt8) : Bool := l.all fun x => !decide (y.1 = x) && !decide (y.2.1 = x)
def badL (d : RS) (l : List Int) : Bool := l.any fun x => badR d x 0
def rLoseE (d : RS) (l : List Int) : Int := if badL d l then 60 else 0
def rLoseS (d : RS) (l : List Int) : RS := if badL d l then d else { d with list := d.list.filter (offL l) }
theorem badL_mem {d : RS} {l : List Int} {k : Nat} (hk : k < l.length) (h : badR d l[k] 0 = true) : badL d l = true := List.any_eq_true.2 ⟨l[k], List.getElem_mem hk, h⟩
theorem badL_succ {d : RS} {l : List Int} {k : Nat} (hk : k < l.length) (h : badR d l[k] 0 = false) (h0 : badL d (l.take k) = false) : badL d (l.take (k + 1)) = false := by
  unfold badL at *
  rw [List.take_succ_eq_append_getElem hk, List.any_append, h0]
  simp [h]
theorem offL_succ (y : Int × Int × List UInt8) {l : List Int} {k : Nat} (hk : k < l.length) : offL (l.take (k + 1)) y = (offL (l.take k) y && (!decide (y.1 = l[k]) && !decide (y.2.1 = l[k]))) := by
  unfold offL
  rw [List.take_succ_eq_append_getElem hk, List.all_append]
  simp
set_option maxRecDepth 100000 in
set_option maxHeartbeats 2000000 in
theorem refLose_any (l : List Int) (v : Value) (w : World) (db : Nat) (Z : Array Value) (lv : Value) (vs : List Sent) (d : RS) (G : Nat → Prop) (h : RefAt w db Z lv vs d G) (hv : Ints w v l) :
    Calls Try.prog 27 #[.pointer (some ⟨db, 0, none⟩), v] w fun e w' => e = .returned (.int .i64 (rLoseE d l)) ∧ RefTo w w' db (rLoseS d l) G := by
  have hn := h.small
  have HB := Lib.hid (fun x => bad_any x 0 w db d hn h.c0)
  have HV := Lib.hid hv
  obtain ⟨A, c, rfl, hc1, hc2, -⟩ := hv
  unfold maxLen at hc2
  have hfew := h.few
  have hdb : db < w.heap.size := (Array.getElem?_eq_some_iff.1 h.net).1
  obtain ⟨Al, cl, rfl⟩ := own_form h.row
  have c2 := h.c2
  have H := Lib.hid h
  clear h
  go_enter Try.func27, Try.ntmps27
  go_wp2
  go_loop [5] (fun i => ∃ k : Nat, k ≤ l.length ∧ i = .int .i64 (k : Int) ∧ badL d (l.take k) = false) (fun i => l.length - (intOf i).toNat)
  case atStart => exact ⟨0, Nat.zero_le _, rfl, rfl⟩
  case round =>
    obtain ⟨k, hk, rfl, hbk⟩ := hrel
    by_cases hlt : k < l.length
    · obtain ⟨b, o, rfl, hcell⟩ := HV.out.at' hlt
      have g1 : (k : Int) < (l.length : Int) := by omega
      have HX := Lib.hid (HB.out l[k])
      have HM := Lib.hid (badL_mem (d := d) hlt)
      have HS := Lib.hid (fun h => badL_succ (d := d) hlt h hbk)
      clear hbk
      generalize l[k] = x at *
      cases hbx : badR d x 0 with
      | true =>
        have HT := Lib.hid (show rLoseE d l = 60 ∧ rLoseS d l = d from ⟨by unfold rLoseE; rw [if_pos (HM.out hbx)], by unfold rLoseS; rw [if_pos (HM.out hbx)]⟩)
        rw [hbx] at HX
        clear hbx HS HM
        go_wp2_with fail
        refine HX.out.mono ?_
        rintro e w1 ⟨rfl, rfl⟩
        go_wp2
        go_ret
        rw [HT.out.1, HT.out.2]
        exact ⟨rfl, RefTo.same H.out (by first | exact Kept.refl _ | exact (Kept.refl _).drew | exact (Kept.refl _).drew.drew)⟩
      | false =>
        have HS1 := Lib.hid (HS.out hbx)
        rw [hbx] at HX
        clear hbx HS HM
        go_wp2_with fail
        refine HX.out.mono ?_
        rintro e w1 ⟨rfl, rfl⟩
        go_wp2
        go_round
        case rel => exact ⟨k + 1, by omega, by go_num, HS1.out⟩
        case measure => simp [intOf]; omega
    · obtain rfl : k = l.length := by omega
      rw [List.take_length] at hbk
      have HT := Lib.hid (show rLoseE d l = 0 ∧ rLoseS d l = { d with list := d.list.filter (offL l) } from ⟨by unfold rLoseE; rw [if_neg (by simp [hbk])], by unfold rLoseS; rw [if_neg (by simp [hbk])]⟩)
      clear hbk
      go_wp2
      go_loopw [6, 7] (fun o i W => ∃ k : Nat, i = .int .i64 (k : Int) ∧ k ≤ vs.length ∧ Kept w W ∧ W.ownsRow 0 81 3 o ((vs.take k).filter fun y => offL l (bare y)).length (cells3 ((vs.take k).filter fun y => offL l (bare y))) ∧ (∀ g, o.ownBlock = some g → w.heap.size ≤ g)) (fun _ i _ => vs.length - (intOf i).toNat)
      case atStart => exact ⟨0, rfl, Nat.zero_le _, by first | exact Kept.refl _ | exact (Kept.refl _).drew, World.ownsRow_nil _ _ _ _, fun g hg => by cases hg⟩
      case round =>
        obtain ⟨k, rfl, hk2, hK, hrow, hfr⟩ := hrel
        have HR := Lib.hid (H.out.kept hK)
        have c2' := hK.cell c2
        have HK := Lib.hid hK
        have HFR := Lib.hid hfr
        by_cases hlt : k < vs.length
        · have g1 : (k : Int) < (vs.length : Int) := by omega
          have hol : ((vs.take k).filter fun y => offL l (bare y)).length ≤ k := Nat.le_trans (List.length_filter_le _ _) (by rw [List.length_take]; omega)
          obtain ⟨Ao, co, rfl⟩ := own_form hrow
          have HKS := Lib.hid (keep_succ (fun y => offL l (bare y)) hlt)
          obtain ⟨g, rfl, r0, r1, r2⟩ := HR.out.at hlt
          have hyf := own_form (HR.out.vals vs[k] (List.getElem_mem hlt))
          generalize (vs.take k).filter (fun y => offL l (bare y)) = os at *
          generalize vs[k] = y at *
          obtain ⟨ya, yb, yv, yl⟩ := y
          simp only at r0 r1 r2 hyf
          obtain ⟨Ay, cy, rfl⟩ := hyf
          have HROW := Lib.hid hrow
          have HVR := Lib.hid (HV.out.kept hK)
          clear hfr hK hrow
          have hwr := HK.out.size
          have drop : offL l (ya, yb, yl) = false → ∃ x, x = os ∧ (vs.take (k + 1)).filter (fun y => offL l (bare y)) = x := fun hp => ⟨os, rfl, by
            have e := HKS.out
            rwa [if_neg (by simp [bare, hp]), List.append_nil] at e⟩
          have HD := Lib.hid drop
          have add : offL l (ya, yb, yl) = true → (vs.take (k + 1)).filter (fun y => offL l (bare y)) = os ++ [(ya, yb, .slice Ay yl.length cy, yl)] := fun hp => by
            have e := HKS.out
            rwa [if_pos (by simpa [bare] using hp)] at e
          have HA := Lib.hid add
          clear drop add HKS
          go_wp2
          generalize wr = wo at *
          go_loopw [8, 9] (fun q i W => ∃ j : Nat, j ≤ l.length ∧ i = .int .i64 (j : Int) ∧ q = .bool (offL (l.take j) (ya, yb, yl)) ∧ Kept wo W) (fun _ i _ => l.length - (intOf i).toNat)
          case atStart => exact ⟨0, Nat.zero_le _, rfl, rfl, by first | exact Kept.refl _ | exact (Kept.refl _).drew⟩
          case round =>
            obtain ⟨j, hj, rfl, rfl, hK2⟩ := hrel
            have HK2 := Lib.hid hK2
            have s0 := hK2.cell r0
            have s1 := hK2.cell r1
            have s2 := hK2.cell r2
            have c2'' := hK2.cell c2'
            clear hK2
            by_cases hlj : j < l.length
            · obtain ⟨b, o, rfl, hcell⟩ := (HVR.out.kept HK2.out).at' hlj
              have g2 : (j : Int) < (l.length : Int) := by omega
              have HO := Lib.hid (offL_succ (ya, yb, yl) hlj)
              generalize l[j] = x at *
              generalize offL (l.take j) (ya, yb, yl) = q at *
              cases q with
              | false =>
                go_wp2
                go_quiet (fail)
                go_wp2
                go_roundw
                case rel => exact ⟨j + 1, by omega, by go_num, by rw [HO.out]; rfl, HK2.out.drewN _⟩
                case measure => simp [intOf]; omega
              | true =>
                cases e1 : decide (ya = x) with
                | true =>
                  obtain rfl : ya = x := of_decide_eq_true e1
                  clear e1
                  go_wp2
                  go_quiet (fail)
                  go_wp2
                  go_roundw
                  case rel => exact ⟨j + 1, by omega, by go_num, by rw [HO.out]; simp, HK2.out.drewN _⟩
                  case measure => simp [intOf]; omega
                | false =>
                  have e1' : (ya == x) = false := e1
                  have e3 : ¬ ya = x := of_decide_eq_false e1
                  have e5 : (ya != x) = true := by simp [e3]
                  have e6 : decide (¬ ya = x) = true := by simp [e3]
                  have HE3 := Lib.hid e3
                  clear e3
                  cases e2 : decide (yb = x) with
                  | true =>
                    obtain rfl : yb = x := of_decide_eq_true e2
                    clear e2
                    go_wp2
                    go_quiet (fail)
                    go_wp2
                    go_roundw
                    case rel => exact ⟨j + 1, by omega, by go_num, by rw [HO.out]; simp, HK2.out.drewN _⟩
                    case measure => simp [intOf]; omega
                  | false =>
                    have e2' : (yb == x) = false := e2
                    have e4 : ¬ yb = x := of_decide_eq_false e2
                    have e7 : (yb != x) = true := by simp [e4]
                    have e8 : decide (¬ yb = x) = true := by simp [e4]
                    have HE4 := Lib.hid e4
                    clear e4
                    go_wp2
                    go_quiet (fail)
                    go_wp2
                    go_roundw
                    case rel => exact ⟨j + 1, by omega, by go_num, by rw [HO.out]; simp [HE3.out, HE4.out], HK2.out.drewN _⟩
                    case measure => simp [intOf]; omega
            · obtain rfl : j = l.length := by omega
              rw [List.take_length]
              cases hq : offL l (ya, yb, yl) with
              | false =>
                obtain ⟨x, hx, hx2⟩ := HD.out hq
                subst hx
                have HE := Lib.hid hx2
                clear HD HA hx2 hq
                go_wp2
                go_roundw
                case rel => exact ⟨k + 1, by go_num, by omega, HK.out.trans HK2.out, by rw [HE.out]; exact own_kept HROW.out HK2.out, HFR.out⟩
                case measure => simp [intOf]; omega
              | true =>
                have HE := Lib.hid (HA.out hq)
                clear HD HA hq
                go_wp2_with (at_builtin; refine wpList_append_one elemM rfl _ _ rfl 0 _ _ (cells3 os) [.int .i64 ya, .int .i64 yb, .slice Ay yl.length cy] wr.heap.size 1 rfl rfl (own_kept HROW.out (HK2.out.trans ((Kept.refl wr).alloc _))) rfl (cell_new3 wr _ _ _ _) (by intro u hu; simp at hu; rcases hu with rfl | rfl | rfl <;> rfl) (by omega) (by unfold maxLen; omega) (Nat.zero_le _) ?_; intro v5 w5 p1 p2 p3)
                have hq := out_more (ov := .slice Ao os.length co) (HK.out.trans HK2.out) ((Kept.refl wr).alloc _) p2 p3 HFR.out
                have P1 := Lib.hid p1
                have HQ := Lib.hid hq
                clear p1 p2 p3 hq
                refine ⟨⟨k + 1, by go_num, by omega, HQ.out.1, ?_, HQ.out.2⟩, by simp [intOf]; omega⟩
                rw [HE.out, List.length_append, cells3_app]
                exact P1.out
        · obtain rfl : k = vs.length := by omega
          rw [List.take_length] at hrow
          have f3 : wr.frozen? ⟨db, 2, none⟩ = false := frozen_at HR.out.net 2
          have hos : ((vs.filter fun y => offL l (bare y))).length ≤ 5000000 := Nat.le_trans (List.length_filter_le _ _) hfew
          obtain ⟨Ao, co, rfl⟩ := own_form hrow
          have HROW := Lib.hid hrow
          have HF := Lib.hid (fun (G' : Nat → Prop) h1 h2 => H.out.setRow (G' := G') HK.out HROW.out HFR.out (fun y hy => (List.mem_filter.1 hy).1) hos (l := d.list.filter (offL l)) (by
            have e := H.out.same
            rw [← e, List.filter_map]
            rfl) h1 h2)
          have HC3 := Lib.hid (show Chg G w (wr.setCell ⟨db, 2, none⟩ (.slice Ao ((vs.filter fun y => offL l (bare y))).length co)) from (Chg.of_kept (F := G) HK.out).setCell _ (fun _ => H.out.inN))
          have hwk := HK.out.size
          clear hrow hfr hK
          generalize (vs.filter fun y => offL l (bare y)) = os at *
          go_wp2
          go_ret
          rw [HT.out.1, HT.out.2]
          exact ⟨rfl, ⟨_, _, _, HF.out _ (fun g x => .inl x) (fun g x1 x2 => .inr ⟨by omega, by simpa using x2⟩), trivial⟩, HC3.out⟩
end Go.Proofs.Ytnpenabkmpoafaa
