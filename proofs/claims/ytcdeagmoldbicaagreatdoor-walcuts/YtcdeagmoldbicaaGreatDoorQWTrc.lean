/- The walk of Truncate. -/
import Derived.Test.YtcdeagmoldbicaaGreatDoorQWDel
import Derived.Test.YtcdeagmoldbicaaGreatDoorQWCut
import Derived.Test.YtcdeagmoldbicaaGreatDoorGWCpd2
set_option linter.unusedSimpArgs false
set_option linter.unusedVariables false
namespace Go.Proofs.YtcdeagmoldbicaaGreatDoor
open Go.RowKit
theorem len_of' {ps : Ps} {safe : Nat} {ns : Ns} (a2 : Inv (sgs ps) safe ns) : ps.length ≤ 1000000 := by
  have h1 := a2.len
  rcases List.eq_nil_or_concat ps with rfl | ⟨pa, q, rfl⟩
  · simp
  · rw [List.concat_eq_append] at *
    have h2 := h1.2 q.1 (by rw [sgs_snoc]; simp)
    rw [sgs_len, sgs_snoc, lastNum_snoc] at h1
    omega
theorem sgs_take (ps : Ps) (k : Nat) : sgs (ps.take k) = (sgs ps).take k := by simp [sgs, List.map_take]
theorem sgs_drop (ps : Ps) (k : Nat) : sgs (ps.drop k) = (sgs ps).drop k := by simp [sgs, List.map_drop]
/-- The files of the first segments go. -/
theorem cut_files {ps : Ps} {safe : Nat} {ns : Ns} (hI : Inv (sgs ps) safe ns) (hf : ∀ s ∈ sgs ps, s.fst ≤ 1152921504606846976) {k : Nat} (hk : k = 0 ∨ k < ps.length) :
    ∃ nb, Inv (sgs (ps.drop k)) safe nb ∧ allS ((ps.take k).map fun p => fileN p.1.num) (dsk ns) = 0 ∧ remS ((ps.take k).map fun p => fileN p.1.num) (dsk ns) = dsk nb := by
  by_cases h0 : k = 0
  · subst h0
    exact ⟨ns, hI, by simp [allS], by simp [remS]⟩
  · have hk : k < ps.length := by omega
    have e : sgs ps = sgs (ps.take k) ++ sgs (ps.drop k) := by rw [sgs_take, sgs_drop, List.take_append_drop]
    have hne : sgs (ps.drop k) ≠ [] := by
      intro h
      have := congrArg List.length h
      rw [sgs_len, List.length_drop] at this
      simp at this
      omega
    have hI2 := hI
    rw [e] at hI2
    obtain ⟨nb, rfl, hb⟩ := hI2.right hne (fun s hs => hf s (by rw [e]; exact List.mem_append_right _ hs))
    have en : ((ps.take k).map fun p => fileN p.1.num) = ((sgs (ps.take k)).map fo).map fun p => fileN p.1 := by
      simp [sgs, fo, Function.comp_def]
    refine ⟨nb, hb, ?_, ?_⟩
    · rw [en]
      refine all_names hI.ok (fun x hx => ?_)
      obtain ⟨p, hp, rfl⟩ := List.mem_map.1 hx
      exact ⟨p, List.mem_append_left _ hp, rfl⟩
    · rw [en]
      exact rem_front _ _ hI.ok
theorem low_iff (s : Sg) (i : Nat) : (decide (s.recs.length = 0) || decide ((s.next : Int) ≤ (i : Int))) = true ↔ lowS i s := by
  unfold lowS
  rw [Bool.or_eq_true, decide_eq_true_eq, decide_eq_true_eq]
  exact or_congr Iff.rfl (by omega)
set_option maxRecDepth 100000 in
set_option maxHeartbeats 4000000 in
theorem truncP_bad (i : Int) (ps : Ps) (lb : Nat) (sv d : Value) (lim safe : Nat) (G : Nat → Prop) (w : World) (h : Lgm w lb sv ps d lim safe G) (hn : nextS (sgs ps) < 9223372036854775808) (hi : i < 0 ∨ (nextS (sgs ps) : Int) < i) :
    Calls Tryz.prog 17 #[.pointer (some ⟨lb, 0, none⟩), .int .i64 i] w fun e w' => e = .returned (.int .i64 41) ∧ Kept w w' := by
  have HNX := Lib.hid (nextL_any lb sv ps d lim safe G w h hn)
  have t : decide (i < 0) = true ∨ (decide (i < 0) = false ∧ decide ((nextS (sgs ps) : Int) < i) = true) := by
    rcases hi with h | h
    · exact .inl (by simpa using h)
    · by_cases h2 : i < 0
      · exact .inl (by simpa using h2)
      · exact .inr ⟨by simpa using h2, by simpa using h⟩
  clear h hi
  rcases t with t1 | ⟨t1, t2⟩
  · go_enter Tryz.func17, Tryz.ntmps17
    go_wp2
    go_ret
    exact ⟨rfl, Kept.refl w⟩
  · go_enter Tryz.func17, Tryz.ntmps17
    go_wp2_with fail
    refine HNX.out.mono ?_
    rintro e w1 ⟨rfl, k1⟩
    go_wp2
    go_ret
    exact ⟨rfl, k1⟩
set_option maxRecDepth 100000 in
set_option maxHeartbeats 8000000 in
theorem truncP_some (ns : Ns) (i : Nat) (ps : Ps) (lb g c : Nat) (d : Value) (lim safe cap : Nat) (F G : Nat → Prop) (w : World) (hP : Pair w lb (.slice (some ⟨g, 0, none⟩) ps.length c) ps d cap (dsk ns) lim safe F G) (hI : Inv (sgs ps) safe ns) (hT : Tb w) (hbd : bounded ps) (hlen : ps.length ≤ 1000000) (hf : ∀ s ∈ sgs ps, s.fst ≤ 1152921504606846976) (hi : i ≤ nextS (sgs ps)) :
    Calls Tryz.prog 17 #[.pointer (some ⟨lb, 0, none⟩), .int .i64 (i : Int)] w fun e w' => e = .returned (.int .i64 0) ∧ ∃ k sv' F' nb, (k = 0 ∨ k < ps.length) ∧ (∀ s ∈ (sgs ps).take k, lowS i s) ∧ Pair w' lb sv' (ps.drop k) d cap (dsk nb) lim safe F' G ∧ Inv (sgs (ps.drop k)) safe nb ∧ Out w w' F G F' G := by
  have HP := Lib.hid hP
  have HI := Lib.hid hI
  have HF := Lib.hid hf
  have HBD := Lib.hid hbd
  obtain ⟨db, rfl⟩ := hP.disk.form
  have hnx : nextS (sgs ps) < 9000000000000000000 := by
    rcases List.eq_nil_or_concat ps with rfl | ⟨pa, q, rfl⟩
    · simp [sgs, nextS]
    · rw [List.concat_eq_append, sgs_snoc, nextS_snoc]
      have := hbd q (by simp)
      unfold Sg.next
      omega
  have HNX := Lib.hid (nextL_any lb _ ps _ lim safe G w hP.log (by omega))
  have HBL := Lib.hid (show ∀ (s : Sg) A c W, s.next < 9223372036854775808 → _ from fun s A c W h => isBelow_any s A c (i : Int) W h)
  have HFS := Lib.hid (show ∀ (k : Nat) W, k ≤ ps.length → Kept w W → _ from fun k W hk hW => files_wal (.slice (some ⟨g, 0, none⟩) k c) (.pointer (some ⟨db, 0, none⟩)) (ps.take k) G W ((hP.log.segs.kept hW).front hk) (hT.kept hW) (by rw [List.length_take]; omega) (fun p hp => (hbd p (List.mem_of_mem_take hp)).1))
  obtain ⟨A', c', e, hc1, hc2⟩ := hP.log.segs.form
  obtain ⟨-, -, rfl⟩ : some (⟨g, 0, none⟩ : Addr) = A' ∧ True ∧ c = c' := by simpa using e
  unfold maxLen at hc2
  have c0 := hP.log.c0
  have c1 := hP.log.c1
  have c4 := hP.log.c4
  have hlbF := hP.apart lb hP.log.inG
  have t1 : decide ((i : Int) < 0) = false := by simp
  have t2 : decide ((nextS (sgs ps) : Int) < (i : Int)) = false := by simp; omega
  have t3 : decide (nextS (sgs ps) < i) = false := by simp; omega
  clear hP hI hT hf hbd e hi
  go_enter Tryz.func17, Tryz.ntmps17
  go_wp2_with fail
  refine HNX.out.mono ?_
  rintro e w1 ⟨rfl, k1⟩
  generalize hgn : nextS (sgs ps) = nx at *
  clear hgn
  go_wp2
  go_loopw [5] (fun v W => ∃ k : Nat, v = .int .i64 (k : Int) ∧ (k = 0 ∨ k < ps.length) ∧ (∀ s ∈ (sgs ps).take k, lowS i s) ∧ Kept w W) (fun v _ => ps.length - (intOf v).toNat)
  case atStart => exact ⟨0, rfl, .inl rfl, fun s hs => by simp at hs, k1⟩
  case round =>
    obtain ⟨k, rfl, hk, hlow, hK⟩ := hrel
    have HLOW := Lib.hid hlow
    have HKK := Lib.hid hk
    have b0 := hK.cell c0
    have b1 := hK.cell c1
    have b4 := hK.cell c4
    clear hlow
    rcases (show (k + 1 < ps.length ∧ ∃ h : k < ps.length, lowS i ps[k].1) ∨ (k + 1 < ps.length ∧ ∃ h : k < ps.length, ¬ lowS i ps[k].1) ∨ ¬ k + 1 < ps.length from by
      by_cases h1 : k + 1 < ps.length
      · by_cases h2 : lowS i (ps[k]'(by omega)).1
        · exact .inl ⟨h1, by omega, h2⟩
        · exact .inr (.inl ⟨h1, by omega, h2⟩)
      · exact .inr (.inr h1)) with ⟨h1, hkl, h2⟩ | ⟨h1, hkl, h2⟩ | h1
    focus (
      have u1 : decide ((k : Int) < (ps.length : Int) - 1) = true := by simp; omega
      obtain ⟨g', hg', q0, q1, q2, q3, -⟩ := (HP.out.log.segs.kept hK).at hkl
      obtain rfl : g = g' := by simpa using hg'
      obtain ⟨rA, rc, hrv, -, -⟩ := (HP.out.log.segs.recs ps[k] (List.getElem_mem hkl)).form
      rw [hrv] at q3
      have hsn : ps[k].1.next < 9223372036854775808 := by
        have := HBD.out ps[k] (List.getElem_mem hkl)
        unfold Sg.next
        omega
      have hb2 := (low_iff ps[k].1 i).2 h2
      have HTK := Lib.hid (show ∀ s ∈ (sgs ps).take (k + 1), lowS i s from fun s hs => by
        have hkl2 : k < (sgs ps).length := by rw [sgs_len]; exact hkl
        rw [List.take_succ_eq_append_getElem hkl2] at hs
        rcases List.mem_append.1 hs with hs | hs
        · exact HLOW.out s hs
        · obtain rfl : s = (sgs ps)[k] := by simpa using hs
          simpa [sgs] using h2)
      have g1 : (k : Int) < (ps.length : Int) := by omega
      have HBC := Lib.hid (show ∀ W, _ from fun W => HBL.out ps[k].1 rA rc W hsn)
      rw [hb2] at HBC
      generalize ps[k].1 = s at *
      clear hb2 h2 hrv hg'
      go_wp2_with fail
      refine (HBC.out _).mono ?_
      rintro e wt ⟨rfl, k4⟩
      have hKt := hK.trans k4
      go_wp2
      go_roundw
      case rel => exact ⟨k + 1, by go_num, .inr h1, HTK.out, hKt⟩
      case measure => simp [intOf]; omega)
    focus (
      have u1 : decide ((k : Int) < (ps.length : Int) - 1) = true := by simp; omega
      obtain ⟨g', hg', q0, q1, q2, q3, -⟩ := (HP.out.log.segs.kept hK).at hkl
      obtain rfl : g = g' := by simpa using hg'
      obtain ⟨rA, rc, hrv, -, -⟩ := (HP.out.log.segs.recs ps[k] (List.getElem_mem hkl)).form
      rw [hrv] at q3
      have hsn : ps[k].1.next < 9223372036854775808 := by
        have := HBD.out ps[k] (List.getElem_mem hkl)
        unfold Sg.next
        omega
      have hb2 : (decide (ps[k].1.recs.length = 0) || decide ((ps[k].1.next : Int) ≤ (i : Int))) = false := by
        rw [Bool.eq_false_iff]
        exact fun x => h2 ((low_iff ps[k].1 i).1 x)
      have g1 : (k : Int) < (ps.length : Int) := by omega
      have HBC := Lib.hid (show ∀ W, _ from fun W => HBL.out ps[k].1 rA rc W hsn)
      rw [hb2] at HBC
      generalize ps[k].1 = s at *
      clear hb2 h2 hrv hg'
      go_wp2_with fail
      refine (HBC.out _).mono ?_
      rintro e wt ⟨rfl, k4⟩
      have hKt := hK.trans k4
      clear k4 hK b0 b1 b4 q0 q1 q2 q3
      go_wp2_with fail)
    rotate_left
    focus (
      have hKt := hK
      have u1 : decide ((k : Int) < (ps.length : Int) - 1) = false := by simp; omega
      go_wp2_with fail)
    all_goals (
      obtain ⟨nb, hnb1, hnb2, hnb3⟩ := cut_files HI.out HF.out HKK.out
      have HNB := Lib.hid hnb1
      have hkl' : k ≤ ps.length := by rcases HKK.out with h | h <;> omega
      have hkc : k ≤ c := by omega
      have hKd := hKt.drew
      have HRM := Lib.hid (show ∀ (v : Value) W, Kept w W → _ → _ from fun v W hW hv => remove_any ((ps.take k).map fun p => fileN p.1.num) v (.pointer (some ⟨db, 0, none⟩)) cap (dsk ns) F W (HP.out.disk.kept hW) hv)
      rw [hnb2, if_pos rfl, hnb3] at HRM
      have HF2 := Lib.hid (show ∀ W, Kept w W → _ from fun W hW => HFS.out k W hkl' hW)
      rw [List.length_take, Nat.min_eq_left hkl'] at HF2
      generalize (ps.take k).map (fun p => fileN p.1.num) = nm at *
      have e0 := hKt.cell c0
      have e1 := hKt.cell c1
      have e4 := hKt.cell c4
      have HIF := Lib.hid HP.out.inF
      clear hnb1 hnb2 hnb3
      go_region_held3 (fun W => W.cell? ⟨lb, 0, none⟩ = some (.pointer (some ⟨db, 0, none⟩)) ∧ W.cell? ⟨lb, 1, none⟩ = some (.string ⟨lg.toArray⟩) ∧ W.cell? ⟨lb, 4, none⟩ = some (.slice (some ⟨g, 0, none⟩) ps.length c))
        (first | exact ⟨e0, e1, e4⟩ | exact ⟨hq2.cell c0, hq2.cell c1, hq2.cell c4⟩ | exact ⟨y0, y1, y4⟩)
        (first
          | (go_at_call 52; refine (HF2.out _ hKd).mono ?_; rintro e w2 ⟨v2, rfl, ho2, hqb⟩; have hq2 : Kept w w2 := hKd.trans hqb; have HO2 := Lib.hid ho2; obtain ⟨A2, c2, hv2⟩ := own_form ho2; subst hv2; clear ho2)
          | (go_at_call 51; refine (HRM.out _ _ hq2 (fun W hW => Txts.of_own (own_chg HO2.out hW (fun x hx y => by have h1 := (HO2.out.lt x hx).1; have h2 := HIF.out x y; have h3 := hKd.size; omega)))).mono ?_; rintro e w3 ⟨rfl, hd3, hC3⟩; have y0 := hC3.cell (hq2.cell c0) hlbF; have y1 := hC3.cell (hq2.cell c1) hlbF; have y4 := hC3.cell (hq2.cell c4) hlbF; have HD3 := Lib.hid hd3; clear hd3))
      have hCw3 : Chg F w w3 := (Chg.of_kept hq2).trans hC3 (fun x _ y => y)
      have HL3 := Lib.hid (HP.out.log.chg hCw3 HP.out.apart)
      have HDL := Lib.hid (delete_any g c ps k G w3 HL3.out.segs HKK.out)
      have hlg : ¬ lb = g := by
        intro e
        obtain ⟨cur, hcur⟩ := own_type HL3.out.segs.row (g := g) rfl
        have := HL3.out.cells
        rw [e, hcur] at this
        simp at this
      go_wp2_with fail
      refine HDL.out.mono ?_
      rintro e w4 ⟨rfl, hs4, hC4⟩
      have hb4 := hC4.block' HL3.out.cells hlg
      have f4 := frozen_at hb4 4
      have z4 := cell_at hb4 4
      simp only [List.getElem?_toArray, List.getElem?_cons_zero, List.getElem?_cons_succ] at z4
      have HB4 := Lib.hid hb4
      have HS4 := Lib.hid hs4
      clear hb4 hs4
      go_wp2
      go_ret
      have hb9 := set_log4 (v := .slice (some ⟨g, 0, none⟩) (ps.length - k) c) HB4.out
      have hC9 : Chg (fun x => x = lb) w4 (w4.setCell ⟨lb, 4, none⟩ (.slice (some ⟨g, 0, none⟩) (ps.length - k) c)) := (Chg.refl _ w4).setCell _ (fun _ => rfl)
      generalize w4.setCell ⟨lb, 4, none⟩ (.slice (some ⟨g, 0, none⟩) (ps.length - k) c) = w9 at *
      have hz2 := hq2.size
      have hz3 := hC3.size
      have hz4 := hC4.size
      have hz9 := hC9.size
      have hGg := HP.out.log.segs.rowG g rfl
      have hF3 : ∀ x, ext F w2 w3 x → ¬ G x ∧ x < w3.heap.size ∧ (F x ∨ w.heap.size ≤ x) := fun x hx => by
        rcases hx with y | y
        · exact ⟨fun z => HP.out.apart x z y, by have := HIF.out x y; omega, .inl y⟩
        · exact ⟨fun z => by have := HP.out.inG x z; omega, y.2, .inr (by omega)⟩
      refine ⟨rfl, k, _, ext F w2 w3, nb, HKK.out, HLOW.out, ⟨⟨hb9, Segs.other_lb HS4.out hC9 HB4.out, HP.out.log.inG⟩, (HD3.out.chg hC4 (fun x hx e => (hF3 x hx).1 (by rw [e]; exact hGg))).chg hC9 (fun x hx e => (hF3 x hx).1 (by rw [e]; exact HP.out.log.inG)), fun x hx y => (hF3 x y).1 hx, fun x hx => by have := (hF3 x hx).2.1; omega, fun x hx => by have := HP.out.inG x hx; omega⟩, HNB.out, ⟨fun x hx => (hF3 x hx).2.2, fun x hx => .inl hx, ?_⟩⟩
      exact (((hCw3.mono (fun x _ y => .inl y)).trans hC4 (fun x _ y => .inr (by rw [y]; exact hGg))).trans hC9 (fun x _ y => .inr (by rw [y]; exact HP.out.log.inG))))
set_option maxRecDepth 100000 in
set_option maxHeartbeats 8000000 in
theorem truncP_nil (ns : Ns) (lb : Nat) (d : Value) (lim safe cap : Nat) (F G : Nat → Prop) (w : World) (hP : Pair w lb (.slice none 0 0) [] d cap (dsk ns) lim safe F G) (hT : Tb w) :
    Calls Tryz.prog 17 #[.pointer (some ⟨lb, 0, none⟩), .int .i64 0] w fun e w' => e = .returned (.int .i64 0) ∧ ∃ F', Pair w' lb (.slice none 0 0) [] d cap (dsk ns) lim safe F' G ∧ Out w w' F G F' G := by
  have HP := Lib.hid hP
  obtain ⟨db, rfl⟩ := hP.disk.form
  have HNX := Lib.hid (nextL_any lb _ [] _ lim safe G w hP.log (by simp [sgs, nextS]))
  rw [show nextS (sgs []) = 0 from rfl] at HNX
  have HFS := Lib.hid (show ∀ W, Kept w W → _ from fun W hW => files_wal (.slice none 0 0) (.pointer (some ⟨db, 0, none⟩)) [] G W (hP.log.segs.kept hW) (hT.kept hW) (by simp) (fun p hp => by simp at hp))
  have c0 := hP.log.c0
  have c1 := hP.log.c1
  have c4 := hP.log.c4
  have hlbF := hP.apart lb hP.log.inG
  have HRM := Lib.hid (show ∀ (v : Value) W, Kept w W → _ → _ from fun v W hW hv => remove_any [] v (.pointer (some ⟨db, 0, none⟩)) cap (dsk ns) F W (hP.disk.kept hW) hv)
  rw [show allS [] (dsk ns) = 0 from by simp [allS], if_pos rfl, show remS [] (dsk ns) = dsk ns from by simp [remS]] at HRM
  have HIF := Lib.hid hP.inF
  clear hP hT
  go_enter Tryz.func17, Tryz.ntmps17
  go_wp2_with fail
  refine HNX.out.mono ?_
  rintro e w1 ⟨rfl, k1⟩
  go_wp2
  go_loopw [5] (fun v W => v = .int .i64 0 ∧ Kept w W) (fun v _ => 0)
  case atStart => exact ⟨rfl, k1⟩
  case round =>
    obtain ⟨rfl, hKt⟩ := hrel
    have hKd := hKt.drew
    have e0 := hKt.cell c0
    have e1 := hKt.cell c1
    have e4 := hKt.cell c4
    go_wp2_with fail
    go_region_held3 (fun W => W.cell? ⟨lb, 0, none⟩ = some (.pointer (some ⟨db, 0, none⟩)) ∧ W.cell? ⟨lb, 1, none⟩ = some (.string ⟨lg.toArray⟩) ∧ W.cell? ⟨lb, 4, none⟩ = some (.slice none 0 0))
      (first | exact ⟨e0, e1, e4⟩ | exact ⟨hq2.cell c0, hq2.cell c1, hq2.cell c4⟩ | exact ⟨y0, y1, y4⟩)
      (first
        | (go_at_call 52; refine (HFS.out _ hKd).mono ?_; rintro e w2 ⟨v2, rfl, ho2, hqb⟩; have hq2 : Kept w w2 := hKd.trans hqb; have HO2 := Lib.hid ho2; obtain ⟨A2, c2, hv2⟩ := own_form ho2; subst hv2; clear ho2)
        | (go_at_call 51; refine (HRM.out _ _ hq2 (fun W hW => Txts.of_own (own_chg HO2.out hW (fun x hx y => by have h1 := (HO2.out.lt x hx).1; have h2 := HIF.out x y; have h3 := hKd.size; omega)))).mono ?_; rintro e w3 ⟨rfl, hd3, hC3⟩; have y0 := hC3.cell (hq2.cell c0) hlbF; have y1 := hC3.cell (hq2.cell c1) hlbF; have y4 := hC3.cell (hq2.cell c4) hlbF; have HD3 := Lib.hid hd3; clear hd3))
    have hCw3 : Chg F w w3 := (Chg.of_kept hq2).trans hC3 (fun x _ y => y)
    have HL3 := Lib.hid (HP.out.log.chg hCw3 HP.out.apart)
    go_wp2_with fail
    refine (delete_nil w3).mono ?_
    rintro e w4 ⟨rfl, rfl⟩
    have hb4 := HL3.out.cells
    have f4 := frozen_at hb4 4
    have z4 := cell_at hb4 4
    simp only [List.getElem?_toArray, List.getElem?_cons_zero, List.getElem?_cons_succ] at z4
    have HB4 := Lib.hid hb4
    clear hb4
    go_wp2
    go_ret
    have hb9 := set_log4 (v := .slice none 0 0) HB4.out
    have hC9 : Chg (fun x => x = lb) w4 (w4.setCell ⟨lb, 4, none⟩ (.slice none 0 0)) := (Chg.refl _ w4).setCell _ (fun _ => rfl)
    generalize w4.setCell ⟨lb, 4, none⟩ (.slice none 0 0) = w9 at *
    have hz2 := hq2.size
    have hz3 := hC3.size
    have hz9 := hC9.size
    have hF3 : ∀ x, ext F w2 w4 x → ¬ G x ∧ x < w4.heap.size ∧ (F x ∨ w.heap.size ≤ x) := fun x hx => by
      rcases hx with y | y
      · exact ⟨fun z => HP.out.apart x z y, by have := HIF.out x y; omega, .inl y⟩
      · exact ⟨fun z => by have := HP.out.inG x z; omega, y.2, .inr (by omega)⟩
    refine ⟨rfl, ext F w2 w4, ⟨⟨hb9, Segs.other_lb HL3.out.segs hC9 HB4.out, HP.out.log.inG⟩, HD3.out.chg hC9 (fun x hx e => (hF3 x hx).1 (by rw [e]; exact HP.out.log.inG)), fun x hx y => (hF3 x y).1 hx, fun x hx => by have := (hF3 x hx).2.1; omega, fun x hx => by have := HP.out.inG x hx; omega⟩, ⟨fun x hx => (hF3 x hx).2.2, fun x hx => .inl hx, ?_⟩⟩
    exact (hCw3.mono (fun x _ y => .inl y)).trans hC9 (fun x _ y => .inr (by rw [y]; exact HP.out.log.inG))
/-- Truncate, for a log on its disk. -/
theorem trunc_st {H : Nat → Prop} {w0 w : World} {lb : Nat} {d : Value} {cap lim safe : Nat} {ss : List Sg} {ns : Ns} (h : LSt H w0 w lb d cap lim safe ss ns) (hT : Tb w0) (hf : ∀ s ∈ ss, s.fst ≤ 1152921504606846976) (i : Nat) (hi : i ≤ nextS ss) :
    Calls Tryz.prog 17 #[.pointer (some ⟨lb, 0, none⟩), .int .i64 (i : Int)] w fun e w' => e = .returned (.int .i64 0) ∧ ∃ k nb, (k = 0 ∨ k < ss.length) ∧ (∀ s ∈ ss.take k, lowS i s) ∧ LSt (ext H w w') w0 w' lb d cap lim safe (ss.drop k) nb := by
  obtain ⟨sv, ps, F, G, hP, rfl, a2, a3, a4, a5⟩ := h
  have hpl := len_of' a2
  rcases hP.log.segs.row.2 with ⟨rfl, h0⟩ | ⟨g, c, cur, rfl, -⟩
  · obtain rfl : ps = [] := List.eq_nil_of_length_eq_zero h0
    obtain rfl : i = 0 := by simpa [sgs, nextS] using hi
    refine (truncP_nil ns lb d lim safe cap F G w hP (hT.kept a5)).mono ?_
    rintro e w' ⟨rfl, F', hP', hO⟩
    exact ⟨rfl, 0, ns, .inl rfl, fun s hs => by simp at hs, (LSt.of_out a5 a3 a4 hP' rfl a2 hO).1⟩
  · refine (truncP_some ns i ps lb g c d lim safe cap F G w hP a2 (hT.kept a5) (bounded_of hP a2) hpl hf hi).mono ?_
    rintro e w' ⟨rfl, k, sv', F', nb, hk, hlow, hP', hI', hO⟩
    refine ⟨rfl, k, nb, by rw [sgs_len]; exact hk, hlow, ?_⟩
    rw [← sgs_drop]
    exact (LSt.of_out a5 a3 a4 hP' rfl hI' hO).1
theorem truncbad_st {H : Nat → Prop} {w0 w : World} {lb : Nat} {d : Value} {cap lim safe : Nat} {ss : List Sg} {ns : Ns} (h : LSt H w0 w lb d cap lim safe ss ns) (i : Int) (hi : i < 0 ∨ (nextS ss : Int) < i) :
    Calls Tryz.prog 17 #[.pointer (some ⟨lb, 0, none⟩), .int .i64 i] w fun e w' => e = .returned (.int .i64 41) ∧ Kept w w' := by
  obtain ⟨sv, ps, F, G, hP, rfl, a2, a3, a4, a5⟩ := h
  refine truncP_bad i ps lb sv d lim safe G w hP.log ?_ hi
  have hbd := bounded_of hP a2
  rcases List.eq_nil_or_concat ps with rfl | ⟨pa, q, rfl⟩
  · simp [sgs, nextS]
  · rw [List.concat_eq_append, sgs_snoc, nextS_snoc]
    have := hbd q (by simp)
    unfold Sg.next
    omega
end Go.Proofs.YtcdeagmoldbicaaGreatDoor
