/- The walks of the closure that Get hands to the library's Search, of Search, and of Get. -/
import Derived.Test.YtcdeagmoldbicaaGreatDoorGWWrt3
set_option linter.unusedSimpArgs false
set_option linter.unusedVariables false
namespace Go.Proofs.YtcdeagmoldbicaaGreatDoor
open Go.RowKit
/-! ### indexes -/
theorem Linked.fst {ss : List Sg} (h : Linked ss) : ∀ j (hj : j < ss.length), ss[j].fst = firstS ss + (recsOf (ss.take j)).length := by
  intro j hj
  cases j with
  | zero => cases ss with
    | nil => simp at hj
    | cons a r => simp [firstS, recsOf]
  | succ j =>
    have e : ss = (ss.take j ++ [ss[j]]) ++ ss[j + 1] :: ss.drop (j + 2) := by
      rw [← List.take_succ_eq_append_getElem (by omega), ← List.drop_eq_getElem_cons hj, List.take_append_drop]
    have h2 := h _ _ _ e
    rw [follow_snoc] at h2
    simp only [Bool.and_eq_true, decide_eq_true_eq] at h2
    have hl : Linked (ss.take j ++ [ss[j]]) := Linked.left (b := ss[j + 1] :: ss.drop (j + 2)) (by rw [← e]; exact h)
    have h3 := hl.next
    rw [nextS_snoc] at h3
    have h4 : firstS (ss.take j ++ [ss[j]]) = firstS ss := by
      rw [← List.take_succ_eq_append_getElem (by omega)]
      cases ss with
      | nil => simp at hj
      | cons a r => rfl
    rw [h2.2, h3, h4, ← List.take_succ_eq_append_getElem (by omega)]
theorem recsOf_split {ss : List Sg} {j : Nat} (hj : j < ss.length) : recsOf ss = recsOf (ss.take j) ++ (ss[j].recs ++ recsOf (ss.drop (j + 1))) := by
  have e : ss = ss.take j ++ (ss[j] :: ss.drop (j + 1)) := by rw [← List.drop_eq_getElem_cons hj, List.take_append_drop]
  have e2 := congrArg recsOf e
  rw [e2]
  unfold recsOf
  rw [List.map_append, List.flatten_append, List.map_cons, List.flatten_cons]
theorem recsOf_take_le {ss : List Sg} {a b : Nat} (h : a ≤ b) : (recsOf (ss.take a)).length ≤ (recsOf (ss.take b)).length := by
  have : ss.take b = ss.take a ++ (ss.take b).drop a := by
    conv => lhs; rw [← List.take_append_drop a (ss.take b), List.take_take, Nat.min_eq_left h]
  rw [this]
  unfold recsOf
  rw [List.map_append, List.flatten_append, List.length_append]
  omega
theorem Linked.mono {ss : List Sg} (h : Linked ss) {a b : Nat} (hab : a ≤ b) (hb : b < ss.length) : (ss[a]'(by omega)).fst ≤ ss[b].fst := by
  rw [h.fst a (by omega), h.fst b hb]
  have := recsOf_take_le (ss := ss) hab
  omega
/-- The segment in which a record stands. -/
theorem Linked.find {ss : List Sg} (h : Linked ss) {i k : Nat} (hk1 : k < ss.length) (h1 : ss[k].fst ≤ i) (h2 : ∀ h : k + 1 < ss.length, i < (ss[k + 1]'h).fst) (hi : i < nextS ss) : i < ss[k].next ∧ (recsOf ss)[i - firstS ss]? = ss[k].recs[i - ss[k].fst]? := by
  have hf := h.fst k hk1
  have hs := recsOf_split hk1
  have hn : i < ss[k].next := by
    by_cases hk : k + 1 < ss.length
    · have h3 := h2 hk
      rw [h.fst (k + 1) hk, List.take_succ_eq_append_getElem hk1, recsOf_snoc, List.length_append] at h3
      unfold Sg.next
      omega
    · have e : ss = ss.take k ++ [ss[k]] := by rw [← List.take_succ_eq_append_getElem hk1, List.take_of_length_le (by omega)]
      rw [e, nextS_snoc] at hi
      exact hi
  refine ⟨hn, ?_⟩
  unfold Sg.next at hn
  rw [hs, List.getElem?_append_right (by omega), List.getElem?_append_left (by omega)]
  congr 1
  omega
/-! ### the walks -/
set_option maxRecDepth 100000 in
set_option maxHeartbeats 4000000 in
theorem closure_any (lb b1 b2 : Nat) (sv : Value) (ps : Ps) (d : Value) (lim safe : Nat) (G : Nat → Prop) (i : Int) (h : Nat) (w : World) (hl : Lgm w lb sv ps d lim safe G) (c1 : w.cell? ⟨b1, 0, none⟩ = some (.pointer (some ⟨lb, 0, none⟩))) (c2 : w.cell? ⟨b2, 0, none⟩ = some (.int .i64 i)) (hh : h < ps.length) :
    Calls Tryz.prog 68 #[.int .i64 (h : Int), .pointer (some ⟨b1, 0, none⟩), .pointer (some ⟨b2, 0, none⟩)] w fun e w' => e = .returned (.bool (decide (i < (ps[h].1.fst : Int)))) ∧ Kept w w' := by
  obtain ⟨A, c, rfl, hc1, hc2⟩ := hl.segs.form
  unfold maxLen at hc2
  have c4 := hl.c4
  obtain ⟨g, rfl, q0, q1, q2, q3, cur, hcur⟩ := hl.segs.at hh
  have g0 : (0 : Int) ≤ (h : Int) := by omega
  have g1 : (h : Int) < (ps.length : Int) := by omega
  generalize ps[h].1.fst = fs at *
  clear hl hcur q0 q2 q3
  go_enter Tryz.func68, Tryz.ntmps68
  go_wp2
  go_quiet (fail)
  rename_i nq
  go_wp2
  go_ret
  exact ⟨rfl, (Kept.refl w).drewN nq⟩
set_option maxRecDepth 100000 in
set_option maxHeartbeats 4000000 in
theorem search_any (n : Nat) (b1 b2 : Nat) (p : Nat → Bool) (w : World) (hsz : n ≤ 1000000000) (hf : ∀ W, Kept w W → ∀ h, h < n → Calls Tryz.prog 68 #[.int .i64 (h : Int), .pointer (some ⟨b1, 0, none⟩), .pointer (some ⟨b2, 0, none⟩)] W fun e w' => e = .returned (.bool (p h)) ∧ Kept W w')
    (hmono : ∀ a b, a ≤ b → b < n → p a = true → p b = true) :
    Calls Tryz.prog 67 #[.int .i64 (n : Int), .func (.func 68) #[] #[.pointer (some ⟨b1, 0, none⟩), .pointer (some ⟨b2, 0, none⟩)]] w fun e w' => ∃ k : Nat, e = .returned (.int .i64 (k : Int)) ∧ k ≤ n ∧ (∀ t, t < k → p t = false) ∧ (∀ t, k ≤ t → t < n → p t = true) ∧ Kept w w' := by
  have HF := Lib.hid hf
  have HM := Lib.hid hmono
  clear hf hmono
  go_enter Tryz.func67, Tryz.ntmps67
  go_wp2
  go_loopw [5, 6] (fun s5 s6 W => ∃ lo hi : Nat, s5 = .int .i64 (lo : Int) ∧ s6 = .int .i64 (hi : Int) ∧ lo ≤ hi ∧ hi ≤ n ∧ Kept w W ∧ (∀ t, t < lo → p t = false) ∧ (∀ t, hi ≤ t → t < n → p t = true)) (fun s5 s6 _ => (intOf s6).toNat - (intOf s5).toNat)
  case atStart => exact ⟨0, n, rfl, rfl, Nat.zero_le _, Nat.le_refl _, Kept.refl w, fun t ht => absurd ht (Nat.not_lt_zero _), fun t h1 h2 => by omega⟩
  case round =>
    obtain ⟨lo, hi, rfl, rfl, hlh, hin, hK, i1, i2⟩ := hrel
    have I1 := Lib.hid i1
    have I2 := Lib.hid i2
    clear i1 i2
    by_cases hlt : lo < hi
    · have hc := HF.out wr hK ((lo + hi) / 2) (by omega)
      rw [show (((lo + hi) / 2 : Nat) : Int) = ((lo : Int) + (hi : Int)) / 2 by omega] at hc
      cases hp : p ((lo + hi) / 2) with
      | false =>
        rw [hp] at hc
        have HP := Lib.hid hp
        have HC := Lib.hid hc
        clear hp hc
        go_wp2_with fail
        refine HC.out.mono ?_
        rintro e w3 ⟨rfl, k3⟩
        have hK3 := hK.trans k3
        go_wp2
        go_roundw
        case rel =>
          refine ⟨(lo + hi) / 2 + 1, hi, by rw [show ((lo : Int) + (hi : Int)) / 2 + 1 = (((lo + hi) / 2 + 1 : Nat) : Int) by omega], rfl, by omega, hin, hK3, fun t ht => ?_, I2.out⟩
          cases h : p t with
          | false => rfl
          | true => have := HM.out t ((lo + hi) / 2) (by omega) (by omega) h; rw [HP.out] at this; cases this
        case measure => simp [intOf]; omega
      | true =>
        rw [hp] at hc
        have HP := Lib.hid hp
        have HC := Lib.hid hc
        clear hp hc
        go_wp2_with fail
        refine HC.out.mono ?_
        rintro e w3 ⟨rfl, k3⟩
        have hK3 := hK.trans k3
        go_wp2
        go_roundw
        case rel =>
          exact ⟨lo, (lo + hi) / 2, rfl, by rw [show ((lo : Int) + (hi : Int)) / 2 = (((lo + hi) / 2 : Nat) : Int) by omega], by omega, by omega, hK3, I1.out, fun t ht htn => HM.out ((lo + hi) / 2) t ht htn HP.out⟩
        case measure => simp [intOf]; omega
    · obtain rfl : hi = lo := by omega
      go_wp2
      go_ret
      exact ⟨hi, rfl, hin, I1.out, I2.out, hK⟩
set_option maxRecDepth 100000 in
set_option maxHeartbeats 8000000 in
theorem get_ok (lb : Nat) (sv : Value) (ps : Ps) (d : Value) (lim safe : Nat) (G : Nat → Prop) (i : Nat) (r : List UInt8) (w : World) (hl : Lgm w lb sv ps d lim safe G) (hL : Linked (sgs ps)) (hbd : bounded ps) (hpl : ps.length ≤ 1000000) (h1 : firstS (sgs ps) ≤ i) (h2 : i < nextS (sgs ps)) (hr : (recsOf (sgs ps))[i - firstS (sgs ps)]? = some r) (hrl : r.length ≤ 1073741824) :
    Calls Tryz.prog 29 #[.pointer (some ⟨lb, 0, none⟩), .int .i64 (i : Int)] w fun e w' => ∃ v, e = .returned (.tuple #[v, .int .i64 0]) ∧ w'.ownsRow w.heap.size 5 1 v r.length (Lib.byteCells r) ∧ Kept w w' := by
  have H := Lib.hid hl
  have HLK := Lib.hid hL
  have HR := Lib.hid hr
  have HBD := Lib.hid hbd
  have hnx : nextS (sgs ps) < 9000000000000000000 := by
    rcases List.eq_nil_or_concat ps with rfl | ⟨pa, q, rfl⟩
    · simp [sgs, nextS]
    · rw [List.concat_eq_append, sgs_snoc, nextS_snoc]
      have := hbd q (by simp)
      unfold Sg.next
      omega
  have hk0 := ((Kept.refl w).alloc (.cells #[.pointer (some ⟨lb, 0, none⟩)] 34)).alloc (.cells #[.int .i64 (i : Int)] 3)
  have HFI := Lib.hid (show ∀ W, Kept w W → _ from fun W hW => first_any lb sv ps d lim safe G W (hl.kept hW))
  have HNX := Lib.hid (show ∀ W, Kept w W → _ from fun W hW => nextL_any lb sv ps d lim safe G W (hl.kept hW) (by omega))
  have t1 : decide ((i : Int) < (firstS (sgs ps) : Int)) = false := by simp; omega
  have t2 : decide ((nextS (sgs ps) : Int) ≤ (i : Int)) = false := by simp; omega
  have t3 : decide (i < firstS (sgs ps)) = false := by simp; omega
  have t4 : decide (nextS (sgs ps) ≤ i) = false := by simp; omega
  have H1 := Lib.hid h1
  have H2 := Lib.hid h2
  obtain ⟨A, c, hsv, hc1, hc2⟩ := hl.segs.form
  subst hsv
  have hmf : ∀ (fn : Fn) (first cap : Array Value) (w : World), (Instr.makeFunc fn first cap).run Tryz.prog w = .ok (.func fn first cap) w := fun _ _ _ _ => rfl
  clear hl hL hr hbd h1 h2
  generalize hfe : firstS (sgs ps) = fs at *
  generalize hne : nextS (sgs ps) = nx at *
  have HFE := Lib.hid hfe
  have HNE := Lib.hid hne
  clear hfe hne
  go_enter Tryz.func29, Tryz.ntmps29
  go_wp2
  have hb1 := ((Kept.refl (w.alloc (.cells #[.pointer (some ⟨lb, 0, none⟩)] 34))).alloc (.cells #[.int .i64 (i : Int)] 3)).block' (heap_alloc_new w (.cells #[.pointer (some ⟨lb, 0, none⟩)] 34))
  have hz : (w.alloc (.cells #[.pointer (some ⟨lb, 0, none⟩)] 34)).heap.size = w.heap.size + 1 := by simp
  have hb2 := heap_alloc_new (w.alloc (.cells #[.pointer (some ⟨lb, 0, none⟩)] 34)) (.cells #[.int .i64 (i : Int)] 3)
  rw [hz] at hb2
  generalize (w.alloc (.cells #[.pointer (some ⟨lb, 0, none⟩)] 34)).alloc (.cells #[.int .i64 (i : Int)] 3) = w1 at *
  have p1 := cell_at hb1 0
  have p2 := cell_at hb2 0
  simp only [List.getElem?_toArray, List.getElem?_cons_zero, List.getElem?_cons_succ] at p1 p2
  have hKr := (Kept.refl w1).drew
  clear hb1 hb2 hz
  go_region_held3 (fun W => W.cell? ⟨w.heap.size, 0, none⟩ = some (.pointer (some ⟨lb, 0, none⟩)) ∧ W.cell? ⟨w.heap.size + 1, 0, none⟩ = some (.int .i64 (i : Int)))
    (first | exact ⟨p1, p2⟩ | exact ⟨hq1.cell p1, hq1.cell p2⟩ | exact ⟨hq2.cell p1, hq2.cell p2⟩)
    (first
      | (go_at_call 28; refine (HFI.out _ (hk0.trans hKr)).mono ?_; rintro e w2 ⟨rfl, hqa⟩; have hq1 : Kept w1 w2 := hKr.trans hqa; have z1 := hq1.cell p1; have z2 := hq1.cell p2)
      | (go_at_call 27; refine (HNX.out _ (hk0.trans hq1)).mono ?_; rintro e w3 ⟨rfl, hqb⟩; have hq2 : Kept w1 w3 := hq1.trans hqb; have y1 := hq2.cell p1; have y2 := hq2.cell p2))
  have hk3 := hk0.trans hq2
  have l4 := (H.out.kept hk3).c4
  have HSE := Lib.hid (search_any ps.length w.heap.size (w.heap.size + 1) (fun h => if hh : h < ps.length then decide ((i : Int) < (ps[h].1.fst : Int)) else true) w3 (by omega) (fun W hW h hh => by
    rw [dif_pos hh]
    exact closure_any lb _ _ _ ps d lim safe G (i : Int) h W (H.out.kept (hk3.trans hW)) (hW.cell y1) (hW.cell y2) hh) (fun a b hab hb ha => by
      rw [dif_pos (by omega)] at ha
      rw [dif_pos hb]
      have hm := HLK.out.mono (a := a) (b := b) hab (by rw [sgs_len]; exact hb)
      simp only [sgs, List.getElem_map] at hm
      simp only [decide_eq_true_eq] at ha ⊢
      omega))
  clear z1 z2
  go_wp2_with fail
  refine HSE.out.mono ?_
  rintro e w4 ⟨k, rfl, hkn, hs1, hs2, k4⟩
  have hk4 := hk3.trans k4
  have hkp : 0 < k := by
    apply Classical.byContradiction
    intro hk
    obtain rfl : k = 0 := by omega
    by_cases hpe : 0 < ps.length
    · have := hs2 0 (Nat.le_refl _) hpe
      rw [dif_pos hpe, decide_eq_true_eq] at this
      have h1 := H1.out
      rw [← HFE.out] at h1
      have hf : firstS (sgs ps) = ps[0].1.fst := by
        cases ps with
        | nil => simp at hpe
        | cons a b => rfl
      rw [hf] at h1
      omega
    · obtain rfl : ps = [] := List.eq_nil_of_length_eq_zero (by omega)
      have h2 := H2.out
      rw [← HNE.out] at h2
      simp [sgs, nextS] at h2
  have hkl : k - 1 < ps.length := by omega
  have hfind := HLK.out.find (i := i) (k := k - 1) (by rw [sgs_len]; exact hkl) (by
    have := hs1 (k - 1) (by omega)
    rw [dif_pos hkl, decide_eq_false_iff_not] at this
    simp only [sgs, List.getElem_map]
    omega) (fun hk1 => by
    have hk1' : k < ps.length := by rw [sgs_len] at hk1; omega
    have := hs2 k (Nat.le_refl _) hk1'
    rw [dif_pos hk1', decide_eq_true_eq] at this
    have e : k - 1 + 1 = k := by omega
    simp only [sgs, List.getElem_map, e]
    omega) (by rw [HNE.out]; exact H2.out)
  have hge : ps[k - 1].1.fst ≤ i := by
    have := hs1 (k - 1) (by omega)
    rw [dif_pos hkl, decide_eq_false_iff_not] at this
    omega
  have hsge : (sgs ps)[k - 1]'(by rw [sgs_len]; exact hkl) = ps[k - 1].1 := by simp [sgs]
  rw [hsge, HFE.out, HR.out] at hfind
  obtain ⟨hin, hrec⟩ := hfind
  have hsub : ∃ m : Nat, i = ps[k - 1].1.fst + m := ⟨i - ps[k - 1].1.fst, by omega⟩
  obtain ⟨m, hm⟩ := hsub
  unfold Sg.next at hin
  have hml : m < ps[k - 1].1.recs.length := by omega
  rw [hm, Nat.add_sub_cancel_left, List.getElem?_eq_getElem hml] at hrec
  have hrr : ps[k - 1].1.recs[m] = r := by simpa using hrec.symm
  obtain ⟨g, hA, q0, q1, q2, q3, cur, hcur⟩ := (H.out.segs.kept hk4).at hkl
  subst hA
  have hRec := (H.out.segs.recs ps[k - 1] (List.getElem_mem hkl)).kept hk4
  obtain ⟨rA, rc, hrv, hrc1, hrc2⟩ := hRec.form
  rw [hrv] at q3 hRec
  obtain ⟨rg, ru, hrA, hrcell, hrbts⟩ := hRec.at hml
  subst hrA
  rw [hrr] at hrbts
  have x1 := k4.cell y1
  have x2 := k4.cell y2
  have x4 := k4.cell l4
  have HBT := Lib.hid hrbts
  obtain ⟨uA, uc, hu, -, -, -⟩ := hrbts
  subst hu
  obtain ⟨kk, rfl⟩ : ∃ kk, k = kk + 1 := ⟨k - 1, by omega⟩
  simp only [Nat.add_sub_cancel] at hkl q0 q1 q2 q3 hml hm hrr hrc1
  have HBQ := Lib.hid (HBD.out ps[kk] (List.getElem_mem hkl))
  have HRR := Lib.hid hrr
  clear hs1 hs2 hsge hrec hin hge hRec hrv hcur hkp hrr
  generalize ps[kk].1.fst = fq at *
  generalize ps[kk].1.recs.length = rn at *
  generalize ps[kk].1.num = nq at *
  generalize ps[kk].1.siz = zq at *
  have hfq := HBQ.out.2.1
  have hmb := HBQ.out.2.2.1
  subst hm
  have g1 : (kk : Int) < (ps.length : Int) := by omega
  have g2 : (m : Int) < (rn : Int) := by omega
  have g3 : ((fq + m : Nat) : Int) - (fq : Int) = (m : Int) := by omega
  have g4 : ((fq : Int) + (m : Int)) - (fq : Int) = (m : Int) := by omega
  have b2 : w.heap.size + 1 < w4.heap.size := World.block_lt_of_cell? _ _ x2
  have b3 : rg < w4.heap.size := World.block_lt_of_cell? _ _ hrcell
  go_wp2_with fail
  refine (bclone_any r _ _ (HBT.out.kept ((Kept.refl w4).alloc _)) (by omega)).mono ?_
  rintro e w5 ⟨v5, rfl, ho5, k5⟩
  obtain ⟨A5, c5, rfl⟩ := own_form ho5
  have hk5 := (hk4.alloc _).trans k5
  have HO5 := Lib.hid (own_base' ho5 (hk4.alloc _).size)
  clear ho5
  go_wp2
  go_ret2
  exact ⟨_, rfl, HO5.out, hk5⟩
set_option maxRecDepth 100000 in
set_option maxHeartbeats 8000000 in
theorem get_no (lb : Nat) (sv : Value) (ps : Ps) (d : Value) (lim safe : Nat) (G : Nat → Prop) (i : Nat) (w : World) (hl : Lgm w lb sv ps d lim safe G) (hbd : bounded ps) (h2 : i < firstS (sgs ps) ∨ nextS (sgs ps) ≤ i) :
    Calls Tryz.prog 29 #[.pointer (some ⟨lb, 0, none⟩), .int .i64 (i : Int)] w fun e w' => e = .returned (.tuple #[.slice none 0 0, .int .i64 41]) ∧ Kept w w' := by
  have hnx : nextS (sgs ps) < 9000000000000000000 := by
    rcases List.eq_nil_or_concat ps with rfl | ⟨pa, q, rfl⟩
    · simp [sgs, nextS]
    · rw [List.concat_eq_append, sgs_snoc, nextS_snoc]
      have := hbd q (by simp)
      unfold Sg.next
      omega
  have hk0 := ((Kept.refl w).alloc (.cells #[.pointer (some ⟨lb, 0, none⟩)] 34)).alloc (.cells #[.int .i64 (i : Int)] 3)
  have HFI := Lib.hid (show ∀ W, Kept w W → _ from fun W hW => first_any lb sv ps d lim safe G W (hl.kept hW))
  have HNX := Lib.hid (show ∀ W, Kept w W → _ from fun W hW => nextL_any lb sv ps d lim safe G W (hl.kept hW) (by omega))
  clear hl hbd
  generalize firstS (sgs ps) = fs at *
  generalize nextS (sgs ps) = nx at *
  by_cases h1 : i < fs
  · have t1 : decide ((i : Int) < (fs : Int)) = true := by simp; omega
    have t3 : decide (i < fs) = true := by simpa using h1
    clear h1 h2
    go_enter Tryz.func29, Tryz.ntmps29
    go_wp2
    have hb1 := ((Kept.refl (w.alloc (.cells #[.pointer (some ⟨lb, 0, none⟩)] 34))).alloc (.cells #[.int .i64 (i : Int)] 3)).block' (heap_alloc_new w (.cells #[.pointer (some ⟨lb, 0, none⟩)] 34))
    have hz : (w.alloc (.cells #[.pointer (some ⟨lb, 0, none⟩)] 34)).heap.size = w.heap.size + 1 := by simp
    have hb2 := heap_alloc_new (w.alloc (.cells #[.pointer (some ⟨lb, 0, none⟩)] 34)) (.cells #[.int .i64 (i : Int)] 3)
    rw [hz] at hb2
    generalize (w.alloc (.cells #[.pointer (some ⟨lb, 0, none⟩)] 34)).alloc (.cells #[.int .i64 (i : Int)] 3) = w1 at *
    have p1 := cell_at hb1 0
    have p2 := cell_at hb2 0
    simp only [List.getElem?_toArray, List.getElem?_cons_zero, List.getElem?_cons_succ] at p1 p2
    have hKr := (Kept.refl w1).drew
    clear hb1 hb2 hz
    go_region_with (go_at_call 28; refine (HFI.out _ (hk0.trans hKr)).mono ?_; rintro e w2 ⟨rfl, hqa⟩; have hq1 : Kept w1 w2 := hKr.trans hqa; have z1 := hq1.cell p1; have z2 := hq1.cell p2)
    all_goals (
      go_wp2
      go_ret2
      exact ⟨rfl, hk0.trans hq1⟩)
  · have t1 : decide ((i : Int) < (fs : Int)) = false := by simp; omega
    have t3 : decide (i < fs) = false := by simpa using h1
    have t2 : decide ((nx : Int) ≤ (i : Int)) = true := by simp; omega
    have t4 : decide (nx ≤ i) = true := by simp; omega
    clear h1 h2
    go_enter Tryz.func29, Tryz.ntmps29
    go_wp2
    have hb1 := ((Kept.refl (w.alloc (.cells #[.pointer (some ⟨lb, 0, none⟩)] 34))).alloc (.cells #[.int .i64 (i : Int)] 3)).block' (heap_alloc_new w (.cells #[.pointer (some ⟨lb, 0, none⟩)] 34))
    have hz : (w.alloc (.cells #[.pointer (some ⟨lb, 0, none⟩)] 34)).heap.size = w.heap.size + 1 := by simp
    have hb2 := heap_alloc_new (w.alloc (.cells #[.pointer (some ⟨lb, 0, none⟩)] 34)) (.cells #[.int .i64 (i : Int)] 3)
    rw [hz] at hb2
    generalize (w.alloc (.cells #[.pointer (some ⟨lb, 0, none⟩)] 34)).alloc (.cells #[.int .i64 (i : Int)] 3) = w1 at *
    have p1 := cell_at hb1 0
    have p2 := cell_at hb2 0
    simp only [List.getElem?_toArray, List.getElem?_cons_zero, List.getElem?_cons_succ] at p1 p2
    have hKr := (Kept.refl w1).drew
    clear hb1 hb2 hz
    go_region_held3 (fun W => W.cell? ⟨w.heap.size, 0, none⟩ = some (.pointer (some ⟨lb, 0, none⟩)) ∧ W.cell? ⟨w.heap.size + 1, 0, none⟩ = some (.int .i64 (i : Int)))
      (first | exact ⟨p1, p2⟩ | exact ⟨hq1.cell p1, hq1.cell p2⟩ | exact ⟨hq2.cell p1, hq2.cell p2⟩)
      (first
        | (go_at_call 28; refine (HFI.out _ (hk0.trans hKr)).mono ?_; rintro e w2 ⟨rfl, hqa⟩; have hq1 : Kept w1 w2 := hKr.trans hqa)
        | (go_at_call 27; refine (HNX.out _ (hk0.trans hq1)).mono ?_; rintro e w3 ⟨rfl, hqb⟩; have hq2 : Kept w1 w3 := hq1.trans hqb))
    go_wp2
    go_ret2
    exact ⟨rfl, hk0.trans hq2⟩
end Go.Proofs.YtcdeagmoldbicaaGreatDoor
