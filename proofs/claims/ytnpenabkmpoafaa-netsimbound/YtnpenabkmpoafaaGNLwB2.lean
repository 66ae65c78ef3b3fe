/- The walk of NetsimBound. NetsimBound, whatever the numbers of nodes and of messages. -/
import Derived.Test.YtnpenabkmpoafaaQNStp
import Derived.Deep.CutBlock
import Derived.Deep.DeepCutAuto
set_option linter.unusedSimpArgs false
set_option linter.unusedVariables false
namespace Go.Proofs.Ytnpenabkmpoafaa
open Go.RowKit
/-- Block g is a row of n numbers, the i-th at most f i. -/
def CRow (W : World) (g n : Nat) (f : Nat → Nat) : Prop := ∃ cur, W.heap[g]? = some (.cells cur 3 (0, 0)) ∧ cur.size = n ∧ ∀ i, i < n → ∃ c : Nat, c ≤ f i ∧ cur[i]? = some (.int .i64 (c : Int))
theorem CRow.at_ {W : World} {g n : Nat} {f : Nat → Nat} (h : CRow W g n f) {i : Nat} (hi : i < n) : (∃ c : Nat, c ≤ f i ∧ W.cell? ⟨g, i, none⟩ = some (.int .i64 (c : Int))) ∧ W.frozen? ⟨g, i, none⟩ = false := by
  obtain ⟨cur, h1, h2, h3⟩ := h
  obtain ⟨c, hc, hx⟩ := h3 i hi
  exact ⟨⟨c, hc, by rw [cell_at h1]; exact hx⟩, frozen_at h1 i⟩
theorem CRow.set_ {W : World} {g n : Nat} {f : Nat → Nat} (h : CRow W g n f) (i c : Nat) (hc : c ≤ f i) : CRow (W.setCell ⟨g, i, none⟩ (.int .i64 (c : Int))) g n f := by
  obtain ⟨cur, h1, h2, h3⟩ := h
  refine ⟨_, Lib.heap_setCell_same (i := i) h1 _, by simpa using h2, fun k hk => ?_⟩
  obtain ⟨x, hx, hcx⟩ := h3 k hk
  by_cases e : i = k
  · subst e
    have : i < cur.size := by omega
    exact ⟨c, hc, by simp [this]⟩
  · exact ⟨x, hx, by rw [Array.getElem?_setIfInBounds_ne e]; exact hcx⟩
theorem CRow.mono {W : World} {g n : Nat} {f f' : Nat → Nat} (h : CRow W g n f) (hf : ∀ i, f i ≤ f' i) : CRow W g n f' := by
  obtain ⟨cur, h1, h2, h3⟩ := h
  exact ⟨cur, h1, h2, fun i hi => by obtain ⟨c, hc, hx⟩ := h3 i hi; exact ⟨c, Nat.le_trans hc (hf i), hx⟩⟩
theorem CRow.chg {F : Nat → Prop} {W W' : World} {g n : Nat} {f : Nat → Nat} (h : CRow W g n f) (c : Chg F W W') (hF : ¬ F g) : CRow W' g n f := by
  obtain ⟨cur, h1, h2, h3⟩ := h
  exact ⟨cur, c.block' h1 hF, h2, h3⟩
theorem CRow.of_made {w : World} {base g n : Nat} (h : w.ownsRow base 3 1 (.slice (some ⟨g, 0, none⟩) n n) n (madeCells #[.int .i64 0] (n * 1)).toList) (hn : 0 < n) (f : Nat → Nat) : CRow w g n f := by
  rw [toList_madeCells_one] at h
  rcases h.2 with ⟨e, -⟩ | ⟨g', cap, cur, e, -, h1, -, -, h2, h3⟩
  · cases e
  · obtain ⟨rfl, rfl⟩ : g = g' ∧ n = cap := by simpa using e
    refine ⟨cur, h1, by simpa using h2, fun i hi => ⟨0, Nat.zero_le _, ?_⟩⟩
    have h4 := congrArg (·[i]?) h3
    simp only [Nat.mul_one] at h4
    rw [List.getElem?_take_of_lt hi, Array.getElem?_toList, List.getElem?_replicate, if_pos (by omega)] at h4
    exact h4
theorem countE_le {A : Nat → Prop} {w0 w : World} {nb : Nat} {s : NS} {lim : Nat} (h : NK A w0 w nb s lim) (a b : Int) : 0 ≤ countE s a b ∧ countE s a b ≤ s.room := by
  unfold countE
  by_cases e : chk s.n [a, b] = 0
  · rw [if_pos e]
    obtain ⟨a', b', rfl, rfl, ha, hb⟩ := chk_two_inv e
    have := h.facts.2.2.1 a' b' ha hb
    simp only [Int.toNat_natCast]
    omega
  · rw [if_neg e]
    omega
theorem chk_cases (n : Nat) (l : List Int) : chk n l = 0 ∨ chk n l = 60 := by
  unfold chk
  split
  · exact .inl rfl
  · exact .inr rfl
set_option maxRecDepth 100000 in
set_option maxHeartbeats 4000000 in
theorem netsimBound_ok (n r : Nat) (xs : List Op6) (v : Value) (w : World) (hn : 1 ≤ n ∧ n ≤ 32) (hr : 1 ≤ r ∧ r ≤ 4096) (hv : Script6 w v xs) (hl : xs.length ≤ 1759218604390) (hf : ∀ x ∈ xs, x.Fits) (hnn : ∀ x ∈ xs, -9223372036854775808 ≤ x.n ∧ x.n ≤ 9223372036854775807) :
    Calls Try.prog 4 #[.int .i64 (n : Int), .int .i64 (r : Int), v] w fun e w' => e = .returned (.bool true) ∧ Kept w w' := by
  have HN := Lib.hid (new_nk n r w hn hr)
  have HV := Lib.hid hv
  have HF := Lib.hid hf
  have HNN := Lib.hid hnn
  obtain ⟨A, c, rfl, hc1, hc2⟩ := hv.form
  unfold maxLen at hc2
  clear hf hv hnn
  go_enter Try.func4, Try.ntmps4
  go_wp2_with fail
  refine HN.out.mono ?_
  rintro e w1 ⟨nb, rfl, hn1⟩
  have HN1 := Lib.hid hn1
  obtain ⟨i, hi, hz, hs, hb⟩ := info_int
  obtain ⟨w2, hmk, hrow, hgr⟩ := run_make_full (P := Try.prog) w1 w1.heap.size 37 3 i (.int .i64 0) 1 Try.underlying37 hi hz hs .i64 .i64 n (by rw [hb]; omega) (by unfold maxLen; omega) (Nat.le_refl _)
  have hk2 : Kept w1 w2 := (Chg.of_grown (F := no) hgr (fun g hg => by cases hg)).to_kept
  have hc2' : CRow w2 w1.heap.size n (fun i => (NS.new n r).t.getD i 0) := CRow.of_made hrow (by omega) _
  have hsz2 : w1.heap.size < w2.heap.size := by
    obtain ⟨cur, h1, -⟩ := hc2'
    exact (Array.getElem?_eq_some_iff.1 h1).1
  have HC2 := Lib.hid hc2'
  have hs01 := hn1.old.size
  have HN2 := Lib.hid ((hn1.widen (A' := fun g => g = w1.heap.size) (fun g x => .inr (by omega))).kept hk2)
  obtain ⟨cb, hcb⟩ : ∃ cb, w1.heap.size = cb := ⟨_, rfl⟩
  rw [hcb] at HC2 HN2 hmk hsz2 hs01
  clear hn1 hi hz hs hb hrow hgr hc2' hk2 hcb
  have g0 : (0 : Int) ≤ (n : Int) := by omega
  go_wp2
  clear hmk
  go_loopw [40] (fun i W => ∃ (k : Nat) (s : NS), i = .int .i64 (k : Int) ∧ k ≤ xs.length ∧ s.n = n ∧ s.room = r ∧ NK (fun g => g = cb) w W nb s (2 * k) ∧ CRow W cb n (fun i => s.t.getD i 0) ∧ cb < W.heap.size) (fun i _ => xs.length - (intOf i).toNat)
  case atStart => exact ⟨0, _, rfl, Nat.zero_le _, rfl, rfl, HN2.out, HC2.out, hsz2⟩
  case round =>
    obtain ⟨k, s, rfl, hk, hsn, hsr, hnk, hcr, hcw⟩ := hrel
    have HSN := Lib.hid hsn
    have HSR := Lib.hid hsr
    have HNK := Lib.hid hnk
    have HKR := Lib.hid hnk.old
    have HCR := Lib.hid hcr
    clear hsn hsr hnk hcr
    by_cases hlt : k < xs.length
    · obtain ⟨b, o, rfl, a0, a1, a2, a3, a4, a5, hrd⟩ := (HV.out.kept HKR.out).at hlt
      have g1 : (k : Int) < (xs.length : Int) := by omega
      have HXF := Lib.hid (HF.out xs[k] (List.getElem_mem hlt))
      have HXN := Lib.hid (HNN.out xs[k] (List.getElem_mem hlt))
      have HRD0 := Lib.hid (show xs[k].Reads w from by obtain ⟨_, _, _, _, _, _, _, _, _, h⟩ := HV.out.at hlt; exact h)
      clear hrd
      generalize xs[k] = x at *
      obtain ⟨Al, cl, hlv, hl1, hl2, -⟩ := HRD0.out.1
      obtain ⟨An, cn, hnv, -, hn2, -⟩ := HRD0.out.2
      rw [hlv] at a4
      rw [hnv] at a5
      have HLV := Lib.hid hlv
      have HNV := Lib.hid hnv
      clear hlv hnv
      go_upto_region 8 with (fail)
      have hKa : Kept wr (wr.alloc (.cells #[.int .i64 x.kind, .int .i64 x.a, .int .i64 x.b, .int .i64 x.n, .slice Al x.list.length cl, .slice An x.nodes.length cn] 39)) := (Kept.refl wr).alloc _
      have hba := heap_alloc_new wr (.cells #[.int .i64 x.kind, .int .i64 x.a, .int .i64 x.b, .int .i64 x.n, .slice Al x.list.length cl, .slice An x.nodes.length cn] 39)
      have hbz : wr.heap.size < (wr.alloc (.cells #[.int .i64 x.kind, .int .i64 x.a, .int .i64 x.b, .int .i64 x.n, .slice Al x.list.length cl, .slice An x.nodes.length cn] 39)).heap.size := by simp
      generalize wr.alloc (.cells #[.int .i64 x.kind, .int .i64 x.a, .int .i64 x.b, .int .i64 x.n, .slice Al x.list.length cl, .slice An x.nodes.length cn] 39) = wa at *
      clear a0 a1 a2 a3 a4 a5
      obtain ⟨wo, rfl⟩ : ∃ wo, wo = wr := ⟨_, rfl⟩
      have q0 := cell_at hba 0
      have q1 := cell_at hba 1
      have q2 := cell_at hba 2
      have q3 := cell_at hba 3
      have q4 := cell_at hba 4
      have q5 := cell_at hba 5
      simp only [List.getElem?_toArray, List.getElem?_cons_zero, List.getElem?_cons_succ] at q0 q1 q2 q3 q4 q5
      have HNA := Lib.hid ((HNK.out.widen (A' := fun g => g = cb ∨ g = wo.heap.size) (fun g y => y.elim .inl (fun e => .inr (by omega)))).kept hKa)
      have hsw := HKR.out.size
      have hd0 := duo_new HNA.out (fun g y => by rcases y with y | y <;> omega) n r hn.2 hr.2
      have hz := zero35 wa
      have hs := zeroN_size
      unfold newZ at hd0
      obtain ⟨zn, hzn⟩ : ∃ zn, zeroN = zn := ⟨_, rfl⟩
      rw [hzn] at hz hs hd0
      have hst := step_any x _ w _ nb wa.heap.size s (newRS n r) (2 * k) hd0 (by unfold maxLen; omega) HRD0.out HXF.out HXN.out (by show 0 + 4096 ≤ 5000000; omega) (fun y hy => by cases hy) (fun i _ => Nat.zero_le _)
      rw [HLV.out, HNV.out] at hst
      have HST := Lib.hid hst
      have hz1 : ¬ zn = #[] := fun e => by rw [e] at hs; cases hs
      have hz2 : 1 < zn.size := by omega
      have hz3 : 0 < zn.size := by omega
      have hkz : Kept wa (wa.alloc (.cells ((zn.setIfInBounds 0 (.int .i64 (n : Int))).setIfInBounds 1 (.int .i64 (r : Int))) 35)) := (Kept.refl _).alloc _
      have HKZ := Lib.hid hkz
      have HCZ := Lib.hid (HCR.out.chg (Chg.of_kept (F := no) (hKa.trans hkz)) id)
      have z1 := hkz.cell q1
      have HZ1 := Lib.hid z1
      clear hst hd0 hzn hkz z1 hba
      go_wp2_with fail
      refine HST.out.mono ?_
      rintro e w4 ⟨b', rfl, -, hd4, hc4⟩
      have hbw : wo.heap.size < w4.heap.size := by have := hc4.size; have := HKZ.out.size; omega
      have y1 := box_cell (.inr rfl) HZ1.out hc4
      have HN4 := Lib.hid (hd4.nk.widen (A' := fun g => g = cb) (fun g y => .inl (.inl y)))
      have hfacts := HNK.out.facts
      have HC4 := Lib.hid ((HCZ.out.chg hc4 (fun y => y.2 (.inl rfl))).mono (fun i => stepS_mono hfacts.1 hfacts.2.1 x i))
      have HSN' := Lib.hid ((stepS_n s x).1.trans HSN.out)
      have HSR' := Lib.hid ((stepS_n s x).2.trans HSR.out)
      clear hd4 hc4 q0 q1 q2 q3 q4 q5 hz hz1 hz2 hz3 hs hfacts
      generalize stepS s x = s' at *
      go_wp2
      go_loopw [52] (fun j W => ∃ m : Nat, j = .int .i64 (m : Int) ∧ m ≤ n ∧ NK (fun g => g = cb) w W nb s' (2 * k + 2) ∧ CRow W cb n (fun i => s'.t.getD i 0) ∧ wo.heap.size < W.heap.size ∧ W.cell? ⟨wo.heap.size, 1, none⟩ = some (.int .i64 x.a)) (fun j _ => n - (intOf j).toNat)
      case atStart => exact ⟨0, rfl, Nat.zero_le _, HN4.out, HC4.out, hbw, y1⟩
      case round =>
        clear y1 hbw
        obtain ⟨m, rfl, hm, hnk, hcr, hbw, y1⟩ := hrel
        have HNJ := Lib.hid hnk
        have HCJ := Lib.hid hcr
        have HY1 := Lib.hid y1
        clear hnk hcr
        by_cases hlm : m < n
        · have hfc := HNJ.out.facts
          have g2 : (m : Int) < (n : Int) := by omega
          have hck : chk s'.n [(m : Int)] = 0 := chk_one (by rw [HSN'.out]; exact hlm)
          have hce : clockE s' (m : Int) = ((s'.t.getD m 0 : Nat) : Int) := by unfold clockE; rw [if_pos hck]; simp
          have hcl := clock_nk HNJ.out (m : Int)
          rw [hck, hce] at hcl
          have HCL := Lib.hid hcl
          have htc : s'.t.getD m 0 ≤ 1099511627776 := getD_le hfc.2.1 m
          obtain ⟨tc, htce⟩ : ∃ tc, s'.t.getD m 0 = tc := ⟨_, rfl⟩
          rw [htce] at HCL htc
          have HTC := Lib.hid htce
          clear hfc hck hce hcl htce
          go_wp2_with fail
          refine HCL.out.mono ?_
          rintro e w5 ⟨rfl, hn5, hk5⟩
          have HN5 := Lib.hid hn5
          have hcj := HCJ.out.chg (Chg.of_kept (F := no) hk5) id
          obtain ⟨⟨c0, hc0, hcell⟩, hfz⟩ := hcj.at_ hlm
          have hc0 : c0 ≤ tc := by have := HTC.out; simp only [this] at hc0; exact hc0
          have t1 : decide ((tc : Int) < (c0 : Int)) = false := by simp; omega
          have t1n : decide (tc < c0) = false := by simp; omega
          have t2 : decide ((1099511627776 : Int) < (tc : Int)) = false := by simp; omega
          have HC6 := Lib.hid (hcj.set_ m tc (by have := HTC.out; simp only [this]; exact Nat.le_refl _))
          have hcs : Chg (fun g => g = cb) w5 (w5.setCell ⟨cb, m, none⟩ (.int .i64 (tc : Int))) := (Chg.refl _ _).setCell _ (fun _ => rfl)
          have hn6 := hn5.chg hcs (fun g e => by omega)
          have HN6 := Lib.hid hn6
          have u1 := chg_cellS hcs (hk5.cell y1) (fun e => by omega)
          have HCS := Lib.hid hcs
          have hbw5 := hk5.size
          have HCT := Lib.hid (count_nk hn6 x.a (m : Int))
          have hle := countE_le hn6 x.a (m : Int)
          have hsr := HSR'.out
          rw [hsr] at hle
          have hcc := chk_cases s'.n [x.a, (m : Int)]
          obtain ⟨ct, hct⟩ : ∃ ct, countE s' x.a (m : Int) = ct := ⟨_, rfl⟩
          obtain ⟨ck, hck⟩ : ∃ ck, chk s'.n [x.a, (m : Int)] = ck := ⟨_, rfl⟩
          rw [hct] at HCT hle
          rw [hck] at HCT hcc
          have u1b := hk5.cell y1
          clear hn5 hk5 hcj hcs hn6 hsr hct hck y1
          go_wp2_with fail
          refine HCT.out.mono ?_
          rintro e w7 ⟨rfl, hn7, hk7⟩
          have HN7 := Lib.hid hn7
          have HC7 := Lib.hid (HC6.out.chg (Chg.of_kept (F := no) hk7) id)
          have y1 := hk7.cell u1
          have hb7 : wo.heap.size < w7.heap.size := by have := hk7.size; have := HCS.out.size; omega
          have t3 : decide (ct < 0) = false := by simp; omega
          have t4 : decide ((r : Int) < ct) = false := by simp; omega
          clear hn7 hk7 u1 u1b hcell hfz t1 t1n t2
          rcases hcc with rfl | rfl
          all_goals
            go_wp2
            go_roundw
            case rel => exact ⟨m + 1, by go_num, by omega, HN7.out, HC7.out, hb7, y1⟩
            case measure => simp [intOf]; omega
        · go_wp2
          go_roundw
          case rel => exact ⟨k + 1, s', by go_num, by omega, HSN'.out, HSR'.out, HNJ.out.more (by omega), HCJ.out, by omega⟩
          case measure => simp [intOf]; omega
    · obtain rfl : k = xs.length := by omega
      go_wp2_with fail
      refine (awake_any _).mono ?_
      rintro e w9 ⟨rfl, k9⟩
      have hkk := HKR.out.trans k9
      go_wp2
      go_ret
      exact ⟨rfl, hkk⟩
end Go.Proofs.Ytnpenabkmpoafaa
set_option linter.unusedSimpArgs false
set_option linter.unusedVariables false
namespace Go.Proofs.Ytnpenabkmpoafaa
open Go.RowKit
theorem newE_cases (n r : Int) (h : newE n r ≠ 0) : newE n r = 60 ∨ newE n r = 61 := by
  unfold newE at *
  split
  · exact .inl rfl
  · split
    · exact .inr rfl
    · rename_i h1 h2
      rw [if_neg h1, if_neg h2] at h
      exact absurd rfl h
theorem newE_zero {n r : Int} (h : newE n r = 0) : ∃ n' r' : Nat, n = n' ∧ r = r' ∧ (1 ≤ n' ∧ n' ≤ 32) ∧ (1 ≤ r' ∧ r' ≤ 4096) := by
  unfold newE at h
  split at h
  · cases h
  · split at h
    · cases h
    · exact ⟨n.toNat, r.toNat, by omega, by omega, by omega, by omega⟩
set_option maxRecDepth 100000 in
set_option maxHeartbeats 1000000 in
theorem netsimBound_bad (n r : Int) (v : Value) (w : World) (h : newE n r ≠ 0) :
    Calls Try.prog 4 #[.int .i64 n, .int .i64 r, v] w fun e w' => e = .returned (.bool true) ∧ Kept w w' := by
  have HN := Lib.hid (new_bad n r w h)
  have HC := Lib.hid (check6_any n r w)
  have hc := newE_cases n r h
  clear h
  generalize newE n r = er at *
  rcases hc with rfl | rfl
  all_goals
    go_enter Try.func4, Try.ntmps4
    go_wp2_with fail
    refine HN.out.mono ?_
    rintro e w1 ⟨rfl, rfl⟩
    go_wp2_with fail
    refine HC.out.mono ?_
    rintro e w2 ⟨rfl, rfl⟩
    go_wp2_with fail
    refine (awake_any _).mono ?_
    rintro e w9 ⟨rfl, k9⟩
    go_wp2
    go_ret
    exact ⟨rfl, k9⟩
theorem netsimBound_any (n r : Int) (xs : List Op6) (v : Value) (w : World) (hv : Script6 w v xs) (hl : xs.length ≤ 1759218604390) (hf : ∀ x ∈ xs, x.Fits) (hnn : ∀ x ∈ xs, -9223372036854775808 ≤ x.n ∧ x.n ≤ 9223372036854775807) :
    Calls Try.prog 4 #[.int .i64 n, .int .i64 r, v] w fun e w' => e = .returned (.bool true) ∧ Kept w w' := by
  by_cases h : newE n r = 0
  · obtain ⟨n', r', rfl, rfl, hn, hr⟩ := newE_zero h
    exact netsimBound_ok n' r' xs v w hn hr hv hl hf hnn
  · exact netsimBound_bad n r v w h
end Go.Proofs.Ytnpenabkmpoafaa
