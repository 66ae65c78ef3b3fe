/- The walk of NetsimPlays. -/
import Derived.Test.YtnpenabkmpoafaaGNLwB2
import Derived.Deep.CutBlock
import Derived.Deep.DeepCutAuto
set_option linter.unusedSimpArgs false
set_option linter.unusedVariables false
namespace Go.Proofs.Ytnpenabkmpoafaa
open Go.RowKit
theorem keys_bound {α : Type} (key : α → Nat) (m : Nat) : ∀ (n : Nat) (l : List α), (∀ y ∈ l, key y < n) → (∀ a, a < n → (l.filter fun y => key y == a).length ≤ m) → l.length ≤ n * m
  | 0, l, h, _ => by
    cases l with
    | nil => simp
    | cons y r => exact absurd (h y (by simp)) (by omega)
  | n + 1, l, h, hc => by
    have hp := (List.filter_append_perm (fun y => key y == n) l).length_eq
    rw [List.length_append] at hp
    have h1 := hc n (by omega)
    have h2 := keys_bound key m n (l.filter fun y => !(key y == n)) (fun y hy => by
      obtain ⟨a, b⟩ := List.mem_filter.1 hy
      have := h y a
      have : key y ≠ n := by simpa using b
      omega) (fun a ha => by
      refine Nat.le_trans ?_ (hc a (by omega))
      rw [List.filter_filter]
      have e : (fun y => (key y == a) && !(key y == n)) = fun y => key y == a := by
        funext y
        by_cases e : key y = a
        · have : ¬ key y = n := by omega
          simp [e]
          omega
        · simp [e]
      rw [e]
      exact Nat.le_refl _)
    rw [Nat.succ_mul]
    omega
theorem Rel.few {s : NS} {d : RS} (h : Rel s d) (hs : s.n ≤ 32) (hr : s.room ≤ 4096) (hf : ∀ a b, a < s.n → b < s.n → (s.q a b).length ≤ s.room) : d.list.length + 4096 ≤ 5000000 := by
  have hk := keys_bound (fun y : Int × Int × List UInt8 => y.1.toNat * 32 + y.2.1.toNat) 4096 1024 d.list (fun y hy => by
    obtain ⟨a, b, h1, h2, ha, hb⟩ := h.ends y hy
    show y.1.toNat * 32 + y.2.1.toNat < 1024
    rw [h1, h2]
    simp only [Int.toNat_natCast]
    omega) (fun k hk => by
    by_cases hab : k / 32 < s.n ∧ k % 32 < s.n
    · have hq := h.q (k / 32) (k % 32) hab.1 hab.2
      have hl := hf (k / 32) (k % 32) hab.1 hab.2
      rw [← hq, List.length_map] at hl
      refine Nat.le_trans ?_ (Nat.le_trans hl hr)
      have e : (d.list.filter fun y => y.1.toNat * 32 + y.2.1.toNat == k) = d.list.filter (isAt ((k / 32 : Nat) : Int) ((k % 32 : Nat) : Int)) := by
        refine List.filter_congr fun y hy => ?_
        obtain ⟨a, b, h1, h2, ha, hb⟩ := h.ends y hy
        rw [Bool.eq_iff_iff, isAt_true, h1, h2]
        simp only [Int.toNat_natCast, beq_iff_eq]
        omega
      rw [e]
      exact Nat.le_refl _
    · rw [List.filter_eq_nil_iff.2]
      · simp
      · intro y hy hx
        obtain ⟨a, b, h1, h2, ha, hb⟩ := h.ends y hy
        rw [h1, h2] at hx
        simp only [Int.toNat_natCast, beq_iff_eq] at hx
        apply hab
        omega)
  omega
theorem Rel.light {s : NS} {d : RS} (h : Rel s d) (hl : ∀ a b, a < s.n → b < s.n → ∀ l ∈ s.q a b, l.length ≤ 140737488355328) : ∀ y ∈ d.list, y.2.2.length ≤ 140737488355328 := fun y hy => by
  obtain ⟨a, b, h1, h2, ha, hb⟩ := h.ends y hy
  refine hl a b ha hb y.2.2 ?_
  rw [← h.q a b ha hb]
  exact List.mem_map.2 ⟨y, List.mem_filter.2 ⟨hy, isAt_true.2 ⟨h1, h2⟩⟩, rfl⟩
theorem rel_new (n r : Nat) (hn : 1 ≤ n) : Rel (NS.new n r) (newRS n r) :=
  ⟨rfl, rfl, hn, fun _ _ _ _ => rfl, fun y hy => (by cases hy), fun _ _ _ _ => rfl, fun i hi => by
    show 0 = (List.replicate n 0).getD i 0
    rw [List.getD_eq_getElem?_getD, List.getElem?_replicate, if_pos (show i < n from hi)]
    rfl, List.length_replicate, fun i => Nat.zero_le _, fun _ _ _ _ hx => by cases hx⟩
theorem Duo.clk {A : Nat → Prop} {w0 w : World} {nb db : Nat} {s : NS} {d : RS} {lim : Nat} (h : Duo A w0 w nb db s d lim) {i : Nat} (hi : i < 32) : w.cell? ⟨db, 1027 + i, none⟩ = some (.int .i64 (d.t i : Int)) := by
  obtain ⟨Z, lv, vs, G, h1, -⟩ := h.ref
  exact h1.ct hi
set_option maxRecDepth 100000 in
set_option maxHeartbeats 4000000 in
theorem netsimPlays_ok (n r : Nat) (xs : List Op6) (v : Value) (w : World) (hn : 1 ≤ n ∧ n ≤ 32) (hr : 1 ≤ r ∧ r ≤ 4096) (hv : Script6 w v xs) (hl : xs.length ≤ 1759218604390) (hf : ∀ x ∈ xs, x.Fits) (hnn : ∀ x ∈ xs, -9223372036854775808 ≤ x.n ∧ x.n ≤ 9223372036854775807) :
    Calls Try.prog 3 #[.int .i64 (n : Int), .int .i64 (r : Int), v] w fun e w' => e = .returned (.bool true) ∧ Kept w w' := by
  have HN := Lib.hid (new_nk n r w hn hr)
  have hck := check6_any (n : Int) (r : Int)
  rw [show newE (n : Int) (r : Int) = 0 by unfold newE; rw [if_neg (by omega), if_neg (by omega)]] at hck
  have HCK := Lib.hid hck
  have HV := Lib.hid hv
  have HF := Lib.hid hf
  have HNN := Lib.hid hnn
  obtain ⟨A, c, rfl, hc1, hc2⟩ := hv.form
  unfold maxLen at hc2
  clear hf hv hnn hck
  go_enter Try.func3, Try.ntmps3
  go_wp2_with fail
  refine HN.out.mono ?_
  rintro e w1 ⟨nb, rfl, hn1⟩
  have HN1 := Lib.hid hn1
  clear hn1
  go_wp2_with fail
  refine (HCK.out w1).mono ?_
  rintro e w2 ⟨rfl, rfl⟩
  have hd0 := duo_new (HN1.out.widen (A' := no) (fun g y => y.elim)) (fun g y => y.elim) n r hn.2 hr.2
  have hz := zero35 w1
  have hs := zeroN_size
  unfold newZ at hd0
  obtain ⟨zn, hzn⟩ : ∃ zn, zeroN = zn := ⟨_, rfl⟩
  rw [hzn] at hz hs hd0
  have HD0 := Lib.hid hd0
  have hz1 : ¬ zn = #[] := fun e => by rw [e] at hs; cases hs
  have hz2 : 1 < zn.size := by omega
  have hz3 : 0 < zn.size := by omega
  have HRN := Lib.hid (rel_new n r hn.1)
  clear hd0 hzn
  go_wp2
  clear hz hz1 hz2 hz3 hs
  go_loopw [55] (fun i W => ∃ (k : Nat) (s : NS) (d : RS), i = .int .i64 (k : Int) ∧ k ≤ xs.length ∧ s.n = n ∧ s.room = r ∧ Rel s d ∧ Duo no w W nb w1.heap.size s d (2 * k)) (fun i _ => xs.length - (intOf i).toNat)
  case atStart => exact ⟨0, _, _, rfl, Nat.zero_le _, rfl, rfl, HRN.out, HD0.out⟩
  case round =>
    obtain ⟨k, s, d, rfl, hk, hsn, hsr, hrel, hduo⟩ := hrel
    have HSN := Lib.hid hsn
    have HSR := Lib.hid hsr
    have HRL := Lib.hid hrel
    have HD := Lib.hid hduo
    have HKR := Lib.hid hduo.old
    clear hsn hsr hrel hduo
    by_cases hlt : k < xs.length
    · obtain ⟨b, o, rfl, a0, a1, a2, a3, a4, a5, hrd⟩ := (HV.out.kept HKR.out).at hlt
      have g1 : (k : Int) < (xs.length : Int) := by omega
      have HXF := Lib.hid (HF.out xs[k] (List.getElem_mem hlt))
      have HXN := Lib.hid (HNN.out xs[k] (List.getElem_mem hlt))
      have HRD0 := Lib.hid (show xs[k].Reads w from by obtain ⟨_, _, _, _, _, _, _, _, _, h⟩ := HV.out.at hlt; exact h)
      clear hrd
      generalize xs[k] = x at *
      obtain ⟨Al, cl, hlv, hl1, hl2, -⟩ := HRD0.out.1
      obtain ⟨An, cn, hnv, -, hn2, -⟩ := HRD0.out.2
      rw [hlv] at a4
      rw [hnv] at a5
      have HLV := Lib.hid hlv
      have HNV := Lib.hid hnv
      clear hlv hnv
      go_upto_region 11 with (fail)
      have hKa : Kept wr (wr.alloc (.cells #[.int .i64 x.kind, .int .i64 x.a, .int .i64 x.b, .int .i64 x.n, .slice Al x.list.length cl, .slice An x.nodes.length cn] 39)) := (Kept.refl wr).alloc _
      have hba := heap_alloc_new wr (.cells #[.int .i64 x.kind, .int .i64 x.a, .int .i64 x.b, .int .i64 x.n, .slice Al x.list.length cl, .slice An x.nodes.length cn] 39)
      have hbz : wr.heap.size < (wr.alloc (.cells #[.int .i64 x.kind, .int .i64 x.a, .int .i64 x.b, .int .i64 x.n, .slice Al x.list.length cl, .slice An x.nodes.length cn] 39)).heap.size := by simp
      generalize wr.alloc (.cells #[.int .i64 x.kind, .int .i64 x.a, .int .i64 x.b, .int .i64 x.n, .slice Al x.list.length cl, .slice An x.nodes.length cn] 39) = wa at *
      clear a0 a1 a2 a3 a4 a5
      obtain ⟨wo, rfl⟩ : ∃ wo, wo = wr := ⟨_, rfl⟩
      have q0 := cell_at hba 0
      have q1 := cell_at hba 1
      have q2 := cell_at hba 2
      have q3 := cell_at hba 3
      have q4 := cell_at hba 4
      have q5 := cell_at hba 5
      simp only [List.getElem?_toArray, List.getElem?_cons_zero, List.getElem?_cons_succ] at q0 q1 q2 q3 q4 q5
      have hfc := HD.out.nk.facts
      have hda := HD.out.grow hKa (A' := fun g => g = wo.heap.size) (fun g e => .inr (by subst e; exact ⟨Nat.le_refl _, hbz⟩))
      have hst := step_any x _ w _ nb w1.heap.size s d (2 * k) hda (by unfold maxLen; omega) HRD0.out HXF.out HXN.out (HRL.out.few hfc.2.2.2.2.1 hfc.2.2.2.2.2.2 hfc.2.2.1) (HRL.out.light hfc.2.2.2.2.2.1) (fun i _ => HRL.out.late i)
      rw [HLV.out, HNV.out] at hst
      have HST := Lib.hid hst
      clear hst hda hfc hba
      go_wp2_with fail
      refine HST.out.mono ?_
      rintro e w4 ⟨b', rfl, hb', hd4, hc4⟩
      obtain rfl := hb' HRL.out
      have HRL' := Lib.hid (HRL.out.step x)
      have y1 := box_cell (A' := fun g => g = wo.heap.size) rfl q1 hc4
      have y2 := box_cell (A' := fun g => g = wo.heap.size) rfl q2 hc4
      have HD4 := Lib.hid (hd4.grow (Kept.refl _) (A' := no) (fun g y => y.elim))
      have HSN' := Lib.hid ((stepS_n s x).1.trans HSN.out)
      have HSR' := Lib.hid ((stepS_n s x).2.trans HSR.out)
      clear hd4 hc4 q0 q1 q2 q3 q4 q5 hb' HST
      generalize stepS s x = s' at *
      generalize rStepS d x = d' at *
      have HCT := Lib.hid (count_duo HD4.out x.a x.b)
      have HEQ := Lib.hid (HRL'.out.count x.a x.b)
      have HEE := Lib.hid (HRL'.out.errs x.a x.b)
      go_wp2_with fail
      refine HCT.out.mono ?_
      rintro e w5 ⟨rfl, hd5, hk5⟩
      have HD5 := Lib.hid hd5
      have y1 := hk5.cell y1
      have y2 := hk5.cell y2
      have hrc := refCount_duo hd5 x.a x.b
      rw [HEQ.out, HEE.out] at hrc
      have HRC := Lib.hid hrc
      clear hd5 hk5 hrc
      generalize countE s' x.a x.b = ct at *
      generalize chk s'.n [x.a, x.b] = ck at *
      go_wp2_with fail
      refine HRC.out.mono ?_
      rintro e w6 ⟨rfl, rfl⟩
      clear y1 y2
      go_wp2
      go_loopw [91] (fun j W => ∃ m : Nat, j = .int .i64 (m : Int) ∧ m ≤ n ∧ Duo no w W nb w1.heap.size s' d' (2 * k + 2)) (fun j _ => n - (intOf j).toNat)
      case atStart => exact ⟨0, rfl, Nat.zero_le _, HD5.out⟩
      case round =>
        obtain ⟨m, rfl, hm, hdj⟩ := hrel
        have HDJ := Lib.hid hdj
        clear hdj
        by_cases hlm : m < n
        · have hm32 : m < 32 := by omega
          have g2 : (m : Int) < (n : Int) := by omega
          have g3 : (m : Int) < 32 := by omega
          have hck : chk s'.n [(m : Int)] = 0 := chk_one (by rw [HSN'.out]; exact hlm)
          have hce : clockE s' (m : Int) = ((d'.t m : Nat) : Int) := by unfold clockE; rw [if_pos hck, HRL'.out.t m (by rw [HSN'.out]; exact hlm)]; simp
          have hcl := clock_duo HDJ.out (m : Int)
          rw [hck, hce] at hcl
          have HCL := Lib.hid hcl
          clear hck hce hcl
          go_wp2_with fail
          refine HCL.out.mono ?_
          rintro e w7 ⟨rfl, hd7, hk7⟩
          have HD7 := Lib.hid hd7
          have hcell := hd7.clk hm32
          clear hd7 hk7
          generalize d'.t m = tm at *
          go_wp2
          go_roundw
          case rel => exact ⟨m + 1, by go_num, by omega, HD7.out⟩
          case measure => simp [intOf]; omega
        · obtain rfl : m = n := by omega
          have hck : chk s'.n [(m : Int)] = 60 := by
            rw [HSN'.out]
            unfold chk okI
            simp
          have hce : clockE s' (m : Int) = 0 := by unfold clockE; rw [if_neg (by rw [hck]; decide)]
          have hcl := clock_duo HDJ.out (m : Int)
          rw [hck, hce] at hcl
          have HCL := Lib.hid hcl
          clear hck hce hcl
          go_wp2_with fail
          refine HCL.out.mono ?_
          rintro e w7 ⟨rfl, hd7, hk7⟩
          have HD7 := Lib.hid hd7
          clear hd7 hk7
          go_wp2
          go_roundw
          case rel => exact ⟨k + 1, s', d', by go_num, by omega, HSN'.out, HSR'.out, HRL'.out, HD7.out.more (by omega)⟩
          case measure => simp [intOf]; omega
    · obtain rfl : k = xs.length := by omega
      go_wp2_with fail
      refine (awake_any _).mono ?_
      rintro e w9 ⟨rfl, k9⟩
      have hkk := HKR.out.trans k9
      go_wp2
      go_ret
      exact ⟨rfl, hkk⟩
set_option maxRecDepth 100000 in
set_option maxHeartbeats 1000000 in
theorem netsimPlays_bad (n r : Int) (v : Value) (w : World) (h : newE n r ≠ 0) :
    Calls Try.prog 3 #[.int .i64 n, .int .i64 r, v] w fun e w' => e = .returned (.bool true) ∧ Kept w w' := by
  have HN := Lib.hid (new_bad n r w h)
  have HC := Lib.hid (check6_any n r w)
  have hc := newE_cases n r h
  clear h
  generalize newE n r = er at *
  rcases hc with rfl | rfl
  all_goals
    go_enter Try.func3, Try.ntmps3
    go_wp2_with fail
    refine HN.out.mono ?_
    rintro e w1 ⟨rfl, rfl⟩
    go_wp2_with fail
    refine HC.out.mono ?_
    rintro e w2 ⟨rfl, rfl⟩
    go_wp2_with fail
    refine (awake_any _).mono ?_
    rintro e w9 ⟨rfl, k9⟩
    go_wp2
    go_ret
    exact ⟨rfl, k9⟩
theorem netsimPlays_any (n r : Int) (xs : List Op6) (v : Value) (w : World) (hv : Script6 w v xs) (hl : xs.length ≤ 1759218604390) (hf : ∀ x ∈ xs, x.Fits) (hnn : ∀ x ∈ xs, -9223372036854775808 ≤ x.n ∧ x.n ≤ 9223372036854775807) :
    Calls Try.prog 3 #[.int .i64 n, .int .i64 r, v] w fun e w' => e = .returned (.bool true) ∧ Kept w w' := by
  by_cases h : newE n r = 0
  · obtain ⟨n', r', rfl, rfl, hn, hr⟩ := newE_zero h
    exact netsimPlays_ok n' r' xs v w hn hr hv hl hf hnn
  · exact netsimPlays_bad n r v w h
end Go.Proofs.Ytnpenabkmpoafaa
