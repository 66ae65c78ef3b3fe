/- The walk of Get. -/
import Derived.Test.YteopgcbihekcjaaDoorQVBk3
set_option linter.unusedSimpArgs false
set_option linter.unusedVariables false
namespace Go.Proofs.YteopgcbihekcjaaDoor
open Go.RowKit
theorem getOk_no {p : List UInt8} (h : gmOk p = false ∨ bOk (gN p) (gR p) = false ∨ (gAll p).2.2 ≠ 0 ∨ (gAll p).2.1.length ≠ 0) : getOk p = false := by
  unfold getOk
  rcases h with h | h | h | h
  · rw [h]; rfl
  · rw [h]; simp
  · rw [show ((gAll p).2.2 == 0) = false from beq_eq_false_iff_ne.2 h]; simp
  · rw [show ((gAll p).2.1.length == 0) = false from beq_eq_false_iff_ne.2 h]; simp
theorem getOk_yes {p : List UInt8} (h1 : gmOk p = true) (h2 : bOk (gN p) (gR p) = true) (h3 : (gAll p).2.2 = 0) (h4 : (gAll p).2.1.length = 0) : getOk p = true := by
  unfold getOk
  rw [h1, h2, h3, h4]
  rfl
theorem chg_put2 (w : World) (b : Nat) (u v : Value) : Chg (fun g => g = b) w ((w.setCell ⟨b, 0, none⟩ u).setCell ⟨b, 1, none⟩ v) := ((Chg.refl (fun g => g = b) w).setCell u (fun _ => rfl)).setCell v (fun _ => rfl)
set_option maxRecDepth 100000 in
set_option maxHeartbeats 4000000 in
theorem vget_any (p : List UInt8) (v : Value) (w : World) (hv : Bts w v p) (hlim : p.length ≤ 140737488355328) : Calls Tryd.prog 8 #[v] w (GetTo w p) := by
  obtain ⟨A, c, rfl, hc1, hc2, -⟩ := id hv
  have HV := Lib.hid hv
  have HBAD := Lib.hid (fun W (k : Kept w W) (h : getOk p = false) => GetTo.bad h k)
  clear hv
  go_enter Tryd.func8, Tryd.ntmps8
  go_wp2_with fail
  refine (newReader_any p _ _ (HV.out.kept ((Kept.refl w).alloc (.cells #[.int .i64 0, .int .i64 0] 23))) hlim).mono ?_
  rintro e w1 ⟨rb, rfl, hrb, hI, k1⟩
  have hx0 := k1.block' (heap_alloc_new w (.cells #[.int .i64 0, .int .i64 0] 23))
  have hk1 := ((Kept.refl w).alloc (.cells #[.int .i64 0, .int .i64 0] 23)).trans k1
  have hrb' : w.heap.size + 1 ≤ rb := by simpa using hrb
  have HX0 := Lib.hid hx0
  have HK1 := Lib.hid hk1
  clear hx0 hk1 hrb k1
  go_wp2_with fail
  refine (rNumS rb (p, 0) _ hI hlim).mono ?_
  rintro e w2 ⟨rfl, hI2, hF2⟩
  have HX2 := Lib.hid (hF2.block' HX0.out (by omega))
  have HK2 := Lib.hid (hF2.kept HK1.out (by omega))
  have hl1 : (gs1 p).1.length ≤ p.length := nx_len (p, 0)
  have hI2 : IsR w2 rb (gs1 p).1 (gs1 p).2 := hI2
  clear hI hF2
  go_wp2_with fail
  refine (rNumS rb (gs1 p) _ hI2 (by omega)).mono ?_
  rintro e w3 ⟨rfl, hI3, hF3⟩
  have hI3 : IsR w3 rb (gs2 p).1 (gs2 p).2 := hI3
  have hk3 := (Kept.refl w3).alloc (.cells #[.int .i64 (gN p : Int), .int .i64 (gR p : Int)] 23)
  have HX3 := Lib.hid (hk3.block' (hF3.block' HX2.out (by omega)))
  have HK3 := Lib.hid ((hF3.kept HK2.out (by omega)).trans hk3)
  have HB3 := Lib.hid (heap_alloc_new w3 (.cells #[.int .i64 (gN p : Int), .int .i64 (gR p : Int)] 23))
  have hb3 : rb < w3.heap.size := hI3.lt
  have HI3 := Lib.hid (hI3.kept hk3)
  have hl2 : (gs2 p).1.length ≤ p.length := Nat.le_trans (nx_len (gs1 p)) hl1
  have hgn : ((nv (p, 0) : Nat) : Int) = (gN p : Int) := rfl
  have hgr : ((nv (gs1 p) : Nat) : Int) = (gR p : Int) := rfl
  rw [hgn, hgr]
  clear hI2 hF3 hI3 hk3 hgn hgr
  go_wp2_with fail
  refine (rNumS rb (gs2 p) _ HI3.out (by omega)).mono ?_
  rintro e w4 ⟨rfl, hI4, hF4⟩
  have hI4 : IsR w4 rb (gs3 p).1 (gs3 p).2 := hI4
  have HX4 := Lib.hid (hF4.block' HX3.out (by omega))
  have HK4 := Lib.hid (hF4.kept HK3.out (by omega))
  have HB4 := Lib.hid (hF4.block' HB3.out (by omega))
  have hl3 : (gs3 p).1.length ≤ p.length := Nat.le_trans (nx_len (gs2 p)) hl2
  have hgm : ((nv (gs2 p) : Nat) : Int) = (gM p : Int) := rfl
  rw [hgm]
  have HI4 := Lib.hid hI4
  clear hI4 hF4 hgm
  generalize hbb : w3.heap.size = bb at *
  clear hbb
  by_cases hm : gmOk p = true
  · have hm' := hm
    unfold gmOk at hm'
    simp only [Bool.and_eq_true, decide_eq_true_eq] at hm'
    have HALL := Lib.hid (show gAll p = rdN (gM p) (gs3 p) by unfold gAll; rw [if_pos hm])
    have HM := Lib.hid hm
    clear hm
    go_wp2_with fail
    refine (zero_full (gM p) _ hm'.1 hm'.2).mono ?_
    rintro e w5 ⟨rfl, hz, k5⟩
    have hg5 : rb < w4.heap.size := HI4.out.lt
    have hb5 : bb < w4.heap.size := (Array.getElem?_eq_some_iff.1 HB4.out).1
    have HX5 := Lib.hid (k5.block' HX4.out)
    have HB5 := Lib.hid (k5.block' HB4.out)
    have HK5 := Lib.hid (HK4.out.trans k5)
    have HI5 := Lib.hid (HI4.out.kept k5)
    have hsz5 := HK4.out.size
    have HZ := Lib.hid hz
    clear hz k5
    generalize w4.heap.size = g at *
    generalize gM p = m at *
    go_wp2
    go_loopw [25] (fun i W => ∃ j : Nat, i = .int .i64 (j : Int) ∧ j ≤ m ∧ IsR W rb (rdN j (gs3 p)).2.1 (rdN j (gs3 p)).2.2 ∧ W.ownsRow g 3 1 (.slice (some ⟨g, 0, none⟩) m m) m (iv (part j m (gs3 p))) ∧ W.heap[w.heap.size]? = some (.cells #[.int .i64 0, .int .i64 0] 23 (0, 0)) ∧ W.heap[bb]? = some (.cells #[.int .i64 (gN p : Int), .int .i64 (gR p : Int)] 23 (0, 0)) ∧ Kept w W) (fun i _ => m - (intOf i).toNat)
    case atStart => exact ⟨0, rfl, Nat.zero_le _, HI5.out, by rw [part_zero]; exact HZ.out, HX5.out, HB5.out, HK5.out⟩
    case round =>
      obtain ⟨j, rfl, hj, hIr, hrow, hx, hb, hkk⟩ := hrel
      have HX6 := Lib.hid hx
      have HB6 := Lib.hid hb
      have HK6 := Lib.hid hkk
      have HROW := Lib.hid hrow
      have HIR := Lib.hid hIr
      clear hx hb hkk hrow hIr
      have hll := rdN_left j (gs3 p)
      by_cases hlt : j < m
      · have HSET := Lib.hid (part_set (gs3 p) hlt)
        have g1 : (j : Int) < (m : Int) := by omega
        have hnx : (rdN (j + 1) (gs3 p)).2 = nx (rdN j (gs3 p)).2 := rfl
        have HNX := Lib.hid hnx
        clear hnx
        generalize hst : (rdN j (gs3 p)).2 = st at *
        clear hst
        go_wp2_with fail
        refine (rNumS rb st _ HIR.out (by omega)).mono ?_
        rintro e w7 ⟨rfl, hI7, hF7⟩
        have HROW7 := Lib.hid (own_chg HROW.out hF7.chg (fun x hx e => by
          have h1 : g = x := (by simpa [Value.ownBlock] using hx)
          omega))
        have HX7 := Lib.hid (hF7.block' HX6.out (by omega))
        have HB7 := Lib.hid (hF7.block' HB6.out (by omega))
        have HK7 := Lib.hid (hF7.kept HK6.out (by omega))
        have HI7 := Lib.hid hI7
        clear hI7 hF7
        obtain ⟨hcg, hfg⟩ := row_at HROW7.out (k := j) (by rw [part_len _ hj]; exact hlt)
        generalize ((nv st : Nat) : Int) = x at *
        have HS8 := Lib.hid (row_set HROW7.out j x)
        have HI8 := Lib.hid (HI7.out.poke (i := j) (x := x) HROW7.out (by omega))
        have HX8 := Lib.hid ((heap_other w7 (b := g) (i := j) (.int .i64 x) (k := w.heap.size) (by omega)).trans HX7.out)
        have HB8 := Lib.hid ((heap_other w7 (b := g) (i := j) (.int .i64 x) (k := bb) (by omega)).trans HB7.out)
        have HK8 := Lib.hid (kept_poke HK7.out (b := g) hsz5 j (.int .i64 x))
        generalize (part j m (gs3 p))[j]'(by rw [part_len _ hj]; exact hlt) = y at *
        go_wp2
        go_roundw
        case rel => exact ⟨j + 1, by go_num, by omega, by rw [HNX.out]; exact HI8.out, by rw [← HSET.out]; exact HS8.out, HX8.out, HB8.out, HK8.out⟩
        case measure => simp [intOf]; omega
      · obtain rfl : j = m := by omega
        have HROWE := Lib.hid HROW.out
        have hI9 := HIR.out
        have hro := HROW.out
        rw [part_all, ← HALL.out] at hro
        rw [← HALL.out] at hI9
        have HRO := Lib.hid hro
        have HI9 := Lib.hid hI9
        have hll9 : (gAll p).2.1.length ≤ p.length := by rw [HALL.out]; exact Nat.le_trans (rdN_left _ _) hl3
        obtain ⟨b0, b1⟩ := cells2 HB6.out
        clear hI9 hro hll
        have HYES := Lib.hid (fun (h2 : bOk (gN p) (gR p) = true) (h3 : (gAll p).2.2 = 0) (h4 : (gAll p).2.1.length = 0) => getOk_yes HM.out h2 h3 h4)
        have HNO2 := Lib.hid (fun (h : (gAll p).2.2 ≠ 0) => getOk_no (p := p) (.inr (.inr (.inl h))))
        have HNO3 := Lib.hid (fun (h : (gAll p).2.1.length ≠ 0) => getOk_no (p := p) (.inr (.inr (.inr h))))
        generalize (gAll p).2.2 = er at *
        generalize (gAll p).2.1 = left at *
        cases hbk : bOk (gN p) (gR p) with
        | false =>
          have HE := Lib.hid (show bE (gN p) (gR p) = 110 by unfold bE; rw [hbk]; rfl)
          have HNO := Lib.hid (getOk_no (.inr (.inl hbk)))
          clear hbk
          go_wp2_with fail
          refine (bcheck_any _ _ _).mono ?_
          rintro e wa ⟨rfl, ka⟩
          rw [HE.out]
          have hxa := ka.block' HX6.out
          obtain ⟨x0, x1⟩ := cells2 hxa
          have y0 := frozen_at hxa 0
          have y1 := frozen_at hxa 1
          have HP := Lib.hid (put2 hxa (.int .i64 0) (.int .i64 0))
          have HKK := Lib.hid (put2_kept (HK6.out.trans ka) (b := w.heap.size) (Nat.le_refl _) (.int .i64 0) (.int .i64 0))
          clear hxa ka b0 b1
          go_wp2
          (try simp only [Exit.inBlock, Exit.then])
          have hp := HP.out
          have hk := HKK.out
          generalize (wa.setCell ⟨w.heap.size, 0, none⟩ (.int .i64 0)).setCell ⟨w.heap.size, 1, none⟩ (.int .i64 0) = w9 at hp hk ⊢
          obtain ⟨d0, d1⟩ := cells2 hp
          refine bodyPost_ret (v := .tuple #[bal 0 0, .slice none 0 0, .int .i64 13]) (by simp [results, Tryd.results8, go_sem, d0, d1]) rfl ?_
          exact HBAD.out _ hk HNO.out
        | true =>
          have HE := Lib.hid (show bE (gN p) (gR p) = 0 by unfold bE; rw [hbk]; rfl)
          have HBK := Lib.hid hbk
          clear hbk
          go_wp2_with fail
          refine (bcheck_any _ _ _).mono ?_
          rintro e wa ⟨rfl, ka⟩
          rw [HE.out]
          have HXa := Lib.hid (ka.block' HX6.out)
          have HBa := Lib.hid (ka.block' HB6.out)
          have HKa := Lib.hid (HK6.out.trans ka)
          have HIa := Lib.hid (HI9.out.kept ka)
          have HROa := Lib.hid (own_kept HRO.out ka)
          clear ka b0 b1
          by_cases her : er = 0
          · by_cases hlf : left.length = 0
            · have HYES := Lib.hid (HYES.out HBK.out her hlf)
              have t1 : (er != 0) = false := by simp [her]
              have t2 : decide ((0 : Int) < (left.length : Int)) = false := decide_eq_false (by omega)
              have t3 : decide (0 < left.length) = false := decide_eq_false (by omega)
              have HER := Lib.hid her
              have HLF := Lib.hid hlf
              clear her hlf
              go_wp2_with fail
              refine (rErr _ _ _ _ HIa.out).mono ?_
              rintro e wb ⟨rfl, rfl⟩
              go_wp2_with fail
              refine (rLeft _ _ _ _ HIa.out).mono ?_
              rintro e wb ⟨rfl, rfl⟩
              obtain ⟨x0, x1⟩ := cells2 HXa.out
              obtain ⟨b0, b1⟩ := cells2 HBa.out
              have y0 := frozen_at HXa.out 0
              have y1 := frozen_at HXa.out 1
              have HP := Lib.hid (put2 HXa.out (.int .i64 (gN p : Int)) (.int .i64 (gR p : Int)))
              have HKK := Lib.hid (put2_kept HKa.out (b := w.heap.size) (Nat.le_refl _) (.int .i64 (gN p : Int)) (.int .i64 (gR p : Int)))
              have HRK := Lib.hid (own_chg HROa.out (chg_put2 wa w.heap.size (.int .i64 (gN p : Int)) (.int .i64 (gR p : Int))) (fun b hb e => by
                have h1 : g = b := (by simpa [Value.ownBlock] using hb)
                omega))
              go_wp2
              (try simp only [Exit.inBlock, Exit.then])
              have hp := HP.out
              have hk := HKK.out
              have hr := HRK.out
              generalize (wa.setCell ⟨w.heap.size, 0, none⟩ (.int .i64 (gN p : Int))).setCell ⟨w.heap.size, 1, none⟩ (.int .i64 (gR p : Int)) = w9 at hp hk hr ⊢
              obtain ⟨d0, d1⟩ := cells2 hp
              refine bodyPost_ret (v := .tuple #[bal (gN p) (gR p), .slice (some ⟨g, 0, none⟩) j j, .int .i64 0]) (by simp [results, Tryd.results8, go_sem, d0, d1]) rfl ?_
              exact GetTo.good HYES.out (Ints.of_own hr) hk
            · have t1 : (er != 0) = false := by simp [her]
              have t2 : decide ((0 : Int) < (left.length : Int)) = true := decide_eq_true (by omega)
              have t3 : decide (0 < left.length) = true := decide_eq_true (by omega)
              have HNO := Lib.hid (HNO3.out hlf)
              clear her hlf
              go_wp2_with fail
              refine (rErr _ _ _ _ HIa.out).mono ?_
              rintro e wb ⟨rfl, rfl⟩
              go_wp2_with fail
              refine (rLeft _ _ _ _ HIa.out).mono ?_
              rintro e wb ⟨rfl, rfl⟩
              obtain ⟨x0, x1⟩ := cells2 HXa.out
              have y0 := frozen_at HXa.out 0
              have y1 := frozen_at HXa.out 1
              have HP := Lib.hid (put2 HXa.out (.int .i64 0) (.int .i64 0))
              have HKK := Lib.hid (put2_kept HKa.out (b := w.heap.size) (Nat.le_refl _) (.int .i64 0) (.int .i64 0))
              go_wp2
              (try simp only [Exit.inBlock, Exit.then])
              have hp := HP.out
              have hk := HKK.out
              generalize (wa.setCell ⟨w.heap.size, 0, none⟩ (.int .i64 0)).setCell ⟨w.heap.size, 1, none⟩ (.int .i64 0) = w9 at hp hk ⊢
              obtain ⟨d0, d1⟩ := cells2 hp
              refine bodyPost_ret (v := .tuple #[bal 0 0, .slice none 0 0, .int .i64 13]) (by simp [results, Tryd.results8, go_sem, d0, d1]) rfl ?_
              exact HBAD.out _ hk HNO.out
          · have t1 : (er != 0) = true := by simpa using her
            have HNO := Lib.hid (HNO2.out her)
            clear her
            go_wp2_with fail
            refine (rErr _ _ _ _ HIa.out).mono ?_
            rintro e wb ⟨rfl, rfl⟩
            obtain ⟨x0, x1⟩ := cells2 HXa.out
            have y0 := frozen_at HXa.out 0
            have y1 := frozen_at HXa.out 1
            have HP := Lib.hid (put2 HXa.out (.int .i64 0) (.int .i64 0))
            have HKK := Lib.hid (put2_kept HKa.out (b := w.heap.size) (Nat.le_refl _) (.int .i64 0) (.int .i64 0))
            go_wp2
            (try simp only [Exit.inBlock, Exit.then])
            have hp := HP.out
            have hk := HKK.out
            generalize (wa.setCell ⟨w.heap.size, 0, none⟩ (.int .i64 0)).setCell ⟨w.heap.size, 1, none⟩ (.int .i64 0) = w9 at hp hk ⊢
            obtain ⟨d0, d1⟩ := cells2 hp
            refine bodyPost_ret (v := .tuple #[bal 0 0, .slice none 0 0, .int .i64 13]) (by simp [results, Tryd.results8, go_sem, d0, d1]) rfl ?_
            exact HBAD.out _ hk HNO.out
  · have hmb : gmOk p = false := by simpa using hm
    have HNO := Lib.hid (getOk_no (.inl hmb))
    have hbad : (gM p : Int) < 1 ∨ 7 < (gM p : Int) := by
      by_cases h1 : 1 ≤ gM p
      · by_cases h2 : gM p ≤ 7
        · exact absurd (show gmOk p = true by unfold gmOk; simp [h1, h2]) hm
        · omega
      · omega
    clear hm hmb
    go_wp2_with fail
    refine (zero_bad (gM p : Int) _ hbad).mono ?_
    rintro e w5 ⟨rfl, rfl⟩
    have hx4 := HX4.out
    obtain ⟨x0, x1⟩ := cells2 HX4.out
    have y0 := frozen_at HX4.out 0
    have y1 := frozen_at HX4.out 1
    have HP := Lib.hid (put2 HX4.out (.int .i64 0) (.int .i64 0))
    have HKK := Lib.hid (put2_kept HK4.out (b := w.heap.size) (Nat.le_refl _) (.int .i64 0) (.int .i64 0))
    go_wp2
    go_loop [25] (fun i => i = .int .i64 0) (fun _ => 0)
    case atStart => rfl
    case round =>
      obtain rfl := hrel
      go_wp2
      (try simp only [Exit.inBlock, Exit.then])
      have hp := HP.out
      have hk := HKK.out
      generalize (w4.setCell ⟨w.heap.size, 0, none⟩ (.int .i64 0)).setCell ⟨w.heap.size, 1, none⟩ (.int .i64 0) = w9 at hp hk ⊢
      obtain ⟨d0, d1⟩ := cells2 hp
      refine bodyPost_ret (v := .tuple #[bal 0 0, .slice none 0 0, .int .i64 13]) (by simp [results, Tryd.results8, go_sem, d0, d1]) rfl ?_
      exact HBAD.out _ hk HNO.out
end Go.Proofs.YteopgcbihekcjaaDoor
