/- The walk of the document's Read of a ballot and a vector. -/
import Derived.Test.YteopgcbihekcjaaDoorQVGet
import Derived.Test.YteopgcbihekcjaaDoorQDref
set_option linter.unusedSimpArgs false
set_option linter.unusedVariables false
namespace Go.Proofs.YteopgcbihekcjaaDoor
open Go.RowKit
theorem dNumS {b : Nat} {v : Value} {l : List UInt8} {q : Nat} {s : RSt} {w : World} (h : IsD w b v l q s.2) (hs : l.drop q = s.1) (hlim : l.length ≤ 140737488355328) :
    Calls Tryd.prog 29 #[.pointer (some ⟨b, 0, none⟩)] w fun e w' => e = .returned (.int .i64 ((nv s : Nat) : Int)) ∧ (∃ q', IsD w' b v l q' (nx s).2 ∧ l.drop q' = (nx s).1) ∧ RFr b w w' := by
  refine (dNum b v l q s.2 w h hlim).mono fun e w' ⟨h1, h2, h3⟩ => ?_
  rw [hs] at h1 h2
  exact ⟨h1, ⟨_, h2, by rw [← List.drop_drop, hs]; rfl⟩, h3⟩
theorem nx_err {s : RSt} (h : (nx s).2 = 0) : s.2 = 0 := by
  by_cases e : s.2 = 0
  · exact e
  · unfold nx rn at h
    rw [if_neg e] at h
    exact absurd h e
theorem rdN_err {k : Nat} {s : RSt} (h : (rdN k s).2.2 = 0) : s.2 = 0 := by
  induction k with
  | zero => exact h
  | succ k ih => exact ih (nx_err h)
/-- Does the document read them? -/
def docOk (p : List UInt8) : Bool := gmOk p && (bOk (gN p) (gR p) && (gAll p).2.2 == 0)
theorem docOk_get (p : List UInt8) : getOk p = (docOk p && (gAll p).2.1.length == 0) := by unfold getOk docOk; simp [Bool.and_assoc]
/-- What the document's Read leaves. -/
def RefReadTo (w : World) (db : Nat) (v : Value) (p : List UInt8) (e : Ending) (w' : World) : Prop :=
  ∃ (a b : Int) (A : Option Addr) (n c : Nat), e = .returned (.tuple #[bal a b, .slice A n c, .bool (docOk p)]) ∧ RFr db w w' ∧
    (docOk p = true → a = gN p ∧ b = gR p ∧ Ints w' (.slice A n c) (gAll p).1 ∧ ∃ q, IsD w' db v p q 0 ∧ p.drop q = (gAll p).2.1)
theorem RefReadTo.bad {w w' : World} {db : Nat} {v : Value} {p : List UInt8} (h : docOk p = false) (k : RFr db w w') : RefReadTo w db v p (.returned (.tuple #[bal 0 0, .slice none 0 0, .bool false])) w' :=
  ⟨0, 0, none, 0, 0, by rw [h], k, fun h' => by rw [h] at h'; cases h'⟩
theorem RFr.poke {b g i : Nat} {w0 w : World} (h : RFr b w0 w) (hg : w0.heap.size ≤ g) (u : Value) : RFr b w0 (w.setCell ⟨g, i, none⟩ u) :=
  ⟨h.os, h.tape, h.output, by simpa [World.setCell] using h.size, fun k hk hne => (heap_other w (b := g) (i := i) u (k := k) (by omega)).trans (h.block k hk hne)⟩
theorem IsD.poke {w : World} {b g i : Nat} {v : Value} {l : List UInt8} {q : Nat} {er : Int} {u : Value} (h : IsD w b v l q er) (h8 : ∀ o y, w.cell? ⟨g, o, none⟩ ≠ some (.int .u8 y)) (hne : b ≠ g) : IsD (w.setCell ⟨g, i, none⟩ u) b v l q er :=
  ⟨(heap_other w (b := g) (i := i) u hne).trans h.1, h.2.1.set h8, h.2.2⟩
theorem two_no8 {w : World} {g : Nat} {t : TypeId} {x y : Int} (h : w.heap[g]? = some (.cells #[.int .i64 x, .int .i64 y] t (0, 0))) (o : Nat) (z : Int) : w.cell? ⟨g, o, none⟩ ≠ some (.int .u8 z) := by
  rw [cell_at h]
  match o with
  | 0 => simp
  | 1 => simp
  | o + 2 => simp
theorem put_at0 {w : World} {b : Nat} {t : TypeId} {x y : Value} (h : w.heap[b]? = some (.cells #[x, y] t (0, 0))) (u : Value) : (w.setCell ⟨b, 0, none⟩ u).heap[b]? = some (.cells #[u, y] t (0, 0)) := put1 h u
theorem put_at1 {w : World} {b : Nat} {t : TypeId} {x y : Value} (h : w.heap[b]? = some (.cells #[x, y] t (0, 0))) (u : Value) : (w.setCell ⟨b, 1, none⟩ u).heap[b]? = some (.cells #[x, u] t (0, 0)) := by
  have h1 := Lib.heap_setCell_same (i := 1) h u
  simpa using h1
set_option maxRecDepth 100000 in
set_option maxHeartbeats 4000000 in
theorem refRead_any (p : List UInt8) (v : Value) (db : Nat) (w : World) (hd : IsD w db v p 0 0) (hlim : p.length ≤ 140737488355328) : Calls Tryd.prog 13 #[.pointer (some ⟨db, 0, none⟩)] w (RefReadTo w db v p) := by
  have HD := Lib.hid hd
  have hdb := hd.lt
  have HBAD := Lib.hid (fun W (k : RFr db w W) (h : docOk p = false) => RefReadTo.bad (v := v) h k)
  clear hd
  go_enter Tryd.func13, Tryd.ntmps13
  have hx0 := ((Kept.refl _).alloc (.cells #[.int .i64 0, .int .i64 0] 31)).block' (heap_alloc_new w (.cells #[.int .i64 0, .int .i64 0] 31))
  have hb0 := two_new w (.cells #[.int .i64 0, .int .i64 0] 31) 31 (.int .i64 0) (.int .i64 0)
  have hk0 := ((Kept.refl w).alloc (.cells #[.int .i64 0, .int .i64 0] 31)).alloc (.cells #[.int .i64 0, .int .i64 0] 31)
  have HD1 := Lib.hid (HD.out.kept hk0)
  have HF1 := Lib.hid (RFr.of_kept (b := db) hk0)
  have HX1 := Lib.hid hx0
  have HB1 := Lib.hid hb0
  clear hx0 hb0 hk0
  go_wp2_with fail
  generalize (w.alloc (.cells #[.int .i64 0, .int .i64 0] 31)).alloc (.cells #[.int .i64 0, .int .i64 0] 31) = w1 at *
  refine (dNumS (s := (p, 0)) HD1.out rfl hlim).mono ?_
  rintro e w2 ⟨rfl, ⟨q2, hd2, hq2⟩, hf2⟩
  have hgn : ((nv (p, 0) : Nat) : Int) = (gN p : Int) := rfl
  rw [hgn]
  have hd2 : IsD w2 db v p q2 (gs1 p).2 := hd2
  have hq2 : p.drop q2 = (gs1 p).1 := hq2
  have hb2 := hf2.block' HB1.out (by omega)
  have HX2 := Lib.hid ((heap_other w2 (b := w.heap.size + 1) (i := 0) (.int .i64 (gN p : Int)) (k := w.heap.size) (by omega)).trans (hf2.block' HX1.out (by omega)))
  have HB2 := Lib.hid (put_at0 hb2 (.int .i64 (gN p : Int)))
  have HF2 := Lib.hid ((HF1.out.trans hf2).poke (g := w.heap.size + 1) (i := 0) (by omega) (.int .i64 (gN p : Int)))
  have HD2 := Lib.hid (hd2.poke (g := w.heap.size + 1) (i := 0) (u := .int .i64 (gN p : Int)) (two_no8 hb2) (by omega))
  obtain ⟨z0, -⟩ := cells2 hb2
  have y0 := frozen_at hb2 0
  clear hb2 hd2 hf2 hgn
  go_wp2_with fail
  generalize w2.setCell ⟨w.heap.size + 1, 0, none⟩ (.int .i64 (gN p : Int)) = w3 at *
  refine (dNumS (s := gs1 p) HD2.out hq2 hlim).mono ?_
  rintro e w4 ⟨rfl, ⟨q4, hd4, hq4⟩, hf4⟩
  have hgr : ((nv (gs1 p) : Nat) : Int) = (gR p : Int) := rfl
  rw [hgr]
  have hd4 : IsD w4 db v p q4 (gs2 p).2 := hd4
  have hq4 : p.drop q4 = (gs2 p).1 := hq4
  have hb4 := hf4.block' HB2.out (by omega)
  have HX4 := Lib.hid ((heap_other w4 (b := w.heap.size + 1) (i := 1) (.int .i64 (gR p : Int)) (k := w.heap.size) (by omega)).trans (hf4.block' HX2.out (by omega)))
  have HB4 := Lib.hid (put_at1 hb4 (.int .i64 (gR p : Int)))
  have HF4 := Lib.hid ((HF2.out.trans hf4).poke (g := w.heap.size + 1) (i := 1) (by omega) (.int .i64 (gR p : Int)))
  have HD4 := Lib.hid (hd4.poke (g := w.heap.size + 1) (i := 1) (u := .int .i64 (gR p : Int)) (two_no8 hb4) (by omega))
  clear z0 y0
  obtain ⟨-, z1⟩ := cells2 hb4
  have y1 := frozen_at hb4 1
  clear hb4 hd4 hf4 hgr hq2
  go_wp2_with fail
  generalize w4.setCell ⟨w.heap.size + 1, 1, none⟩ (.int .i64 (gR p : Int)) = w5 at *
  refine (dNumS (s := gs2 p) HD4.out hq4 hlim).mono ?_
  rintro e w6 ⟨rfl, ⟨q6, hd6, hq6⟩, hf6⟩
  have hgm : ((nv (gs2 p) : Nat) : Int) = (gM p : Int) := rfl
  rw [hgm]
  have HD6 := Lib.hid (show IsD w6 db v p q6 (gs3 p).2 from hd6)
  have HQ6 := Lib.hid (show p.drop q6 = (gs3 p).1 from hq6)
  have HX6 := Lib.hid (hf6.block' HX4.out (by omega))
  have HB6 := Lib.hid (hf6.block' HB4.out (by omega))
  have HF6 := Lib.hid (HF4.out.trans hf6)
  clear hd6 hq6 hf6 hgm z1 y1 hq4
  obtain ⟨c0, c1, c2, -, -⟩ := HD6.out.cells
  have hgerr : (gAll p).2.2 = 0 → (gs3 p).2 = 0 := by
    unfold gAll
    split
    · exact fun h => rdN_err h
    · exact fun h => h
  have hdno : (gmOk p = false ∨ bOk (gN p) (gR p) = false ∨ (gAll p).2.2 ≠ 0) → docOk p = false := by
    intro h
    unfold docOk
    rcases h with h | h | h
    · rw [h]; rfl
    · rw [h]; simp
    · rw [show ((gAll p).2.2 == 0) = false from beq_eq_false_iff_ne.2 h]; simp
  have HDNO := Lib.hid hdno
  have HGERR := Lib.hid hgerr
  clear hdno hgerr
  obtain ⟨b0, b1⟩ := cells2 HB6.out
  by_cases her : (gs3 p).2 = 0
  · have HER := Lib.hid her
    rw [her] at c2
    clear her
    cases hbk : bOk (gN p) (gR p) with
    | false =>
      have HB := Lib.hid (show (!bOk (gN p) (gR p)) = true by rw [hbk]; rfl)
      have HNO := Lib.hid (HDNO.out (.inr (.inl hbk)))
      clear hbk
      go_wp2_with fail
      refine (bbad_any _ _ _).mono ?_
      rintro e w7 ⟨rfl, k7⟩
      rw [HB.out]
      have HX7 := Lib.hid (k7.block' HX6.out)
      have HF7 := Lib.hid (HF6.out.trans (RFr.of_kept k7))
      clear k7 b0 b1
      obtain ⟨x0, x1⟩ := cells2 HX7.out
      have y0 := frozen_at HX7.out 0
      have y1 := frozen_at HX7.out 1
      have HP := Lib.hid (put2 HX7.out (.int .i64 0) (.int .i64 0))
      have HFF := Lib.hid (RFr.poke (RFr.poke HF7.out (g := w.heap.size) (i := 0) (Nat.le_refl _) (.int .i64 0)) (g := w.heap.size) (i := 1) (Nat.le_refl _) (.int .i64 0))
      go_wp2
      (try simp only [Exit.inBlock, Exit.then])
      have hp := HP.out
      have hk := HFF.out
      generalize (w7.setCell ⟨w.heap.size, 0, none⟩ (.int .i64 0)).setCell ⟨w.heap.size, 1, none⟩ (.int .i64 0) = w9 at hp hk ⊢
      obtain ⟨d0, d1⟩ := cells2 hp
      refine bodyPost_ret (v := .tuple #[bal 0 0, .slice none 0 0, .bool false]) (by simp [results, Tryd.results13, go_sem, d0, d1]) rfl ?_
      exact HBAD.out _ hk HNO.out
    | true =>
      have HB := Lib.hid (show (!bOk (gN p) (gR p)) = false by rw [hbk]; rfl)
      have HBK := Lib.hid hbk
      clear hbk
      by_cases hm1 : (gM p : Int) < 1
      · have t1 : decide ((gM p : Int) < 1) = true := decide_eq_true hm1
        have HNO := Lib.hid (HDNO.out (.inl (by unfold gmOk; rw [show decide (1 ≤ gM p) = false from decide_eq_false (by omega)]; rfl)))
        go_wp2_with fail
        refine (bbad_any _ _ _).mono ?_
        rintro e w7 ⟨rfl, k7⟩
        rw [HB.out]
        have HX7 := Lib.hid (k7.block' HX6.out)
        have HF7 := Lib.hid (HF6.out.trans (RFr.of_kept k7))
        clear k7 b0 b1
        obtain ⟨x0, x1⟩ := cells2 HX7.out
        have y0 := frozen_at HX7.out 0
        have y1 := frozen_at HX7.out 1
        have HP := Lib.hid (put2 HX7.out (.int .i64 0) (.int .i64 0))
        have HFF := Lib.hid (RFr.poke (RFr.poke HF7.out (g := w.heap.size) (i := 0) (Nat.le_refl _) (.int .i64 0)) (g := w.heap.size) (i := 1) (Nat.le_refl _) (.int .i64 0))
        go_wp2
        (try simp only [Exit.inBlock, Exit.then])
        have hp := HP.out
        have hk := HFF.out
        generalize (w7.setCell ⟨w.heap.size, 0, none⟩ (.int .i64 0)).setCell ⟨w.heap.size, 1, none⟩ (.int .i64 0) = w9 at hp hk ⊢
        obtain ⟨d0, d1⟩ := cells2 hp
        refine bodyPost_ret (v := .tuple #[bal 0 0, .slice none 0 0, .bool false]) (by simp [results, Tryd.results13, go_sem, d0, d1]) rfl ?_
        exact HBAD.out _ hk HNO.out
      · have t1 : decide ((gM p : Int) < 1) = false := decide_eq_false hm1
        by_cases hm7 : 7 < (gM p : Int)
        · have t2 : decide (7 < (gM p : Int)) = true := decide_eq_true hm7
          have HNO := Lib.hid (HDNO.out (.inl (by unfold gmOk; rw [show decide (gM p ≤ 7) = false from decide_eq_false (by omega)]; simp)))
          go_wp2_with fail
          refine (bbad_any _ _ _).mono ?_
          rintro e w7 ⟨rfl, k7⟩
          rw [HB.out]
          have HX7 := Lib.hid (k7.block' HX6.out)
          have HF7 := Lib.hid (HF6.out.trans (RFr.of_kept k7))
          clear k7 b0 b1
          obtain ⟨x0, x1⟩ := cells2 HX7.out
          have y0 := frozen_at HX7.out 0
          have y1 := frozen_at HX7.out 1
          have HP := Lib.hid (put2 HX7.out (.int .i64 0) (.int .i64 0))
          have HFF := Lib.hid (RFr.poke (RFr.poke HF7.out (g := w.heap.size) (i := 0) (Nat.le_refl _) (.int .i64 0)) (g := w.heap.size) (i := 1) (Nat.le_refl _) (.int .i64 0))
          go_wp2
          (try simp only [Exit.inBlock, Exit.then])
          have hp := HP.out
          have hk := HFF.out
          generalize (w7.setCell ⟨w.heap.size, 0, none⟩ (.int .i64 0)).setCell ⟨w.heap.size, 1, none⟩ (.int .i64 0) = w9 at hp hk ⊢
          obtain ⟨d0, d1⟩ := cells2 hp
          refine bodyPost_ret (v := .tuple #[bal 0 0, .slice none 0 0, .bool false]) (by simp [results, Tryd.results13, go_sem, d0, d1]) rfl ?_
          exact HBAD.out _ hk HNO.out
        · have t2 : decide (7 < (gM p : Int)) = false := decide_eq_false hm7
          have hm := (show 1 ≤ gM p ∧ gM p ≤ 7 by omega)
          have HM := Lib.hid (show gmOk p = true by unfold gmOk; rw [show decide (1 ≤ gM p) = true from decide_eq_true hm.1, show decide (gM p ≤ 7) = true from decide_eq_true hm.2]; rfl)
          have HALL := Lib.hid (show gAll p = rdN (gM p) (gs3 p) by unfold gAll; rw [if_pos HM.out])
          go_wp2_with fail
          refine (bbad_any _ _ _).mono ?_
          rintro e w7 ⟨rfl, k7⟩
          rw [HB.out]
          obtain ⟨i, hi, hz, hs, hb⟩ := info_int
          obtain ⟨w8, hmk, hrow8, hgr8⟩ := run_make_full (P := Tryd.prog) w7 w7.heap.size 24 3 i (.int .i64 0) 1 Tryd.underlying24 hi hz hs .i64 .i64 (gM p) (by rw [hb]; omega) (by unfold maxLen; omega) (Nat.le_refl _)
          have k8 : Kept w7 w8 := (Chg.of_grown (F := no) hgr8 (fun g hg => by cases hg)).to_kept
          have e8 : (madeCells (Value.int .i64 0).cells (gM p * 1)).toList = iv (zeros (gM p)) := by
            show (madeCells #[.int .i64 0] (gM p * 1)).toList = _
            rw [toList_madeCells_one]
            simp [iv, zeros]
          rw [e8] at hrow8
          have HD8 := Lib.hid (HD6.out.kept (k7.trans k8))
          have HX8 := Lib.hid ((k7.trans k8).block' HX6.out)
          have HB8 := Lib.hid ((k7.trans k8).block' HB6.out)
          have HF8 := Lib.hid (HF6.out.trans (RFr.of_kept (k7.trans k8)))
          have HROW8 := Lib.hid hrow8
          have hdb7 : db < w7.heap.size := Nat.lt_of_lt_of_le hdb (Nat.le_trans HF6.out.size k7.size)
          have hx7 : w.heap.size < w7.heap.size := (Array.getElem?_eq_some_iff.1 (k7.block' HX6.out)).1
          have hb7 : w.heap.size + 1 < w7.heap.size := (Array.getElem?_eq_some_iff.1 (k7.block' HB6.out)).1
          clear hi hz hs hb k8 hgr8 e8 hrow8 k7 b0 b1 c0 c1 c2 hm1 hm7
          generalize hg : w7.heap.size = g at *
          have HG := Lib.hid hg
          clear hg
          generalize hmm : gM p = m at *
          have HMM := Lib.hid hmm
          clear hmm
          go_wp2
          go_loopw [8] (fun i W => ∃ j : Nat, i = .int .i64 (j : Int) ∧ j ≤ m ∧ (∃ q, IsD W db v p q (rdN j (gs3 p)).2.2 ∧ p.drop q = (rdN j (gs3 p)).2.1) ∧ W.ownsRow g 3 1 (.slice (some ⟨g, 0, none⟩) m m) m (iv (part j m (gs3 p))) ∧ W.heap[w.heap.size]? = some (.cells #[.int .i64 0, .int .i64 0] 31 (0, 0)) ∧ W.heap[w.heap.size + 1]? = some (.cells #[.int .i64 (gN p : Int), .int .i64 (gR p : Int)] 31 (0, 0)) ∧ RFr db w W) (fun i _ => m - (intOf i).toNat)
          case atStart => exact ⟨0, rfl, Nat.zero_le _, ⟨_, HD8.out, HQ6.out⟩, by rw [part_zero]; exact HROW8.out, HX8.out, HB8.out, HF8.out⟩
          case round =>
            obtain ⟨j, rfl, hj, ⟨q, hdr, hqr⟩, hrow, hx, hb, hff⟩ := hrel
            have HXR := Lib.hid hx
            have HBR := Lib.hid hb
            have HFR := Lib.hid hff
            have HROW := Lib.hid hrow
            have HDR := Lib.hid hdr
            have HQR := Lib.hid hqr
            clear hx hb hff hrow hdr hqr
            by_cases hlt : j < m
            · have HSET := Lib.hid (part_set (gs3 p) hlt)
              have g1 : (j : Int) < (m : Int) := by omega
              have HNX := Lib.hid (show (rdN (j + 1) (gs3 p)).2 = nx (rdN j (gs3 p)).2 from rfl)
              generalize hst : (rdN j (gs3 p)).2 = st at *
              clear hst
              go_wp2_with fail
              refine (dNumS (s := st) HDR.out HQR.out hlim).mono ?_
              rintro e wb ⟨rfl, ⟨qb, hdb2, hqb⟩, hfb⟩
              have HROWb := Lib.hid (own_chg HROW.out hfb.chg (fun x hx e => by
                have h1 : g = x := (by simpa [Value.ownBlock] using hx)
                omega))
              have HXb := Lib.hid (hfb.block' HXR.out (by omega))
              have HBb := Lib.hid (hfb.block' HBR.out (by omega))
              have HFb := Lib.hid (HFR.out.trans hfb)
              have HDb := Lib.hid hdb2
              have HQb := Lib.hid hqb
              clear hdb2 hqb hfb
              obtain ⟨hcg, hfg⟩ := row_at HROWb.out (k := j) (by rw [part_len _ hj]; exact hlt)
              generalize ((nv st : Nat) : Int) = x at *
              have HS8 := Lib.hid (row_set HROWb.out j x)
              have HD9 := Lib.hid (HDb.out.poke (g := g) (i := j) (u := .int .i64 x) (row_no8 HROWb.out) (by omega))
              have HX9 := Lib.hid ((heap_other wb (b := g) (i := j) (.int .i64 x) (k := w.heap.size) (by omega)).trans HXb.out)
              have HB9 := Lib.hid ((heap_other wb (b := g) (i := j) (.int .i64 x) (k := w.heap.size + 1) (by omega)).trans HBb.out)
              have HF9 := Lib.hid (HFb.out.poke (g := g) (i := j) (by omega) (.int .i64 x))
              generalize (part j m (gs3 p))[j]'(by rw [part_len _ hj]; exact hlt) = y at *
              go_wp2
              go_roundw
              case rel => exact ⟨j + 1, by go_num, by omega, ⟨qb, by rw [HNX.out]; exact HD9.out, by rw [HNX.out]; exact HQb.out⟩, by rw [← HSET.out]; exact HS8.out, HX9.out, HB9.out, HF9.out⟩
              case measure => simp [intOf]; omega
            · obtain rfl : j = m := by omega
              have hro := HROW.out
              have hdr := HDR.out
              have hqr := HQR.out
              rw [part_all, ← HALL.out] at hro
              rw [← HALL.out] at hdr hqr
              have HRO := Lib.hid hro
              have HDE := Lib.hid hdr
              have HQE := Lib.hid hqr
              have HDOC := Lib.hid (show docOk p = ((gAll p).2.2 == 0) by unfold docOk; rw [HM.out, HBK.out]; simp)
              clear hro hdr hqr
              generalize her2 : (gAll p).2.2 = er at *
              clear her2
              go_wp2
              rename World => wq
              have hKd := Kept.refl wq
              have HRd := Lib.hid (own_kept HRO.out hKd)
              have HXd := Lib.hid (hKd.block' HXR.out)
              have HFd := Lib.hid (HFR.out.trans (RFr.of_kept hKd))
              have HDd := Lib.hid (HDE.out.kept hKd)
              obtain ⟨b0, b1⟩ := cells2 HBR.out
              obtain ⟨-, -, c2, -, -⟩ := HDE.out.cells
              obtain ⟨x0, x1⟩ := cells2 HXR.out
              have y0 := frozen_at HXR.out 0
              have y1 := frozen_at HXR.out 1
              have HP := Lib.hid (put2 HXd.out (.int .i64 (gN p : Int)) (.int .i64 (gR p : Int)))
              have HFF := Lib.hid (RFr.poke (RFr.poke HFd.out (g := w.heap.size) (i := 0) (Nat.le_refl _) (.int .i64 (gN p : Int))) (g := w.heap.size) (i := 1) (Nat.le_refl _) (.int .i64 (gR p : Int)))
              have HRP := Lib.hid (own_chg HRd.out (chg_put2 wq w.heap.size (.int .i64 (gN p : Int)) (.int .i64 (gR p : Int))) (fun b hb e => by
                have h1 : g = b := (by simpa [Value.ownBlock] using hb)
                omega))
              have hxp := put_at0 HXd.out (.int .i64 (gN p : Int))
              have HDP := Lib.hid ((HDd.out.poke (g := w.heap.size) (i := 0) (u := .int .i64 (gN p : Int)) (two_no8 HXd.out) (by omega)).poke (g := w.heap.size) (i := 1) (u := .int .i64 (gR p : Int)) (two_no8 hxp) (by omega))
              clear hxp hKd
              have hne1 : ¬ db = w.heap.size := by omega
              have hne2 : ¬ w.heap.size = db := by omega
              go_region
              all_goals (
                go_wp2
                (try simp only [Exit.inBlock, Exit.then])
                have hkd := (Kept.refl ((wq.setCell ⟨w.heap.size, 0, none⟩ (.int .i64 (gN p : Int))).setCell ⟨w.heap.size, 1, none⟩ (.int .i64 (gR p : Int)))).drew
                have hp := hkd.block' HP.out
                have hk := HFF.out.trans (RFr.of_kept hkd)
                have hr := own_kept HRP.out hkd
                have hd := HDP.out.kept hkd
                clear hkd
                generalize ((wq.setCell ⟨w.heap.size, 0, none⟩ (.int .i64 (gN p : Int))).setCell ⟨w.heap.size, 1, none⟩ (.int .i64 (gR p : Int))).drew = w9 at hp hk hr hd ⊢
                obtain ⟨d0, d1⟩ := cells2 hp
                refine bodyPost_ret (v := .tuple #[bal (gN p) (gR p), .slice (some ⟨g, 0, none⟩) j j, .bool (er == 0)]) (by simp [results, Tryd.results13, go_sem, d0, d1]) rfl ?_
                refine ⟨_, _, _, _, _, by rw [HDOC.out], hk, fun h => ?_⟩
                rw [HDOC.out] at h
                obtain rfl : er = 0 := by simpa using h
                exact ⟨rfl, rfl, Ints.of_own hr, q, hd, HQE.out⟩)
  · have t1 : ((gs3 p).2 != 0) = true := by simpa using her
    have HNO := Lib.hid (HDNO.out (.inr (.inr (fun h => her (HGERR.out h)))))
    generalize (gs3 p).2 = er at *
    clear b0 b1
    obtain ⟨x0, x1⟩ := cells2 HX6.out
    have y0 := frozen_at HX6.out 0
    have y1 := frozen_at HX6.out 1
    have HP := Lib.hid (put2 HX6.out (.int .i64 0) (.int .i64 0))
    have HFF := Lib.hid (RFr.poke (RFr.poke HF6.out (g := w.heap.size) (i := 0) (Nat.le_refl _) (.int .i64 0)) (g := w.heap.size) (i := 1) (Nat.le_refl _) (.int .i64 0))
    go_wp2
    (try simp only [Exit.inBlock, Exit.then])
    have hp := HP.out
    have hk := HFF.out
    generalize (w6.setCell ⟨w.heap.size, 0, none⟩ (.int .i64 0)).setCell ⟨w.heap.size, 1, none⟩ (.int .i64 0) = w9 at hp hk ⊢
    obtain ⟨d0, d1⟩ := cells2 hp
    refine bodyPost_ret (v := .tuple #[bal 0 0, .slice none 0 0, .bool false]) (by simp [results, Tryd.results13, go_sem, d0, d1]) rfl ?_
    exact HBAD.out _ hk HNO.out
end Go.Proofs.YteopgcbihekcjaaDoor
