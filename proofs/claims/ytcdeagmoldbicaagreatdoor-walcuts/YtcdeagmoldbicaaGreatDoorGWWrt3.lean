/- The walk of write. A log on its disk, younger than a world; write, whatever the log holds; the walk of Append. The walk of a log's Append. -/
import Derived.Test.YtcdeagmoldbicaaGreatDoorQWBeg
set_option linter.unusedSimpArgs false
set_option linter.unusedVariables false
namespace Go.Proofs.YtcdeagmoldbicaaGreatDoor
open Go.RowKit
/-- The last segment is turned in its place. -/
theorem Segs.turn {w w' : World} {g n c : Nat} {pa : Ps} {q : Sg} {rv rv' : Value} {G : Nat → Prop} (h : Segs w (.slice (some ⟨g, 0, none⟩) n c) (pa ++ [(q, rv)]) G) (hin : ∀ x, G x → x < w.heap.size) {cur : Array Value} {siz : Nat} {rs : List (List UInt8)} (hcur : w.heap[g]? = some (.cells cur 104 (0, 0)))
    (hb : w'.heap[g]? = some (.cells ((cur.setIfInBounds (pa.length * 4 + 3) rv').setIfInBounds (pa.length * 4 + 2) (.int .i64 (siz : Int))) 104 (0, 0))) (hr : RecsAt w' rv' rs (ext G w w')) (hg : ∀ x, rv'.ownBlock = some x → rv.ownBlock = some x ∨ w.heap.size ≤ x) (hC : Chg (fun x => x = g ∨ rv.ownBlock = some x) w w') :
    Segs w' (.slice (some ⟨g, 0, none⟩) n c) (pa ++ [(⟨q.num, q.fst, siz, rs⟩, rv')]) (ext G w w') := by
  have hrv := h.recs (q, rv) (by simp)
  refine ⟨?_, fun p hp => ?_, ?_, fun x hx => .inl (h.rowG x hx)⟩
  · refine ⟨by rw [scs_len], ?_⟩
    rcases h.row.2 with ⟨e, -⟩ | ⟨g', cap', cur', e, a1, a2, a3, a4, a5, a6⟩
    · cases e
    · obtain ⟨rfl, -, rfl⟩ : g = g' ∧ n = (pa ++ [(q, rv)]).length ∧ c = cap' := by simpa using e
      rw [hcur] at a2
      obtain rfl : cur = cur' := by
        injection a2 with a2
        injection a2
      refine .inr ⟨g, c, _, by rw [e]; simp, a1, hb, by simpa using a3, a4, by simpa using a5, ?_⟩
      rw [Array.toList_setIfInBounds, Array.toList_setIfInBounds, List.take_set, List.take_set]
      have : (pa ++ [({ num := q.num, fst := q.fst, siz := siz, recs := rs }, rv')] : Ps).length = (pa ++ [(q, rv)]).length := by simp
      rw [this, a6, scs_turn pa q rv rv' siz rs]
  · rcases List.mem_append.1 hp with hp | hp
    · have hq := h.recs p (by simp [hp])
      refine (hq.other hC (fun x hx e => ?_) (fun x hx cur' hc => ?_)).mono (fun x hx => .inl hx)
      · rcases e with rfl | e
        · obtain ⟨-, cur', h2⟩ := hq.ok hx
          rw [hcur] at h2
          injection h2 with h2
          injection h2 with _ h2
          exact absurd h2 (by decide)
        · exact (List.pairwise_append.1 h.apart).2.2 p hp (q, rv) (by simp) x hx e
      · rcases hx with rfl | hx
        · rw [hcur] at hc
          injection hc with hc
          injection hc with _ hc
          exact absurd hc (by decide)
        · obtain ⟨-, cur'', h2⟩ := hrv.ok hx
          rw [hc] at h2
          injection h2 with h2
          injection h2 with _ h2
          exact absurd h2 (by decide)
    · obtain rfl : p = (⟨q.num, q.fst, siz, rs⟩, rv') := by simpa using hp
      exact hr
  · obtain ⟨h1, -, h3⟩ := List.pairwise_append.1 h.apart
    refine List.pairwise_append.2 ⟨h1, by simp, fun p hp p' hp' x hx e => ?_⟩
    obtain rfl : p' = (⟨q.num, q.fst, siz, rs⟩, rv') := by simpa using hp'
    rcases hg x e with y | y
    · exact h3 p hp (q, rv) (by simp) x hx y
    · have := hin x ((h.recs p (by simp [hp])).ok hx).1
      omega
/-- One record more in the last segment. -/
def Sg.more (q : Sg) (r : List UInt8) : Sg := ⟨q.num, q.fst, q.siz + (frameOf r).length, q.recs ++ [r]⟩
theorem Inv.more {sa : List Sg} {q : Sg} {safe sf : Nat} (r : List UInt8) (hr : r.length ≤ 65536) (h : Inv (sa ++ [q]) safe (sa.map fo ++ [lastF q sf])) : Inv (sa ++ [q.more r]) safe (sa.map fo ++ [lastF (q.more r) sf]) := by
  have hq := h.good q (by simp)
  refine ⟨?_, ?_, fun s hs => ?_, h.ok.of_nums (by simp [lastF, Sg.more])⟩
  · rcases h.rep with ⟨e, -⟩ | ⟨sa', q', sf', j, e1, e2, e3, e4, e5⟩
    · simp at e
    · obtain ⟨rfl, e6⟩ := List.append_inj' e1 rfl
      obtain rfl : q = q' := by simpa using e6
      have e7 := (List.append_inj' e2 rfl).2
      obtain rfl : sf = sf' := by simpa [lastF] using e7
      refine .inr ⟨sa, q.more r, sf, j, rfl, rfl, by simp [Sg.more]; omega, e4, ?_⟩
      rcases e5 with x | x
      · exact .inl x
      · right
        simp only [Sg.more]
        rw [List.take_append_of_le_length e3]
        exact x
  · refine h.linked.left.snoc ?_
    have := h.linked sa q [] rfl
    unfold followS at this ⊢
    exact this
  · rcases List.mem_append.1 hs with hs | hs
    · exact h.good s (by simp [hs])
    · obtain rfl : s = q.more r := by simpa using hs
      refine ⟨hq.1, fun x hx => ?_, ?_⟩
      · rcases List.mem_append.1 hx with hx | hx
        · exact hq.2.1 x hx
        · obtain rfl : x = r := by simpa using hx
          exact hr
      · simp only [Sg.more]
        rw [segBytes_snoc, List.length_append, ← hq.2.2]
set_option maxRecDepth 100000 in
set_option maxHeartbeats 8000000 in
theorem write_last (pa : Ps) (q : Sg × Value) (sa : List Sg) (sf : Nat) (r : List UInt8) (lb : Nat) (sv d v : Value) (lim safe cap : Nat) (F G : Nat → Prop) (w0 w : World) (hP : Pair w lb sv (pa ++ [q]) d cap (dsk (sa.map fo ++ [lastF q.1 sf])) lim safe F G) (hns : NsOk (sa.map fo ++ [lastF q.1 sf])) (hT : Tb w0) (hK0 : Kept w0 w) (hbd : bounded (pa ++ [q]))
    (hv : ∀ W, Chg (fun g => F g ∨ G g) w W → Bts W v r) (hr : r.length ≤ 65536) (hlim : q.1.siz < lim) (hpl : pa.length ≤ 1000000) (hsl : sa.length ≤ 1000000) (hrl : q.1.recs.length < 1000000000) :
    Calls Tryz.prog 45 #[.pointer (some ⟨lb, 0, none⟩), v] w fun e w' => 
      (e = .returned (.int .i64 32) ∧ cap < used (dsk (sa.map fo ++ [lastF q.1 sf])) + (frameOf r).length ∧ ∃ F', Pair w' lb sv (pa ++ [q]) d cap (dsk (sa.map fo ++ [lastF q.1 sf])) lim safe F' G ∧ Out w w' F G F' G) ∨
      (e = .returned (.int .i64 0) ∧ used (dsk (sa.map fo ++ [lastF q.1 sf])) + (frameOf r).length ≤ cap ∧ ∃ rv F' G', Pair w' lb sv (pa ++ [(q.1.more r, rv)]) d cap (dsk (sa.map fo ++ [lastF (q.1.more r) sf])) lim safe F' G' ∧ Out w w' F G F' G') := by
  obtain ⟨db, rfl⟩ := hP.disk.form
  have HP := Lib.hid hP
  have HT := Lib.hid hT
  have HV := Lib.hid hv
  have HNS := Lib.hid hns
  have hbq := hbd q (by simp)
  obtain ⟨Av, cv, hvv, hv1, hv2, -⟩ := hv w (Chg.refl _ w)
  subst hvv
  have HFR := Lib.hid (frame_any r _ w (hv w (Chg.refl _ w)))
  rw [show frRes r = frameOf r by unfold frRes; rw [if_neg (by omega)], show frErr r = 0 by unfold frErr; rw [if_neg (by omega)]] at HFR
  have HIF := Lib.hid (show ∀ W, Kept w W → _ from fun W hW => isFull_any lb sv (pa ++ [q]) _ lim safe G W (hP.log.kept hW))
  rw [sgs_snoc, full_snoc, show decide (lim ≤ q.1.siz) = false by simp; omega] at HIF
  have hl : (pa ++ [q]).length = pa.length + 1 := by simp
  obtain ⟨A, c, hsv, hc1, hc2⟩ := hP.log.segs.form
  rw [hl] at hsv hc1
  subst hsv
  obtain ⟨g, hA, q0, q1, q2, q3, cur, hcur⟩ := hP.log.segs.at (i := pa.length) (by simp)
  subst hA
  have hqe : (pa ++ [q])[pa.length]'(by simp) = q := by simp
  rw [hqe] at q0 q1 q2 q3
  have HCUR := Lib.hid hcur
  have c4 := hP.log.c4
  have c0 := hP.log.c0
  have c1 := hP.log.c1
  have hlb := hP.log.lt
  have hgl : g < w.heap.size := (hP.log.segs.row.lt g rfl).2
  have hfl := frameOf_len r
  have HFI := Lib.hid (show ∀ W, Kept w W → _ from fun W hW => file_any (.pointer (some ⟨db, 0, none⟩)) q.1.num W (hT.kept (hK0.trans hW)) hbq.1)
  have hlen0 : (dsk (sa.map fo ++ [lastF q.1 sf])).length < 2000000000000 := by rw [dsk_len]; simp; omega
  have hA0 : appS (fileN q.1.num) (frameOf r) (dsk (sa.map fo ++ [lastF q.1 sf])) = dsk (sa.map fo ++ [lastF (q.1.more r) sf]) := by
    have := app_dsk (a := sa.map fo) (b := []) (p := lastF q.1 sf) hns (frameOf r)
    rw [show (lastF q.1 sf).1 = q.1.num from rfl] at this
    rw [this]
    simp only [lastF, Sg.more, segBytes_snoc]
  have HAP := Lib.hid (show ∀ (x : Value) W, Kept w W → Bts W x (frameOf r) → _ from fun x W hW hx => append_any (fileN q.1.num) (frameOf r) x (.pointer (some ⟨db, 0, none⟩)) cap (dsk (sa.map fo ++ [lastF q.1 sf])) F W (hP.disk.kept hW) hx hlen0)
  have hoA : okA cap (fileN q.1.num) (frameOf r) (dsk (sa.map fo ++ [lastF q.1 sf])) = if cap < used (dsk (sa.map fo ++ [lastF q.1 sf])) + (frameOf r).length then 32 else 0 := by
    unfold okA
    rw [if_neg (by rw [okN_file]; decide)]
  rw [hoA, hA0] at HAP
  have hlbF := hP.apart lb hP.log.inG
  have hgF := hP.apart g (hP.log.segs.rowG g rfl)
  have HBQ := Lib.hid hbq
  generalize hfn : fileN q.1.num = fn at *
  have HFL := Lib.hid hfl
  have hx0 : (0 : Int) ≤ (pa.length : Int) + 1 - 1 := by omega
  clear hP hT hv hns hl hqe hcur hlen0 hA0 hoA hbq hfl hbd hfn hlim
  generalize hus : used (dsk (sa.map fo ++ [lastF q.1 sf])) = us at *
  clear hus
  generalize hfb : frameOf r = fb at *
  have HFB := Lib.hid hfb
  clear hfb
  go_enter Tryz.func45, Tryz.ntmps45
  go_wp2_with fail
  refine HFR.out.mono ?_
  rintro e w1 ⟨v1, rfl, ho1, k1⟩
  have HB1 := Lib.hid (Bts.of_own ho1)
  obtain ⟨A1, cc1, rfl⟩ := own_form ho1
  clear ho1
  go_wp2_with fail
  refine (HIF.out w1 k1).mono ?_
  rintro e w2 ⟨rfl, k2⟩
  have hk2 := k1.trans k2
  have d4 := hk2.cell c4
  go_wp2
  go_quiet (fail)
  rename_i nq
  have hkq : Kept w (w2.drewN nq) := hk2.drewN nq
  have hk2q : Kept w2 (w2.drewN nq) := (Kept.refl w2).drewN nq
  generalize w2.drewN nq = w3 at *
  have l0 := hkq.cell c0
  have l1 := hkq.cell c1
  have s0 := hkq.cell q0
  have hKr := (Kept.refl w3).drew
  clear d4
  by_cases hroom : cap < us + fb.length
  · rw [if_pos hroom, if_neg (by decide)] at HAP
    have HRO := Lib.hid hroom
    clear hroom
    go_wp2
    go_region_held3 (fun W => W.cell? ⟨lb, 0, none⟩ = some (.pointer (some ⟨db, 0, none⟩)) ∧ W.cell? ⟨lb, 1, none⟩ = some (.string ⟨lg.toArray⟩) ∧ W.cell? ⟨g, pa.length * 4, none⟩ = some (.int .i64 (q.1.num : Int)))
      (first | exact ⟨l0, l1, s0⟩ | exact ⟨hq1.cell l0, hq1.cell l1, hq1.cell s0⟩ | exact ⟨y0, y1, y2⟩)
      (first
        | (go_at_call 48; refine (HFI.out _ (hkq.trans hKr)).mono ?_; rintro e w7 ⟨rfl, hqa⟩; have hq1 : Kept w3 w7 := hKr.trans hqa)
        | (go_at_call 22; refine (HAP.out _ _ (hkq.trans hq1) (HB1.out.kept ((k2.trans hk2q).trans hq1))).mono ?_; rintro e w8 ⟨rfl, hd8, hC8⟩; have y0 := hC8.cell (hq1.cell l0) hlbF; have y1 := hC8.cell (hq1.cell l1) hlbF; have y2 := hC8.cell (hq1.cell s0) hgF; have HD8 := Lib.hid hd8; clear hd8))
    have hk7 := hkq.trans hq1
    have hs7 := hk7.size
    have hs8 := hC8.size
    have hCw8 : Chg F w w8 := (Chg.of_kept hk7).trans hC8 (fun g _ x => x)
    have hF8 : ∀ x, ext F w7 w8 x → ¬ G x ∧ x < w8.heap.size ∧ (F x ∨ w.heap.size ≤ x) := fun x hx => by
      rcases hx with y | y
      · exact ⟨fun z => HP.out.apart x z y, by have := HP.out.inF x y; omega, .inl y⟩
      · exact ⟨fun z => by have := HP.out.inG x z; omega, y.2, .inr (by omega)⟩
    go_wp2
    go_ret
    obtain rfl := HFB.out
    exact .inl ⟨rfl, HRO.out, ext F w7 w8, ⟨HP.out.log.chg hCw8 HP.out.apart, HD8.out, fun x hx y => (hF8 x y).1 hx, fun x hx => (hF8 x hx).2.1, fun x hx => by have := HP.out.inG x hx; omega⟩, ⟨fun x hx => (hF8 x hx).2.2, fun x hx => .inl hx, hCw8.mono (fun x _ y => .inl y)⟩⟩
  · rw [if_neg hroom, if_pos rfl] at HAP
    have HRO := Lib.hid (show us + fb.length ≤ cap by omega)
    clear hroom
    go_wp2
    go_region_held3 (fun W => W.cell? ⟨lb, 0, none⟩ = some (.pointer (some ⟨db, 0, none⟩)) ∧ W.cell? ⟨lb, 1, none⟩ = some (.string ⟨lg.toArray⟩) ∧ W.cell? ⟨g, pa.length * 4, none⟩ = some (.int .i64 (q.1.num : Int)))
      (first | exact ⟨l0, l1, s0⟩ | exact ⟨hq1.cell l0, hq1.cell l1, hq1.cell s0⟩ | exact ⟨y0, y1, y2⟩)
      (first
        | (go_at_call 48; refine (HFI.out _ (hkq.trans hKr)).mono ?_; rintro e w7 ⟨rfl, hqa⟩; have hq1 : Kept w3 w7 := hKr.trans hqa)
        | (go_at_call 22; refine (HAP.out _ _ (hkq.trans hq1) (HB1.out.kept ((k2.trans hk2q).trans hq1))).mono ?_; rintro e w8 ⟨rfl, hd8, hC8⟩; have y0 := hC8.cell (hq1.cell l0) hlbF; have y1 := hC8.cell (hq1.cell l1) hlbF; have y2 := hC8.cell (hq1.cell s0) hgF; have HD8 := Lib.hid hd8; clear hd8))
    have hk7 := hkq.trans hq1
    have hs7 := hk7.size
    have hs8 := hC8.size
    have hCw8 : Chg F w w8 := (Chg.of_kept hk7).trans hC8 (fun g _ x => x)
    have hF8 : ∀ x, ext F w7 w8 x → ¬ G x ∧ x < w8.heap.size ∧ (F x ∨ w.heap.size ≤ x) := fun x hx => by
      rcases hx with y | y
      · exact ⟨fun z => HP.out.apart x z y, by have := HP.out.inF x y; omega, .inl y⟩
      · exact ⟨fun z => by have := HP.out.inG x z; omega, y.2, .inr (by omega)⟩
    have HL8 := Lib.hid (HP.out.log.chg hCw8 HP.out.apart)
    have HCUR8 := Lib.hid (hCw8.block' HCUR.out hgF)
    have hcwv : Chg (fun g => F g ∨ G g) w w8 := hCw8.mono (fun x _ y => .inl y)
    have r2 : cur[pa.length * 4 + 2]? = some (.int .i64 (q.1.siz : Int)) := by rw [← cell_at HCUR.out]; exact q2
    have r3 : cur[pa.length * 4 + 3]? = some q.2 := by rw [← cell_at HCUR.out]; exact q3
    have HADD := Lib.hid (add_any g (pa.length * 4) cur _ q.1.siz fb.length q.2 q.1.recs r (.slice Av r.length cv) G w8 HCUR8.out r2 r3 (by decide) (by decide) (HL8.out.segs.recs q (by simp)) (HV.out w8 hcwv) (by omega) (by omega) (by have := HBQ.out; have := HFL.out; omega))
    clear y0 y1 y2 l0 l1 s0 r2 r3
    go_wp2_with fail
    refine HADD.out.mono ?_
    rintro e w9 ⟨rfl, rv, hb9, hr9, hg9, hC9⟩
    have hin8 : ∀ x, G x → x < w8.heap.size := fun x hx => by have := HP.out.inG x hx; omega
    have hS9 := Segs.turn (q := q.1) (rv := q.2) (pa := pa) HL8.out.segs hin8 HCUR8.out hb9 hr9 hg9 hC9
    have HS9 := Lib.hid hS9
    have hqG : ∀ x, (x = g ∨ q.2.ownBlock = some x) → G x := fun x hx => by
      rcases hx with rfl | hx
      · exact HL8.out.segs.rowG _ rfl
      · exact ((HL8.out.segs.recs q (by simp)).ok hx).1
    have hlbn : ¬ (lb = g ∨ q.2.ownBlock = some lb) := by
      rintro (e | e)
      · have h1 := HL8.out.cells
        rw [e, HCUR8.out] at h1
        injection h1 with h1
        injection h1 with _ h1
        exact absurd h1 (by decide)
      · obtain ⟨-, cur', h2⟩ := (HL8.out.segs.recs q (by simp)).ok e
        rw [HL8.out.cells] at h2
        injection h2 with h2
        injection h2 with _ h2
        exact absurd h2 (by decide)
    have hb9l := hC9.block' HL8.out.cells hlbn
    have hd9 := HD8.out.chg hC9 (fun x hx y => (hF8 x hx).1 (hqG x y))
    have hs9 := hC9.size
    have HB9 := Lib.hid hb9l
    have HD9 := Lib.hid hd9
    clear hb9 hr9 hS9 hb9l hd9
    go_wp2
    go_ret
    obtain rfl := HFB.out
    refine .inr ⟨rfl, HRO.out, rv, ext F w7 w8, ext G w8 w9, ⟨⟨HB9.out, HS9.out, .inl HP.out.log.inG⟩, HD9.out, fun x hx y => ?_, fun x hx => by have := (hF8 x hx).2.1; omega, fun x hx => ?_⟩, ⟨fun x hx => (hF8 x hx).2.2, fun x hx => ?_, hcwv.trans hC9 (fun x _ y => .inr (hqG x y))⟩⟩
    · rcases hx with z | z
      · exact (hF8 x y).1 z
      · have := (hF8 x y).2.1; omega
    · rcases hx with z | z
      · have := HP.out.inG x z; omega
      · exact z.2
    · rcases hx with z | z
      · exact .inl z
      · exact .inr (by omega)
end Go.Proofs.YtcdeagmoldbicaaGreatDoor
set_option linter.unusedSimpArgs false
set_option linter.unusedVariables false
namespace Go.Proofs.YtcdeagmoldbicaaGreatDoor
open Go.RowKit
theorem Linked.next {ss : List Sg} (h : Linked ss) : nextS ss = firstS ss + (recsOf ss).length := by
  rcases List.eq_nil_or_concat ss with rfl | ⟨a, q, rfl⟩
  · rfl
  · rw [List.concat_eq_append] at *
    induction ha : a.length generalizing a q with
    | zero =>
      obtain rfl : a = [] := List.eq_nil_of_length_eq_zero ha
      simp [nextS, firstS, recsOf, Sg.next]
    | succ n ih =>
      rcases List.eq_nil_or_concat a with rfl | ⟨b, p, rfl⟩
      · simp at ha
      · rw [List.concat_eq_append] at *
        have i := ih b p h.left (by simpa using ha)
        have hf := h (b ++ [p]) q [] rfl
        rw [follow_snoc] at hf
        simp only [Bool.and_eq_true, decide_eq_true_eq] at hf
        rw [nextS_snoc] at i ⊢
        rw [recsOf_snoc, List.length_append]
        have e : firstS (b ++ [p] ++ [q]) = firstS (b ++ [p]) := by
          unfold firstS
          rw [List.append_assoc]
          cases b <;> rfl
        rw [e]
        unfold Sg.next at *
        omega
theorem firstS_snoc {ss : List Sg} {s : Sg} (h : ss ≠ []) : firstS (ss ++ [s]) = firstS ss := by
  cases ss with
  | nil => exact absurd rfl h
  | cons a r => rfl
theorem Inv.len {ss : List Sg} {safe : Nat} {ns : Ns} (h : Inv ss safe ns) : ss.length ≤ lastNum ss ∧ ∀ s ∈ ss, 1 ≤ s.num ∧ s.num < 1000000 := by
  have hn : ∀ s ∈ ss, 1 ≤ s.num ∧ s.num < 1000000 := fun s hs => by
    have : s.num ∈ ns.map Prod.fst := by rw [h.rep.nums]; exact List.mem_map.2 ⟨s, hs, rfl⟩
    obtain ⟨p, hp, e⟩ := List.mem_map.1 this
    have := h.ok.2 p hp
    omega
  refine ⟨?_, hn⟩
  rcases List.eq_nil_or_concat ss with rfl | ⟨a, q, rfl⟩
  · exact Nat.zero_le _
  · rw [List.concat_eq_append] at *
    rw [lastNum_snoc]
    have h1 := h.linked.nums a.length (by simp)
    have h2 : (a ++ [q])[a.length]'(by simp) = q := by simp
    rw [h2] at h1
    have h3 := (hn _ (List.getElem_mem (l := a ++ [q]) (n := 0) (by simp))).1
    rw [List.length_append, List.length_singleton]
    omega
/-- A log on its disk; H names their blocks, which are younger than w0. -/
def LSt (H : Nat → Prop) (w0 w : World) (lb : Nat) (d : Value) (cap lim safe : Nat) (ss : List Sg) (ns : Ns) : Prop :=
  ∃ sv ps F G, Pair w lb sv ps d cap (dsk ns) lim safe F G ∧ sgs ps = ss ∧ Inv ss safe ns ∧ (∀ g, F g ∨ G g → H g) ∧ (∀ g, H g → w0.heap.size ≤ g) ∧ Kept w0 w
theorem bounded_of {w : World} {lb : Nat} {sv : Value} {ps : Ps} {d : Value} {cap : Nat} {ns : Ns} {lim safe : Nat} {F G : Nat → Prop} (hP : Pair w lb sv ps d cap (dsk ns) lim safe F G) (hI : Inv (sgs ps) safe ns) : bounded ps := by
  intro p hp
  have hs : p.1 ∈ sgs ps := List.mem_map.2 ⟨p, hp, rfl⟩
  have hg := hI.good _ hs
  have hu : (segBytes p.1.fst p.1.recs).length ≤ used (dsk ns) := by
    rw [hI.rep.used]
    have := used_get (srt_dsk hI.synced.ok) (fileN p.1.num)
    have hgd := get_dsk hI.synced.ok (p := fo p.1) (List.mem_map.2 ⟨p.1, hs, rfl⟩)
    rw [show (fo p.1).1 = p.1.num from rfl] at hgd
    rw [hgd] at this
    simpa [fo] using this
  have h1 := hP.disk.good.2.1
  have h2 := hP.disk.good.2.2.1
  have h3 := recBytes_ge p.1.recs
  have h4 : (recBytes p.1.recs).length ≤ (segBytes p.1.fst p.1.recs).length := by unfold segBytes; rw [List.length_append]; omega
  refine ⟨(hI.len.2 _ hs).2, hg.1, by omega, by rw [hg.2.2]; omega⟩
theorem LSt.kept {H : Nat → Prop} {w0 w w' : World} {lb : Nat} {d : Value} {cap lim safe : Nat} {ss : List Sg} {ns : Ns} (h : LSt H w0 w lb d cap lim safe ss ns) (k : Kept w w') : LSt H w0 w' lb d cap lim safe ss ns := by
  obtain ⟨sv, ps, F, G, hP, h1, h2, h3, h4, h5⟩ := h
  exact ⟨sv, ps, F, G, hP.kept k, h1, h2, h3, h4, h5.trans k⟩
theorem LSt.inv {H : Nat → Prop} {w0 w : World} {lb : Nat} {d : Value} {cap lim safe : Nat} {ss : List Sg} {ns : Ns} (h : LSt H w0 w lb d cap lim safe ss ns) : Inv ss safe ns ∧ Kept w0 w ∧ used (dsk ns) ≤ cap ∧ cap ≤ 1073741824 := by
  obtain ⟨sv, ps, F, G, hP, h1, h2, h3, h4, h5⟩ := h
  exact ⟨h2, h5, hP.disk.good.2.1, hP.disk.good.2.2.1⟩
theorem LSt.mono {H H' : Nat → Prop} {w0 w : World} {lb : Nat} {d : Value} {cap lim safe : Nat} {ss : List Sg} {ns : Ns} (h : LSt H w0 w lb d cap lim safe ss ns) (h1 : ∀ g, H g → H' g) (h2 : ∀ g, H' g → w0.heap.size ≤ g) : LSt H' w0 w lb d cap lim safe ss ns := by
  obtain ⟨sv, ps, F, G, hP, a1, a2, a3, a4, a5⟩ := h
  exact ⟨sv, ps, F, G, hP, a1, a2, fun g x => h1 g (a3 g x), h2, a5⟩
/-- What is left when a call of the log is done. -/
theorem LSt.of_out {H : Nat → Prop} {w0 w w' : World} {lb : Nat} {d : Value} {cap lim safe : Nat} {ss : List Sg} {ns : Ns} {sv : Value} {ps : Ps} {F G F' G' : Nat → Prop} (h0 : Kept w0 w) (hB : ∀ g, F g ∨ G g → H g) (hH : ∀ g, H g → w0.heap.size ≤ g) (hP : Pair w' lb sv ps d cap (dsk ns) lim safe F' G') (hsg : sgs ps = ss) (hI : Inv ss safe ns) (hO : Out w w' F G F' G') :
    LSt (ext H w w') w0 w' lb d cap lim safe ss ns ∧ Chg H w w' := by
  have hC : Chg H w w' := hO.chg.mono (fun g _ x => hB g x)
  refine ⟨⟨sv, ps, F', G', hP, hsg, hI, fun g x => ?_, fun g x => ?_, hC.kept h0 hH⟩, hC⟩
  · rcases x with x | x
    · rcases hO.hF g x with y | y
      · exact .inl (hB g (.inl y))
      · exact .inr ⟨y, hP.inF g x⟩
    · rcases hO.hG g x with y | y
      · exact .inl (hB g (.inr y))
      · exact .inr ⟨y, hP.inG g x⟩
  · rcases x with x | x
    · exact hH g x
    · have := h0.size
      omega
set_option maxRecDepth 100000 in
set_option maxHeartbeats 4000000 in
theorem write_full (ps : Ps) (ns : Ns) (r : List UInt8) (lb : Nat) (sv d v : Value) (lim safe cap : Nat) (F G : Nat → Prop) (w0 w : World) (hP : Pair w lb sv ps d cap (dsk ns) lim safe F G) (hI : Inv (sgs ps) safe ns) (hT : Tb w0) (hK0 : Kept w0 w) (hB : ∀ g, F g ∨ G g → w0.heap.size ≤ g) (hbd : bounded ps) (hf : fullS lim (sgs ps) = true)
    (hv : ∀ W, Chg (fun g => F g ∨ G g) w W → Bts W v r) (hr : r.length ≤ 65536) (hn : lastNum (sgs ps) + 1 < 1000000) (hx : nextS (sgs ps) ≤ 1152921504606846976) (hpl : ps.length ≤ 1000000) :
    Calls Tryz.prog 45 #[.pointer (some ⟨lb, 0, none⟩), v] w fun e w' => 
      (e = .returned (.int .i64 32) ∧ cap < used (dsk ns) + (segBytes (nextS (sgs ps)) [r]).length ∧ ∃ F', Pair w' lb sv ps d cap (dsk ((sgs ps).map fo)) lim (nextS (sgs ps)) F' G ∧ Out w w' F G F' G) ∨
      (e = .returned (.int .i64 0) ∧ used (dsk ns) + (segBytes (nextS (sgs ps)) [r]).length ≤ cap ∧ ∃ sv' rv F' G', Pair w' lb sv' (ps ++ [(⟨lastNum (sgs ps) + 1, nextS (sgs ps), (segBytes (nextS (sgs ps)) [r]).length, [r]⟩, rv)]) d cap (dsk ((sgs ps).map fo ++ [(lastNum (sgs ps) + 1, (segBytes (nextS (sgs ps)) [r], 0))])) lim (nextS (sgs ps)) F' G' ∧ Out w w' F G F' G') := by
  obtain ⟨Av, cv, hvv, hv1, hv2, -⟩ := hv w (Chg.refl _ w)
  subst hvv
  have HFR := Lib.hid (frame_any r _ w (hv w (Chg.refl _ w)))
  rw [show frRes r = frameOf r by unfold frRes; rw [if_neg (by omega)], show frErr r = 0 by unfold frErr; rw [if_neg (by omega)]] at HFR
  have HIF := Lib.hid (show ∀ W, Kept w W → _ from fun W hW => isFull_any lb sv ps _ lim safe G W (hP.log.kept hW))
  rw [hf] at HIF
  have HBE := Lib.hid (show ∀ (fv : Value) W, Kept w W → Bts W fv (frameOf r) → (∀ g, fv.ownBlock = some g → w.heap.size ≤ g) → _ → _ from fun fv W hW hfv hge hfb => begin_any ps ns r lb sv d (.slice Av r.length cv) fv lim safe cap F G W w0 (hP.kept hW) hI hT (hK0.trans hW) hB hbd (fun W' c => hv W' ((Chg.of_kept hW).trans c (fun g _ x => x))) hfb hr hn hx hpl)
  have HIN := Lib.hid (show ∀ g, F g ∨ G g → g < w.heap.size from fun g x => by
    rcases x with x | x
    · exact hP.inF g x
    · exact hP.inG g x)
  obtain ⟨db, rfl⟩ := hP.disk.form
  clear hP hI hT hB hbd hf hv hn hx hpl
  generalize nextS (sgs ps) = nx at *
  generalize lastNum (sgs ps) = lnum at *
  generalize (sgs ps).map fo = ms at *
  generalize hfb : frameOf r = fb at *
  clear hfb
  go_enter Tryz.func45, Tryz.ntmps45
  go_wp2_with fail
  refine HFR.out.mono ?_
  rintro e w1 ⟨v1, rfl, ho1, k1⟩
  have HO1 := Lib.hid ho1
  obtain ⟨A1, cc1, rfl⟩ := own_form ho1
  clear ho1
  go_wp2_with fail
  refine (HIF.out w1 k1).mono ?_
  rintro e w2 ⟨rfl, k2⟩
  have hk2 := k1.trans k2
  have hbt : ∀ W, Chg (fun g => F g ∨ G g) w2 W → Bts W (.slice A1 fb.length cc1) fb := fun W c => Bts.of_own (own_chg (own_kept HO1.out k2) c (fun g hg x => by
    have h1 := (HO1.out.lt g hg).1
    have h2 := HIN.out g x
    omega))
  have HBT := Lib.hid hbt
  clear hbt
  go_wp2_with fail
  refine (HBE.out _ w2 hk2 (HBT.out w2 (Chg.refl _ _)) (fun g hg => (HO1.out.lt g hg).1) HBT.out).mono ?_
  have hout : ∀ {w' : World} {F' G' : Nat → Prop}, Out w2 w' F G F' G' → Out w w' F G F' G' := fun h => (Out.refl hk2).trans h
  rintro e w3 (⟨rfl, hro, F', hP3, hO3⟩ | ⟨rfl, hro, sv', rv, F', G', hP3, hO3⟩)
  · have HP3 := Lib.hid hP3
    have HO3 := Lib.hid (hout hO3)
    have HRO := Lib.hid hro
    clear hP3 hO3 hro hout
    go_wp2
    go_ret
    exact .inl ⟨rfl, HRO.out, F', HP3.out, HO3.out⟩
  · have HP3 := Lib.hid hP3
    have HO3 := Lib.hid (hout hO3)
    have HRO := Lib.hid hro
    clear hP3 hO3 hro hout
    go_wp2
    go_ret
    exact .inr ⟨rfl, HRO.out, sv', rv, F', G', HP3.out, HO3.out⟩
/-- One record more, just as it is written. -/
def moreS (ss : List Sg) (r : List UInt8) : List Sg := match ss.getLast? with
  | some q => ss.dropLast ++ [q.more r]
  | none => ss
theorem moreS_snoc (a : List Sg) (q : Sg) (r : List UInt8) : moreS (a ++ [q]) r = a ++ [q.more r] := by unfold moreS; rw [List.getLast?_append]; simp
def stepS (lim : Nat) (x : List Sg × Nat) (r : List UInt8) : List Sg × Nat :=
  if fullS lim x.1 = true then (x.1 ++ [⟨lastNum x.1 + 1, nextS x.1, (segBytes (nextS x.1) [r]).length, [r]⟩], nextS x.1) else (moreS x.1 r, x.2)
/-- What write makes. -/
structure Wrote (lim cap : Nat) (ss : List Sg) (safe : Nat) (ns : Ns) (r : List UInt8) (ss' : List Sg) (safe' : Nat) (ns' : Ns) (e : Int) : Prop where
  done : (e = 0 ∧ recsOf ss' = recsOf ss ++ [r]) ∨ (e = 32 ∧ ss' = ss ∧ used (dsk ns') = used (dsk ns) ∧ cap < used (dsk ns) + 25 + r.length)
  safeLe : safe ≤ safe'
  first : firstS ss' = firstS ss
  last : lastNum ss' ≤ lastNum ss + 1
  room : used (dsk ns') ≤ used (dsk ns) + 25 + r.length
  det : e = 0 → (ss', safe') = stepS lim (ss, safe) r
theorem write_st (H : Nat → Prop) (w0 w : World) (lb : Nat) (d v : Value) (cap lim safe : Nat) (ss : List Sg) (ns : Ns) (r : List UInt8) (h : LSt H w0 w lb d cap lim safe ss ns) (hT : Tb w0) (hv : ∀ W, Chg H w W → Bts W v r) (hr : r.length ≤ 65536) (hn : lastNum ss + 1 < 1000000) (hx : nextS ss ≤ 1152921504606846976) (hrl : (recsOf ss).length < 1000000000) :
    Calls Tryz.prog 45 #[.pointer (some ⟨lb, 0, none⟩), v] w fun e w' => ∃ (x : Int) (ss' : List Sg) (safe' : Nat) (ns' : Ns), e = .returned (.int .i64 x) ∧ Wrote lim cap ss safe ns r ss' safe' ns' x ∧ LSt (ext H w w') w0 w' lb d cap lim safe' ss' ns' ∧ Chg H w w' := by
  obtain ⟨sv, ps, F, G, hP, rfl, hI, hB, hH, hK0⟩ := h
  have hbd := bounded_of hP hI
  have hB0 : ∀ g, F g ∨ G g → w0.heap.size ≤ g := fun g x => hH g (hB g x)
  have hv1 : ∀ W, Chg (fun g => F g ∨ G g) w W → Bts W v r := fun W c => hv W (c.mono (fun g _ x => hB g x))
  have hpl : ps.length ≤ 1000000 := by
    have := hI.len.1
    rw [sgs_len] at this
    omega
  have hus := hI.rep.used
  by_cases hf : fullS lim (sgs ps) = true
  · have hsl : (segBytes (nextS (sgs ps)) [r]).length ≤ 25 + r.length := by
      rw [segBytes_one, List.length_append, frameOf_len, frameOf_len]
      have := put_len (nextS (sgs ps))
      omega
    refine (write_full ps ns r lb sv d v lim safe cap F G w0 w hP hI hT hK0 hB0 hbd hf hv1 hr hn hx hpl).mono ?_
    rintro e w' (⟨rfl, hro, F', hP3, hO3⟩ | ⟨rfl, hro, sv', rv, F', G', hP3, hO3⟩)
    · obtain ⟨i1, i2⟩ := LSt.of_out hK0 hB hH hP3 rfl hI.synced hO3
      exact ⟨32, _, _, _, rfl, ⟨.inr ⟨rfl, rfl, hus.symm, by omega⟩, hI.rep.safe_le, rfl, by omega, by omega, fun h => by cases h⟩, i1, i2⟩
    · obtain ⟨i1, i2⟩ := LSt.of_out hK0 hB hH hP3 (by rw [sgs_snoc]) (hI.begin r hr hn hx) hO3
      refine ⟨0, _, _, _, rfl, ⟨.inl ⟨rfl, by rw [recsOf_snoc]⟩, hI.rep.safe_le, ?_, by rw [lastNum_snoc]; exact Nat.le_refl _, ?_, fun _ => by unfold stepS; rw [if_pos hf]⟩, i1, i2⟩
      · by_cases he : sgs ps = []
        · rw [he]; rfl
        · exact firstS_snoc he
      · rw [dsk_app, used_app, ← hus]
        simp [dsk, used]
        omega
  · have hne : sgs ps ≠ [] := by
      intro he
      rw [he] at hf
      exact hf rfl
    rcases hI.rep with ⟨he, -⟩ | ⟨sa, q', sf, j, h1, h2, h3, h4, h5⟩
    · exact absurd he hne
    · rcases List.eq_nil_or_concat ps with rfl | ⟨pa, q, rfl⟩
      · exact absurd rfl hne
      · rw [List.concat_eq_append] at *
        rw [sgs_snoc] at h1
        obtain ⟨e1, e2⟩ := List.append_inj' h1 rfl
        obtain rfl : q.1 = q' := by simpa using e2
        subst h2 e1
        rw [sgs_snoc, full_snoc] at hf
        have hlim : q.1.siz < lim := by simpa using hf
        have hq := hbd q (by simp)
        have hrq : q.1.recs.length < 1000000000 := by
          rw [sgs_snoc, recsOf_snoc, List.length_append] at hrl
          omega
        rw [List.length_append, List.length_singleton] at hpl
        refine (write_last pa q (sgs pa) sf r lb sv d v lim safe cap F G w0 w hP hI.ok hT hK0 hbd hv1 hr hlim (by omega) (by rw [sgs_len]; omega) hrq).mono ?_
        rintro e w' (⟨rfl, hro, F', hP3, hO3⟩ | ⟨rfl, hro, rv, F', G', hP3, hO3⟩)
        · obtain ⟨i1, i2⟩ := LSt.of_out hK0 hB hH hP3 rfl hI hO3
          rw [frameOf_len] at hro
          exact ⟨32, _, _, _, rfl, ⟨.inr ⟨rfl, rfl, rfl, by omega⟩, Nat.le_refl _, rfl, by omega, by omega, fun h => by cases h⟩, i1, i2⟩
        · have hI2 : Inv (sgs pa ++ [q.1]) safe ((sgs pa).map fo ++ [lastF q.1 sf]) := by rw [← sgs_snoc]; exact hI
          obtain ⟨i1, i2⟩ := LSt.of_out (ss := sgs pa ++ [q.1.more r]) hK0 hB hH hP3 (by rw [sgs_snoc]) (hI2.more r hr) hO3
          rw [frameOf_len] at hro
          refine ⟨0, _, _, _, rfl, ⟨.inl ⟨rfl, ?_⟩, Nat.le_refl _, ?_, ?_, ?_, fun _ => by unfold stepS; rw [if_neg (by rw [sgs_snoc, full_snoc]; exact hf)]; simp only [sgs_snoc, moreS_snoc]⟩, i1, i2⟩
          · rw [sgs_snoc, recsOf_snoc, recsOf_snoc]
            simp [Sg.more]
          · rw [sgs_snoc]
            cases pa <;> rfl
          · rw [sgs_snoc, lastNum_snoc, lastNum_snoc]
            simp [Sg.more]
          · rw [dsk_app, used_app, dsk_app, used_app]
            simp only [dsk, used, lastF, Sg.more, List.map_cons, List.map_nil, segBytes_snoc, List.length_append, frameOf_len, List.sum_cons, List.sum_nil]
            omega
end Go.Proofs.YtcdeagmoldbicaaGreatDoor
set_option linter.unusedSimpArgs false
set_option linter.unusedVariables false
namespace Go.Proofs.YtcdeagmoldbicaaGreatDoor
open Go.RowKit
def costs (ls : List (List UInt8)) : Nat := (ls.map fun r => 25 + r.length).sum
theorem costs_snoc (ls : List (List UInt8)) (r : List UInt8) : costs (ls ++ [r]) = costs ls + (25 + r.length) := by simp [costs]
theorem costs_app (ls ms : List (List UInt8)) : costs (ls ++ ms) = costs ls + costs ms := by simp [costs]
/-- What Append makes. -/
structure Wrotes (lim cap : Nat) (ss : List Sg) (safe : Nat) (ns : Ns) (ls : List (List UInt8)) (j : Nat) (ss' : List Sg) (safe' : Nat) (ns' : Ns) (e : Int) : Prop where
  le : j ≤ ls.length
  recs : recsOf ss' = recsOf ss ++ ls.take j
  done : (e = 0 ∧ j = ls.length) ∨ (e = 32 ∧ j < ls.length ∧ cap < used (dsk ns) + costs (ls.take (j + 1)))
  safeLe : safe ≤ safe'
  first : firstS ss' = firstS ss
  last : lastNum ss' ≤ lastNum ss + j
  room : used (dsk ns') ≤ used (dsk ns) + costs (ls.take j)
  det : e = 0 → (ss', safe') = ls.foldl (stepS lim) (ss, safe)
theorem Parts.at {w : World} {A : Option Addr} {n c : Nat} {ls : List (List UInt8)} (h : Parts w (.slice A n c) ls) {k : Nat} (hk : k < ls.length) : ∃ b o u, A = some ⟨b, o, none⟩ ∧ w.cell? ⟨b, o + k, none⟩ = some u ∧ Bts w u ls[k] := by
  obtain ⟨A', c', hv, -, -, h3⟩ := h
  obtain ⟨rfl, -, -⟩ : A = A' ∧ n = ls.length ∧ c = c' := by simpa using hv
  obtain ⟨b, o, e, hc⟩ := h3 (by omega)
  obtain ⟨u, h1, h2⟩ := hc k ls[k] (by simp [hk])
  exact ⟨b, o, u, e, h1, h2⟩
/-- A slice of records that reads so in each world in which only H has changed. -/
def PartsK (H : Nat → Prop) (w : World) (v : Value) (ls : List (List UInt8)) : Prop :=
  ∃ A c, v = .slice A ls.length c ∧ ls.length ≤ c ∧ c ≤ maxLen ∧ (0 < ls.length → ∃ b o, A = some ⟨b, o, none⟩ ∧ ∀ k (hk : k < ls.length), ∃ u, ∀ W, Chg H w W → W.cell? ⟨b, o + k, none⟩ = some u ∧ Bts W u ls[k])
theorem PartsK.at {H : Nat → Prop} {w : World} {A : Option Addr} {n c : Nat} {ls : List (List UInt8)} (h : PartsK H w (.slice A n c) ls) {k : Nat} (hk : k < ls.length) : ∃ b o u, A = some ⟨b, o, none⟩ ∧ ∀ W, Chg H w W → W.cell? ⟨b, o + k, none⟩ = some u ∧ Bts W u ls[k] := by
  obtain ⟨A', c', hv, -, -, h3⟩ := h
  obtain ⟨rfl, -, -⟩ : A = A' ∧ n = ls.length ∧ c = c' := by simpa using hv
  obtain ⟨b, o, e, hc⟩ := h3 (by omega)
  obtain ⟨u, h1⟩ := hc k hk
  exact ⟨b, o, u, e, h1⟩
theorem PartsK.of_recs {H K : Nat → Prop} {w : World} {v : Value} {ls : List (List UInt8)} (h : RecsAt w v ls K) (hK : ∀ g, K g → ¬ H g) : PartsK H w v ls := by
  obtain ⟨A, c, rfl, h1, h2⟩ := h.form
  refine ⟨A, c, rfl, h1, h2, fun hp => ?_⟩
  obtain ⟨us, hrow, hrK, hrs⟩ := h
  rcases hrow.2 with ⟨e, h0⟩ | ⟨g, cap', cur, e, -⟩
  · omega
  · obtain ⟨rfl, rfl⟩ : A = some ⟨g, 0, none⟩ ∧ c = cap' := by simpa using e
    refine ⟨g, 0, rfl, fun k hk => ?_⟩
    obtain ⟨u, a1, a2, a3⟩ := hrs k hk
    refine ⟨u, fun W cW => ⟨?_, Bts.of_own (own_chg a2 cW (fun x hx => hK x (a3 x hx)))⟩⟩
    have hrW := own_chg hrow cW (fun x hx => hK x (hrK x hx))
    have := hrW.cells (g := g) rfl k u a1
    have e : ((⟨g, 0, none⟩ : Addr).add k) = ⟨g, 0 + k, none⟩ := by unfold Addr.add; split <;> simp_all
    rw [e] at this
    exact this
theorem short_iff (ls : List (List UInt8)) : ¬ short ls ↔ ∃ k, ∃ h : k < ls.length, 65536 < ls[k].length := by
  unfold short
  constructor
  · intro h
    apply Classical.byContradiction
    intro hc
    apply h
    intro r hr
    obtain ⟨k, hk, rfl⟩ := List.getElem_of_mem hr
    apply Classical.byContradiction
    intro hx
    exact hc ⟨k, hk, by omega⟩
  · rintro ⟨k, hk, hx⟩ h
    have := h _ (List.getElem_mem hk)
    omega
set_option maxRecDepth 100000 in
set_option maxHeartbeats 8000000 in
theorem append_st (H : Nat → Prop) (w0 w : World) (lb : Nat) (d v : Value) (cap lim safe : Nat) (ss : List Sg) (ns : Ns) (ls : List (List UInt8)) (h : LSt H w0 w lb d cap lim safe ss ns) (hT : Tb w0) (hv : PartsK H w v ls) (hn : lastNum ss + ls.length < 1000000) (hx : nextS ss + ls.length ≤ 1152921504606846976) (hrl : (recsOf ss).length + ls.length < 1000000000) :
    Calls Tryz.prog 13 #[.pointer (some ⟨lb, 0, none⟩), v] w fun e w' => (¬ short ls ∧ e = .returned (.int .i64 14) ∧ Kept w w') ∨
      (short ls ∧ ∃ (x : Int) (j : Nat) (ss' : List Sg) (safe' : Nat) (ns' : Ns), e = .returned (.int .i64 x) ∧ Wrotes lim cap ss safe ns ls j ss' safe' ns' x ∧ LSt (ext H w w') w0 w' lb d cap lim safe' ss' ns' ∧ Chg H w w') := by
  have HS := Lib.hid h
  have HT := Lib.hid hT
  have HV := Lib.hid hv
  have HNN := Lib.hid hn
  have HXX := Lib.hid hx
  have HRL := Lib.hid hrl
  have hlen : ls.length < 1000000 := by omega
  obtain ⟨A, c, hvv, hc1, hc2, -⟩ := hv
  subst hvv
  unfold maxLen at hc2
  have HWR := Lib.hid (show ∀ (H' : Nat → Prop) (W : World) (u : Value) (safe : Nat) (ss : List Sg) (ns : Ns) (r : List UInt8), _ → _ → _ → _ → _ → _ → _ from fun H' W u safe ss ns r a1 a2 a3 a4 a5 a6 => write_st H' w0 W lb d u cap lim safe ss ns r a1 hT a2 a3 a4 a5 a6)
  clear h hT hn hx hrl
  go_enter Tryz.func13, Tryz.ntmps13
  go_wp2
  go_loop [12] (fun i => ∃ k : Nat, k ≤ ls.length ∧ i = .int .i64 (k : Int) ∧ ∀ j (hj : j < ls.length), j < k → ls[j].length ≤ 65536) (fun i => ls.length - (intOf i).toNat)
  case atStart => exact ⟨0, Nat.zero_le _, rfl, fun j _ h => absurd h (by omega)⟩
  case round =>
    obtain ⟨k, hk, rfl, hall⟩ := hrel
    have HA := Lib.hid hall
    clear hall
    by_cases hlt : k < ls.length
    · obtain ⟨b, o, u, hA, hcu⟩ := HV.out.at hlt
      subst hA
      obtain ⟨hcell, hbu⟩ := hcu w (Chg.refl _ w)
      obtain ⟨Au, cu, hu, -, -, -⟩ := hbu
      subst hu
      have g1 : (k : Int) < (ls.length : Int) := by omega
      by_cases hlong : 65536 < ls[k].length
      · have t1 : decide ((65536 : Int) < (ls[k].length : Int)) = true := by simp; omega
        have HNS := Lib.hid ((short_iff ls).2 ⟨k, hlt, hlong⟩)
        clear hlong
        generalize ls[k].length = rl at *
        go_wp2
        go_ret
        exact .inl ⟨HNS.out, rfl, Kept.refl w⟩
      · have t1 : decide ((65536 : Int) < (ls[k].length : Int)) = false := by simp; omega
        have HLG := Lib.hid hlong
        clear hlong
        have HRE := Lib.hid (show ∀ j (hj : j < ls.length), j < k + 1 → ls[j].length ≤ 65536 from fun j hj hjk => by
          by_cases e : j = k
          · subst e; have := HLG.out; omega
          · exact HA.out j hj (by omega))
        generalize hrl : ls[k].length = rl at *
        clear hrl HLG
        go_wp2
        go_round
        case rel => exact ⟨k + 1, by omega, by go_num, HRE.out⟩
        case measure => simp [intOf]; omega
    · obtain rfl : k = ls.length := by omega
      have hsh : short ls := fun r hr => by
        obtain ⟨j, hj, rfl⟩ := List.getElem_of_mem hr
        exact HA.out j hj hj
      have HSH := Lib.hid hsh
      clear hsh HA
      go_wp2
      go_loopw [22] (fun i W => ∃ (k : Nat) (ss' : List Sg) (safe' : Nat) (ns' : Ns), i = .int .i64 (k : Int) ∧ k ≤ ls.length ∧ recsOf ss' = recsOf ss ++ ls.take k ∧ safe ≤ safe' ∧ firstS ss' = firstS ss ∧ lastNum ss' ≤ lastNum ss + k ∧ used (dsk ns') ≤ used (dsk ns) + costs (ls.take k) ∧ (ss', safe') = (ls.take k).foldl (stepS lim) (ss, safe) ∧ LSt (ext H w W) w0 W lb d cap lim safe' ss' ns' ∧ Chg H w W) (fun i _ => ls.length - (intOf i).toNat)
      case atStart =>
        refine ⟨0, ss, safe, ns, rfl, Nat.zero_le _, by simp, Nat.le_refl _, rfl, Nat.le_refl _, by simp [costs], rfl, HS.out.mono (fun g x => .inl x) (fun g x => ?_), Chg.refl _ _⟩
        rcases x with x | x
        · obtain ⟨sv, ps, F, G, -, -, -, -, h4, -⟩ := HS.out
          exact h4 g x
        · omega
      case round =>
        obtain ⟨k, ss', safe', ns', rfl, hk, hre, hsf, hfi, hla, hro, hdt, hst, hC⟩ := hrel
        by_cases hlt : k < ls.length
        · obtain ⟨b, o, u, hA, hcu⟩ := HV.out.at hlt
          subst hA
          obtain ⟨hcell, hbu⟩ := hcu wr hC
          have g1 : (k : Int) < (ls.length : Int) := by omega
          have hts : ls.take (k + 1) = ls.take k ++ [ls[k]] := List.take_succ_eq_append_getElem hlt
          have hnx : nextS ss' = nextS ss + k := by
            have h1 := hst.inv.1.linked.next
            have h2 := HS.out.inv.1.linked.next
            rw [h1, hre, hfi, h2, List.length_append, List.length_take]
            omega
          have hW := HWR.out (ext H w wr) wr u safe' ss' ns' ls[k] hst (fun W' c => (hcu W' (hC.chain c)).2) (HSH.out _ (List.getElem_mem hlt)) (by have := HNN.out; omega) (by have := HXX.out; omega) (by have := HRL.out; rw [hre, List.length_append, List.length_take]; omega)
          obtain ⟨Au, cu, hu, -, -, -⟩ := hbu
          subst hu
          have HW := Lib.hid hW
          have HRE := Lib.hid hre
          have HFI := Lib.hid hfi
          have HTS := Lib.hid hts
          have HST := Lib.hid hst
          have HDT := Lib.hid hdt
          clear hW hre hfi hts hst hcu hdt
          generalize hrl : ls[k].length = rl at *
          have HRLE := Lib.hid hrl
          clear hrl
          go_wp2_with fail
          refine HW.out.mono ?_
          rintro e w5 ⟨x, s5, f5, n5, rfl, hwr, hst5, hC5⟩
          have hsz := hC.size
          have hsz5 := hC5.size
          have HST5 := Lib.hid (hst5.mono (H' := ext H w w5) (fun g hg => ext_ext hsz hsz5 hg) (fun g hg => by
            obtain ⟨sv, ps, F, G, -, -, -, -, h4, h5⟩ := HS.out
            rcases hg with y | y
            · exact h4 g y
            · have := h5.size
              omega))
          have hC5' := hC.chain hC5
          have HWR2 := Lib.hid hwr
          clear hst5 hwr
          rcases HWR2.out.done with ⟨rfl, hd1⟩ | ⟨rfl, hd1, hd2, hd3⟩
          · have HD1 := Lib.hid hd1
            clear hd1
            go_wp2
            go_roundw
            case rel =>
              refine ⟨k + 1, s5, f5, n5, by go_num, by omega, ?_, ?_, ?_, ?_, ?_, ?_, HST5.out, hC5'⟩
              · rw [HD1.out, HRE.out, HTS.out, List.append_assoc]
              · have := HWR2.out.safeLe; omega
              · rw [HWR2.out.first, HFI.out]
              · have := HWR2.out.last; omega
              · have := HWR2.out.room
                rw [HTS.out, costs_snoc]
                omega
              · rw [HTS.out, List.foldl_append, ← HDT.out]
                exact HWR2.out.det rfl
            case measure => simp [intOf]; omega
          · have HD1 := Lib.hid hd1
            clear hd1
            go_wp2
            go_ret
            refine .inr ⟨HSH.out, 32, k, s5, f5, n5, rfl, ⟨by omega, by rw [HD1.out, HRE.out], .inr ⟨rfl, hlt, by rw [HTS.out, costs_snoc]; omega⟩, ?_, ?_, ?_, by omega, fun h => by cases h⟩, HST5.out, hC5'⟩
            · have := HWR2.out.safeLe; omega
            · rw [HWR2.out.first, HFI.out]
            · rw [HD1.out]; omega
        · obtain rfl : k = ls.length := by omega
          have HRE := Lib.hid hre
          have HFI := Lib.hid hfi
          have HST := Lib.hid hst
          have HLA := Lib.hid hla
          have HRO := Lib.hid hro
          have HDT := Lib.hid hdt
          rw [List.take_length] at HDT
          clear hre hfi hst hla hro hdt
          go_wp2
          go_ret
          exact .inr ⟨HSH.out, 0, ls.length, ss', safe', ns', rfl, ⟨Nat.le_refl _, HRE.out, .inl ⟨rfl, rfl⟩, hsf, HFI.out, HLA.out, HRO.out, fun _ => HDT.out⟩, HST.out, hC⟩
end Go.Proofs.YtcdeagmoldbicaaGreatDoor
