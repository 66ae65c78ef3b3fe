/- The walk of rewrite. The walk of trim. -/
import Derived.Test.YtcdeagmoldbicaaGreatDoorGWTak2
set_option linter.unusedSimpArgs false
set_option linter.unusedVariables false
namespace Go.Proofs.YtcdeagmoldbicaaGreatDoor
open Go.RowKit
/-- A disk's blocks may be named by fewer. -/
theorem Disk.in {w : World} {d : Value} {cap : Nat} {fs : Fls} {F : Nat → Prop} (h : Disk w d cap fs F) : Disk w d cap fs (fun g => F g ∧ g < w.heap.size) := h.tight
theorem Txts.fresh1 {F : Nat → Prop} (w : World) (l : Nm) (t : TypeId) (hF : ¬ F w.heap.size) : ∀ W, Chg F (w.alloc (.cells #[.string ⟨l.toArray⟩] t)) W → Txts W (.slice (some ⟨w.heap.size, 0, none⟩) 1 1) [l] := by
  intro W c
  refine ⟨_, 1, rfl, Nat.le_refl _, by decide, fun _ => ⟨_, 0, rfl, fun k x hx => ?_⟩⟩
  have hb := c.block' (heap_alloc_new w (.cells #[.string ⟨l.toArray⟩] t)) hF
  match k, hx with
  | 0, hx =>
    obtain rfl : l = x := by simpa using hx
    rw [cell_at hb]
    simp
theorem all_cut (fs : Fls) (f : Fl) : allS [cutN] (fs ++ [(cutN, f)]) = 0 := by
  unfold allS
  rw [if_neg (by decide), if_neg]
  simp [hasA]
theorem ren_cut (n : Nat) (fs : Fls) (f : Fl) : renE cutN (fileN n) (fs ++ [(cutN, f)]) = 0 := by
  unfold renE
  rw [if_neg (by rw [okN_file]; decide), all_cut]
set_option maxRecDepth 100000 in
set_option maxHeartbeats 8000000 in
theorem rewrite_any (a : Ns) (p : Nat × Fl) (x : List UInt8) (d v : Value) (cap : Nat) (F : Nat → Prop) (w : World) (hd : Disk w d cap (dsk (a ++ [p])) F) (hF : ∀ g, F g → g < w.heap.size) (hns : NsOk (a ++ [p])) (hv : Bts w v x) (hroom : used (dsk (a ++ [p])) + x.length ≤ cap) (hlen : a.length ≤ 1000000) :
    Calls Tryz.prog 97 #[.agg #[d, .string ⟨lg.toArray⟩], .string ⟨(fileN p.1).toArray⟩, v] w fun e w' => e = .returned (.int .i64 0) ∧ Disk w' d cap (dsk (a ++ [(p.1, (x, x.length))])) (ext F w w') ∧ Chg F w w' := by
  obtain ⟨db, rfl⟩ := hd.form
  have hk0 := (Kept.refl w).alloc (.cells #[.pointer (some ⟨db, 0, none⟩), .string ⟨lg.toArray⟩] 81)
  obtain ⟨r1, r2, r3⟩ := recut hns x
  have HD := Lib.hid hd
  have HV := Lib.hid hv
  have HFF := Lib.hid hF
  have HCU := Lib.hid (show ∀ W, _ from fun W => cutFile_any (.pointer (some ⟨db, 0, none⟩)) W)
  have HAP := Lib.hid (show ∀ W, Kept w W → _ from fun W hW => append_any cutN x v _ cap (dsk (a ++ [p])) F W (hd.kept hW) (hv.kept hW) (by rw [dsk_len]; simp; omega))
  rw [okA_zero okN_cut hroom, if_pos rfl, r1] at HAP
  have HSY := Lib.hid (show ∀ (v : Value) (F : Nat → Prop) W, _ → _ → _ from fun v F W h1 h2 => sync_any [cutN] v (.pointer (some ⟨db, 0, none⟩)) cap (dsk (a ++ [p]) ++ [(cutN, (x, 0))]) F W h1 h2)
  rw [all_cut, if_pos rfl, r2] at HSY
  have HRN := Lib.hid (show ∀ (F : Nat → Prop) W, _ → _ from fun F W h1 => rename_any cutN (fileN p.1) (.pointer (some ⟨db, 0, none⟩)) cap (dsk (a ++ [p]) ++ [(cutN, (x, x.length))]) F W h1)
  rw [ren_cut, if_pos rfl, r3] at HRN
  obtain ⟨A, c, hvv, hc1, hc2, -⟩ := hv
  subst hvv
  unfold maxLen at hc2
  generalize fileN p.1 = fn at *
  clear hd hF r1 r2 r3 hroom hns
  go_enter Tryz.func97, Tryz.ntmps97
  go_wp2
  have hb0 := heap_alloc_new w (.cells #[.pointer (some ⟨db, 0, none⟩), .string ⟨lg.toArray⟩] 81)
  have HB0 := Lib.hid hb0
  have hz : (w.alloc (.cells #[.pointer (some ⟨db, 0, none⟩), .string ⟨lg.toArray⟩] 81)).heap.size = w.heap.size + 1 := by simp
  have p0 := cell_at hb0 0
  have p1 := cell_at hb0 1
  simp only [List.getElem?_toArray, List.getElem?_cons_zero, List.getElem?_cons_succ] at p0 p1
  clear hb0
  generalize w.alloc (.cells #[.pointer (some ⟨db, 0, none⟩), .string ⟨lg.toArray⟩] 81) = w1 at *
  have hKr := (Kept.refl w1).drew
  go_region_held3 (fun W => W.cell? ⟨w.heap.size, 0, none⟩ = some (.pointer (some ⟨db, 0, none⟩)) ∧ W.cell? ⟨w.heap.size, 1, none⟩ = some (.string ⟨lg.toArray⟩))
    (first | exact ⟨p0, p1⟩ | exact ⟨hq1.cell p0, hq1.cell p1⟩ | exact ⟨u0, u1⟩)
    (first
      | (go_at_call 96; refine (HCU.out _).mono ?_; rintro e wc ⟨rfl, hqc⟩; have hq1 : Kept w1 wc := hKr.trans hqc)
      | (go_at_call 22; refine (HAP.out _ (hk0.trans hq1)).mono ?_; rintro e w3 ⟨rfl, hd3, hC3⟩; have hb3 := hC3.block' (hq1.block' HB0.out) (fun x => Nat.lt_irrefl _ (HFF.out _ x)); have u0 := cell_at hb3 0; have u1 := cell_at hb3 1; simp only [List.getElem?_toArray, List.getElem?_cons_zero, List.getElem?_cons_succ] at u0 u1; have HD3 := Lib.hid hd3; have HB3 := Lib.hid hb3; clear hd3 hb3))
  have hCw3 : Chg F w w3 := (Chg.of_kept (hk0.trans hq1)).trans hC3 (fun g _ x => x)
  have hF3 : ∀ g, ext F wc w3 g → g ≠ w.heap.size ∧ g < w3.heap.size := fun g hg => by
    have h1 := hq1.size
    have h2 := hC3.size
    rcases hg with x | x
    · have := HFF.out g x; omega
    · omega
  have HF3 := Lib.hid hF3
  clear hF3
  go_wp2
  have hKr3 := (Kept.refl w3).drew
  go_region_held3 (fun W => W.cell? ⟨w.heap.size, 0, none⟩ = some (.pointer (some ⟨db, 0, none⟩)) ∧ W.cell? ⟨w.heap.size, 1, none⟩ = some (.string ⟨lg.toArray⟩))
    (first | exact ⟨u0, u1⟩ | exact ⟨hq3.cell u0, hq3.cell u1⟩ | exact ⟨(hq3.alloc _).cell u0, (hq3.alloc _).cell u1⟩ | exact ⟨y0, y1⟩)
    (first
      | (go_at_call 96; refine (HCU.out _).mono ?_; rintro e w4 ⟨rfl, hqc3⟩; have hq3 : Kept w3 w4 := hKr3.trans hqc3)
      | (go_at_call 47; refine (HSY.out _ (ext F wc w3) _ (HD3.out.kept (hq3.alloc _)) (Txts.fresh1 w4 cutN _ (fun x => by have := (HF3.out _ x).2; have := hq3.size; omega))).mono ?_; rintro e w5 ⟨rfl, hd5, hC5⟩; have hb5 := hC5.block' ((hq3.alloc _).block' HB3.out) (fun x => (HF3.out _ x).1 rfl); have y0 := cell_at hb5 0; have y1 := cell_at hb5 1; simp only [List.getElem?_toArray, List.getElem?_cons_zero, List.getElem?_cons_succ] at y0 y1; have HD5 := Lib.hid hd5; have HB5 := Lib.hid hb5; clear hd5 hb5))
  have hCw5 : Chg F w w5 := hCw3.trans ((Chg.of_kept (hq3.alloc _)).trans hC5 (fun g _ x => x)) (fun g hg x => by
    rcases x with x | x
    · exact x
    · have := hq1.size; have := hk0.size; omega)
  have hsa : (w4.alloc (.cells #[.string ⟨cutN.toArray⟩] 9)).heap.size = w4.heap.size + 1 := by simp
  go_wp2
  have hKr5 := (Kept.refl w5).drew
  go_region_held3 (fun W => W.cell? ⟨w.heap.size, 0, none⟩ = some (.pointer (some ⟨db, 0, none⟩)) ∧ W.cell? ⟨w.heap.size, 1, none⟩ = some (.string ⟨lg.toArray⟩))
    (first | exact ⟨y0, y1⟩ | exact ⟨hq5.cell y0, hq5.cell y1⟩ | exact ⟨z0, z1⟩)
    (first
      | (go_at_call 96; refine (HCU.out _).mono ?_; rintro e w6 ⟨rfl, hqc5⟩; have hq5 : Kept w5 w6 := hKr5.trans hqc5)
      | (go_at_call 116; refine (HRN.out _ _ (HD5.out.kept hq5)).mono ?_; rintro e w7 ⟨rfl, hd7, hC7⟩; have hb7 := hC7.block' (hq5.block' HB5.out) (fun x => by rcases x with x | x; exact (HF3.out _ x).1 rfl; have := hq1.size; have := hC3.size; have := hq3.size; omega); have z0 := cell_at hb7 0; have z1 := cell_at hb7 1; simp only [List.getElem?_toArray, List.getElem?_cons_zero, List.getElem?_cons_succ] at z0 z1; have HD7 := Lib.hid hd7; clear hd7 hb7))
  go_wp2
  go_ret
  have s1 := hk0.size
  have s2 := hq1.size
  have s3 := hC3.size
  have s4 := hq3.size
  have s5 := hC5.size
  have s6 := hq5.size
  have s7 := hC7.size
  refine ⟨rfl, HD7.out.mono (fun g hg => ?_), hCw5.trans ((Chg.of_kept hq5).trans hC7 (fun g _ x => x)) (fun g hg x => ?_)⟩
  · rcases hg with ((x | x) | x) | x
    · exact .inl x
    · exact .inr ⟨by omega, by omega⟩
    · exact .inr ⟨by omega, by omega⟩
    · exact .inr ⟨by omega, by omega⟩
  · rcases x with (x | x) | x
    · exact x
    · omega
    · omega
end Go.Proofs.YtcdeagmoldbicaaGreatDoor
set_option linter.unusedSimpArgs false
set_option linter.unusedVariables false
namespace Go.Proofs.YtcdeagmoldbicaaGreatDoor
open Go.RowKit
theorem Chg.cell {F : Nat → Prop} {w w' : World} (c : Chg F w w') {b o : Nat} {v : Value} (hc : w.cell? ⟨b, o, none⟩ = some v) (hF : ¬ F b) : w'.cell? ⟨b, o, none⟩ = some v := by
  have hb := World.block_lt_of_cell? _ _ hc
  rw [World.cell?_of_block (a := ⟨b, o, none⟩) (c.block b hb hF)]
  exact hc
/-- The last file, cut behind its frames. -/
def trimmed (p : Nat × Fl) (n : Nat) : Nat × Fl := if n = p.2.1.length then p else (p.1, (p.2.1.take n, n))
set_option maxRecDepth 100000 in
set_option maxHeartbeats 8000000 in
theorem trim_none (lb : Nat) (sv d : Value) (lim safe : Nat) (G : Nat → Prop) (w : World) (h : Lgm w lb sv [] d lim safe G) :
    Calls Tryz.prog 75 #[.pointer (some ⟨lb, 0, none⟩)] w fun e w' => e = .returned (.int .i64 0) ∧ Kept w w' := by
  obtain ⟨A, c, rfl, hc1, hc2⟩ := h.segs.form
  have c4 := h.c4
  clear h
  go_enter Tryz.func75, Tryz.ntmps75
  go_wp2
  go_ret
  exact ⟨rfl, Kept.refl w⟩
set_option maxRecDepth 100000 in
set_option maxHeartbeats 8000000 in
theorem trimL_any (a : Ns) (p : Nat × Fl) (ps : Ps) (q : Sg × Value) (lb : Nat) (sv d : Value) (lim safe cap : Nat) (F G : Nat → Prop) (w : World) (h : Lgm w lb sv (ps ++ [q]) d lim safe G) (hd : Disk w d cap (dsk (a ++ [p])) F) (hF : ∀ g, F g → g < w.heap.size) (hFG : ∀ g, G g → ¬ F g)
    (hns : NsOk (a ++ [p])) (hT : Tb w) (hlen : a.length ≤ 1000000) (hq : q.1.num = p.1) (hqs : q.1.siz ≤ p.2.1.length) (hroom : q.1.siz = p.2.1.length ∨ used (dsk (a ++ [p])) + q.1.siz ≤ cap) :
    Calls Tryz.prog 75 #[.pointer (some ⟨lb, 0, none⟩)] w fun e w' => e = .returned (.int .i64 0) ∧ Disk w' d cap (dsk (a ++ [trimmed p q.1.siz])) (ext F w w') ∧ Chg F w w' := by
  have H := Lib.hid h
  have HD := Lib.hid hd
  have HFF := Lib.hid hF
  have HLB := Lib.hid (hFG lb h.inG)
  have HNS := Lib.hid hns
  obtain ⟨db, rfl⟩ := hd.form
  have HLA := Lib.hid (last_any lb sv _ _ lim safe G w h)
  rw [lastV_snoc] at HLA
  obtain ⟨rA, rc, hrv, hrc1, hrc2⟩ := (h.segs.recs q (by simp)).form
  unfold segV at HLA
  rw [hrv] at HLA
  have hl : (ps ++ [q]).length = ps.length + 1 := by simp
  obtain ⟨A, c, rfl, hc1, hc2⟩ := h.segs.form
  have c0 := h.c0
  have c1 := h.c1
  have c4 := h.c4
  rw [hl] at c4 hc1
  unfold maxLen at hc2
  have hpn := hns.2 p (by simp)
  have HFI := Lib.hid (show ∀ W, Kept w W → _ from fun W hW => file_any (.pointer (some ⟨db, 0, none⟩)) p.1 W (hT.kept hW) hpn.2)
  have hall : allS [fileN p.1] (dsk (a ++ [p])) = 0 := all_names hns (fun x hx => ⟨p, by simp, by simpa using hx⟩)
  have hget := get_dsk hns (p := p) (by simp)
  have HRD := Lib.hid (show ∀ W, Kept w W → _ from fun W hW => read_any (fileN p.1) cap (dsk (a ++ [p])) F _ W (hd.kept hW))
  rw [hall, if_pos rfl, hget, Option.getD_some] at HRD
  have hfl : p.2.1.length ≤ 1073741824 := by
    have h1 := used_get hd.good.1.1 (fileN p.1)
    rw [hget] at h1
    simp only [Option.getD_some] at h1
    have := hd.good.2.1
    have := hd.good.2.2.1
    omega
  have t0 : (((ps.length + 1 : Nat) : Int) == 0) = false := by simp; omega
  have t1 : (((ps.length : Int) + 1) == 0) = false := by simp; omega
  rw [hq] at HLA
  have hrl : q.1.recs.length = q.1.recs.length := rfl
  generalize hrn : q.1.recs.length = rn at *
  obtain ⟨n, fb, fsf⟩ := p
  simp only at *
  have HW : Lib.hid hfl = Lib.hid hfl := rfl
  clear h hd hF hns hT hl hrv hall hget hrn hrl HW hpn
  have hlb := H.out.lt
  by_cases hs : q.1.siz = fb.length
  · have htr : trimmed (n, fb, fsf) q.1.siz = (n, fb, fsf) := by unfold trimmed; rw [if_pos hs]
    rw [htr]
    rw [hs] at HLA
    clear hs htr hroom hqs
    go_enter Tryz.func75, Tryz.ntmps75
    go_wp2_with fail
    refine HLA.out.mono ?_
    rintro e w1 ⟨rfl, k1⟩
    have d0 := k1.cell c0
    have d1 := k1.cell c1
    go_wp2
    have hka := k1.alloc (.cells #[.int .i64 (n : Int), .int .i64 (q.1.fst : Int), .int .i64 (fb.length : Int), .slice rA rn rc] 104)
    have hb2 := heap_alloc_new w1 (.cells #[.int .i64 (n : Int), .int .i64 (q.1.fst : Int), .int .i64 (fb.length : Int), .slice rA rn rc] 104)
    generalize w1.alloc (.cells #[.int .i64 (n : Int), .int .i64 (q.1.fst : Int), .int .i64 (fb.length : Int), .slice rA rn rc] 104) = w2 at *
    have e0 := hka.cell c0
    have e1 := hka.cell c1
    have s0 := cell_at hb2 0
    have s2 := cell_at hb2 2
    simp only [List.getElem?_toArray, List.getElem?_cons_zero, List.getElem?_cons_succ] at s0 s2
    have hKr := (Kept.refl w2).drew
    clear d0 d1 hb2
    go_region_held3 (fun W => W.cell? ⟨lb, 0, none⟩ = some (.pointer (some ⟨db, 0, none⟩)) ∧ W.cell? ⟨lb, 1, none⟩ = some (.string ⟨lg.toArray⟩) ∧ W.cell? ⟨w1.heap.size, 0, none⟩ = some (.int .i64 (n : Int)))
      (first | exact ⟨e0, e1, s0⟩ | exact ⟨hq1.cell e0, hq1.cell e1, hq1.cell s0⟩)
      (first
        | (go_at_call 48; refine (HFI.out _ (hka.trans hKr)).mono ?_; rintro e w3 ⟨rfl, hqc⟩; have hq1 : Kept w2 w3 := hKr.trans hqc))
    have f0 := hq1.cell e0
    have f2 := hq1.cell s2
    go_wp2_with fail
    refine (HRD.out _ (hka.trans hq1)).mono ?_
    rintro e w4 ⟨v4, rfl, ho4, k4⟩
    obtain ⟨A4, c4', rfl⟩ := own_form ho4
    have g2 := k4.cell f2
    have hk4 := (hka.trans hq1).trans k4
    clear ho4
    go_wp2
    go_ret
    exact ⟨rfl, (HD.out.kept hk4).mono (fun g hg => .inl hg), Chg.of_kept hk4⟩
  · have htr : trimmed (n, fb, fsf) q.1.siz = (n, (fb.take q.1.siz, q.1.siz)) := by unfold trimmed; rw [if_neg hs]
    rw [htr]
    have hrm : used (dsk (a ++ [(n, fb, fsf)])) + q.1.siz ≤ cap := by
      rcases hroom with x | x
      · exact absurd x hs
      · exact x
    have hlt : q.1.siz < fb.length := by omega
    have t5 : ((fb.length : Int) == (q.1.siz : Int)) = false := by simp; omega
    have htl : (fb.take q.1.siz).length = q.1.siz := by simp; omega
    have HRW := Lib.hid (show ∀ (v : Value) W, Kept w W → Bts W v (fb.take q.1.siz) → _ from fun v W hW hb => rewrite_any a (n, fb, fsf) (fb.take q.1.siz) (.pointer (some ⟨db, 0, none⟩)) v cap F W (HD.out.kept hW) (fun g hg => Nat.lt_of_lt_of_le (HFF.out g hg) hW.size) HNS.out hb (by rw [htl]; exact hrm) hlen)
    simp only [htl] at HRW
    clear hs htr hroom hqs hrm
    generalize q.1.siz = sz at *
    go_enter Tryz.func75, Tryz.ntmps75
    go_wp2_with fail
    refine HLA.out.mono ?_
    rintro e w1 ⟨rfl, k1⟩
    have d0 := k1.cell c0
    have d1 := k1.cell c1
    go_wp2
    have hka := k1.alloc (.cells #[.int .i64 (n : Int), .int .i64 (q.1.fst : Int), .int .i64 (sz : Int), .slice rA rn rc] 104)
    have hb2 := heap_alloc_new w1 (.cells #[.int .i64 (n : Int), .int .i64 (q.1.fst : Int), .int .i64 (sz : Int), .slice rA rn rc] 104)
    generalize w1.alloc (.cells #[.int .i64 (n : Int), .int .i64 (q.1.fst : Int), .int .i64 (sz : Int), .slice rA rn rc] 104) = w2 at *
    have e0 := hka.cell c0
    have e1 := hka.cell c1
    have s0 := cell_at hb2 0
    have s2 := cell_at hb2 2
    simp only [List.getElem?_toArray, List.getElem?_cons_zero, List.getElem?_cons_succ] at s0 s2
    have hKr := (Kept.refl w2).drew
    clear d0 d1 hb2
    go_region_held3 (fun W => W.cell? ⟨lb, 0, none⟩ = some (.pointer (some ⟨db, 0, none⟩)) ∧ W.cell? ⟨lb, 1, none⟩ = some (.string ⟨lg.toArray⟩) ∧ W.cell? ⟨w1.heap.size, 0, none⟩ = some (.int .i64 (n : Int)))
      (first | exact ⟨e0, e1, s0⟩ | exact ⟨hq1.cell e0, hq1.cell e1, hq1.cell s0⟩)
      (first
        | (go_at_call 48; refine (HFI.out _ (hka.trans hKr)).mono ?_; rintro e w3 ⟨rfl, hqc⟩; have hq1 : Kept w2 w3 := hKr.trans hqc))
    have f0 := hq1.cell e0
    have f1 := hq1.cell e1
    have f2 := hq1.cell s2
    go_wp2_with fail
    refine (HRD.out _ (hka.trans hq1)).mono ?_
    rintro e w4 ⟨v4, rfl, ho4, k4⟩
    have hbt := Bts.of_own ho4
    obtain ⟨A4, c4', rfl⟩ := own_form ho4
    have hcap4 : fb.length ≤ c4' := by
      obtain ⟨A', c', e, h1, -⟩ := hbt
      obtain ⟨-, rfl⟩ : A4 = A' ∧ c4' = c' := by simpa using e
      exact h1
    have HBT := Lib.hid hbt
    have g0 := k4.cell f0
    have g1 := k4.cell f1
    have g2 := k4.cell f2
    have hk4 := (hka.trans hq1).trans k4
    clear ho4 hbt
    go_wp2
    have hKr4 := (Kept.refl w4).drew
    have hsz1 : (0 : Int) ≤ (sz : Int) := by omega
    have hsz2 : (sz : Int) ≤ (c4' : Int) := by omega
    go_region_held3 (fun W => W.cell? ⟨lb, 0, none⟩ = some (.pointer (some ⟨db, 0, none⟩)) ∧ W.cell? ⟨lb, 1, none⟩ = some (.string ⟨lg.toArray⟩) ∧ W.cell? ⟨w1.heap.size, 2, none⟩ = some (.int .i64 (sz : Int)))
      (first | exact ⟨g0, g1, g2⟩ | exact ⟨y0, y1, y2⟩)
      (first
        | (go_at_call 97; refine (HRW.out _ _ (hk4.trans hKr4) ((HBT.out.kept hKr4).take sz (by omega))).mono ?_; rintro e w5 ⟨rfl, hd5, hC5⟩; have y0 := hC5.cell (hKr4.cell g0) HLB.out; have y1 := hC5.cell (hKr4.cell g1) HLB.out; have y2 := hC5.cell (hKr4.cell g2) (fun x => by have := HFF.out _ x; have := k1.size; omega); have HD5 := Lib.hid hd5; clear hd5))
    go_wp2
    go_ret
    have hs4 := hk4.size
    have hww : w4.drew.heap.size = w4.heap.size := rfl
    refine ⟨rfl, HD5.out.mono (fun g hg => ?_), (Chg.of_kept (hk4.trans hKr4)).trans hC5 (fun g _ x => x)⟩
    rcases hg with x | x
    · exact .inl x
    · exact .inr ⟨by omega, x.2⟩
end Go.Proofs.YtcdeagmoldbicaaGreatDoor
