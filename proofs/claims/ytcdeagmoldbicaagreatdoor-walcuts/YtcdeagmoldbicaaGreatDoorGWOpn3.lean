/- The walk of Open. The walk of a log's Sync. A log and its files, in plain lists; the walk of Sync, whatever the log holds. -/
import Derived.Test.YtcdeagmoldbicaaGreatDoorGWTkp2
set_option linter.unusedSimpArgs false
set_option linter.unusedVariables false
namespace Go.Proofs.YtcdeagmoldbicaaGreatDoor
open Go.RowKit
set_option maxRecDepth 100000 in
set_option maxHeartbeats 4000000 in
theorem open_bad (ns : Ns) (d : Value) (lim : Int) (cap : Nat) (F : Nat → Prop) (w : World) (hd : Disk w d cap (dsk ns) F) (hl : lim < 16 ∨ 1048576 < lim) :
    Calls Tryz.prog 10 #[d, .string ⟨lg.toArray⟩, .int .i64 lim] w fun e w' => e = .returned (.tuple #[.pointer none, .int .i64 40]) ∧ Kept w w' := by
  have HI := Lib.hid (isNameL_any ns d cap F w hd)
  obtain ⟨db, rfl⟩ := hd.form
  clear hd
  rcases hl with hl | hl
  · have t1 : decide (lim < 16) = true := by simpa using hl
    go_enter Tryz.func10, Tryz.ntmps10
    go_wp2_with fail
    refine HI.out.mono ?_
    rintro e w1 ⟨rfl, k1⟩
    go_wp2
    go_ret2
    exact ⟨rfl, k1⟩
  · have t1 : decide (lim < 16) = false := by simp; omega
    have t2 : decide ((1048576 : Int) < lim) = true := by simpa using hl
    go_enter Tryz.func10, Tryz.ntmps10
    go_wp2_with fail
    refine HI.out.mono ?_
    rintro e w1 ⟨rfl, k1⟩
    go_wp2
    go_ret2
    exact ⟨rfl, k1⟩
set_option maxRecDepth 100000 in
set_option maxHeartbeats 4000000 in
theorem open_any (ns : Ns) (d : Value) (lim cap : Nat) (F : Nat → Prop) (w0 w : World) (hd : Disk w d cap (dsk ns) F) (hT : Tb w0) (hK0 : Kept w0 w) (hF : ∀ g, F g → w0.heap.size ≤ g ∧ g < w.heap.size) (hl1 : 16 ≤ lim) (hl2 : lim ≤ 1048576)
    (hns : NsOk ns) (hlen : ns.length ≤ 1000000) (hroom : 2 * used (dsk ns) ≤ cap ∨ ∀ p ∈ ns, ∀ s, parseS p.1 p.2.1 = some s → s.siz = p.2.1.length) :
    Calls Tryz.prog 10 #[d, .string ⟨lg.toArray⟩, .int .i64 (lim : Int)] w fun e w' => ∃ lb sv ps F' G', e = .returned (.tuple #[.pointer (some ⟨lb, 0, none⟩), .int .i64 0]) ∧ Pair w' lb sv ps d cap (dsk ((takeF ns []).map fo)) lim (nextS (takeF ns [])) F' G' ∧ sgs ps = takeF ns [] ∧ bounded ps ∧
      (∀ g, F' g → F g ∨ w.heap.size ≤ g) ∧ (∀ g, G' g → w.heap.size ≤ g) ∧ Chg F w w' := by
  have HI := Lib.hid (isNameL_any ns d cap F w hd)
  have HD := Lib.hid hd
  have HF := Lib.hid hF
  have HNS := Lib.hid hns
  have HRM := Lib.hid hroom
  have HT := Lib.hid hT
  obtain ⟨db, rfl⟩ := hd.form
  have HC := Lib.hid (show ∀ W, _ from fun W => sclone_any lg W (by decide))
  have t1 : decide ((lim : Int) < 16) = false := by simp; omega
  have t2 : decide ((1048576 : Int) < (lim : Int)) = false := by simp; omega
  clear hd hF hns hroom hT
  go_enter Tryz.func10, Tryz.ntmps10
  go_wp2_with fail
  refine HI.out.mono ?_
  rintro e w1 ⟨rfl, k1⟩
  go_wp2_with fail
  refine (HC.out _).mono ?_
  rintro e w2 ⟨rfl, k2⟩
  have hk := k1.trans k2
  have hs := hk.size
  go_wp2_with fail
  have hb3 := heap_alloc_new w2 (.cells #[.pointer (some ⟨db, 0, none⟩), .string ⟨lg.toArray⟩, .int .i64 (lim : Int), .int .i64 0, .slice none 0 0] 84)
  have hz3 : (w2.alloc (.cells #[.pointer (some ⟨db, 0, none⟩), .string ⟨lg.toArray⟩, .int .i64 (lim : Int), .int .i64 0, .slice none 0 0] 84)).heap.size = w2.heap.size + 1 := by simp
  have hk3 := hk.alloc (.cells #[.pointer (some ⟨db, 0, none⟩), .string ⟨lg.toArray⟩, .int .i64 (lim : Int), .int .i64 0, .slice none 0 0] 84)
  have hL : Lgm (w2.alloc (.cells #[.pointer (some ⟨db, 0, none⟩), .string ⟨lg.toArray⟩, .int .i64 (lim : Int), .int .i64 0, .slice none 0 0] 84)) w2.heap.size (.slice none 0 0) [] (.pointer (some ⟨db, 0, none⟩)) lim 0 (fun g => g = w2.heap.size) := ⟨hb3, Segs.nil _ _, rfl⟩
  have hw0 := hK0.size
  refine (restore_any ns w2.heap.size _ lim cap F w0 _ hL (HD.out.kept hk3) HT.out (hK0.trans hk3) (fun g hg => ⟨(HF.out g hg).1, by have := (HF.out g hg).2; omega⟩) (by omega) (fun x => by have := (HF.out _ x).2; omega) HNS.out hlen HRM.out).mono ?_
  rintro e w4 ⟨rfl, sv, ps, F', G', hP, hsg, hbd, hF', hG', hC⟩
  have HP := Lib.hid hP
  have HSG := Lib.hid hsg
  have HBD := Lib.hid hbd
  clear hP hsg hbd hL hb3
  go_wp2
  go_ret2
  refine ⟨w2.heap.size, sv, ps, F', G', rfl, HP.out, HSG.out, HBD.out, fun g hg => ?_, fun g hg => ?_, (Chg.of_kept hk3).trans hC (fun g hg x => ?_)⟩
  · rcases hF' g hg with x | x
    · exact .inl x
    · exact .inr (by omega)
  · rcases hG' g hg with x | x
    · omega
    · omega
  · rcases x with x | x
    · exact x
    · omega
end Go.Proofs.YtcdeagmoldbicaaGreatDoor
set_option linter.unusedSimpArgs false
set_option linter.unusedVariables false
namespace Go.Proofs.YtcdeagmoldbicaaGreatDoor
open Go.RowKit
/-- What a call of the log leaves: the blocks that it had, and new ones. -/
structure Out (w w' : World) (F G F' G' : Nat → Prop) : Prop where
  hF : ∀ g, F' g → F g ∨ w.heap.size ≤ g
  hG : ∀ g, G' g → G g ∨ w.heap.size ≤ g
  chg : Chg (fun g => F g ∨ G g) w w'
theorem Out.refl {w w' : World} {F G : Nat → Prop} (k : Kept w w') : Out w w' F G F G := ⟨fun g x => .inl x, fun g x => .inl x, Chg.of_kept k⟩
theorem Out.trans {w w' w'' : World} {F G F' G' F'' G'' : Nat → Prop} (h : Out w w' F G F' G') (k : Out w' w'' F' G' F'' G'') : Out w w'' F G F'' G'' := by
  have hs := h.chg.size
  refine ⟨fun g x => ?_, fun g x => ?_, h.chg.trans k.chg (fun g hg x => ?_)⟩
  · rcases k.hF g x with y | y
    · exact h.hF g y
    · exact .inr (by omega)
  · rcases k.hG g x with y | y
    · exact h.hG g y
    · exact .inr (by omega)
  · rcases x with y | y
    · rcases h.hF g y with z | z
      · exact .inl z
      · omega
    · rcases h.hG g y with z | z
      · exact .inr z
      · omega
theorem Out.base {w0 w w' : World} {F G F' G' : Nat → Prop} (h : Out w w' F G F' G') (k : Kept w0 w) (hB : ∀ g, F g ∨ G g → w0.heap.size ≤ g) : (∀ g, F' g ∨ G' g → w0.heap.size ≤ g) ∧ Kept w0 w' := by
  have hs := k.size
  refine ⟨fun g x => ?_, h.chg.kept k hB⟩
  rcases x with y | y
  · rcases h.hF g y with z | z
    · exact hB g (.inl z)
    · omega
  · rcases h.hG g y with z | z
    · exact hB g (.inr z)
    · omega
theorem sync_last {a : Ns} {p : Nat × Fl} (hns : NsOk (a ++ [p])) : allS [fileN p.1] (dsk (a ++ [p])) = 0 ∧ syncS [fileN p.1] (dsk (a ++ [p])) = dsk (a ++ [synced p]) :=
  ⟨all_names hns (fun x hx => ⟨p, by simp, by simpa using hx⟩), sync_dsk [p] a hns⟩
set_option maxRecDepth 100000 in
set_option maxHeartbeats 4000000 in
theorem syncL_none (lb : Nat) (sv d : Value) (lim safe : Nat) (G : Nat → Prop) (w : World) (h : Lgm w lb sv [] d lim safe G) :
    Calls Tryz.prog 15 #[.pointer (some ⟨lb, 0, none⟩)] w fun e w' => e = .returned (.int .i64 0) ∧ Kept w w' := by
  obtain ⟨A, c, rfl, hc1, hc2⟩ := h.segs.form
  have c4 := h.c4
  clear h
  go_enter Tryz.func15, Tryz.ntmps15
  go_wp2
  go_ret
  exact ⟨rfl, Kept.refl w⟩
set_option maxRecDepth 100000 in
set_option maxHeartbeats 4000000 in
theorem syncL_any (a : Ns) (p : Nat × Fl) (pa : Ps) (q : Sg × Value) (lb : Nat) (sv d : Value) (lim safe cap : Nat) (F G : Nat → Prop) (w : World) (hP : Pair w lb sv (pa ++ [q]) d cap (dsk (a ++ [p])) lim safe F G) (hns : NsOk (a ++ [p])) (hT : Tb w) (hq : q.1.num = p.1) (hbd : bounded (pa ++ [q])) :
    Calls Tryz.prog 15 #[.pointer (some ⟨lb, 0, none⟩)] w fun e w' => e = .returned (.int .i64 0) ∧ ∃ F', Pair w' lb sv (pa ++ [q]) d cap (dsk (a ++ [synced p])) lim (nextS (sgs (pa ++ [q]))) F' G ∧ Out w w' F G F' G := by
  have HP := Lib.hid hP
  obtain ⟨db, rfl⟩ := hP.disk.form
  have hK0 := (Kept.refl w).drew
  have HLA := Lib.hid (last_any lb sv _ _ lim safe G _ (hP.log.kept hK0))
  rw [lastV_snoc] at HLA
  obtain ⟨rA, rc, hrv, hrc1, hrc2⟩ := (hP.log.segs.recs q (by simp)).form
  unfold segV at HLA
  rw [hrv, hq] at HLA
  have hpn := hns.2 p (by simp)
  have HFI := Lib.hid (show ∀ W, Kept w W → _ from fun W hW => file_any (.pointer (some ⟨db, 0, none⟩)) p.1 W (hT.kept hW) hpn.2)
  obtain ⟨hs1, hs2⟩ := sync_last hns
  have HSY := Lib.hid (show ∀ (v : Value) W, Kept w W → _ → _ from fun v W hW hv => sync_any [fileN p.1] v (.pointer (some ⟨db, 0, none⟩)) cap (dsk (a ++ [p])) F W (hP.disk.kept hW) hv)
  rw [hs1, if_pos rfl, hs2] at HSY
  have c0 := hP.log.c0
  have c1 := hP.log.c1
  have c4 := hP.log.c4
  have hlb := hP.log.lt
  have hlbF := hP.apart lb hP.log.inG
  have hl : (pa ++ [q]).length = pa.length + 1 := by simp
  obtain ⟨A, c, hsv, hc1, hc2⟩ := hP.log.segs.form
  rw [hl] at hsv hc1
  subst hsv
  have hnx : nextS (sgs (pa ++ [q])) < 9000000000000000000 := by
    rw [sgs_snoc, nextS_snoc]
    have := hbd q (by simp)
    unfold Sg.next
    omega
  have t0 : (((pa.length + 1 : Nat) : Int) == 0) = false := by simp; omega
  have t1 : (((pa.length : Int) + 1) == 0) = false := by simp; omega
  have HIF := Lib.hid hP.inF
  have hf0 := sf0
  generalize fileN p.1 = fn at *
  generalize q.1.recs.length = rn at *
  clear hP hns hT hq hrv hpn hs1 hs2 hl hbd
  go_enter Tryz.func15, Tryz.ntmps15
  go_wp2
  go_region_held3 (fun W => W.cell? ⟨lb, 0, none⟩ = some (.pointer (some ⟨db, 0, none⟩)) ∧ W.cell? ⟨lb, 1, none⟩ = some (.string ⟨lg.toArray⟩))
    (first | exact ⟨c0, c1⟩ | exact ⟨hq1.cell c0, hq1.cell c1⟩ | exact ⟨hq2.cell c0, hq2.cell c1⟩ | exact ⟨(hq2.alloc _).cell c0, (hq2.alloc _).cell c1⟩ | exact ⟨y0, y1⟩)
    (first
      | (go_at_call 49; refine HLA.out.mono ?_; rintro e w1 ⟨rfl, hqa⟩; have hq1 : Kept w w1 := hK0.trans hqa)
      | (go_at_call 48; refine (HFI.out _ hq1).mono ?_; rintro e w2 ⟨rfl, hqb⟩; have hq2 : Kept w w2 := hq1.trans hqb)
      | (go_at_call 47; refine (HSY.out _ _ (hq2.alloc _) (Txts.fresh1 w2 fn _ (fun x => by have := HIF.out _ x; have := hq2.size; omega))).mono ?_; rintro e w3 ⟨rfl, hd3, hC3⟩; have y0 := hC3.cell ((hq2.alloc _).cell c0) hlbF; have y1 := hC3.cell ((hq2.alloc _).cell c1) hlbF; have HD3 := Lib.hid hd3; clear hd3))
  have hCw3 : Chg F w w3 := (Chg.of_kept (hq2.alloc _)).trans hC3 (fun g _ x => x)
  have HL3 := Lib.hid (HP.out.log.chg hCw3 HP.out.apart)
  have HNX := Lib.hid (nextL_any lb _ _ _ lim safe _ w3 HL3.out (by omega))
  have hs2 := hq2.size
  have hs3 := hC3.size
  have hsa : (w2.alloc (.cells #[.string ⟨fn.toArray⟩] 9)).heap.size = w2.heap.size + 1 := by simp
  generalize w2.alloc (.cells #[.string ⟨fn.toArray⟩] 9) = w2' at *
  go_wp2_with fail
  refine HNX.out.mono ?_
  rintro e w4 ⟨rfl, k4⟩
  have hb4 := k4.block' HL3.out.cells
  have f3 := frozen_at hb4 3
  have e3 := cell_at hb4 3
  simp only [List.getElem?_toArray, List.getElem?_cons_zero, List.getElem?_cons_succ] at e3
  have HB4 := Lib.hid hb4
  clear hb4
  go_wp2
  go_ret
  have hb9 := set_log3 (v := .int .i64 (nextS (sgs (pa ++ [q])) : Int)) HB4.out
  have hC9 : Chg (fun g => g = lb) w4 (w4.setCell ⟨lb, 3, none⟩ (.int .i64 (nextS (sgs (pa ++ [q])) : Int))) := (Chg.refl _ w4).setCell _ (fun _ => rfl)
  generalize w4.setCell ⟨lb, 3, none⟩ (.int .i64 (nextS (sgs (pa ++ [q])) : Int)) = w9 at *
  have hs4 := k4.size
  have hs9 := hC9.size
  have hF3 : ∀ g, ext F w2' w3 g → ¬ G g ∧ g < w3.heap.size ∧ (F g ∨ w.heap.size ≤ g) := fun g hg => by
    rcases hg with x | x
    · exact ⟨fun y => HP.out.apart g y x, by have := HIF.out g x; omega, .inl x⟩
    · exact ⟨fun y => by have := HP.out.inG g y; omega, x.2, .inr (by omega)⟩
  refine ⟨rfl, ext F w2' w3, ⟨⟨hb9, ?_, HP.out.log.inG⟩, (HD3.out.kept k4).chg hC9 (fun g hg e => (hF3 g hg).1 (by rw [e]; exact HP.out.log.inG)), fun g hg x => (hF3 g x).1 hg, fun g hg => by have := (hF3 g hg).2.1; omega, fun g hg => by have := HP.out.inG g hg; omega⟩, ⟨fun g hg => (hF3 g hg).2.2, fun g hg => .inl hg, ?_⟩⟩
  · exact Segs.other_lb (HL3.out.segs.kept k4) hC9 HB4.out
  · exact ((hCw3.then_kept k4).mono (fun g _ x => .inl x)).trans hC9 (fun g _ x => .inr (by rw [x]; exact HP.out.log.inG))
end Go.Proofs.YtcdeagmoldbicaaGreatDoor
set_option linter.unusedSimpArgs false
set_option linter.unusedVariables false
namespace Go.Proofs.YtcdeagmoldbicaaGreatDoor
open Go.RowKit
def recsOf (ss : List Sg) : List (List UInt8) := (ss.map Sg.recs).flatten
def lastNum (ss : List Sg) : Nat := match ss.getLast? with
  | some s => s.num
  | none => 0
theorem lastNum_snoc (a : List Sg) (s : Sg) : lastNum (a ++ [s]) = s.num := by unfold lastNum; rw [List.getLast?_append]; simp
theorem recsOf_snoc (a : List Sg) (s : Sg) : recsOf (a ++ [s]) = recsOf a ++ s.recs := by simp [recsOf]
/-- The last file: its bytes, and how many of them are safe. -/
def lastF (q : Sg) (sf : Nat) : Nat × Fl := (q.num, (segBytes q.fst q.recs, sf))
/-- What the files of a log are. -/
def Rep (ss : List Sg) (safe : Nat) (ns : Ns) : Prop :=
  (ss = [] ∧ ns = [] ∧ safe = 0) ∨ ∃ sa q sf j, ss = sa ++ [q] ∧ ns = sa.map fo ++ [lastF q sf] ∧ j ≤ q.recs.length ∧ safe = q.fst + j ∧ ((sf = 0 ∧ j = 0) ∨ sf = (segBytes q.fst (q.recs.take j)).length)
/-- A log that is in order. -/
structure Inv (ss : List Sg) (safe : Nat) (ns : Ns) : Prop where
  rep : Rep ss safe ns
  linked : Linked ss
  good : ∀ s ∈ ss, goodS s
  ok : NsOk ns
theorem segBytes_take_le (f : Nat) (rs : List (List UInt8)) (j : Nat) : (segBytes f (rs.take j)).length ≤ (segBytes f rs).length := by
  have : segBytes f rs = segBytes f (rs.take j) ++ recBytes (rs.drop j) := by
    unfold segBytes
    rw [List.append_assoc, ← recBytes_app, List.take_append_drop]
  rw [this, List.length_append]
  omega
theorem Rep.all {ss : List Sg} (h : ss ≠ []) : ∃ sa q, ss = sa ++ [q] := by
  rcases List.eq_nil_or_concat ss with e | ⟨a, q, e⟩
  · exact absurd e h
  · exact ⟨a, q, by rw [e, List.concat_eq_append]⟩
theorem fo_last (q : Sg) : fo q = lastF q (segBytes q.fst q.recs).length := rfl
theorem Rep.whole (ss : List Sg) : Rep ss (nextS ss) (ss.map fo) := by
  rcases List.eq_nil_or_concat ss with rfl | ⟨a, q, rfl⟩
  · exact .inl ⟨rfl, rfl, rfl⟩
  · rw [List.concat_eq_append]
    refine .inr ⟨a, q, (segBytes q.fst q.recs).length, q.recs.length, rfl, by simp [fo_last], Nat.le_refl _, by rw [nextS_snoc]; rfl, .inr (by rw [List.take_length])⟩
theorem Rep.nums {ss : List Sg} {safe : Nat} {ns : Ns} (h : Rep ss safe ns) : ns.map Prod.fst = ss.map Sg.num := by
  rcases h with ⟨rfl, rfl, -⟩ | ⟨sa, q, sf, j, rfl, rfl, -⟩
  · rfl
  · simp [fo, lastF, Function.comp_def]
theorem Rep.safe_le {ss : List Sg} {safe : Nat} {ns : Ns} (h : Rep ss safe ns) : safe ≤ nextS ss := by
  rcases h with ⟨rfl, rfl, rfl⟩ | ⟨sa, q, sf, j, rfl, rfl, h1, h2, -⟩
  · exact Nat.zero_le _
  · rw [nextS_snoc]
    unfold Sg.next
    omega
theorem Rep.used {ss : List Sg} {safe : Nat} {ns : Ns} (h : Rep ss safe ns) : used (dsk ns) = used (dsk (ss.map fo)) := by
  rcases h with ⟨rfl, rfl, -⟩ | ⟨sa, q, sf, j, rfl, rfl, -⟩
  · rfl
  · rw [List.map_append, dsk_app, dsk_app, used_app, used_app]
    simp [dsk, Go.Proofs.YtcdeagmoldbicaaGreatDoor.used, fo, lastF]
theorem Inv.synced {ss : List Sg} {safe : Nat} {ns : Ns} (h : Inv ss safe ns) : Inv ss (nextS ss) (ss.map fo) :=
  ⟨Rep.whole ss, h.linked, h.good, h.ok.of_nums (by rw [h.rep.nums]; simp [fo, Function.comp_def])⟩
/-- Sync, whatever the log holds. -/
theorem sync_both (ps : Ps) (ns : Ns) (lb : Nat) (sv d : Value) (lim safe cap : Nat) (F G : Nat → Prop) (w : World) (hP : Pair w lb sv ps d cap (dsk ns) lim safe F G) (hI : Inv (sgs ps) safe ns) (hT : Tb w) (hbd : bounded ps) :
    Calls Tryz.prog 15 #[.pointer (some ⟨lb, 0, none⟩)] w fun e w' => e = .returned (.int .i64 0) ∧ ∃ F', Pair w' lb sv ps d cap (dsk ((sgs ps).map fo)) lim (nextS (sgs ps)) F' G ∧ Out w w' F G F' G := by
  rcases List.eq_nil_or_concat ps with rfl | ⟨pa, q, rfl⟩
  · rcases hI.rep with ⟨-, rfl, rfl⟩ | ⟨sa, q, sf, j, h, -⟩
    · refine (syncL_none lb sv d lim 0 G w hP.log).mono ?_
      rintro e w' ⟨rfl, k⟩
      exact ⟨rfl, F, hP.kept k, Out.refl k⟩
    · have := congrArg List.length h
      simp [sgs] at this
  · rw [List.concat_eq_append] at *
    rcases hI.rep with ⟨h, -⟩ | ⟨sa, q', sf, j, h1, h2, h3, h4, h5⟩
    · have := congrArg List.length h
      simp [sgs] at this
    · rw [sgs_snoc] at h1
      obtain ⟨e1, e2⟩ := List.append_inj' h1 rfl
      obtain rfl : q.1 = q' := by simpa using e2
      subst h2
      refine (syncL_any (sa.map fo) (lastF q.1 sf) pa q lb sv d lim safe cap F G w hP hI.ok hT rfl hbd).mono ?_
      rintro e w' ⟨rfl, F', hP', hO⟩
      refine ⟨rfl, F', ?_, hO⟩
      have e3 : sa.map fo ++ [Go.Proofs.YtcdeagmoldbicaaGreatDoor.synced (lastF q.1 sf)] = (sgs (pa ++ [q])).map fo := by
        rw [sgs_snoc, e1, List.map_append]
        rfl
      rw [← e3]
      exact hP'
end Go.Proofs.YtcdeagmoldbicaaGreatDoor
