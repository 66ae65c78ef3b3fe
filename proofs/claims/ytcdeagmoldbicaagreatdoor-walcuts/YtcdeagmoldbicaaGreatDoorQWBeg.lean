/- The walk of begin. -/
import Derived.Test.YtcdeagmoldbicaaGreatDoorGWOpn3
import Derived.Deep.RegionLaw
set_option linter.unusedSimpArgs false
set_option linter.unusedVariables false
namespace Go.Proofs.YtcdeagmoldbicaaGreatDoor
open Go.RowKit
theorem lastV_form {w : World} {sv : Value} {ps : Ps} {G : Nat → Prop} (h : Segs w sv ps G) : ∃ (f z : Int) (A : Option Addr) (n c : Nat), lastV ps = .agg #[.int .i64 (lastNum (sgs ps) : Int), .int .i64 f, .int .i64 z, .slice A n c] := by
  rcases List.eq_nil_or_concat ps with rfl | ⟨pa, q, rfl⟩
  · exact ⟨0, 0, none, 0, 0, rfl⟩
  · rw [List.concat_eq_append] at *
    obtain ⟨A, c, hv, -, -⟩ := (h.recs q (by simp)).form
    refine ⟨q.1.fst, q.1.siz, A, q.1.recs.length, c, ?_⟩
    rw [lastV_snoc, sgs_snoc, lastNum_snoc]
    unfold segV
    rw [hv]
theorem Inv.less {ss : List Sg} {safe : Nat} {ns : Ns} (h : Inv ss safe ns) : ∀ p ∈ ss.map fo, p.1 < lastNum ss + 1 := by
  have hok := h.synced.ok
  rcases List.eq_nil_or_concat ss with rfl | ⟨a, q, rfl⟩
  · intro p hp; simp at hp
  · rw [List.concat_eq_append] at *
    rw [lastNum_snoc]
    intro p hp
    rw [List.map_append] at hp hok
    rcases List.mem_append.1 hp with hp | hp
    · have := (List.pairwise_append.1 hok.1).2.2 p hp (fo q) (by simp)
      have e : (fo q).1 = q.num := rfl
      omega
    · obtain rfl : p = fo q := by simpa using hp
      show q.num < _
      omega
/-- The new segment follows. -/
theorem Inv.begin {ss : List Sg} {safe : Nat} {ns : Ns} (h : Inv ss safe ns) (r : List UInt8) (hr : r.length ≤ 65536) (hn : lastNum ss + 1 < 1000000) (hx : nextS ss ≤ 1152921504606846976) :
    Inv (ss ++ [⟨lastNum ss + 1, nextS ss, (segBytes (nextS ss) [r]).length, [r]⟩]) (nextS ss) (ss.map fo ++ [(lastNum ss + 1, (segBytes (nextS ss) [r], 0))]) := by
  refine ⟨.inr ⟨ss, _, 0, 0, rfl, rfl, Nat.zero_le _, rfl, .inl ⟨rfl, rfl⟩⟩, h.linked.snoc ?_, fun s hs => ?_, h.synced.ok.snoc h.less (by simp) hn⟩
  · rcases List.eq_nil_or_concat ss with rfl | ⟨a, q, rfl⟩
    · rfl
    · rw [List.concat_eq_append, follow_snoc, lastNum_snoc, nextS_snoc]
      simp
  · rcases List.mem_append.1 hs with hs | hs
    · exact h.good s hs
    · obtain rfl : s = _ := by simpa using hs
      exact ⟨by show nextS ss ≤ _; omega, fun x hx => by
        obtain rfl : x = r := by simpa using hx
        exact hr, rfl⟩
theorem four_cell' (a b c : Int) (A : Option Addr) (n k : Nat) : ∀ x ∈ ([.int .i64 a, .int .i64 b, .int .i64 c, .slice A n k] : List Value), x.oneCell' = true := by
  intro x hx
  simp only [List.mem_cons, List.not_mem_nil, or_false] at hx
  rcases hx with rfl | rfl | rfl | rfl <;> rfl
theorem segBytes_one (f : Nat) (r : List UInt8) : segBytes f [r] = frameOf (put f) ++ frameOf r := by simp [segBytes, recBytes]
set_option maxRecDepth 100000 in
set_option maxHeartbeats 8000000 in
theorem begin_any (ps : Ps) (ns : Ns) (r : List UInt8) (lb : Nat) (sv d v fv : Value) (lim safe cap : Nat) (F G : Nat → Prop) (w : World) (w0 : World) (hP : Pair w lb sv ps d cap (dsk ns) lim safe F G) (hI : Inv (sgs ps) safe ns) (hT : Tb w0) (hK0 : Kept w0 w) (hB : ∀ g, F g ∨ G g → w0.heap.size ≤ g) (hbd : bounded ps)
    (hv : ∀ W, Chg (fun g => F g ∨ G g) w W → Bts W v r) (hfv : ∀ W, Chg (fun g => F g ∨ G g) w W → Bts W fv (frameOf r)) (hr : r.length ≤ 65536) (hn : lastNum (sgs ps) + 1 < 1000000) (hx : nextS (sgs ps) ≤ 1152921504606846976) (hpl : ps.length ≤ 1000000) :
    Calls Tryz.prog 82 #[.pointer (some ⟨lb, 0, none⟩), v, fv] w fun e w' => 
      (e = .returned (.int .i64 32) ∧ cap < used (dsk ns) + (segBytes (nextS (sgs ps)) [r]).length ∧ ∃ F', Pair w' lb sv ps d cap (dsk ((sgs ps).map fo)) lim (nextS (sgs ps)) F' G ∧ Out w w' F G F' G) ∨
      (e = .returned (.int .i64 0) ∧ used (dsk ns) + (segBytes (nextS (sgs ps)) [r]).length ≤ cap ∧ ∃ sv' rv F' G', Pair w' lb sv' (ps ++ [(⟨lastNum (sgs ps) + 1, nextS (sgs ps), (segBytes (nextS (sgs ps)) [r]).length, [r]⟩, rv)]) d cap (dsk ((sgs ps).map fo ++ [(lastNum (sgs ps) + 1, (segBytes (nextS (sgs ps)) [r], 0))])) lim (nextS (sgs ps)) F' G' ∧ Out w w' F G F' G') := by
  obtain ⟨db, rfl⟩ := hP.disk.form
  have HI := Lib.hid hI
  have HB := Lib.hid hB
  have HT := Lib.hid hT
  have HV := Lib.hid hv
  have HFV := Lib.hid hfv
  have HBD := Lib.hid hbd
  have HSY := Lib.hid (sync_both ps ns lb sv _ lim safe cap F G w hP hI (hT.kept hK0) hbd)
  have husd := hI.rep.used
  rw [husd]
  obtain ⟨Av, cv, hvv, hv1, hv2, -⟩ := hv w (Chg.refl _ w)
  obtain ⟨Af, cf, hff, hf1, hf2, -⟩ := hfv w (Chg.refl _ w)
  subst hvv hff
  obtain ⟨lf, lz, lA, ln, lc, hlv⟩ := lastV_form hP.log.segs
  have HLV := Lib.hid hlv
  have hsb := segBytes_one (nextS (sgs ps)) r
  have HSB := Lib.hid hsb
  have HFL := Lib.hid (frameOf_len r)
  have hpl2 := put_len (nextS (sgs ps))
  have HFP := Lib.hid (frameOf_len (put (nextS (sgs ps))))
  have hsl : (segBytes (nextS (sgs ps)) [r]).length = (frameOf (put (nextS (sgs ps)))).length + (frameOf r).length := by rw [hsb, List.length_append]
  have HSL := Lib.hid hsl
  have HPO := Lib.hid hP
  have hf0 := sf0
  have hnx2 : nextS (sgs ps) < 9223372036854775808 := by omega
  generalize hnxe : nextS (sgs ps) = nx at *
  generalize hlne : lastNum (sgs ps) = lnum at *
  have HNXE := Lib.hid hnxe
  have HLNE := Lib.hid hlne
  have t9 : decide ((999999 : Int) < (lnum : Int) + 1) = false := by simp; omega
  have hl9 : (lnum : Int) + 1 < 9223372036854775808 := by omega
  have HNN := Lib.hid hn
  have HXX := Lib.hid hx
  clear hP hI hT hB hbd hv hfv hlv hsb hsl husd hnxe hlne hn hx
  go_enter Tryz.func82, Tryz.ntmps82
  go_wp2_with fail
  refine HSY.out.mono ?_
  rintro e w1 ⟨rfl, F1, hP1, hO1⟩
  have HP1 := Lib.hid hP1
  have HO1 := Lib.hid hO1
  obtain ⟨hB1, hK1⟩ := hO1.base hK0 HB.out
  have HB1 := Lib.hid hB1
  have hla := last_any lb sv ps _ lim _ G w1 hP1.log
  rw [HLV.out] at hla
  have HLA := Lib.hid hla
  clear hP1 hO1 hB1 hla
  go_wp2_with fail
  refine HLA.out.mono ?_
  rintro e w2 ⟨rfl, k2⟩
  have hne := nextL_any lb sv ps _ lim _ G w2 (HP1.out.log.kept k2) (by rw [HNXE.out]; omega)
  rw [HNXE.out] at hne
  have HNE := Lib.hid hne
  clear hne
  go_wp2_with fail
  refine HNE.out.mono ?_
  rintro e w3 ⟨rfl, k3⟩
  have hk13 := k2.trans k3
  go_wp2_with fail
  have hb4 := heap_alloc_new w3 (.cells #[.int .i64 ((lnum : Int) + 1), .int .i64 (nx : Int), .int .i64 0, .slice none 0 0] 104)
  have k4 := hk13.alloc (.cells #[.int .i64 ((lnum : Int) + 1), .int .i64 (nx : Int), .int .i64 0, .slice none 0 0] 104)
  have hz4 : (w3.alloc (.cells #[.int .i64 ((lnum : Int) + 1), .int .i64 (nx : Int), .int .i64 0, .slice none 0 0] 104)).heap.size = w3.heap.size + 1 := by simp
  generalize w3.alloc (.cells #[.int .i64 ((lnum : Int) + 1), .int .i64 (nx : Int), .int .i64 0, .slice none 0 0] 104) = w4 at *
  have HB4 := Lib.hid hb4
  clear hb4
  refine (firstFrame_any nx w4 (by have := HXX.out; omega)).mono ?_
  rintro e w5 ⟨v5, rfl, ho5, k5⟩
  have HB5 := Lib.hid (Bts.of_own ho5)
  obtain ⟨A5, c5, rfl⟩ := own_form ho5
  have hk5 := k4.trans k5
  have hcw5 : Chg (fun g => F g ∨ G g) w w5 := HO1.out.chg.then_kept hk5
  clear ho5
  go_wp2_with fail
  have hka5 := (Kept.refl w5).alloc (.cells #[.slice A5 (frameOf (put nx)).length c5, .slice Af (frameOf r).length cf] 40)
  refine (concat_any [frameOf (put nx), frameOf r] _ _ (Parts.two HB5.out (HFV.out w5 hcw5)) (by have := HFL.out; have := HFP.out; simp; omega)).mono ?_
  rintro e w6 ⟨v6, rfl, ho6, k6⟩
  have hfl6 : [frameOf (put nx), frameOf r].flatten = segBytes nx [r] := by rw [HSB.out]; simp
  rw [hfl6] at ho6
  have k56 := hka5.trans k6
  have HB6 := Lib.hid (Bts.of_own ho6)
  obtain ⟨A6, c6, rfl⟩ := own_form ho6
  have hk6 := hk5.trans k56
  have HBS6 := Lib.hid ((k5.trans k56).block' HB4.out)
  have hslen : (segBytes nx [r]).length ≤ 100000 := by rw [HSL.out, HFL.out, HFP.out]; omega
  generalize hbx : segBytes nx [r] = bx at *
  have HBX := Lib.hid hbx
  have s0 := cell_at HBS6.out 0
  simp only [List.getElem?_toArray, List.getElem?_cons_zero, List.getElem?_cons_succ] at s0
  have l0 := hk6.cell HP1.out.log.c0
  have l1 := hk6.cell HP1.out.log.c1
  have hK06 := hK1.trans hk6
  have hcast : ((lnum : Int) + 1) = ((lnum + 1 : Nat) : Int) := by push_cast; rfl
  have HFI := Lib.hid (show ∀ W, Kept w6 W → _ from fun W hW => file_any (.pointer (some ⟨db, 0, none⟩)) (lnum + 1) W (HT.out.kept (hK06.trans hW)) HNN.out)
  rw [← hcast] at HFI
  have hlen0 : (dsk ((sgs ps).map fo)).length < 2000000000000 := by rw [dsk_len, List.length_map, sgs_len]; omega
  have hlbF1 := HP1.out.apart lb HP1.out.log.inG
  have hsbF1 : ¬ F1 w3.heap.size := fun x => by have := HP1.out.inF _ x; have := hk13.size; omega
  have hKr := (Kept.refl w6).drew
  have hA0 : appS (fileN (lnum + 1)) bx (dsk ((sgs ps).map fo)) = dsk ((sgs ps).map fo ++ [(lnum + 1, (bx, 0))]) := by
    have hle := HI.out.less
    rw [HLNE.out] at hle
    exact app_end HI.out.synced.ok hle HNN.out bx
  have HA0 := Lib.hid hA0
  have HAP := Lib.hid (show ∀ W, Kept w6 W → _ from fun W hW => append_any (fileN (lnum + 1)) bx (.slice A6 bx.length c6) (.pointer (some ⟨db, 0, none⟩)) cap (dsk ((sgs ps).map fo)) F1 W (HP1.out.disk.kept (hk6.trans hW)) (HB6.out.kept hW) hlen0)
  have hoA : okA cap (fileN (lnum + 1)) bx (dsk ((sgs ps).map fo)) = if cap < used (dsk ((sgs ps).map fo)) + bx.length then 32 else 0 := by
    unfold okA
    rw [if_neg (by rw [okN_file]; decide)]
  rw [hoA] at HAP
  generalize hfn : fileN (lnum + 1) = fn at *
  clear ho6 hfl6 hcast hlen0 hA0 hoA hbx
  have hs13 := hk13.size
  have hs6 := (k5.trans k56).size
  by_cases hroom : cap < used (dsk ((sgs ps).map fo)) + bx.length
  · rw [if_pos hroom, if_neg (by decide)] at HAP
    have HRO := Lib.hid hroom
    clear hroom
    go_wp2
    go_region_held3 (fun W => W.cell? ⟨lb, 0, none⟩ = some (.pointer (some ⟨db, 0, none⟩)) ∧ W.cell? ⟨lb, 1, none⟩ = some (.string ⟨lg.toArray⟩) ∧ W.cell? ⟨w3.heap.size, 0, none⟩ = some (.int .i64 ((lnum : Int) + 1)))
      (first | exact ⟨l0, l1, s0⟩ | exact ⟨hq1.cell l0, hq1.cell l1, hq1.cell s0⟩ | exact ⟨y0, y1, y2⟩)
      (first
        | (go_at_call 48; refine (HFI.out _ hKr).mono ?_; rintro e w7 ⟨rfl, hqa⟩; have hq1 : Kept w6 w7 := hKr.trans hqa)
        | (go_at_call 22; refine (HAP.out _ hq1).mono ?_; rintro e w8 ⟨rfl, hd8, hC8⟩; have y0 := hC8.cell (hq1.cell l0) hlbF1; have y1 := hC8.cell (hq1.cell l1) hlbF1; have y2 := hC8.cell (hq1.cell s0) hsbF1; have HD8 := Lib.hid hd8; clear hd8))
    have hs7 := hq1.size
    have hs8 := hC8.size
    go_wp2
    go_ret
    have hC18 : Chg F1 w1 w8 := (Chg.of_kept (hk6.trans hq1)).trans hC8 (fun g _ x => x)
    have hF8 : ∀ g, ext F1 w7 w8 g → ¬ G g ∧ g < w8.heap.size ∧ (F1 g ∨ w1.heap.size ≤ g) := fun g hg => by
      rcases hg with x | x
      · exact ⟨fun y => HP1.out.apart g y x, by have := HP1.out.inF g x; omega, .inl x⟩
      · exact ⟨fun y => by have := HP1.out.inG g y; omega, x.2, .inr (by omega)⟩
    obtain rfl := HBX.out
    refine .inl ⟨rfl, HRO.out, ext F1 w7 w8, ⟨HP1.out.log.chg hC18 HP1.out.apart, HD8.out, fun g hg x => (hF8 g x).1 hg, fun g hg => (hF8 g hg).2.1, fun g hg => by have := HP1.out.inG g hg; omega⟩, HO1.out.trans ⟨fun g hg => (hF8 g hg).2.2, fun g hg => .inl hg, hC18.mono (fun g _ x => .inl x)⟩⟩
  · rw [if_neg hroom, if_pos rfl, HA0.out] at HAP
    have HRO := Lib.hid (show used (dsk ((sgs ps).map fo)) + bx.length ≤ cap by omega)
    clear hroom
    go_wp2
    go_region_held3 (fun W => W.cell? ⟨lb, 0, none⟩ = some (.pointer (some ⟨db, 0, none⟩)) ∧ W.cell? ⟨lb, 1, none⟩ = some (.string ⟨lg.toArray⟩) ∧ W.cell? ⟨w3.heap.size, 0, none⟩ = some (.int .i64 ((lnum : Int) + 1)))
      (first | exact ⟨l0, l1, s0⟩ | exact ⟨hq1.cell l0, hq1.cell l1, hq1.cell s0⟩ | exact ⟨y0, y1, y2⟩)
      (first
        | (go_at_call 48; refine (HFI.out _ hKr).mono ?_; rintro e w7 ⟨rfl, hqa⟩; have hq1 : Kept w6 w7 := hKr.trans hqa)
        | (go_at_call 22; refine (HAP.out _ hq1).mono ?_; rintro e w8 ⟨rfl, hd8, hC8⟩; have y0 := hC8.cell (hq1.cell l0) hlbF1; have y1 := hC8.cell (hq1.cell l1) hlbF1; have y2 := hC8.cell (hq1.cell s0) hsbF1; have HD8 := Lib.hid hd8; clear hd8))
    have hs7 := hq1.size
    have hs8 := hC8.size
    have hC18 : Chg F1 w1 w8 := (Chg.of_kept (hk6.trans hq1)).trans hC8 (fun g _ x => x)
    have hcw8 : Chg (fun g => F g ∨ G g) w w8 := (hcw5.then_kept (k56.trans hq1)).trans hC8 (fun g hg x => by
      rcases HO1.out.hF g x with y | y
      · exact .inl y
      · omega)
    have HBS8 := Lib.hid (hC8.block' (hq1.block' HBS6.out) hsbF1)
    have HL8 := Lib.hid (HP1.out.log.chg hC18 HP1.out.apart)
    have HADD := Lib.hid (add_any w3.heap.size 0 _ _ 0 bx.length (.slice none 0 0) [] r (.slice Av r.length cv) no w8 HBS8.out (by simp) (by simp) (by decide) (by decide) (RecsAt.nil _ _) (HV.out w8 hcw8) (by omega) (by simp) (by omega))
    clear y0 y1 y2 s0 l0 l1
    go_wp2_with fail
    refine HADD.out.mono ?_
    rintro e w9 ⟨rfl, rv, hb9, hr9, hg9, hC9⟩
    have hC9' : Chg (fun g => g = w3.heap.size) w8 w9 := hC9.mono (fun g _ x => by
      rcases x with x | x
      · exact x
      · cases x)
    have hs9 := hC9'.size
    have hsbG : ∀ g, G g → ¬ g = w3.heap.size := fun g hg => by have := HP1.out.inG g hg; omega
    have HL9 := Lib.hid (HL8.out.chg hC9' hsbG)
    obtain ⟨rA, rc, hrv, hrc1, hrc2⟩ := hr9.form
    subst hrv
    simp only [List.nil_append, List.length_singleton, List.setIfInBounds_toArray, List.set_cons_succ, List.set_cons_zero, Nat.zero_add] at hb9 hr9 hrc1
    have HB9 := Lib.hid hb9
    have HR9 := Lib.hid hr9
    have e0 := cell_at hb9 0
    have e1 := cell_at hb9 1
    have e2 := cell_at hb9 2
    have e3 := cell_at hb9 3
    simp only [List.getElem?_toArray, List.getElem?_cons_zero, List.getElem?_cons_succ] at e0 e1 e2 e3
    have f4 := HL9.out.fz 4
    have l4 := HL9.out.c4
    obtain ⟨As, cs, hsv, hsc1, hsc2⟩ := HL9.out.segs.form
    subst hsv
    have hlb9 := HL9.out.lt
    have hsb9 : w3.heap.size < w9.heap.size := (Array.getElem?_eq_some_iff.1 HB9.out).1
    clear hb9 hr9
    go_wp2
    have hKa := ((Kept.refl w9).alloc (.cells #[.int .i64 ((lnum : Int) + 1), .int .i64 (nx : Int), .int .i64 (bx.length : Int), .slice rA 1 rc] 104)).drew
    have HNB := Lib.hid (show ∀ g, (Value.slice As ps.length cs).ownBlock = some g → g ≠ lb from fun g hg e => by
      obtain ⟨cur, hc⟩ := own_type HL9.out.segs.row hg
      rw [e, HL9.out.cells] at hc
      injection hc with hc
      injection hc with _ hc
      exact absurd hc (by decide))
    go_region_law (refine step_append_one (w := (w9.alloc (.cells #[.int .i64 ((lnum : Int) + 1), .int .i64 (nx : Int), .int .i64 (bx.length : Int), .slice rA 1 rc] 104)).drew) elemS (by rfl) _ _ (by rfl) 0 _ _ (scs ps) [.int .i64 ((lnum : Int) + 1), .int .i64 (nx : Int), .int .i64 (bx.length : Int), .slice rA 1 rc] w9.heap.size 1 (by rfl) (by rfl) (own_kept HL9.out.segs.row hKa) (by rfl) (cell_new4 w9 _ _ _ _ _) (four_cell' _ _ _ _ _ _) (by omega) (by unfold maxLen; omega) (Nat.zero_le _) ?_; intro v10 w10 a1 a2 a3; obtain ⟨A10, c10, hv10⟩ := own_form a1; subst hv10; have hb10 := a2.block lb (Nat.lt_of_lt_of_le hlb9 hKa.size) (fun e => HNB.out _ e.symm rfl); rw [hKa.block' HL9.out.cells] at hb10; have f10 := frozen_at hb10 4; have c10' := cell_at hb10 4; simp only [List.getElem?_toArray, List.getElem?_cons_zero, List.getElem?_cons_succ] at c10'; have HB10 := Lib.hid hb10; have HA1 := Lib.hid a1; have HA2 := Lib.hid a2; have HA3 := Lib.hid a3; clear hb10 a1 a2 a3)
    all_goals (
      go_wp2
      go_ret
      have hsA : (w9.alloc (.cells #[.int .i64 ((lnum : Int) + 1), .int .i64 (nx : Int), .int .i64 (bx.length : Int), .slice rA 1 rc] 104)).heap.size = w9.heap.size + 1 := by simp
      have hg10 : (w9.alloc (.cells #[.int .i64 ((lnum : Int) + 1), .int .i64 (nx : Int), .int .i64 (bx.length : Int), .slice rA 1 rc] 104)).grownBy w10 (Value.slice As ps.length cs).ownBlock := ⟨HA2.out.os, HA2.out.tape, HA2.out.output, HA2.out.size, HA2.out.block⟩
      have hcells : [Value.int .i64 ((lnum : Int) + 1), .int .i64 (nx : Int), .int .i64 (bx.length : Int), .slice rA 1 rc] = sc ⟨lnum + 1, nx, bx.length, [r]⟩ (.slice rA 1 rc) := by
        unfold sc
        push_cast
        rfl
      have hrow10 := HA1.out
      rw [hcells] at hrow10
      obtain ⟨hS10, hC10⟩ := (HL9.out.segs.mono (G' := fun g => G g ∨ fresh w8 w9 g) (fun g hg => .inl hg)).more (s := ⟨lnum + 1, nx, bx.length, [r]⟩) (HR9.out.mono (fun g hg => .inr hg)) hg10 hrow10 HA3.out (fun p hp g hg e => by
        obtain ⟨hg1, -⟩ := (HL9.out.segs.recs p hp).ok hg
        obtain ⟨hg2, -⟩ := HR9.out.ok e
        have := HP1.out.inG g hg1
        rcases hg2 with x | x
        · exact x
        · have := hk6.size
          omega)
      have hb11 := set_log4 (v := .slice A10 (ps.length + 1) c10) HB10.out
      have hC11 : Chg (fun g => g = lb) w10 (w10.setCell ⟨lb, 4, none⟩ (.slice A10 (ps.length + 1) c10)) := (Chg.refl _ w10).setCell _ (fun _ => rfl)
      have hS11 := hS10.other_lb hC11 HB10.out
      have hs10 := hC10.size
      have hs11 := hC11.size
      have hs16 := hk6.size
      have hF8 : ∀ g, ext F1 w7 w8 g → ¬ G g ∧ g < w8.heap.size ∧ (F1 g ∨ w1.heap.size ≤ g) ∧ g ≠ w3.heap.size := fun g hg => by
        rcases hg with x | x
        · exact ⟨fun y => HP1.out.apart g y x, by have := HP1.out.inF g x; omega, .inl x, fun e => hsbF1 (by rw [← e]; exact x)⟩
        · exact ⟨fun y => by have := HP1.out.inG g y; omega, x.2, .inr (by omega), by omega⟩
      have hd9 := HD8.out.chg hC9' (fun g hg => (hF8 g hg).2.2.2)
      have hd10 := hd9.chg hC10 (fun g hg e => (hF8 g hg).1 (HL9.out.segs.rowG g e))
      have hd11 := hd10.chg hC11 (fun g hg e => (hF8 g hg).1 (by rw [e]; exact HP1.out.log.inG))
      have hC1 : Chg (fun g => F1 g ∨ G g) w1 (w10.setCell ⟨lb, 4, none⟩ (.slice A10 (ps.length + 1) c10)) := (((hC18.mono (fun g _ x => .inl x)).trans hC9' (fun g hg x => by omega)).trans hC10 (fun g hg x => .inr (HL9.out.segs.rowG g x))).trans hC11 (fun g _ x => .inr (by rw [x]; exact HP1.out.log.inG))
      generalize w10.setCell ⟨lb, 4, none⟩ (.slice A10 (ps.length + 1) c10) = w11 at *
      obtain rfl := HBX.out
      refine .inr ⟨rfl, HRO.out, .slice A10 (ps.length + 1) c10, .slice rA 1 rc, ext F1 w7 w8, ext (fun g => G g ∨ fresh w8 w9 g) w9 w10, ⟨⟨hb11, hS11, .inl (.inl HP1.out.log.inG)⟩, hd11, fun g hg x => ?_, fun g hg => by have := (hF8 g hg).2.1; omega, fun g hg => ?_⟩, HO1.out.trans ⟨fun g hg => (hF8 g hg).2.2.1, fun g hg => ?_, hC1⟩⟩
      · have h8 := hF8 g x
        rcases hg with (y | y) | y
        · exact h8.1 y
        · rcases y with y | y
          · exact y
          · omega
        · omega
      · rcases hg with (y | y) | y
        · have := HP1.out.inG g y; omega
        · rcases y with y | y
          · exact y.elim
          · omega
        · omega
      · rcases hg with (y | y) | y
        · exact .inl y
        · rcases y with y | y
          · exact y.elim
          · exact .inr (by omega)
        · exact .inr (by omega))
end Go.Proofs.YtcdeagmoldbicaaGreatDoor
