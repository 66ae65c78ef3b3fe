/- The walks of isName, follows, isFull, files, and of the library's Contains. -/
import Derived.Test.YtcdeagmoldbicaaGreatDoorGWParse2
import Derived.Deep.RegionHeld3
set_option linter.unusedSimpArgs false
set_option linter.unusedVariables false
namespace Go.Proofs.YtcdeagmoldbicaaGreatDoor
open Go.RowKit
theorem allS_lg (ns : Ns) : allS [lg] (dsk ns) = 31 := by
  unfold allS
  rw [if_neg (by decide), if_pos]
  simp only [List.all_cons, List.all_nil, Bool.and_true]
  exact no_lg ns
set_option maxRecDepth 100000 in
set_option maxHeartbeats 1000000 in
theorem isNameL_any (ns : Ns) (d : Value) (cap : Nat) (F : Nat → Prop) (w : World) (hd : Disk w d cap (dsk ns) F) :
    Calls Tryz.prog 33 #[d, .string ⟨lg.toArray⟩] w fun e w' => e = .returned (.bool true) ∧ Kept w w' := by
  obtain ⟨db, rfl⟩ := hd.form
  have HS := Lib.hid (safe_any lg cap (dsk ns) F _ w hd)
  rw [allS_lg, if_neg (by decide)] at HS
  have HC := Lib.hid (show ∀ W, _ from fun W => Tryz.strings_Contains_one ⟨lg.toArray⟩ 46 W)
  rw [show (⟨lg.toArray⟩ : ByteArray).data.toList = lg by simp, show Lib.indexByte lg 46 = -1 by decide] at HC
  have hsz : (⟨lg.toArray⟩ : ByteArray).size = 3 := by rw [str_size]; rfl
  clear hd
  generalize (⟨lg.toArray⟩ : ByteArray) = ls at *
  go_enter Tryz.func33, Tryz.ntmps33
  go_wp2_with fail
  refine HS.out.mono ?_
  rintro e w1 ⟨rfl, k1⟩
  go_wp2_with fail
  refine (HC.out w1).mono ?_
  rintro e w2 ⟨rfl, rfl⟩
  go_wp2
  go_ret
  exact ⟨rfl, k1⟩
/-- Can the segment stand behind the others? -/
def followS (s : Sg) (ss : List Sg) : Bool := match ss.getLast? with
  | none => decide (s.fst ≤ 1152921504606846976)
  | some l => decide (s.num = l.num + 1) && decide (s.fst = l.next)
theorem follow_snoc (s l : Sg) (a : List Sg) : followS s (a ++ [l]) = (decide (s.num = l.num + 1) && decide (s.fst = l.next)) := by unfold followS; rw [List.getLast?_append]; simp
set_option maxRecDepth 100000 in
set_option maxHeartbeats 4000000 in
theorem follows_any (s : Sg) (rv sv : Value) (ps : Ps) (G : Nat → Prop) (w : World) (h : Segs w sv ps G) (A0 : Option Addr) (n0 c0 : Nat) (hrv : rv = .slice A0 n0 c0) (hb : ∀ p ∈ ps, p.1.num < 9000000000000000000 ∧ p.1.next < 9000000000000000000) :
    Calls Tryz.prog 94 #[segV s rv, sv] w fun e w' => e = .returned (.bool (followS s (sgs ps))) ∧ Kept w w' := by
  subst hrv
  have hk0 := (Kept.refl w).alloc (.cells #[.int .i64 (s.num : Int), .int .i64 (s.fst : Int), .int .i64 (s.siz : Int), .slice A0 n0 c0] 104)
  obtain ⟨A, c, rfl, hc1, hc2⟩ := h.form
  unfold maxLen at hc2
  unfold segV
  rcases List.eq_nil_or_concat ps with rfl | ⟨a, p, rfl⟩
  · have HR := Lib.hid (show decide ((s.fst : Int) ≤ 1152921504606846976) = followS s (sgs []) by
      show _ = decide (s.fst ≤ 1152921504606846976)
      rw [decide_eq_decide]; omega)
    clear h
    go_enter Tryz.func94, Tryz.ntmps94
    go_wp2
    go_ret
    exact ⟨ret_bool HR.out, hk0⟩
  · rw [List.concat_eq_append] at *
    rw [sgs_snoc, follow_snoc]
    have hpb := hb p (by simp)
    obtain ⟨g, rfl, q0, q1, q2, q3, cur, hcur⟩ := (h.kept hk0).at (i := a.length) (by simp)
    have hp : (a ++ [p])[a.length]'(by simp) = p := by simp
    rw [hp] at q0 q1 q2 q3
    have hl : (a ++ [p]).length = a.length + 1 := by simp
    rw [hl] at hc1 ⊢
    have hgl : g < w.heap.size := (h.row.lt g rfl).2
    obtain ⟨rA, rc, hrv, -, -⟩ := (h.recs p (by simp)).form
    rw [hrv] at q3
    have hn2 := hpb.2
    unfold Sg.next at hn2
    have t0 : (((a.length + 1 : Nat) : Int) == 0) = false := by simp; omega
    have t1 : (((a.length : Int) + 1) == 0) = false := by simp; omega
    clear h hp hl hrv hb
    by_cases h1 : s.num = p.1.num + 1
    · have hsn : (s.num : Int) = (p.1.num : Int) + 1 := by omega
      have HR := Lib.hid (show ((s.fst : Int) == (p.1.fst : Int) + (p.1.recs.length : Int)) = (decide (s.num = p.1.num + 1) && decide (s.fst = p.1.next)) by
        rw [Bool.eq_iff_iff]
        unfold Sg.next
        simp only [beq_iff_eq, Bool.and_eq_true, decide_eq_true_eq]
        omega)
      rw [hsn] at q0 q1 q2 q3 hk0 ⊢
      have hw : IntKind.i64.wrap ((p.1.num : Int) + 1) = (p.1.num : Int) + 1 := IntWalk.i64_in _ (by omega)
      have t2 : ((p.1.num : Int) + 1 == IntKind.i64.wrap ((p.1.num : Int) + 1)) = true := by rw [hw]; simp
      clear h1 hcur hsn
      go_enter Tryz.func94, Tryz.ntmps94
      go_wp2
      have hb0 := ((Kept.refl (w.alloc (.cells #[.int .i64 ((p.1.num : Int) + 1), .int .i64 (s.fst : Int), .int .i64 (s.siz : Int), .slice A0 n0 c0] 104))).alloc (.cells #[.int .i64 (p.1.num : Int), .int .i64 (p.1.fst : Int), .int .i64 (p.1.siz : Int), .slice rA p.1.recs.length rc] 104)).block' (heap_alloc_new w (.cells #[.int .i64 ((p.1.num : Int) + 1), .int .i64 (s.fst : Int), .int .i64 (s.siz : Int), .slice A0 n0 c0] 104))
      have hb1 := heap_alloc_new (w.alloc (.cells #[.int .i64 ((p.1.num : Int) + 1), .int .i64 (s.fst : Int), .int .i64 (s.siz : Int), .slice A0 n0 c0] 104)) (.cells #[.int .i64 (p.1.num : Int), .int .i64 (p.1.fst : Int), .int .i64 (p.1.siz : Int), .slice rA p.1.recs.length rc] 104)
      have hz : (w.alloc (.cells #[.int .i64 ((p.1.num : Int) + 1), .int .i64 (s.fst : Int), .int .i64 (s.siz : Int), .slice A0 n0 c0] 104)).heap.size = w.heap.size + 1 := by simp
      rw [hz] at hb1
      have hk1 := hk0.alloc (.cells #[.int .i64 (p.1.num : Int), .int .i64 (p.1.fst : Int), .int .i64 (p.1.siz : Int), .slice rA p.1.recs.length rc] 104)
      generalize (w.alloc (.cells #[.int .i64 ((p.1.num : Int) + 1), .int .i64 (s.fst : Int), .int .i64 (s.siz : Int), .slice A0 n0 c0] 104)).alloc (.cells #[.int .i64 (p.1.num : Int), .int .i64 (p.1.fst : Int), .int .i64 (p.1.siz : Int), .slice rA p.1.recs.length rc] 104) = w1 at *
      have u0 := cell_at hb0 0
      have u1 := cell_at hb0 1
      have v0 := cell_at hb1 0
      have v1 := cell_at hb1 1
      have v2 := cell_at hb1 2
      have v3 := cell_at hb1 3
      simp only [List.getElem?_toArray, List.getElem?_cons_zero, List.getElem?_cons_succ] at u0 u1 v0 v1 v2 v3
      have hK1 := (Kept.refl w1).drew
      clear q0 q1 q2 q3 hb0 hb1 hz
      go_region_with (go_at_call 66; refine (next_any _ _ _ _ _ _ _ (by omega) (by omega)).mono ?_; rintro e w3 ⟨rfl, hq⟩; have hq1 := hK1.trans hq; have z1 := hq1.cell u1)
      all_goals (
        go_wp2
        go_ret
        exact ⟨ret_bool HR.out, hk1.trans hq1⟩)
    · have t2 : ((s.num : Int) == (p.1.num : Int) + 1) = false := by simp; omega
      have HR := Lib.hid (show false = (decide (s.num = p.1.num + 1) && decide (s.fst = p.1.next)) by simp [h1])
      clear h1
      go_enter Tryz.func94, Tryz.ntmps94
      go_wp2
      go_region
      all_goals (
        go_wp2
        go_ret
        exact ⟨ret_bool HR.out, (hk0.alloc _).drew⟩)
end Go.Proofs.YtcdeagmoldbicaaGreatDoor
