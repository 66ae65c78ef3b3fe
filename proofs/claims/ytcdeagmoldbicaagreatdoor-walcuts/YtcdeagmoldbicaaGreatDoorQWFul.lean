/- The walks of isFull and files, and of the library's Contains at the log's names. -/
import Derived.Test.YtcdeagmoldbicaaGreatDoorQWFol
set_option linter.unusedSimpArgs false
set_option linter.unusedVariables false
namespace Go.Proofs.YtcdeagmoldbicaaGreatDoor
open Go.RowKit
theorem sf0 (w : World) (a b c : Int) (A : Option Addr) (n k : Nat) : (Instr.field 104 (.agg #[.int .i64 a, .int .i64 b, .int .i64 c, .slice A n k]) 0).run Tryz.prog w = .ok (.int .i64 a) w := by kernel_rfl
theorem sf2 (w : World) (a b c : Int) (A : Option Addr) (n k : Nat) : (Instr.field 104 (.agg #[.int .i64 a, .int .i64 b, .int .i64 c, .slice A n k]) 2).run Tryz.prog w = .ok (.int .i64 c) w := by kernel_rfl
def fullS (lim : Nat) (ss : List Sg) : Bool := match ss.getLast? with
  | none => true
  | some l => decide (lim ≤ l.siz)
theorem full_snoc (lim : Nat) (l : Sg) (a : List Sg) : fullS lim (a ++ [l]) = decide (lim ≤ l.siz) := by unfold fullS; rw [List.getLast?_append]; simp
set_option maxRecDepth 100000 in
set_option maxHeartbeats 4000000 in
theorem isFull_any (lb : Nat) (sv : Value) (ps : Ps) (d : Value) (lim safe : Nat) (G : Nat → Prop) (w : World) (h : Lgm w lb sv ps d lim safe G) :
    Calls Tryz.prog 81 #[.pointer (some ⟨lb, 0, none⟩)] w fun e w' => e = .returned (.bool (fullS lim (sgs ps))) ∧ Kept w w' := by
  have hK0 := (Kept.refl w).drew
  have HLA := Lib.hid (last_any lb sv ps d lim safe G _ (h.kept hK0))
  obtain ⟨A, c, rfl, hc1, hc2⟩ := h.segs.form
  have c4 := h.c4
  have c2 := h.c2
  unfold maxLen at hc2
  rcases List.eq_nil_or_concat ps with rfl | ⟨a, p, rfl⟩
  · clear h HLA
    go_enter Tryz.func81, Tryz.ntmps81
    go_wp2
    go_region
    all_goals (
      go_wp2
      go_ret
      exact ⟨rfl, hK0⟩)
  · rw [List.concat_eq_append] at *
    rw [sgs_snoc, full_snoc]
    have hl : (a ++ [p]).length = a.length + 1 := by simp
    obtain ⟨rA, rc, hrv, -, -⟩ := (h.segs.recs p (by simp)).form
    rw [lastV_snoc] at HLA
    unfold segV at HLA
    rw [hrv] at HLA
    rw [hl] at c4 hc1
    have t0 : (((a.length + 1 : Nat) : Int) == 0) = false := by simp; omega
    have t1 : (((a.length : Int) + 1) == 0) = false := by simp; omega
    have HR := Lib.hid (show decide ((lim : Int) ≤ (p.1.siz : Int)) = decide (lim ≤ p.1.siz) by rw [decide_eq_decide]; omega)
    have hf2 := sf2
    clear h hl hrv
    go_enter Tryz.func81, Tryz.ntmps81
    go_wp2
    go_region_with (go_at_call 49; refine HLA.out.mono ?_; rintro e w3 ⟨rfl, hq⟩; have hq1 := hK0.trans hq; have z1 := hq1.cell c2)
    all_goals (
      go_wp2
      go_ret
      exact ⟨by first | exact ret_bool HR.out | exact rfl, hq1⟩)
theorem contains_any (ls : List Nm) (x : Nm) (v : Value) (w : World) (hv : Txts w v ls) (hx : x ∉ ls) :
    Calls Tryz.prog 95 #[v, .string ⟨x.toArray⟩] w fun e w' => e = .returned (.bool false) ∧ w = w' := by
  obtain ⟨A, c, rfl, h1, h2, h3⟩ := hv
  unfold maxLen at h2
  by_cases h0 : 0 < ls.length
  · obtain ⟨b, o, rfl, hc⟩ := h3 h0
    refine (Tryz.slices_Contains_string b o ls.length c (ls.map fun l => ⟨l.toArray⟩) ⟨x.toArray⟩ w (by simp) (by omega) (fun j hj => ?_)).mono ?_
    · have hj' : j < ls.length := by simpa using hj
      rw [hc j ls[j] (by simp [hj'])]
      simp [List.getD, hj']
    · rintro e w' ⟨rfl, rfl⟩
      refine ⟨ret_bool ?_, rfl⟩
      rw [Bool.eq_false_iff]
      intro hcon
      rw [Lib.containsS_iff, List.take_of_length_le (by simp), List.mem_map] at hcon
      obtain ⟨l, hl, e⟩ := hcon
      apply hx
      have : l = x := by
        have := congrArg (fun s : ByteArray => s.data.toList) e
        simpa using this
      rw [← this]
      exact hl
  · have hn : ls.length = 0 := by omega
    rw [hn]
    refine (Any.slices_Contains_string_empty Tryz.lays110 A c ⟨x.toArray⟩ w).mono ?_
    rintro e w' ⟨rfl, rfl⟩
    exact ⟨rfl, rfl⟩
set_option maxRecDepth 100000 in
set_option maxHeartbeats 4000000 in
theorem files_wal (sv d : Value) (ps : Ps) (G : Nat → Prop) (w : World) (h : Segs w sv ps G) (hT : Tb w) (hlen : ps.length ≤ 1000000) (hn : ∀ p ∈ ps, p.1.num < 1000000) :
    Calls Tryz.prog 52 #[.agg #[d, .string ⟨lg.toArray⟩], sv] w fun e w' => ∃ v, e = .returned v ∧ w'.ownsRow w.heap.size 9 1 v ps.length (strCells (ps.map fun p => fileN p.1.num)) ∧ Kept w w' := by
  have hk0 := (Kept.refl w).alloc (.cells #[d, .string ⟨lg.toArray⟩] 81)
  obtain ⟨A, c, rfl, hc1, hc2⟩ := h.form
  unfold maxLen at hc2
  have H := Lib.hid h
  have HFI := Lib.hid (show ∀ (n : Nat) W, n < 1000000 → Kept w W → _ from fun n W hn hW => file_any d n W (hT.kept hW) hn)
  have HN := Lib.hid hn
  obtain ⟨i0, hi, hz0, hz1, hz2⟩ := info_str
  obtain ⟨M, hM⟩ : ∃ M, M = madeCells (Value.string ⟨#[]⟩).cells (((ps.length : Nat) : Int).toNat * i0.size) := ⟨_, rfl⟩
  have hMs : M.size = ps.length := by rw [hM, size_madeCells, hz1]; simp
  have hmk : ∀ W : World, (Instr.makeSlice 68 (.int .i64 0) (.int .i64 ((ps.length : Nat) : Int))).run Tryz.prog W = .ok (.slice (some ⟨W.heap.size, 0, none⟩) 0 ps.length) (W.alloc (.cells M 9)) := fun W => by
    have h := run_makeSlice (P := Tryz.prog) W 68 9 i0 (.string ⟨#[]⟩) Tryz.underlying68 hi hz0 .i64 .i64 0 ((ps.length : Nat) : Int) (by omega) (by omega) (by rw [hz1]; omega) (by rw [hz2]; omega) (by omega)
    rw [← hM] at h
    simpa using h
  have HMS := Lib.hid hMs
  clear hM h hT hn hi hz0 hz1 hz2 hMs
  go_enter Tryz.func52, Tryz.ntmps52
  go_wp2
  have hz : (w.alloc (.cells #[d, .string ⟨lg.toArray⟩] 81)).heap.size = w.heap.size + 1 := by simp
  have hb0 := heap_alloc_new w (.cells #[d, .string ⟨lg.toArray⟩] 81)
  have HB0 := Lib.hid hb0
  clear hb0 hmk
  generalize w.alloc (.cells #[d, .string ⟨lg.toArray⟩] 81) = w1 at *
  go_loopw [5, 13] (fun t i W => ∃ k : Nat, i = .int .i64 (k : Int) ∧ k ≤ ps.length ∧ W.ownsRow w1.heap.size 9 1 t k (strCells ((ps.take k).map fun p => fileN p.1.num)) ∧ Kept w1 W) (fun _ i _ => ps.length - (intOf i).toNat)
  case atStart =>
    have hm := World.ownsRow_made (e := 9) (size := 1) (base := w1.heap.size) w1 M ps.length (Nat.le_refl _) (by unfold maxLen; omega) (by rw [HMS.out]; omega)
    exact ⟨0, rfl, Nat.zero_le _, by simpa [hz, strCells] using hm, (Kept.refl w1).alloc _⟩
  case round =>
    obtain ⟨k, rfl, hk, hO, hK⟩ := hrel
    by_cases hlt : k < ps.length
    · obtain ⟨g, rfl, q0, q1, q2, q3, cur, hcur⟩ := (H.out.kept (hk0.trans hK)).at hlt
      have hnk := HN.out ps[k] (List.getElem_mem hlt)
      have HTS := Lib.hid (show (ps.take (k + 1)).map (fun p => fileN p.1.num) = (ps.take k).map (fun p => fileN p.1.num) ++ [fileN ps[k].1.num] by rw [List.take_succ_eq_append_getElem hlt, List.map_append]; rfl)
      obtain ⟨rA, rc, hrv, -, -⟩ := (H.out.recs ps[k] (List.getElem_mem hlt)).form
      rw [hrv] at q3
      have hbw := hK.block' HB0.out
      have p0 := cell_at hbw 0
      have p1 := cell_at hbw 1
      simp only [List.getElem?_toArray, List.getElem?_cons_zero, List.getElem?_cons_succ] at p0 p1
      have g1 : (k : Int) < (ps.length : Int) := by omega
      obtain ⟨A3, c3, hv3⟩ := own_form hO
      subst hv3
      have HO := Lib.hid hO
      have hwl : w.heap.size < wr.heap.size := by have := hK.size; omega
      clear hO hbw hrv hcur
      go_wp2_with fail
      refine (HFI.out ps[k].1.num _ hnk ((hk0.trans hK).alloc _)).mono ?_
      rintro e w4 ⟨rfl, k4⟩
      have hK4 := (hK.alloc _).trans k4
      have hs4 := hK4.size
      have hO4 := own_kept HO.out (((Kept.refl wr).alloc _).trans k4)
      have HO4 := Lib.hid hO4
      clear hO4
      go_wp2_with (at_builtin; refine wpList_append_txts rfl _ _ rfl w1.heap.size _ _ _ [fileN ps[k].1.num] _ rfl rfl (own_kept HO4.out ((Kept.refl w4).alloc _)) (Txts.one w4 _ _) (by simp; omega) (by simp; omega) ?_; intro v5 w5 a1 a2 a3)
      go_roundw
      case rel =>
        refine ⟨k + 1, by go_num, by omega, ?_, (hK4.alloc _).grown a2 (own_ge HO4.out)⟩
        rw [HTS.out]
        exact a1
      case measure => simp [intOf]; omega
    · obtain rfl : k = ps.length := by omega
      rw [List.take_length] at hO
      have HO := Lib.hid hO
      clear hO
      go_wp2
      go_ret
      exact ⟨_, rfl, own_base' HO.out hk0.size, hk0.trans hK⟩
end Go.Proofs.YtcdeagmoldbicaaGreatDoor
