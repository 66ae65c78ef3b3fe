/- The walk of check. The walk of put. -/
import Derived.Test.YtngbgngfdklnlaaGreatDoorGDMem2
set_option linter.unusedSimpArgs false
set_option linter.unusedVariables false
namespace Go.Proofs.YtngbgngfdklnlaaGreatDoor
open Go.RowKit
theorem Kept.setCell {w w' : World} (h : Kept w w') {b o : Nat} (v : Value) (hb : w.heap.size ≤ b) : Kept w (w'.setCell ⟨b, o, none⟩ v) :=
  Chg.to_kept ((Chg.of_kept (F := no) h).setCell v (fun x => by omega))
theorem own_form {w : World} {b : Nat} {e : TypeId} {s n : Nat} {v : Value} {xs : List Value} (h : w.ownsRow b e s v n xs) : ∃ A c, v = .slice A n c := by
  rcases h.2 with ⟨rfl, h0⟩ | ⟨g, cap, cur, rfl, -⟩
  · exact ⟨none, 0, by rw [h0]⟩
  · exact ⟨_, _, rfl⟩
theorem FileAt.form {w : World} {v : Value} {f : Fl} (h : FileAt w v f) : ∃ A c, v = .agg #[.slice A f.1.length c, .int .i64 (f.2 : Int)] ∧ w.ownsRow 0 5 1 (.slice A f.1.length c) f.1.length (Lib.byteCells f.1) := by
  obtain ⟨sl, h1, h2⟩ := h
  obtain ⟨A, c, rfl⟩ := own_form h2
  exact ⟨A, c, h1, h2⟩
def allT (names : List Nm) (st : St) : Int := if names.all okN = false then 30 else if names.all (fun k => hasA k st) = false then 31 else 0
theorem allT_eq (names : List Nm) (st : St) : allT names st = allS names (mapV Prod.snd st) := by
  unfold allT allS
  congr 2
  simp only [hasA_mapV]
theorem okN_all_len {ls : List Nm} (h : ls.all okN = true) {k : Nat} (hk : k < ls.length) : ls[k].length ≤ 40 := okN_len (List.all_eq_true.1 h _ (List.getElem_mem hk))
set_option maxRecDepth 100000 in
set_option maxHeartbeats 1000000 in
theorem check_any (ls : List Nm) (v : Value) (mb : Nat) (st : St) (F : Nat → Prop) (w : World) (hv : Txts w v ls) (ht : Tbl w mb st F) :
    Calls Tryz.prog 62 #[.map (some mb), v] w fun e w' => e = .returned (.int .i64 (allT ls st)) ∧ Kept w w' := by
  have HV := Lib.hid hv
  have HT := Lib.hid ht
  have HC := Lib.hid (checkNames_any ls v w hv)
  obtain ⟨A, c, rfl, hc1, hc2⟩ := hv.form
  clear hv ht
  unfold maxLen at hc2
  cases hok : ls.all okN with
  | false =>
    have e1 : okL ls = 30 := by unfold okL; rw [hok]; rfl
    have E2 := Lib.hid (show allT ls st = 30 by unfold allT; rw [hok]; rfl)
    rw [e1] at HC
    clear hok e1
    go_enter Tryz.func62, Tryz.ntmps62
    go_wp2_with fail
    refine HC.out.mono ?_
    rintro e w' ⟨rfl, rfl⟩
    go_wp2
    go_ret
    exact ⟨ret_int E2.out.symm, Kept.refl _⟩
  | true =>
    have e1 : okL ls = 0 := by unfold okL; rw [hok]; rfl
    have HOK := Lib.hid hok
    rw [e1] at HC
    clear hok e1
    go_enter Tryz.func62, Tryz.ntmps62
    go_wp2_with fail
    refine HC.out.mono ?_
    rintro e w' ⟨rfl, rfl⟩
    go_wp2
    go_loopw [17] (fun i W => ∃ k : Nat, i = .int .i64 (k : Int) ∧ k ≤ ls.length ∧ (ls.take k).all (fun k => hasA k st) = true ∧ Kept w W) (fun i _ => ls.length - (intOf i).toNat)
    case atStart => exact ⟨0, rfl, Nat.zero_le _, rfl, Kept.refl _⟩
    case round =>
      obtain ⟨k, rfl, hk, hall, hK⟩ := hrel
      have HA := Lib.hid hall
      clear hall
      by_cases hlt : k < ls.length
      · obtain ⟨b, o, rfl, hcell⟩ := (HV.out.kept hK).at hlt
        have g1 : (k : Int) < (ls.length : Int) := by omega
        have hlk := ((HT.out.kept hK).owns).look_ok ls[k] (by have := okN_all_len HOK.out hlt; unfold maxLen; omega)
        obtain ⟨A2, c2, hsl, -⟩ := (HT.out.file ls[k]).form
        rw [hsl] at hlk
        clear hsl
        generalize (filA ls[k] st).2 = s at *
        generalize (filA ls[k] st).1.length = s' at *
        cases hb : hasA ls[k] st with
        | true =>
          have HB := Lib.hid hb
          rw [hb] at hlk
          clear hb
          go_wp2
          go_roundw
          case rel => exact ⟨k + 1, by go_num, by omega, all_take hlt HA.out HB.out, by first | exact hK.alloc _ | (refine Kept.setCell (Kept.setCell (hK.alloc _) _ hK.size) _ hK.size)⟩
          case measure => simp [intOf]; omega
        | false =>
          have HB := Lib.hid (show allT ls st = 31 by unfold allT; rw [HOK.out, all_bad hlt hb]; rfl)
          rw [hb] at hlk
          clear hb
          go_wp2
          go_ret
          exact ⟨ret_int HB.out.symm, by first | exact hK.alloc _ | (refine Kept.setCell (Kept.setCell (hK.alloc _) _ hK.size) _ hK.size)⟩
      · obtain rfl : k = ls.length := by omega
        rw [List.take_length] at HA
        go_wp2
        go_ret
        exact ⟨ret_int (by unfold allT; rw [HOK.out, HA.out]; rfl), hK⟩
end Go.Proofs.YtngbgngfdklnlaaGreatDoor
set_option linter.unusedSimpArgs false
set_option linter.unusedVariables false
namespace Go.Proofs.YtngbgngfdklnlaaGreatDoor
open Go.RowKit
/-- A store into the table, at a step of a region that draws its order. -/
theorem step_store {w : World} {ops : Array Oper} {o : Oper} {a : Act} {K : Act → World → Prop} {Q : Exit → Act → World → Prop} {E : Prop} (hgd : o.guard = none) (m x v : Operand)
    (ho : o.op = .mapUpdate 83 m x v) (mb : Nat) (st : St) (k : Nm) (val : Value) (f : Fl) (hm : a.eval m = .map (some mb)) (hx : a.eval x = .string ⟨k.toArray⟩) (hv : a.eval v = val)
    (hown : Owns w mb st) (hn : st.length < maxLen) (hk : k.length ≤ maxLen)
    (h : ∀ w', Owns w' mb (putA k (val, f) st) → w.grownBy w' (some mb) → K (a.put o.dst undef) w') :
    if Region.wanted o (yielded ops a.tmps) = true then Oper.wp Tryz.prog o a w K Q else E := by
  have hw : Region.wanted o (yielded ops a.tmps) = true := by simp [Region.wanted, hgd]
  rw [if_pos hw]
  obtain ⟨w', hrun, h2, h3⟩ := hown.store hn k hk val f
  unfold Oper.wp
  simp [execOp, ho, hm, hx, hv, hrun, Result.andThen]
  exact h w' h2 h3
set_option maxRecDepth 100000 in
set_option maxHeartbeats 1000000 in
theorem put_any (k : Nm) (sl : Value) (s : Int) (f : Fl) (mb : Nat) (st : St) (w : World) (hown : Owns w mb st) (hn : st.length < maxLen) (hk : k.length ≤ 140737488355328) :
    Calls Tryz.prog 56 #[.map (some mb), .string ⟨k.toArray⟩, .agg #[sl, .int .i64 s]] w fun e w' => e = .returned (.tuple #[]) ∧ Owns w' mb (putA k (.agg #[sl, .int .i64 s], f) st) ∧ Chg (fun g => g = mb) w w' := by
  have HO := Lib.hid hown
  have hlt := World.ownsMap.lt hown
  clear hown
  go_enter Tryz.func56, Tryz.ntmps56
  go_wp2
  have hB : (w.alloc (.cells #[sl, .int .i64 s] 112)).cell? ⟨w.heap.size, 0, none⟩ = some sl := by simp [go_sem]
  have hC : (w.alloc (.cells #[sl, .int .i64 s] 112)).cell? ⟨w.heap.size, 1, none⟩ = some (.int .i64 s) := by simp [go_sem]
  have hK := (Kept.refl w).alloc (.cells #[sl, .int .i64 s] 112)
  generalize w.alloc (.cells #[sl, .int .i64 s] 112) = w0 at *
  have hK0 := Kept.refl w0
  have HC := Lib.hid (show ∀ w, _ from fun w => sclone_any k w (by omega))
  go_region_held3 (fun W => W.cell? ⟨w.heap.size, 0, none⟩ = some sl ∧ W.cell? ⟨w.heap.size, 1, none⟩ = some (.int .i64 s))
    (first | exact ⟨hB, hC⟩ | exact ⟨hq1.cell hB, hq1.cell hC⟩ | exact ⟨hz1, hz2⟩)
    (first
      | (go_at_call 96; refine (HC.out _).mono ?_; rintro e w1 ⟨rfl, hq⟩; have hq1 := hK0.drew.trans hq; obtain ⟨w2, hrun, ho2, hg2⟩ := (HO.out.chg (Chg.of_kept (F := no) (hK.trans hq1)) (fun x => x)).store hn k (by unfold maxLen; omega) (.agg #[sl, .int .i64 s]) f; have hz1 := (hg2.block w.heap.size (Nat.lt_of_lt_of_le (World.block_lt_of_cell? _ _ hB) hq1.size) (by simp; omega)); have hz2 := (World.cell?_of_block (a := ⟨w.heap.size, 1, none⟩) hz1).trans (hq1.cell hC); have hz1 := (World.cell?_of_block (a := ⟨w.heap.size, 0, none⟩) hz1).trans (hq1.cell hB)))
  go_end0
  exact ⟨rfl, ho2, (Chg.of_kept (hK.trans hq1)).trans (Chg.of_grown hg2 (fun g hg _ => by simpa using hg.symm)) (fun _ _ x => x)⟩
end Go.Proofs.YtngbgngfdklnlaaGreatDoor
