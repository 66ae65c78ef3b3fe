/- The walk of put. -/
import Derived.Test.YtmjlhgamhjfjlaaDTab
set_option linter.unusedSimpArgs false
set_option linter.unusedVariables false
namespace Go.Proofs.Ytmjlhgamhjfjlaa
open Go.RowKit
/-- A store into the table, at a step of a region that draws its order. -/
theorem step_store {w : World} {ops : Array Oper} {o : Oper} {a : Act} {K : Act → World → Prop} {Q : Exit → Act → World → Prop} {E : Prop} (hgd : o.guard = none) (m x v : Operand)
    (ho : o.op = .mapUpdate 68 m x v) (mb : Nat) (st : St) (k : Nm) (val : Value) (f : Fl) (hm : a.eval m = .map (some mb)) (hx : a.eval x = .string ⟨k.toArray⟩) (hv : a.eval v = val)
    (hown : Owns w mb st) (hn : st.length < maxLen) (hk : k.length ≤ maxLen)
    (h : ∀ w', Owns w' mb (putA k (val, f) st) → w.grownBy w' (some mb) → K (a.put o.dst undef) w') :
    if Region.wanted o (yielded ops a.tmps) = true then Oper.wp Try.prog o a w K Q else E := by
  have hw : Region.wanted o (yielded ops a.tmps) = true := by simp [Region.wanted, hgd]
  rw [if_pos hw]
  obtain ⟨w', hrun, h2, h3⟩ := hown.store hn k hk val f
  unfold Oper.wp
  simp [execOp, ho, hm, hx, hv, hrun, Result.andThen]
  exact h w' h2 h3
set_option maxRecDepth 100000 in
set_option maxHeartbeats 1000000 in
theorem put_any (k : Nm) (sl : Value) (s : Int) (f : Fl) (mb : Nat) (st : St) (w : World) (hown : Owns w mb st) (hn : st.length < maxLen) (hk : k.length ≤ 140737488355328) :
    Calls Try.prog 32 #[.map (some mb), .string ⟨k.toArray⟩, .agg #[sl, .int .i64 s]] w fun e w' => e = .returned (.tuple #[]) ∧ Owns w' mb (putA k (.agg #[sl, .int .i64 s], f) st) ∧ Chg (fun g => g = mb) w w' := by
  have HO := Lib.hid hown
  have hlt := World.ownsMap.lt hown
  clear hown
  go_enter Try.func32, Try.ntmps32
  go_wp2
  have hB : (w.alloc (.cells #[sl, .int .i64 s] 72)).cell? ⟨w.heap.size, 0, none⟩ = some sl := by simp [go_sem]
  have hC : (w.alloc (.cells #[sl, .int .i64 s] 72)).cell? ⟨w.heap.size, 1, none⟩ = some (.int .i64 s) := by simp [go_sem]
  have hK := (Kept.refl w).alloc (.cells #[sl, .int .i64 s] 72)
  generalize w.alloc (.cells #[sl, .int .i64 s] 72) = w0 at *
  have hK0 := Kept.refl w0
  have HC := Lib.hid (show ∀ w, _ from fun w => sclone_any k w (by omega))
  go_region_held3 (fun W => W.cell? ⟨w.heap.size, 0, none⟩ = some sl ∧ W.cell? ⟨w.heap.size, 1, none⟩ = some (.int .i64 s))
    (first | exact ⟨hB, hC⟩ | exact ⟨hq1.cell hB, hq1.cell hC⟩ | exact ⟨hz1, hz2⟩)
    (first
      | (go_at_call 45; refine (HC.out _).mono ?_; rintro e w1 ⟨rfl, hq⟩; have hq1 := hK0.drew.trans hq; obtain ⟨w2, hrun, ho2, hg2⟩ := (HO.out.chg (Chg.of_kept (F := no) (hK.trans hq1)) (fun x => x)).store hn k (by unfold maxLen; omega) (.agg #[sl, .int .i64 s]) f; have hz1 := (hg2.block w.heap.size (Nat.lt_of_lt_of_le (World.block_lt_of_cell? _ _ hB) hq1.size) (by simp; omega)); have hz2 := (World.cell?_of_block (a := ⟨w.heap.size, 1, none⟩) hz1).trans (hq1.cell hC); have hz1 := (World.cell?_of_block (a := ⟨w.heap.size, 0, none⟩) hz1).trans (hq1.cell hB)))
  go_end0
  exact ⟨rfl, ho2, (Chg.of_kept (hK.trans hq1)).trans (Chg.of_grown hg2 (fun g hg _ => by simpa using hg.symm)) (fun _ _ x => x)⟩
end Go.Proofs.Ytmjlhgamhjfjlaa
