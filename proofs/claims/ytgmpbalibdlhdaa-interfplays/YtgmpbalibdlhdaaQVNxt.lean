/- The walks of Next, of the document's Next, and of told. -/
import Derived.Test.YtgmpbalibdlhdaaQVBal
set_option linter.unusedSimpArgs false
set_option linter.unusedVariables false
namespace Go.Proofs.Ytgmpbalibdlhdaa
open Go.RowKit
theorem bLess_same (n r s : Int) : bLess n r n s = decide (r < s) := by unfold bLess; simp
theorem nextN_lt {n r rep : Int} (h : r < rep) : nextN n r rep = n := by unfold nextN; rw [if_neg (by omega)]
theorem nextN_le {n r rep : Int} (h : ¬ r < rep) : nextN n r rep = n + 1 := by unfold nextN; rw [if_pos (by omega)]
theorem next_bad {n r rep : Int} (h : nextOk n r rep = false) : nextA n r rep = 0 ∧ nextB n r rep = 0 ∧ nextE n r rep = 110 := by
  unfold nextA nextB nextE
  rw [h]
  exact ⟨rfl, rfl, rfl⟩
theorem next_good {n r rep : Int} (h : nextOk n r rep = true) : nextA n r rep = nextN n r rep ∧ nextB n r rep = rep ∧ nextE n r rep = 0 := by
  unfold nextA nextB nextE
  rw [h]
  exact ⟨rfl, rfl, rfl⟩
theorem put2 {w : World} {b : Nat} {t : TypeId} {x y : Value} (h : w.heap[b]? = some (.cells #[x, y] t (0, 0))) (u v : Value) : ((w.setCell ⟨b, 0, none⟩ u).setCell ⟨b, 1, none⟩ v).heap[b]? = some (.cells #[u, v] t (0, 0)) := by
  have h1 := Lib.heap_setCell_same (i := 0) h u
  have h2 := Lib.heap_setCell_same (i := 1) h1 v
  simpa using h2
theorem put2_kept {w0 w : World} {b : Nat} (k : Kept w0 w) (hb : w0.heap.size ≤ b) (u v : Value) : Kept w0 ((w.setCell ⟨b, 0, none⟩ u).setCell ⟨b, 1, none⟩ v) :=
  (Chg.setCell (F := fun g => w0.heap.size ≤ g) (Chg.setCell (F := fun g => w0.heap.size ≤ g) (Chg.of_kept k) _ (fun _ => hb)) _ (fun _ => hb)).kept (Kept.refl w0) (fun g x => x)
theorem two_new (w : World) (o : Obj) (t : TypeId) (x y : Value) : ((w.alloc o).alloc (.cells #[x, y] t)).heap[w.heap.size + 1]? = some (.cells #[x, y] t (0, 0)) := by
  have := heap_alloc_new (w.alloc o) (.cells #[x, y] t)
  simpa using this
theorem cells2 {w : World} {b : Nat} {t : TypeId} {x y : Value} (h : w.heap[b]? = some (.cells #[x, y] t (0, 0))) : w.cell? ⟨b, 0, none⟩ = some x ∧ w.cell? ⟨b, 1, none⟩ = some y := ⟨(cell_at h 0).trans rfl, (cell_at h 1).trans rfl⟩
theorem size_alloc2 (w : World) (o p : Obj) : ((w.alloc o).alloc p).heap.size = w.heap.size + 1 + 1 := by simp
theorem put1 {w : World} {b : Nat} {t : TypeId} {x y : Value} (h : w.heap[b]? = some (.cells #[x, y] t (0, 0))) (u : Value) : (w.setCell ⟨b, 0, none⟩ u).heap[b]? = some (.cells #[u, y] t (0, 0)) := by
  have h1 := Lib.heap_setCell_same (i := 0) h u
  simpa using h1
theorem put1_kept {w0 w : World} {b : Nat} (k : Kept w0 w) (hb : w0.heap.size ≤ b) (u : Value) : Kept w0 (w.setCell ⟨b, 0, none⟩ u) :=
  (Chg.setCell (F := fun g => w0.heap.size ≤ g) (Chg.of_kept k) _ (fun _ => hb)).kept (Kept.refl w0) (fun g x => x)
theorem heap_other (w : World) {b i : Nat} (u : Value) {k : Nat} (h : k ≠ b) : (w.setCell ⟨b, i, none⟩ u).heap[k]? = w.heap[k]? := Below.heap_setCell w ⟨b, i, none⟩ u k h
end Go.Proofs.Ytgmpbalibdlhdaa
