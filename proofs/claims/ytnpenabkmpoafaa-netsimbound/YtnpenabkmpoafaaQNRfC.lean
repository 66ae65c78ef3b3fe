/- A new network of the document. -/
import Derived.Test.YtnpenabkmpoafaaQNRf9
set_option linter.unusedSimpArgs false
set_option linter.unusedVariables false
namespace Go.Proofs.Ytnpenabkmpoafaa
open Go.RowKit
def zeroN : Array Value := #[.int .i64 0, .int .i64 0, .slice none 0 0] ++ zrow ++ zclk
theorem zero35 (w : World) : Sem.run Try.prog (zeroValue 35) w = .ok (.agg zeroN) w := by kernel_rfl
theorem zeroN_size : zeroN.size = 1059 := by unfold zeroN zrow zclk; simp
/-- The cells of a new network. -/
def newZ (n r : Int) : Array Value := (zeroN.setIfInBounds 0 (.int .i64 n)).setIfInBounds 1 (.int .i64 r)
def newRS (n r : Nat) : RS := { n := n, room := r, list := [], cut := fun _ _ => false, t := fun _ => 0 }
theorem newZ_ref (n r : Nat) : RefZ (newZ n r) (newRS n r) (.slice none 0 0) := by
  have hs := zeroN_size
  have hz : zrow.size = 1024 := zrow_size
  have hc : zclk.size = 32 := by unfold zclk; simp
  unfold newZ
  refine ⟨by simpa using hs, ?_, ?_, ?_, fun i j hi hj => ?_, fun i hi => ?_⟩
  · rw [Array.getElem?_setIfInBounds, if_neg (by omega), Array.getElem?_setIfInBounds, if_pos rfl, if_pos (by omega)]; rfl
  · rw [Array.getElem?_setIfInBounds, if_pos rfl, if_pos (by simp; omega)]; rfl
  · rw [Array.getElem?_setIfInBounds, if_neg (by omega), Array.getElem?_setIfInBounds, if_neg (by omega)]
    unfold zeroN
    rw [Array.append_assoc, Array.getElem?_append_left (by simp)]
    rfl
  · rw [Array.getElem?_setIfInBounds, if_neg (by omega), Array.getElem?_setIfInBounds, if_neg (by omega)]
    unfold zeroN
    rw [Array.append_assoc, Array.getElem?_append_right (by simp; omega), Array.getElem?_append_left (by simp; omega)]
    rw [zrow_at _ (by simp; omega)]
    rfl
  · rw [Array.getElem?_setIfInBounds, if_neg (by omega), Array.getElem?_setIfInBounds, if_neg (by omega)]
    unfold zeroN
    rw [Array.getElem?_append_right (by simp; omega)]
    unfold zclk
    rw [Array.getElem?_replicate, if_pos (by simp; omega)]
    rfl
theorem newRef (w : World) (n r : Nat) (hn : n ≤ 32) (hr : r ≤ 4096) : RefAt (w.alloc (.cells (newZ n r) 35)) w.heap.size (newZ n r) (.slice none 0 0) [] (newRS n r) (fun g => g = w.heap.size) :=
  ⟨heap_alloc_new w _, newZ_ref n r, World.ownsRow_nil _ _ _ _, fun y hy => (by cases hy), rfl, hn, hr, (by simp), rfl, fun g hg => (by cases hg), fun y hy => (by cases hy)⟩
end Go.Proofs.Ytnpenabkmpoafaa
