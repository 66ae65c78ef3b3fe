/- A row of bytes, whatever they are; a byte turned over. -/
import Derived.Test.YtnpenabkmpoafaaQNMem
import Derived.Lib.BufferWrite
import Derived.Laws.BitsAllLaws
set_option linter.unusedSimpArgs false
set_option linter.unusedVariables false
namespace Go.Proofs.Ytnpenabkmpoafaa
open Go.RowKit
/-- Block g is a row of bytes, at least n of them, whatever they are. -/
def QRow (W : World) (g n : Nat) : Prop := ∃ cur, W.heap[g]? = some (.cells cur 5 (0, 0)) ∧ n ≤ cur.size ∧ ∀ i, i < n → ∃ x : Nat, x < 256 ∧ cur[i]? = some (.int .u8 (x : Int))
theorem QRow.at_ {W : World} {g n i : Nat} (h : QRow W g n) (hi : i < n) : (∃ x : Nat, x < 256 ∧ W.cell? ⟨g, i, none⟩ = some (.int .u8 (x : Int))) ∧ W.frozen? ⟨g, i, none⟩ = false := by
  obtain ⟨cur, h1, h2, h3⟩ := h
  obtain ⟨x, hx, hc⟩ := h3 i hi
  exact ⟨⟨x, hx, by rw [cell_at h1]; exact hc⟩, frozen_at h1 i⟩
theorem QRow.set_ {W : World} {g n : Nat} (h : QRow W g n) (i : Nat) (y : Nat) (hy : y < 256) : QRow (W.setCell ⟨g, i, none⟩ (.int .u8 (y : Int))) g n := by
  obtain ⟨cur, h1, h2, h3⟩ := h
  refine ⟨_, Lib.heap_setCell_same (i := i) h1 _, by simpa using h2, fun k hk => ?_⟩
  obtain ⟨x, hx, hc⟩ := h3 k hk
  by_cases e : i = k
  · subst e
    have : i < cur.size := by omega
    exact ⟨y, hy, by simp [this]⟩
  · exact ⟨x, hx, by rw [Array.getElem?_setIfInBounds_ne e]; exact hc⟩
theorem QRow.of_own {W : World} {base g n cap : Nat} {l : List UInt8} (h : W.ownsRow base 5 1 (.slice (some ⟨g, 0, none⟩) n cap) l.length (Lib.byteCells l)) : QRow W g l.length := by
  rcases h.2 with ⟨h0, -⟩ | ⟨g', cap', cur, hv, -, hg, hn, -, hs, ht⟩
  · cases h0
  · obtain rfl : g = g' := by
      injection hv with h1; injection h1 with h1; injection h1
    refine ⟨cur, hg, by omega, fun i hi => ⟨l[i].toNat, l[i].toNat_lt, ?_⟩⟩
    have h1 := congrArg (·[i]?) ht
    simp only [Nat.mul_one] at h1
    rw [List.getElem?_take_of_lt hi, Array.getElem?_toList] at h1
    rw [h1]
    simp [Lib.byteCells, hi]
theorem QRow.chg {F : Nat → Prop} {W W' : World} {g n : Nat} (h : QRow W g n) (c : Chg F W W') (hF : ¬ F g) : QRow W' g n := by
  obtain ⟨cur, h1, h2, h3⟩ := h
  exact ⟨cur, c.block' h1 hF, h2, h3⟩
theorem u8_not (x : Nat) (h : x < 256) : bits BinOp.xor IntKind.u8 IntKind.u8.max (x : Int) = ((255 ^^^ x : Nat) : Int) := by
  have e : IntKind.u8.max = ((255 : Nat) : Int) := rfl
  rw [e, u8_xor_nat _ _ (by decide) h]
theorem xor255_lt (x : Nat) (h : x < 256) : 255 ^^^ x < 256 := Nat.xor_lt_two_pow (n := 8) (by decide) (by omega)
end Go.Proofs.Ytnpenabkmpoafaa
