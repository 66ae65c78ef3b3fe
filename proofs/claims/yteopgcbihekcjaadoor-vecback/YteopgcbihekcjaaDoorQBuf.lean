/- A writer's block and what a write to it may change; the walk of the library's WriteByte, Write and WriteString over it. -/
import Derived.Test.YteopgcbihekcjaaDoorGDShelf2
import Derived.Test.YteopgcbihekcjaaDoorGCrc3
import Derived.Lib.BufferWrite
import Derived.Lib.BufferOwn
import Derived.Laws.CopyRow
namespace Go.Proofs.YteopgcbihekcjaaDoor
open Go.RowKit

/-- What stands behind the buffer in the writer's block: whether a number was bad. -/
def badCell (bad : Bool) : Nat → Option Value := fun i => if i = 3 then some (.bool bad) else none
/-- The block of the row that the writer's buffer holds. -/
def rowOf (w : World) (b : Nat) : Option Nat := match w.cell? ⟨b, 0, none⟩ with
  | some v => v.ownBlock
  | none => none
/-- Block b is a writer that holds the bytes l (and has a row only if there are any). -/
def IsW (w : World) (b : Nat) (bad : Bool) (l : List UInt8) : Prop := LibA.IsBuffer 69 (badCell bad) 5 0 b 0 (Lib.byteCells l) w ∧ (l = [] → rowOf w b = none)
/-- Only the writer's block, its row and new blocks have changed. -/
structure WFr (b : Nat) (w w' : World) : Prop where
  os : w'.os = w.os
  tape : w'.tape = w.tape
  output : w'.output = w.output
  size : w.heap.size ≤ w'.heap.size
  block : ∀ k, k < w.heap.size → k ≠ b → rowOf w b ≠ some k → w'.heap[k]? = w.heap[k]?
  row : ∀ k, rowOf w' b = some k → rowOf w b = some k ∨ w.heap.size ≤ k

theorem WFr.refl (b : Nat) (w : World) : WFr b w w := ⟨rfl, rfl, rfl, Nat.le_refl _, fun _ _ _ _ => rfl, fun _ h => .inl h⟩
theorem WFr.trans {b : Nat} {w w1 w2 : World} (h : WFr b w w1) (k : WFr b w1 w2) : WFr b w w2 where
  os := k.os.trans h.os
  tape := k.tape.trans h.tape
  output := k.output.trans h.output
  size := Nat.le_trans h.size k.size
  block i hi hb hr := by
    rw [k.block i (Nat.lt_of_lt_of_le hi h.size) hb, h.block i hi hb hr]
    intro e
    rcases h.row i e with e | e
    · exact hr e
    · omega
  row i hi := by
    rcases k.row i hi with e | e
    · exact h.row i e
    · exact .inr (Nat.le_trans h.size e)
theorem WFr.drewN {b : Nat} {w w1 : World} (h : WFr b w w1) (n : Nat) : WFr b w (w1.drewN n) := ⟨h.os, h.tape, h.output, h.size, h.block, h.row⟩
/-- A writer that this call has made: all that was there ahead of it is kept. -/
theorem WFr.kept {b : Nat} {w0 w w' : World} (h : WFr b w w') (k : Kept w0 w) (hb : w0.heap.size ≤ b) (hr : ∀ i, rowOf w b = some i → w0.heap.size ≤ i) : Kept w0 w' :=
  ⟨h.os.trans k.os, h.tape.trans k.tape, h.output.trans k.output, Nat.le_trans k.size h.size, fun i hi => by
    rw [h.block i (Nat.lt_of_lt_of_le hi k.size) (by omega) (fun e => by have := hr i e; omega)]
    exact k.block i hi⟩
theorem WFr.rowKept {b : Nat} {n : Nat} {w w' : World} (h : WFr b w w') (hn : n ≤ w.heap.size) (hr : ∀ i, rowOf w b = some i → n ≤ i) : ∀ i, rowOf w' b = some i → n ≤ i := fun i hi => by
  rcases h.row i hi with e | e
  · exact hr i e
  · omega
theorem WFr.cell {b : Nat} {w w' : World} (h : WFr b w w') {a : Addr} {v : Value} (hc : w.cell? a = some v) (hb : a.block ≠ b) (hr : rowOf w b ≠ some a.block) : w'.cell? a = some v := by
  rw [World.cell?_of_block (h.block a.block (World.block_lt_of_cell? _ _ hc) hb hr)]; exact hc

theorem rowOf_three {w : World} {b : Nat} {T : TypeId} {R : Nat → Option Value} {x y z : Value} (h : LibA.Three w b 0 T R x y z) : rowOf w b = x.ownBlock := by
  unfold rowOf; rw [h.c0]

/-- The header of the block alone has changed, the row is the old one or a new one. -/
theorem WFr.of_grown {b : Nat} {w w' : World} (h : w.grownBy w' (some b)) (hr : ∀ k, rowOf w' b = some k → rowOf w b = some k ∨ w.heap.size ≤ k) : WFr b w w' :=
  ⟨h.os, h.tape, h.output, h.size, fun k hk hb _ => h.block k hk (fun e => hb (Option.some.inj e)), hr⟩

theorem byteCells_snoc (l : List UInt8) (c : UInt8) : Lib.byteCells l ++ [.int .u8 (c.toNat : Int)] = Lib.byteCells (l ++ [c]) := by simp [Lib.byteCells]

end Go.Proofs.YteopgcbihekcjaaDoor
