/- A writer's block and what a write to it may change; the walk of the library's WriteByte, Write and WriteString over it. The library's grow over a writer, with just what it changes. The library's grow over a writer that has no row yet; grow, whatever the writer holds; WriteByte, WriteString and Write. -/
import Derived.Test.YtennlckfmgfjbaaGreatDoorGDShelf4
import Derived.Test.YtennlckfmgfjbaaGreatDoorGCrc3
import Derived.Lib.BufferWrite
import Derived.Lib.BufferOwn
import Derived.Laws.CopyRow
import Derived.Deep.RegionWith
import Derived.Lib.BufferAt
import Derived.Test.YtennlckfmgfjbaaGreatDoorGApp3
import Derived.Laws.IdiomCopy
namespace Go.Proofs.YtennlckfmgfjbaaGreatDoor
open Go.RowKit

/-- What stands behind the buffer in the writer's block: whether a number was bad. -/
def badCell (bad : Bool) : Nat → Option Value := fun i => if i = 3 then some (.bool bad) else none
/-- The block of the row that the writer's buffer holds. -/
def rowOf (w : World) (b : Nat) : Option Nat := match w.cell? ⟨b, 0, none⟩ with
  | some v => v.ownBlock
  | none => none
/-- Block b is a writer that holds the bytes l (and has a row only if there are any). -/
def IsW (w : World) (b : Nat) (bad : Bool) (l : List UInt8) : Prop := LibA.IsBuffer 126 (badCell bad) 5 0 b 0 (Lib.byteCells l) w ∧ (l = [] → rowOf w b = none)
/-- Only the writer's block, its row and new blocks have changed. -/
structure WFr (b : Nat) (w w' : World) : Prop where
  os : w'.os = w.os
  tape : w'.tape = w.tape
  output : w'.output = w.output
  size : w.heap.size ≤ w'.heap.size
  block : ∀ k, k < w.heap.size → k ≠ b → rowOf w b ≠ some k → w'.heap[k]? = w.heap[k]?
  row : ∀ k, rowOf w' b = some k → rowOf w b = some k ∨ w.heap.size ≤ k

theorem WFr.refl (b : Nat) (w : World) : WFr b w w := ⟨rfl, rfl, rfl, Nat.le_refl _, fun _ _ _ _ => rfl, fun _ h => .inl h⟩
theorem WFr.trans {b : Nat} {w w1 w2 : World} (h : WFr b w w1) (k : WFr b w1 w2) : WFr b w w2 where
  os := k.os.trans h.os
  tape := k.tape.trans h.tape
  output := k.output.trans h.output
  size := Nat.le_trans h.size k.size
  block i hi hb hr := by
    rw [k.block i (Nat.lt_of_lt_of_le hi h.size) hb, h.block i hi hb hr]
    intro e
    rcases h.row i e with e | e
    · exact hr e
    · omega
  row i hi := by
    rcases k.row i hi with e | e
    · exact h.row i e
    · exact .inr (Nat.le_trans h.size e)
theorem WFr.drewN {b : Nat} {w w1 : World} (h : WFr b w w1) (n : Nat) : WFr b w (w1.drewN n) := ⟨h.os, h.tape, h.output, h.size, h.block, h.row⟩
/-- A writer that this call has made: all that was there ahead of it is kept. -/
theorem WFr.kept {b : Nat} {w0 w w' : World} (h : WFr b w w') (k : Kept w0 w) (hb : w0.heap.size ≤ b) (hr : ∀ i, rowOf w b = some i → w0.heap.size ≤ i) : Kept w0 w' :=
  ⟨h.os.trans k.os, h.tape.trans k.tape, h.output.trans k.output, Nat.le_trans k.size h.size, fun i hi => by
    rw [h.block i (Nat.lt_of_lt_of_le hi k.size) (by omega) (fun e => by have := hr i e; omega)]
    exact k.block i hi⟩
theorem WFr.rowKept {b : Nat} {n : Nat} {w w' : World} (h : WFr b w w') (hn : n ≤ w.heap.size) (hr : ∀ i, rowOf w b = some i → n ≤ i) : ∀ i, rowOf w' b = some i → n ≤ i := fun i hi => by
  rcases h.row i hi with e | e
  · exact hr i e
  · omega
theorem WFr.cell {b : Nat} {w w' : World} (h : WFr b w w') {a : Addr} {v : Value} (hc : w.cell? a = some v) (hb : a.block ≠ b) (hr : rowOf w b ≠ some a.block) : w'.cell? a = some v := by
  rw [World.cell?_of_block (h.block a.block (World.block_lt_of_cell? _ _ hc) hb hr)]; exact hc

theorem rowOf_three {w : World} {b : Nat} {T : TypeId} {R : Nat → Option Value} {x y z : Value} (h : LibA.Three w b 0 T R x y z) : rowOf w b = x.ownBlock := by
  unfold rowOf; rw [h.c0]

/-- The header of the block alone has changed, the row is the old one or a new one. -/
theorem WFr.of_grown {b : Nat} {w w' : World} (h : w.grownBy w' (some b)) (hr : ∀ k, rowOf w' b = some k → rowOf w b = some k ∨ w.heap.size ≤ k) : WFr b w w' :=
  ⟨h.os, h.tape, h.output, h.size, fun k hk hb _ => h.block k hk (fun e => hb (Option.some.inj e)), hr⟩

theorem byteCells_snoc (l : List UInt8) (c : UInt8) : Lib.byteCells l ++ [.int .u8 (c.toNat : Int)] = Lib.byteCells (l ++ [c]) := by simp [Lib.byteCells]

end Go.Proofs.YtennlckfmgfjbaaGreatDoor
namespace Go.Proofs.YtennlckfmgfjbaaGreatDoor
open Go.RowKit

/-- The writer's row N has room for n bytes behind l, and the header says so. -/
def Roomy (w : World) (b : Nat) (bad : Bool) (l : List UInt8) (n N : Nat) : Prop :=
  ∃ cap cur lr, LibA.Three w b 0 126 (badCell bad) (.slice (some ⟨N, 0, none⟩) (l.length + n) cap) (.int .i64 0) (.int .i8 lr) ∧ w.heap[N]? = some (.cells cur 5 (0, 0)) ∧
    l.length + n ≤ cap ∧ cap ≤ maxLen ∧ cur.size = cap ∧ cur.toList.take l.length = Lib.byteCells l ∧ N ≠ b

/-- What the last steps of grow leave. -/
theorem grow_fin {w w2 : World} {b N n cap2 : Nat} {bad : Bool} {l : List UInt8} {lr : Int} {v0 : Value} {cells : Array Value} (hbk2 : LibA.Three w2 b 0 126 (badCell bad) v0 (.int .i64 0) (.int .i8 lr)) (hN : w2.heap[N]? = some (.cells cells 5 (0, 0)))
    (hcsz : cells.size = cap2) (htk : cells.toList.take l.length = Lib.byteCells l) (hcap2 : l.length + n ≤ cap2) (hcm2 : cap2 ≤ maxLen) (_hs : w.heap.size ≤ w2.heap.size) (hNb : N ≠ b) (hwN : w.heap.size ≤ N) (hg2 : w.grownBy w2 (some b)) (v1 : Value) :
    ∃ N', Roomy (((w2.setCell ⟨b, 0, none⟩ v1).setCell ⟨b, 1, none⟩ (.int .i64 0)).setCell ⟨b, 0, none⟩ (.slice (some ⟨N, 0, none⟩) (l.length + n) cap2)) b bad l n N' ∧
      w.grownBy (((w2.setCell ⟨b, 0, none⟩ v1).setCell ⟨b, 1, none⟩ (.int .i64 0)).setCell ⟨b, 0, none⟩ (.slice (some ⟨N, 0, none⟩) (l.length + n) cap2)) (some b) ∧ w.heap.size ≤ N' := by
  refine ⟨N, ⟨cap2, cells, lr, ((hbk2.set0 v1).set1 (.int .i64 0)).set0 _, ?_, hcap2, hcm2, hcsz, htk, hNb⟩, Lib.grownBy_setB (Lib.grownBy_setB (Lib.grownBy_setB hg2 0 _) 1 _) 0 _, hwN⟩
  rw [Below.heap_setCell _ _ _ _ hNb, Below.heap_setCell _ _ _ _ hNb, Below.heap_setCell _ _ _ _ hNb]
  exact hN

theorem nilEq (a : Option Addr) (n c : Nat) (W : World) : (binOp .eql 39 (.slice a n c) (.slice none 0 0)).run Tryz.prog W = .ok (.bool a.isNone) W := Lib.run_eql_slice_nil W _ _ a n c 0 0 Tryz.underlying39

set_option maxRecDepth 100000 in
set_option maxHeartbeats 1000000 in
theorem grow_row (b g cap n : Nat) (bad : Bool) (l : List UInt8) (lr : Int) (cur : Array Value) (w : World)
    (hbk : LibA.Three w b 0 126 (badCell bad) (.slice (some ⟨g, 0, none⟩) l.length cap) (.int .i64 0) (.int .i8 lr)) (hg : w.heap[g]? = some (.cells cur 5 (0, 0)))
    (hlc : l.length ≤ cap) (hcm : cap ≤ maxLen) (hcs : cur.size = cap) (htk : cur.toList.take l.length = Lib.byteCells l) (hgb : g ≠ b) (hn : 1 ≤ n) (hroom : cap - l.length < n) (hlim : l.length + n ≤ 140737488355328) (hl0 : 0 < l.length) :
    Calls Tryz.prog 83 #[.pointer (some ⟨b, 0, none⟩), .int .i64 (n : Int)] w fun e w' => e = .returned (.int .i64 (l.length : Int)) ∧ ∃ N, Roomy w' b bad l n N ∧ w.grownBy w' (some b) ∧ w.heap.size ≤ N := by
  have hIs : LibA.IsBuffer 126 (badCell bad) 5 0 b 0 (Lib.byteCells l) w := ⟨Nat.zero_le _, _, _, hbk, ⟨by simp, .inr ⟨g, cap, cur, by rw [byteCells_length], Nat.zero_le _, hg, by rw [byteCells_length]; exact hlc, hcm, by omega, by rw [byteCells_length, Nat.mul_one]; exact htk⟩⟩, by simp [Value.ownBlock]; exact hgb⟩
  have hnil := nilEq (some ⟨g, 0, none⟩) l.length cap
  simp only [Option.isNone_some] at hnil
  go_enter Tryz.func83, Tryz.ntmps83
  go_wp2_with (go_at_call 107; refine (Tryz.Buffer_Len_at _ _ 0 b 0 (Lib.byteCells l) _ hIs).mono ?_)
  rintro e W0 ⟨rfl, k, hW0⟩
  rw [byteCells_length]
  have hbk0 : LibA.Three W0 b 0 126 (badCell bad) (.slice (some ⟨g, 0, none⟩) l.length cap) (.int .i64 0) (.int .i8 lr) := by rw [hW0]; exact hbk
  have hg0 : W0.heap[g]? = some (.cells cur 5 (0, 0)) := by rw [hW0]; exact hg
  have c0 : W0.cell? ⟨b, 0, none⟩ = some (.slice (some ⟨g, 0, none⟩) l.length cap) := hbk0.c0
  have c1 : W0.cell? ⟨b, 1, none⟩ = some (.int .i64 0) := hbk0.c1
  have f0 : W0.frozen? ⟨b, 0, none⟩ = false := hbk0.f 0
  have f1 : W0.frozen? ⟨b, 1, none⟩ = false := hbk0.f 1
  have HW0 := Lib.hid hW0
  clear hW0 hIs
  have hcm' := hcm
  unfold maxLen at hcm'
  have hm0 : ((l.length : Int) == 0) = false := beq_eq_false_iff_ne.2 (by omega)
  go_wp2_with (go_at_call 82; refine (Tryz.Buffer_tryGrow_none_at b 0 _ l.length cap n _ c0 hlc hcm hroom).mono ?_; rintro e w' ⟨rfl, rfl⟩)
  have hc2 : cap ≤ 140737488355328 := by omega
  have h1' : ∀ v ∈ cur.toList.take l.length, v.oneCell' = true := by rw [htk]; exact Lib.byteCells_one l
  have hbW := hbk0.lt
  have hwn : IntKind.i64.wrap (n : Int) = n := by rw [IntKind.wrap_i64]; omega
  go_region_with (
      go_at_call 109
      refine (Tryz.bytes_growSlice_row g l.length cap n cur _ ?_ hcs hlc hn hlim hc2 h1').mono ?_
      exact hg0
      rintro e w2 ⟨cap2, cells, rfl, hN, hcsz, htk2, hcap2, hcm2, hbel⟩
      have hbk2 : LibA.Three w2 b 0 126 (badCell bad) (.slice (some ⟨g, 0, none⟩) l.length cap) (.int .i64 0) (.int .i8 lr) := hbk0.of_heap (hbel.block b hbW)
      have d0 : w2.cell? ⟨b, 0, none⟩ = some (.slice (some ⟨g, 0, none⟩) l.length cap) := hbk2.c0
      have d1 : w2.cell? ⟨b, 1, none⟩ = some (.int .i64 0) := hbk2.c1
      have e0 : w2.frozen? ⟨b, 0, none⟩ = false := hbk2.f 0
      have e1 : w2.frozen? ⟨b, 1, none⟩ = false := hbk2.f 1)
  all_goals (
    go_wp2
    go_ret
    exact ⟨rfl, grow_fin hbk2 hN hcsz (htk2.trans htk) hcap2 hcm2 (by rw [HW0.out] at hbel; exact hbel.size) (by have hb0 := hbk.lt; show w'.heap.size ≠ b; rw [HW0.out]; exact Nat.ne_of_gt hb0) (by rw [HW0.out]; exact Nat.le_refl _) (Lib.grownBy_below (w := w'.drew) (by rw [HW0.out]; exact ⟨rfl, rfl, rfl, Nat.le_refl _, fun _ _ _ => rfl⟩) hbel) _⟩)
end Go.Proofs.YtennlckfmgfjbaaGreatDoor
namespace Go.Proofs.YtennlckfmgfjbaaGreatDoor
open Go.RowKit

set_option maxRecDepth 100000 in
set_option maxHeartbeats 1000000 in
theorem grow_small (b n : Nat) (bad : Bool) (lr : Int) (w : World) (hbk : LibA.Three w b 0 126 (badCell bad) (.slice none 0 0) (.int .i64 0) (.int .i8 lr)) (hn : 1 ≤ n) (h64 : n ≤ 64) :
    Calls Tryz.prog 83 #[.pointer (some ⟨b, 0, none⟩), .int .i64 (n : Int)] w fun e w' => e = .returned (.int .i64 0) ∧ ∃ N, Roomy w' b bad [] n N ∧ w.grownBy w' (some b) ∧ w.heap.size ≤ N := by
  obtain ⟨i0, hi, hz0, hz1, hz2⟩ := info_byte
  obtain ⟨M, hM⟩ : ∃ M, M = madeCells (Value.int .u8 0).cells ((64 : Int).toNat * i0.size) := ⟨_, rfl⟩
  have hMs : M.size = 64 := by rw [hM, size_madeCells, hz1]; rfl
  have hmk : ∀ W : World, (Instr.makeSlice 39 (.int .i64 (n : Int)) (.int .i64 64)).run Tryz.prog W = .ok (.slice (some ⟨W.heap.size, 0, none⟩) n 64) (W.alloc (.cells M 5)) := fun W => by
    have h := run_makeSlice (P := Tryz.prog) W 39 5 i0 (.int .u8 0) Tryz.underlying39 hi hz0 .i64 .i64 (n : Int) 64 (by omega) (by omega) (by rw [hz1]; decide) (by rw [hz2]; decide) (by decide)
    rw [← hM] at h
    simpa using h
  clear hM
  have hIs : LibA.IsBuffer 126 (badCell bad) 5 0 b 0 [] w := ⟨Nat.zero_le _, _, _, hbk, World.ownsRow_nil _ _ _ _, by simp [Value.ownBlock]⟩
  have hnil := nilEq none 0 0
  simp only [Option.isNone_none] at hnil
  go_enter Tryz.func83, Tryz.ntmps83
  go_wp2_with (go_at_call 107; refine (Tryz.Buffer_Len_at _ _ 0 b 0 [] _ hIs).mono ?_)
  rintro e W0 ⟨rfl, k, hW0⟩
  have hbk0 : LibA.Three W0 b 0 126 (badCell bad) (.slice none 0 0) (.int .i64 0) (.int .i8 lr) := by rw [hW0]; exact hbk
  have c0 : W0.cell? ⟨b, 0, none⟩ = some (.slice none 0 0) := hbk0.c0
  have c1 : W0.cell? ⟨b, 1, none⟩ = some (.int .i64 0) := hbk0.c1
  have f0 : W0.frozen? ⟨b, 0, none⟩ = false := hbk0.f 0
  have hbW0 := hbk0.lt
  have c0a : ∀ o, (W0.alloc o).cell? ⟨b, 0, none⟩ = some (.slice none 0 0) := fun o => (World.cell?_of_block (a := ⟨b, 0, none⟩) (Below.heap_alloc W0 o b hbW0)).trans c0
  have f0a : ∀ o, (W0.alloc o).frozen? ⟨b, 0, none⟩ = false := fun o => (World.frozen?_of_block (a := ⟨b, 0, none⟩) (Below.heap_alloc W0 o b hbW0)).trans f0
  have HW0 := Lib.hid hW0
  clear hW0 hIs
  go_wp2_with (go_at_call 82; refine (Tryz.Buffer_tryGrow_none_at b 0 _ 0 0 n _ c0 (Nat.le_refl _) (Nat.zero_le _) (by omega)).mono ?_; rintro e w' ⟨rfl, rfl⟩)
  go_ret
  refine ⟨rfl, w'.heap.size, ⟨64, M, lr, ?_, ?_, by simpa using h64, by decide, hMs, rfl, ?_⟩, ?_, ?_⟩
  · have h1 := hbk0.set0 (.slice (some ⟨w'.heap.size, 0, none⟩) n 64)
    simpa using h1.of_heap (Below.heap_alloc _ _ b (by simpa [World.setCell] using hbW0))
  · have h := heap_alloc_new (w'.setCell ⟨b, 0, none⟩ (.slice (some ⟨w'.heap.size, 0, none⟩) n 64)) (.cells M 5)
    have e : (w'.setCell ⟨b, 0, none⟩ (.slice (some ⟨w'.heap.size, 0, none⟩) n 64)).heap.size = w'.heap.size := by simp [World.setCell]
    rw [e] at h
    exact h
  · omega
  · exact Lib.grownBy_allocR (Lib.grownBy_setB (by rw [HW0.out]; exact ⟨rfl, rfl, rfl, Nat.le_refl _, fun _ _ _ => rfl⟩) 0 _) _
  · rw [HW0.out]; exact Nat.le_refl _

set_option maxRecDepth 100000 in
set_option maxHeartbeats 1000000 in
theorem grow_big (b n : Nat) (bad : Bool) (lr : Int) (w : World) (hbk : LibA.Three w b 0 126 (badCell bad) (.slice none 0 0) (.int .i64 0) (.int .i8 lr)) (h64 : 64 < n) (hlim : n ≤ 140737488355328) :
    Calls Tryz.prog 83 #[.pointer (some ⟨b, 0, none⟩), .int .i64 (n : Int)] w fun e w' => e = .returned (.int .i64 0) ∧ ∃ N, Roomy w' b bad [] n N ∧ w.grownBy w' (some b) ∧ w.heap.size ≤ N := by
  have hn : 1 ≤ n := by omega
  have hIs : LibA.IsBuffer 126 (badCell bad) 5 0 b 0 [] w := ⟨Nat.zero_le _, _, _, hbk, World.ownsRow_nil _ _ _ _, by simp [Value.ownBlock]⟩
  have hnil := nilEq none 0 0
  simp only [Option.isNone_none] at hnil
  go_enter Tryz.func83, Tryz.ntmps83
  go_wp2_with (go_at_call 107; refine (Tryz.Buffer_Len_at _ _ 0 b 0 [] _ hIs).mono ?_)
  rintro e W0 ⟨rfl, k, hW0⟩
  have hbk0 : LibA.Three W0 b 0 126 (badCell bad) (.slice none 0 0) (.int .i64 0) (.int .i8 lr) := by rw [hW0]; exact hbk
  have c0 : W0.cell? ⟨b, 0, none⟩ = some (.slice none 0 0) := hbk0.c0
  have c1 : W0.cell? ⟨b, 1, none⟩ = some (.int .i64 0) := hbk0.c1
  have f0 : W0.frozen? ⟨b, 0, none⟩ = false := hbk0.f 0
  have f1 : W0.frozen? ⟨b, 1, none⟩ = false := hbk0.f 1
  have HW0 := Lib.hid hW0
  clear hW0 hIs
  go_wp2_with (go_at_call 82; refine (Tryz.Buffer_tryGrow_none_at b 0 _ 0 0 n _ c0 (Nat.le_refl _) (Nat.zero_le _) (by omega)).mono ?_; rintro e w' ⟨rfl, rfl⟩)
  have hbW := hbk0.lt
  have hwn : IntKind.i64.wrap (n : Int) = n := by rw [IntKind.wrap_i64]; omega
  go_region_with (
      go_at_call 109
      refine (Tryz.bytes_growSlice_nil n _ hn hlim).mono ?_
      rintro e w2 ⟨cap2, cells, rfl, hN, hcsz, hcap2, hcm2, hbel⟩
      have hbk2 : LibA.Three w2 b 0 126 (badCell bad) (.slice none 0 0) (.int .i64 0) (.int .i8 lr) := hbk0.of_heap (hbel.block b hbW)
      have d0 : w2.cell? ⟨b, 0, none⟩ = some (.slice none 0 0) := hbk2.c0
      have d1 : w2.cell? ⟨b, 1, none⟩ = some (.int .i64 0) := hbk2.c1
      have e0 : w2.frozen? ⟨b, 0, none⟩ = false := hbk2.f 0
      have e1 : w2.frozen? ⟨b, 1, none⟩ = false := hbk2.f 1)
  all_goals (
    go_wp2
    go_ret
    have hfin := grow_fin (w := w) (l := []) (n := n) hbk2 hN hcsz rfl (by simpa using hcap2) hcm2 (by rw [HW0.out] at hbel; exact hbel.size) (by have hb0 := hbk.lt; show w'.heap.size ≠ b; rw [HW0.out]; exact Nat.ne_of_gt hb0) (by rw [HW0.out]; exact Nat.le_refl _) (Lib.grownBy_below (w := w'.drew) (by rw [HW0.out]; exact ⟨rfl, rfl, rfl, Nat.le_refl _, fun _ _ _ => rfl⟩) hbel) (.slice (some ⟨w'.heap.size, 0, none⟩) 0 cap2)
    rw [List.length_nil, Nat.zero_add] at hfin
    exact ⟨rfl, hfin⟩)
end Go.Proofs.YtennlckfmgfjbaaGreatDoor
