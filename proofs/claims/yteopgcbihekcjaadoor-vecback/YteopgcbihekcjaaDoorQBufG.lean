/- The library's grow over a writer, with just what it changes. -/
import Derived.Test.YteopgcbihekcjaaDoorQBuf
import Derived.Deep.RegionWith
import Derived.Lib.BufferAt
namespace Go.Proofs.YteopgcbihekcjaaDoor
open Go.RowKit

/-- The writer's row N has room for n bytes behind l, and the header says so. -/
def Roomy (w : World) (b : Nat) (bad : Bool) (l : List UInt8) (n N : Nat) : Prop :=
  ∃ cap cur lr, LibA.Three w b 0 69 (badCell bad) (.slice (some ⟨N, 0, none⟩) (l.length + n) cap) (.int .i64 0) (.int .i8 lr) ∧ w.heap[N]? = some (.cells cur 5 (0, 0)) ∧
    l.length + n ≤ cap ∧ cap ≤ maxLen ∧ cur.size = cap ∧ cur.toList.take l.length = Lib.byteCells l ∧ N ≠ b

/-- What the last steps of grow leave. -/
theorem grow_fin {w w2 : World} {b N n cap2 : Nat} {bad : Bool} {l : List UInt8} {lr : Int} {v0 : Value} {cells : Array Value} (hbk2 : LibA.Three w2 b 0 69 (badCell bad) v0 (.int .i64 0) (.int .i8 lr)) (hN : w2.heap[N]? = some (.cells cells 5 (0, 0)))
    (hcsz : cells.size = cap2) (htk : cells.toList.take l.length = Lib.byteCells l) (hcap2 : l.length + n ≤ cap2) (hcm2 : cap2 ≤ maxLen) (_hs : w.heap.size ≤ w2.heap.size) (hNb : N ≠ b) (hwN : w.heap.size ≤ N) (hg2 : w.grownBy w2 (some b)) (v1 : Value) :
    ∃ N', Roomy (((w2.setCell ⟨b, 0, none⟩ v1).setCell ⟨b, 1, none⟩ (.int .i64 0)).setCell ⟨b, 0, none⟩ (.slice (some ⟨N, 0, none⟩) (l.length + n) cap2)) b bad l n N' ∧
      w.grownBy (((w2.setCell ⟨b, 0, none⟩ v1).setCell ⟨b, 1, none⟩ (.int .i64 0)).setCell ⟨b, 0, none⟩ (.slice (some ⟨N, 0, none⟩) (l.length + n) cap2)) (some b) ∧ w.heap.size ≤ N' := by
  refine ⟨N, ⟨cap2, cells, lr, ((hbk2.set0 v1).set1 (.int .i64 0)).set0 _, ?_, hcap2, hcm2, hcsz, htk, hNb⟩, Lib.grownBy_setB (Lib.grownBy_setB (Lib.grownBy_setB hg2 0 _) 1 _) 0 _, hwN⟩
  rw [Below.heap_setCell _ _ _ _ hNb, Below.heap_setCell _ _ _ _ hNb, Below.heap_setCell _ _ _ _ hNb]
  exact hN

theorem nilEq (a : Option Addr) (n c : Nat) (W : World) : (binOp .eql 25 (.slice a n c) (.slice none 0 0)).run Tryd.prog W = .ok (.bool a.isNone) W := Lib.run_eql_slice_nil W _ _ a n c 0 0 Tryd.underlying25

set_option maxRecDepth 100000 in
set_option maxHeartbeats 1000000 in
theorem grow_row (b g cap n : Nat) (bad : Bool) (l : List UInt8) (lr : Int) (cur : Array Value) (w : World)
    (hbk : LibA.Three w b 0 69 (badCell bad) (.slice (some ⟨g, 0, none⟩) l.length cap) (.int .i64 0) (.int .i8 lr)) (hg : w.heap[g]? = some (.cells cur 5 (0, 0)))
    (hlc : l.length ≤ cap) (hcm : cap ≤ maxLen) (hcs : cur.size = cap) (htk : cur.toList.take l.length = Lib.byteCells l) (hgb : g ≠ b) (hn : 1 ≤ n) (hroom : cap - l.length < n) (hlim : l.length + n ≤ 140737488355328) (hl0 : 0 < l.length) :
    Calls Tryd.prog 41 #[.pointer (some ⟨b, 0, none⟩), .int .i64 (n : Int)] w fun e w' => e = .returned (.int .i64 (l.length : Int)) ∧ ∃ N, Roomy w' b bad l n N ∧ w.grownBy w' (some b) ∧ w.heap.size ≤ N := by
  have hIs : LibA.IsBuffer 69 (badCell bad) 5 0 b 0 (Lib.byteCells l) w := ⟨Nat.zero_le _, _, _, hbk, ⟨by simp, .inr ⟨g, cap, cur, by rw [byteCells_length], Nat.zero_le _, hg, by rw [byteCells_length]; exact hlc, hcm, by omega, by rw [byteCells_length, Nat.mul_one]; exact htk⟩⟩, by simp [Value.ownBlock]; exact hgb⟩
  have hnil := nilEq (some ⟨g, 0, none⟩) l.length cap
  simp only [Option.isNone_some] at hnil
  go_enter Tryd.func41, Tryd.ntmps41
  go_wp2_with (go_at_call 42; refine (Tryd.Buffer_Len_at _ _ 0 b 0 (Lib.byteCells l) _ hIs).mono ?_)
  rintro e W0 ⟨rfl, k, hW0⟩
  rw [byteCells_length]
  have hbk0 : LibA.Three W0 b 0 69 (badCell bad) (.slice (some ⟨g, 0, none⟩) l.length cap) (.int .i64 0) (.int .i8 lr) := by rw [hW0]; exact hbk
  have hg0 : W0.heap[g]? = some (.cells cur 5 (0, 0)) := by rw [hW0]; exact hg
  have c0 : W0.cell? ⟨b, 0, none⟩ = some (.slice (some ⟨g, 0, none⟩) l.length cap) := hbk0.c0
  have c1 : W0.cell? ⟨b, 1, none⟩ = some (.int .i64 0) := hbk0.c1
  have f0 : W0.frozen? ⟨b, 0, none⟩ = false := hbk0.f 0
  have f1 : W0.frozen? ⟨b, 1, none⟩ = false := hbk0.f 1
  have HW0 := Lib.hid hW0
  clear hW0 hIs
  have hcm' := hcm
  unfold maxLen at hcm'
  have hm0 : ((l.length : Int) == 0) = false := beq_eq_false_iff_ne.2 (by omega)
  go_wp2_with (go_at_call 40; refine (Tryd.Buffer_tryGrow_none_at b 0 _ l.length cap n _ c0 hlc hcm hroom).mono ?_; rintro e w' ⟨rfl, rfl⟩)
  have hc2 : cap ≤ 140737488355328 := by omega
  have h1' : ∀ v ∈ cur.toList.take l.length, v.oneCell' = true := by rw [htk]; exact Lib.byteCells_one l
  have hbW := hbk0.lt
  have hwn : IntKind.i64.wrap (n : Int) = n := by rw [IntKind.wrap_i64]; omega
  go_region_with (
      go_at_call 44
      refine (Tryd.bytes_growSlice_row g l.length cap n cur _ ?_ hcs hlc hn hlim hc2 h1').mono ?_
      exact hg0
      rintro e w2 ⟨cap2, cells, rfl, hN, hcsz, htk2, hcap2, hcm2, hbel⟩
      have hbk2 : LibA.Three w2 b 0 69 (badCell bad) (.slice (some ⟨g, 0, none⟩) l.length cap) (.int .i64 0) (.int .i8 lr) := hbk0.of_heap (hbel.block b hbW)
      have d0 : w2.cell? ⟨b, 0, none⟩ = some (.slice (some ⟨g, 0, none⟩) l.length cap) := hbk2.c0
      have d1 : w2.cell? ⟨b, 1, none⟩ = some (.int .i64 0) := hbk2.c1
      have e0 : w2.frozen? ⟨b, 0, none⟩ = false := hbk2.f 0
      have e1 : w2.frozen? ⟨b, 1, none⟩ = false := hbk2.f 1)
  all_goals (
    go_wp2
    go_ret
    exact ⟨rfl, grow_fin hbk2 hN hcsz (htk2.trans htk) hcap2 hcm2 (by rw [HW0.out] at hbel; exact hbel.size) (by have hb0 := hbk.lt; show w'.heap.size ≠ b; rw [HW0.out]; exact Nat.ne_of_gt hb0) (by rw [HW0.out]; exact Nat.le_refl _) (Lib.grownBy_below (w := w'.drew) (by rw [HW0.out]; exact ⟨rfl, rfl, rfl, Nat.le_refl _, fun _ _ _ => rfl⟩) hbel) _⟩)
end Go.Proofs.YteopgcbihekcjaaDoor
