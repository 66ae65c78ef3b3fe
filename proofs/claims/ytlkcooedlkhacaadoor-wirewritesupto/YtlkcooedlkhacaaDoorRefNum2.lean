/- The walks of the document's CopyInts and Number. -/
import Derived.Test.YtlkcooedlkhacaaDoorRefNum
import Derived.Test.YtlkcooedlkhacaaDoorNumWalk
import Derived.Laws.CopyRow
import Derived.Laws.IdiomCopy
namespace Go.Proofs.YtlkcooedlkhacaaDoor
open Go.RowKit

theorem info_int : ∃ i, Tryd.prog.info? 3 = some i ∧ i.zero = some (.int .i64 0) ∧ i.size = 1 ∧ i.bytes = 8 := by
  have h : (Tryd.prog.info? 3).map (fun i => (i.zero, i.size, i.bytes)) = some (some (.int .i64 0), 1, 8) := by kernel_rfl
  cases hq : Tryd.prog.info? 3 with
  | none => rw [hq] at h; cases h
  | some i =>
    rw [hq] at h
    simp only [Option.map_some, Option.some.injEq, Prod.mk.injEq] at h
    exact ⟨i, rfl, h⟩
theorem ints_new (w : World) (l : List Int) (hl : l.length ≤ maxLen) (t : TypeId) (g : Nat) (h : w.heap[g]? = some (.cells (l.map (Value.int .i64)).toArray t (0, 0))) : Ints w (.slice (some ⟨g, 0, none⟩) l.length l.length) l := by
  refine ⟨_, l.length, rfl, Nat.le_refl _, hl, fun _ => ⟨g, 0, rfl, fun k x hx => ?_⟩⟩
  have := cell_of_row w g k _ t (0, 0) h
  rw [Nat.zero_add, this]
  simp [hx]

set_option maxRecDepth 100000 in
set_option maxHeartbeats 1000000 in
theorem copyInts_any (l : List Int) (v : Value) (w : World) (hv : Ints w v l) (hlim : l.length ≤ 1048576) :
    Calls Tryd.prog 12 #[v] w fun e w' => ∃ v', e = .returned v' ∧ Ints w' v' l ∧ Kept w w' := by
  obtain ⟨i0, hi, hz0, hz1, hz2⟩ := info_int
  obtain ⟨M, hM⟩ : ∃ M, M = madeCells (Value.int .i64 0).cells (((l.length : Nat) : Int).toNat * i0.size) := ⟨_, rfl⟩
  have hMs : M.size = l.length := by rw [hM, size_madeCells, hz1]; simp
  have hmk : ∀ W : World, (Instr.makeSlice 22 (.int .i64 ((l.length : Nat) : Int)) (.int .i64 ((l.length : Nat) : Int))).run Tryd.prog W = .ok (.slice (some ⟨W.heap.size, 0, none⟩) l.length l.length) (W.alloc (.cells M 3)) := fun W => by
    have h := run_makeSlice (P := Tryd.prog) W 22 3 i0 (.int .i64 0) Tryd.underlying22 hi hz0 .i64 .i64 ((l.length : Nat) : Int) ((l.length : Nat) : Int) (by omega) (by omega) (by rw [hz1]; omega) (by rw [hz2]; omega) (by omega)
    rw [← hM] at h
    simpa using h
  clear hM
  have hinfo : (Tryd.prog.info? 3).map (·.size) = some 1 := by rw [hi]; simp [hz1]
  obtain ⟨A, c, rfl, hc1, hc2, hcs⟩ := hv
  unfold maxLen at hc2
  have hnew : (w.alloc (.cells M 3)).heap[w.heap.size]? = some (.cells M 3 (0, 0)) := heap_alloc_new w _
  by_cases h0 : l.length = 0
  · obtain rfl : l = [] := List.eq_nil_of_length_eq_zero h0
    have hce : ∀ d dLen dCap W, (Builtin.copy_ #[22, 22] 3 #[.slice d dLen dCap, .slice A 0 c]).run Tryd.prog W = .ok (goInt 0) W := fun d dLen dCap W => run_copy_none W 22 22 3 3 d A dLen dCap 0 c Tryd.underlying22 hinfo (by simp)
    clear hcs hnew
    have hmk' : ∀ W : World, (Instr.makeSlice 22 (.int .i64 0) (.int .i64 0)).run Tryd.prog W = .ok (.slice (some ⟨W.heap.size, 0, none⟩) 0 0) (W.alloc (.cells M 3)) := hmk
    clear hmk
    rw [List.length_nil]
    go_enter Tryd.func12, Tryd.ntmps12
    go_wp2
    go_ret
    exact ⟨_, rfl, ⟨_, 0, rfl, Nat.le_refl _, by decide, fun h => absurd h (by simp)⟩, (Kept.refl w).alloc _⟩
  · obtain ⟨b, o, rfl, hcell⟩ := hcs (by omega)
    have hcp := run_copy_row (P := Tryd.prog) (w.alloc (.cells M 3)) 22 22 3 3 w.heap.size 0 l.length l.length ⟨b, o, none⟩ l.length c M 3 (l.map (Value.int .i64)) Tryd.underlying22 hinfo hnew (by simp) (fun j u hu => by
      have hj : j < l.length := by
        have := (List.getElem?_eq_some_iff.1 hu).1
        simpa using this
      have e : ((⟨b, o, none⟩ : Addr).add j) = ⟨b, o + j, none⟩ := by unfold Addr.add; split <;> simp_all
      rw [e, ((Kept.refl w).alloc _).cell (hcell j l[j] (by simp [hj]))]
      simp [hj] at hu
      rw [hu]) (by simp; omega) (fun u hu => by
        simp only [List.mem_map] at hu
        obtain ⟨x, -, rfl⟩ := hu
        rfl)
    have hend : (M.toList.take 0 ++ l.map (Value.int .i64) ++ M.toList.drop (0 + (l.map (Value.int .i64)).length)).toArray = (l.map (Value.int .i64)).toArray := by
      have hd : M.toList.drop (0 + (l.map (Value.int .i64)).length) = [] := List.drop_eq_nil_of_le (by simp; omega)
      rw [hd]; simp
    rw [hend] at hcp
    simp only [List.length_map] at hcp
    have hrow := setRow_heap (w.alloc (.cells M 3)) w.heap.size M (l.map (Value.int .i64)).toArray 3 (0, 0) hnew
    have hK : Kept w ((w.alloc (.cells M 3)).setRow w.heap.size (l.map (Value.int .i64)).toArray) := by
      have hk := (Kept.refl w).alloc (.cells M 3)
      refine ⟨hk.os, hk.tape, hk.output, by simp [World.setRow], fun k hk' => ?_⟩
      rw [setRow_other _ _ _ _ (by omega)]
      exact hk.block k hk'
    have HROW := Lib.hid hrow
    have HK := Lib.hid hK
    clear hrow hK hcell hnew hend hcs
    generalize hWE : (w.alloc (.cells M 3)).setRow w.heap.size (l.map (Value.int .i64)).toArray = WE at *
    clear hWE
    go_enter Tryd.func12, Tryd.ntmps12
    go_wp2
    go_ret
    exact ⟨_, rfl, ints_new WE l (by unfold maxLen; omega) _ _ HROW.out, HK.out⟩
end Go.Proofs.YtlkcooedlkhacaaDoor
