/- The walk of New. -/
import Derived.Test.YtnpenabkmpoafaaDoorQZDl
set_option linter.unusedSimpArgs false
set_option linter.unusedVariables false
namespace Go.Proofs.YtnpenabkmpoafaaDoor
open Go.RowKit
set_option maxRecDepth 100000 in
set_option maxHeartbeats 1000000 in
theorem znew_any (w : World) :
    Calls Tryd.prog 12 #[] w fun e w' => ∃ tb mb st, e = .returned (.pointer (some ⟨tb, 0, none⟩)) ∧ TreeAt w' tb mb st 0 (fresh w w') ∧ plainZ st = newT ∧ Kept w w' := by
  have hmm := @run_makeMap Tryd.prog
  have k1 := (Kept.refl w).alloc (.map #[] 0)
  have k2 := (Kept.refl (w.alloc (.map #[] 0))).alloc (.cells #[.int .i64 0, .int .i64 0, .int .i64 0, .int .i64 0, .slice none 0 0] 64)
  have s1 : (w.alloc (.map #[] 0)).heap.size = w.heap.size + 1 := by simp
  have hq : OwnsZ (w.alloc (.map #[] 0)) w.heap.size [] := World.ownsMap_made w Tryd.prog 9 rdV
  have hq2 : OwnsZ ((w.alloc (.map #[] 0)).alloc (.cells #[.int .i64 0, .int .i64 0, .int .i64 0, .int .i64 0, .slice none 0 0] 64)) w.heap.size [] := map_chg hq (Chg.of_kept (F := no) k2) (fun x => x)
  obtain ⟨w5, hrun, ho5, hg5⟩ := hq2.store (by decide) [47] (by decide) ⟨w.heap.size + 1, .slice none 0 0, zroot⟩
  have HO5 := Lib.hid ho5
  have HG5 := Lib.hid hg5
  unfold ptrZ at hrun
  simp only at hrun
  clear ho5 hg5 hq hq2
  go_enter Tryd.func12, Tryd.ntmps12
  go_wp2_with fail
  go_ret
  have hna := heap_alloc_new (w.alloc (.map #[] 0)) (.cells #[.int .i64 0, .int .i64 0, .int .i64 0, .int .i64 0, .slice none 0 0] 64)
  rw [s1] at hna
  have hc5 : Chg (fun g => g = w.heap.size) _ w5 := Chg.of_grown HG5.out (fun g hg _ => by cases hg; rfl)
  have k6 := (Kept.refl w5).alloc (.cells #[.map (some w.heap.size)] 60)
  have hs5 := hc5.size
  have s2 : ((w.alloc (.map #[] 0)).alloc (.cells #[.int .i64 0, .int .i64 0, .int .i64 0, .int .i64 0, .slice none 0 0] 64)).heap.size = w.heap.size + 2 := by simp
  have s6 : (w5.alloc (.cells #[.map (some w.heap.size)] 60)).heap.size = w5.heap.size + 1 := by simp
  have hn5 := k6.block' (hc5.block' hna (fun x => by omega))
  have ho6 : OwnsZ (w5.alloc (.cells #[.map (some w.heap.size)] 60)) w.heap.size (putZ [47] ⟨w.heap.size + 1, .slice none 0 0, zroot⟩ []) := map_chg HO5.out (Chg.of_kept (F := no) k6) (fun x => x)
  refine ⟨w5.heap.size, w.heap.size, _, rfl, ⟨heap_alloc_new w5 _, ho6, srt_putZ List.Pairwise.nil, fun p hp => ?_, List.pairwise_singleton _ _, Nat.le_refl 1, fun p hp => ?_, ?_, ?_, fun p hp => ?_, fun p hp g hg => ?_⟩, rfl, ((k1.trans k2).trans (Kept.refl _) |> fun k => Chg.kept k hc5 (fun g e => by omega)).trans k6⟩
  · obtain rfl : p = ([47], ⟨w.heap.size + 1, .slice none 0 0, zroot⟩) := List.mem_singleton.1 hp
    exact ⟨hn5, World.ownsRow_nil _ _ _ _⟩
  · obtain rfl : p = ([47], ⟨w.heap.size + 1, .slice none 0 0, zroot⟩) := List.mem_singleton.1 hp
    exact ⟨show (names [47]).isSome = true by decide, Nat.zero_le _, Nat.le_refl _, Nat.zero_le _, Nat.zero_le _, show -((0 : Nat) : Int) ≤ 0 by decide, show (0 : Int) ≤ ((0 : Nat) : Int) by decide⟩
  · exact .inr ⟨by omega, by omega⟩
  · exact .inr ⟨Nat.le_refl _, by omega⟩
  · obtain rfl : p = ([47], ⟨w.heap.size + 1, .slice none 0 0, zroot⟩) := List.mem_singleton.1 hp
    exact .inr ⟨Nat.le_succ _, by show w.heap.size + 1 < _; omega⟩
  · obtain rfl : p = ([47], ⟨w.heap.size + 1, .slice none 0 0, zroot⟩) := List.mem_singleton.1 hp
    cases hg
end Go.Proofs.YtnpenabkmpoafaaDoor
