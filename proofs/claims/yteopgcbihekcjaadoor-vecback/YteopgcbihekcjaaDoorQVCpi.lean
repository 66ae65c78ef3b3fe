/- The walk of the document's CopyInts. -/
import Derived.Test.YteopgcbihekcjaaDoorQVVec
import Derived.Laws.CopyOwn
set_option linter.unusedSimpArgs false
set_option linter.unusedVariables false
namespace Go.Proofs.YteopgcbihekcjaaDoor
open Go.RowKit
set_option maxRecDepth 100000 in
set_option maxHeartbeats 4000000 in
theorem copyInts_any (l : List Int) (v : Value) (w : World) (hv : Ints w v l) (hl : l.length ≤ 17592186044416) :
    Calls Tryd.prog 5 #[v] w fun e w' => ∃ v', e = .returned v' ∧ w'.ownsRow w.heap.size 3 1 v' l.length (l.map (Value.int .i64)) ∧ Kept w w' := by
  obtain ⟨A, c, rfl, hc1, hc2, hcs⟩ := hv
  unfold maxLen at hc2
  obtain ⟨i, hi, hz, hs, hb⟩ := info_int
  obtain ⟨w1, hmk, hrow, hgr⟩ := run_make_full (P := Tryd.prog) w w.heap.size 24 3 i (.int .i64 0) 1 Tryd.underlying24 hi hz hs .i64 .i64 l.length (by rw [hb]; omega) (by unfold maxLen; omega) (Nat.le_refl _)
  have hk1 : Kept w w1 := (Chg.of_grown (F := no) hgr (fun g hg => by cases hg)).to_kept
  obtain ⟨cur, hcur, hcs2⟩ : ∃ cur : Array Value, w1.heap[w.heap.size]? = some (.cells cur 3 (0, 0)) ∧ cur.size = l.length := by
    rcases hrow.2 with ⟨e, -⟩ | ⟨g, cap, cur, e, -, h1, -, -, h2, -⟩
    · cases e
    · obtain ⟨rfl, rfl⟩ : w.heap.size = g ∧ l.length = cap := by simpa using e
      exact ⟨cur, h1, by simpa using h2⟩
  have HCUR := Lib.hid hcur
  have HCS := Lib.hid hcs
  have HCS2 := Lib.hid hcs2
  have HML := Lib.hid (show (l.map (Value.int .i64)).length = l.length by simp)
  clear hrow hgr hcur hcs hcs2 hi hz hs hb
  go_enter Tryd.func5, Tryd.ntmps5
  go_wp2_with (refine wpList_copy_splice (o := ⟨some 9, _, _, _, _, _⟩) rfl (.tmp 7) (.tmp 8) 24 24 rfl 3 Tryd.underlying24 size_int (some ⟨w.heap.size, 0, none⟩) A l.length l.length l.length c rfl rfl w.heap.size 0 cur.toList 3 (by simpa using HCUR.out) (l.map (Value.int .i64)) ?_ ?_ ?_ ?_ w.heap.size w hk1 (Nat.le_refl _) ?_)
  · rw [HML.out]; exact (Nat.min_self _).symm
  · intro hp
    obtain ⟨b, o, rfl, hc⟩ := HCS.out hp
    refine ⟨_, rfl, fun j x hx => ?_⟩
    have e : ((⟨b, o, none⟩ : Addr).add j) = ⟨b, o + j, none⟩ := by unfold Addr.add; split <;> simp_all
    rw [e]
    exact hk1.cell (hc j x hx)
  · rw [HML.out]; simp [HCS2.out]
  · intro u hu
    obtain ⟨x, -, rfl⟩ := List.mem_map.1 hu
    rfl
  · intro w2 hg2 hb2
    have HG2 := hg2
    clear hg2
    go_wp2
    go_ret
    refine ⟨_, rfl, ⟨by simp, .inr ⟨w.heap.size, l.length, _, rfl, Nat.le_refl _, HG2.out, Nat.le_refl _, by unfold maxLen; omega, ?_, ?_⟩⟩, hb2⟩
    · simp [splice, HCS2.out]
    · simp [splice, HCS2.out]
end Go.Proofs.YteopgcbihekcjaaDoor
