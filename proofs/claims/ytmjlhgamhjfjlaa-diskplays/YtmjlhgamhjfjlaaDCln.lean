/- The walk of Clone. -/
import Derived.Test.YtmjlhgamhjfjlaaDCpy
set_option linter.unusedSimpArgs false
set_option linter.unusedVariables false
namespace Go.Proofs.Ytmjlhgamhjfjlaa
open Go.RowKit
set_option maxRecDepth 100000 in
set_option maxHeartbeats 8000000 in
theorem clone_ok (db mb : Nat) (st : St) (cap : Nat) (F : Nat → Prop) (w : World) (hd : Dsk w db mb st cap F) :
    Calls Try.prog 22 #[.pointer (some ⟨db, 0, none⟩)] w fun e w' => (∃ d, e = .returned d ∧ d ≠ .pointer none ∧ Disk w' d cap (mapV Prod.snd st) (ext no w w')) ∧ Kept w w' := by
  have HD := Lib.hid hd
  have c0 := hd.c0
  have c1 := hd.c1
  have c2 := hd.c2
  have hK0 := (Kept.refl w).drew
  have HC := Lib.hid (show ∀ W, Kept w W → _ from fun W hW => copied_any mb st F W (hd.tbl.kept hW) hd.short (filA_len hd))
  have hux : ∃ u, used (mapV Prod.snd st) = u := ⟨_, rfl⟩
  obtain ⟨u, hu⟩ := hux
  rw [hu] at c2
  have HU := Lib.hid hu
  clear hd hu
  go_enter Try.func22, Try.ntmps22
  go_wp2
  go_region_held3 (fun W => W.cell? ⟨db, 0, none⟩ = some (.map (some mb)) ∧ W.cell? ⟨db, 1, none⟩ = some (.int .i64 (cap : Int)) ∧ W.cell? ⟨db, 2, none⟩ = some (.int .i64 (u : Int)))
    (first | exact ⟨c0, c1, c2⟩ | exact ⟨hq1.cell c0, hq1.cell c1, hq1.cell c2⟩ | exact ⟨(hq1.alloc _).cell c0, (hq1.alloc _).cell c1, (hq1.alloc _).cell c2⟩)
    (first
      | (go_at_call 42; refine (HC.out _ hK0).mono ?_; rintro e w3 ⟨st3, rfl, hm3, ht3, hq⟩; have hq1 := hK0.trans hq; have HM3 := Lib.hid hm3; have HT3 := Lib.hid ht3; clear hm3 ht3))
  go_wp2
  go_ret
  have hKa := hq1.alloc (.cells #[.map (some w.heap.size), .int .i64 (cap : Int), .int .i64 (u : Int)] 70)
  refine ⟨⟨_, rfl, by simp, w3.heap.size, w.heap.size, st3, rfl, HM3.out, ?_⟩, hKa⟩
  have hb := heap_alloc_new w3 (.cells #[.map (some w.heap.size), .int .i64 (cap : Int), .int .i64 (u : Int)] 70)
  have hz : (w3.alloc (.cells #[.map (some w.heap.size), .int .i64 (cap : Int), .int .i64 (u : Int)] 70)).heap.size = w3.heap.size + 1 := by simp
  have hs := hq1.size
  have ht := HT3.out.kept ((Kept.refl w3).alloc (.cells #[.map (some w.heap.size), .int .i64 (cap : Int), .int .i64 (u : Int)] 70))
  have hml : w.heap.size < w3.heap.size := World.ownsMap.lt HT3.out.owns
  refine ⟨by rw [HM3.out, HU.out]; exact hb, ht.mono (fun g hg => .inr ?_), .inr ⟨hs, by omega⟩, by rw [HM3.out]; exact HD.out.good, by rw [HM3.out]; exact HD.out.fits, HD.out.capLe⟩
  have hww : w.drew.heap.size = w.heap.size := rfl
  rcases hg with h | h
  · omega
  · omega
/-- Clone. -/
theorem clone_any (d : Value) (cap : Nat) (fs : Fls) (F : Nat → Prop) (w : World) (hd : Disk w d cap fs F) :
    Calls Try.prog 22 #[d] w fun e w' => (∃ d', e = .returned d' ∧ d' ≠ .pointer none ∧ Disk w' d' cap fs (ext no w w')) ∧ Kept w w' := by
  obtain ⟨db, mb, st, rfl, rfl, hd⟩ := hd
  exact clone_ok db mb st cap F w hd
end Go.Proofs.Ytmjlhgamhjfjlaa
