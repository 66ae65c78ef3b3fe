/- The walks of New and of ahead. -/
import Derived.Test.YtgmpbalibdlhdaaQIIt
set_option linter.unusedSimpArgs false
set_option linter.unusedVariables false
namespace Go.Proofs.Ytgmpbalibdlhdaa
open Go.RowKit
/-- What New leaves. -/
def NewTo (w : World) (n : Int) (e : Ending) (w' : World) : Prop :=
  ((n < 1 ∨ 7 < n) ∧ e = .returned (.tuple #[.pointer none, .int .i64 90]) ∧ Kept w w') ∨
  ((1 ≤ n ∧ n ≤ 7) ∧ ∃ xb mb, e = .returned (.tuple #[.pointer (some ⟨xb, 0, none⟩), .int .i64 0]) ∧ IxAt w' xb mb n.toNat [] [] ∧ w.heap.size ≤ xb ∧ w.heap.size ≤ mb ∧ Kept w w')
set_option maxRecDepth 100000 in
set_option maxHeartbeats 1000000 in
theorem new_any (n : Int) (w : World) : Calls Try.prog 7 #[.int .i64 n] w (NewTo w n) := by
  have hmm := @run_makeMap Try.prog
  by_cases h1 : n < 1
  · have t1 : decide (n < 1) = true := decide_eq_true h1
    go_enter Try.func7, Try.ntmps7
    go_wp2
    go_ret2
    exact .inl ⟨.inl h1, rfl, Kept.refl _⟩
  · have t1 : decide (n < 1) = false := decide_eq_false h1
    by_cases h2 : 7 < n
    · have t2 : decide (7 < n) = true := decide_eq_true h2
      go_enter Try.func7, Try.ntmps7
      go_wp2
      go_ret2
      exact .inl ⟨.inr h2, rfl, Kept.refl _⟩
    · have t2 : decide (7 < n) = false := decide_eq_false h2
      have k1 := (Kept.refl w).alloc (.map #[] 0)
      have s1 : (w.alloc (.map #[] 0)).heap.size = w.heap.size + 1 := by simp
      have hq : OwnsT (w.alloc (.map #[] 0)) w.heap.size [] := World.ownsMap_made w Try.prog 9 rdV
      obtain ⟨m, rfl⟩ := Int.eq_ofNat_of_zero_le (show 0 ≤ n by omega)
      have hE : ∀ o, o = Obj.cells (xcs m w.heap.size (tp pG []) (tp pA [])) 61 (0, 0) → IxAt ((w.alloc (.map #[] 0)).alloc o) (w.heap.size + 1) w.heap.size m [] [] := by
        rintro o rfl
        have h3 := heap_alloc_new (w.alloc (.map #[] 0)) (.cells (xcs m w.heap.size (tp pG []) (tp pA [])) 61)
        rw [s1] at h3
        exact ⟨h3, hq.kept ((Kept.refl _).alloc _), List.Pairwise.nil, fun _ => rfl, fun _ => rfl, Nat.le_refl _, fun x hx => (by cases hx), (by omega), fun x hx => (by cases hx)⟩
      have HE := Lib.hid (hE _ rfl)
      have HK := Lib.hid (fun o o' => ((Kept.refl w).alloc o).alloc o')
      have HN := Lib.hid (And.intro h1 h2)
      clear hE hq k1
      go_enter Try.func7, Try.ntmps7
      go_wp2
      go_ret2
      exact .inr ⟨by have := HN.out; omega, w.heap.size + 1, w.heap.size, rfl, HE.out, by omega, Nat.le_refl _, HK.out _ _⟩
theorem putT {w : World} {b : Nat} {g : Nat → Int} (h : w.heap[b]? = some (.cells (tcs g) 59 (0, 0))) (f : Nat → Int) :
    (((((((((w).setCell ⟨b, 0, none⟩ (.int .i64 (f 0))).setCell ⟨b, 1, none⟩ (.int .i64 (f 1))).setCell ⟨b, 2, none⟩ (.int .i64 (f 2))).setCell ⟨b, 3, none⟩ (.int .i64 (f 3))).setCell ⟨b, 4, none⟩ (.int .i64 (f 4))).setCell ⟨b, 5, none⟩ (.int .i64 (f 5))).setCell ⟨b, 6, none⟩ (.int .i64 (f 6))).setCell ⟨b, 7, none⟩ (.int .i64 (f 7))).heap[b]? = some (.cells (tcs f) 59 (0, 0)) ∧ Chg (fun g => g = b) w (((((((((w).setCell ⟨b, 0, none⟩ (.int .i64 (f 0))).setCell ⟨b, 1, none⟩ (.int .i64 (f 1))).setCell ⟨b, 2, none⟩ (.int .i64 (f 2))).setCell ⟨b, 3, none⟩ (.int .i64 (f 3))).setCell ⟨b, 4, none⟩ (.int .i64 (f 4))).setCell ⟨b, 5, none⟩ (.int .i64 (f 5))).setCell ⟨b, 6, none⟩ (.int .i64 (f 6))).setCell ⟨b, 7, none⟩ (.int .i64 (f 7))) := by
  have h0 := Lib.heap_setCell_same (i := 0) h (.int .i64 (f 0))
  have h1 := Lib.heap_setCell_same (i := 1) h0 (.int .i64 (f 1))
  have h2 := Lib.heap_setCell_same (i := 2) h1 (.int .i64 (f 2))
  have h3 := Lib.heap_setCell_same (i := 3) h2 (.int .i64 (f 3))
  have h4 := Lib.heap_setCell_same (i := 4) h3 (.int .i64 (f 4))
  have h5 := Lib.heap_setCell_same (i := 5) h4 (.int .i64 (f 5))
  have h6 := Lib.heap_setCell_same (i := 6) h5 (.int .i64 (f 6))
  have h7 := Lib.heap_setCell_same (i := 7) h6 (.int .i64 (f 7))
  refine ⟨by simpa [tcs] using h7, ?_⟩
  exact ((((((((Chg.refl (fun g => g = b) w).setCell _ (fun _ => rfl)).setCell _ (fun _ => rfl)).setCell _ (fun _ => rfl)).setCell _ (fun _ => rfl)).setCell _ (fun _ => rfl)).setCell _ (fun _ => rfl)).setCell _ (fun _ => rfl)).setCell _ (fun _ => rfl)
theorem cellsT {w : World} {b : Nat} {f : Nat → Int} (h : w.heap[b]? = some (.cells (tcs f) 59 (0, 0))) : w.cell? ⟨b, 0, none⟩ = some (.int .i64 (f 0)) ∧ w.cell? ⟨b, 1, none⟩ = some (.int .i64 (f 1)) ∧ w.cell? ⟨b, 2, none⟩ = some (.int .i64 (f 2)) ∧ w.cell? ⟨b, 3, none⟩ = some (.int .i64 (f 3)) ∧ w.cell? ⟨b, 4, none⟩ = some (.int .i64 (f 4)) ∧ w.cell? ⟨b, 5, none⟩ = some (.int .i64 (f 5)) ∧ w.cell? ⟨b, 6, none⟩ = some (.int .i64 (f 6)) ∧ w.cell? ⟨b, 7, none⟩ = some (.int .i64 (f 7)) := by
  refine ⟨?_, ?_, ?_, ?_, ?_, ?_, ?_, ?_⟩ <;> rw [cell_at h] <;> rfl
set_option maxRecDepth 100000 in
set_option maxHeartbeats 2000000 in
theorem ahead_any {w : World} {xb mb n : Nat} {st : TSt} {L : List It} (h : IxAt w xb mb n st L) (c : Cm) (hc : okK c.kind = true) (hh : c.home.length ≤ 140737488355328) :
    Calls Try.prog 21 #[.pointer (some ⟨xb, 0, none⟩), c.v] w fun e w' => e = .returned (tv (ahT c L)) ∧ Kept w w' := by
  have HK := Lib.hid (fun o o' => ((Kept.refl w).alloc o).alloc o')
  have HB := Lib.hid h.blk
  have HLK := Lib.hid (fun X (k : Kept w X) => (h.kept k).owns.look c.home (by unfold maxLen; omega))
  have hv := h.vals c.home
  have HH := Lib.hid (fun e => aheadH h.good (c := c) e)
  have HG := Lib.hid (fun e => aheadG (L := L) (c := c) e)
  have HN := Lib.hid (fun e => aheadN (L := L) (c := c) e)
  have hlt := h.lt.1
  obtain ⟨kind, home, da, dn, dc⟩ := c
  simp only at *
  rw [hv] at HLK
  have hk := of_decide_eq_true hc
  clear h hc hh hv
  generalize ahT ⟨kind, home, da, dn, dc⟩ L = R at *
  generalize tp pG L = G at *
  generalize tp pA L = A at *
  generalize tp (pH home) L = V at *
  have HJ := Lib.hid (fun W => join_any V G W)
  unfold Cm.v Cm.dv
  have hk3 : kind = 0 ∨ kind = 2 ∨ kind = 1 := by omega
  clear hk
  rcases hk3 with rfl | rfl | rfl
  · obtain rfl := HN.out rfl
    unfold tv tcs
    go_enter Try.func21, Try.ntmps21
    go_wp2
    refine bodyPost_ret (v := .agg _) (by simp [results, Try.results21, go_sem]; rfl) rfl ?_
    exact ⟨rfl, HK.out _ _⟩
  · obtain rfl := HG.out rfl
    obtain ⟨-, a0, a1, a2, a3, a4, a5, a6, a7⟩ := cells8 HB.out
    unfold tv tcs
    go_enter Try.func21, Try.ntmps21
    go_wp2
    refine bodyPost_ret (v := .agg _) (by simp [results, Try.results21, go_sem]; rfl) rfl ?_
    exact ⟨rfl, HK.out _ _⟩
  · have hj := HH.out rfl
    obtain rfl := hj
    clear HH HG HN
    have HK0 := Lib.hid (((Kept.refl w).alloc (.cells #[.int .i64 1, .string ⟨home.toArray⟩, .slice da dn dc] 34)).alloc (.cells (tcs fun _ => 0) 59))
    have HC := Lib.hid (cells3 (((Kept.refl _).alloc (.cells (tcs fun _ => 0) 59)).block' (heap_alloc_new w (.cells #[.int .i64 1, .string ⟨home.toArray⟩, .slice da dn dc] 34))))
    have HZ := Lib.hid (show ((w.alloc (.cells #[.int .i64 1, .string ⟨home.toArray⟩, .slice da dn dc] 34)).alloc (.cells (tcs fun _ => 0) 59)).heap[w.heap.size + 1]? = some (.cells (tcs fun _ => 0) 59 (0, 0)) from by
      have := heap_alloc_new (w.alloc (.cells #[.int .i64 1, .string ⟨home.toArray⟩, .slice da dn dc] 34)) (.cells (tcs fun _ => 0) 59)
      simpa using this)
    unfold tv tcs at *
    go_enter Try.func21, Try.ntmps21
    go_upto_region 1 with (fail)
    generalize (w.alloc (.cells #[.int .i64 1, .string ⟨home.toArray⟩, .slice da dn dc] 34)).alloc _ = w1 at *
    obtain ⟨c0, c1, c2⟩ := HC.out
    go_wp2
    refine still_tail 11 (by kernel_rfl) (by kernel_rfl) (fun wd hKd => ?_)
    obtain ⟨⟨g0, g1, g2, g3, g4, g5, g6, g7⟩, -⟩ := cells8 ((HK0.out.trans hKd).block' HB.out)
    have c1 := hKd.cell c1
    have x1 : wd.cell? ⟨xb, 1, none⟩ = some (.map (some mb)) := by rw [cell_at ((HK0.out.trans hKd).block' HB.out)]; rfl
    have hl := HLK.out _ (HK0.out.trans hKd)
    simp only [List.take_succ_cons, List.take_zero, List.drop_succ_cons, List.drop_zero]
    repeat still_step
    refine wpStill_nil ?_
    clear g0 g1 g2 g3 g4 g5 g6 g7 c1 x1 hl
    go_wp2_with fail
    refine (HJ.out _).mono ?_
    rintro e w3 ⟨rfl, hk3⟩
    have HZ3 := Lib.hid (show w3.heap[w.heap.size + 1]? = some (.cells (tcs fun _ => 0) 59 (0, 0)) from (hKd.trans hk3).block' HZ.out)
    have HK3 := Lib.hid ((HK0.out.trans hKd).trans hk3)
    obtain ⟨z0, z1, z2, z3, z4, z5, z6, z7⟩ := cellsT HZ3.out
    have f0 := frozen_at HZ3.out 0
    have f1 := frozen_at HZ3.out 1
    have f2 := frozen_at HZ3.out 2
    have f3 := frozen_at HZ3.out 3
    have f4 := frozen_at HZ3.out 4
    have f5 := frozen_at HZ3.out 5
    have f6 := frozen_at HZ3.out 6
    have f7 := frozen_at HZ3.out 7
    obtain ⟨hb9, hc9⟩ := putT HZ3.out (joT V G)
    have HB9 := Lib.hid hb9
    have HK9 := Lib.hid ((Chg.of_kept (F := fun g => g = w.heap.size + 1) HK3.out).trans hc9 (fun _ _ x => x) |>.kept (Kept.refl w) (fun g x => by omega))
    clear hb9 hc9 hk3 hKd
    go_wp2
    (try simp only [Exit.inBlock, Exit.then])
    have hp := HB9.out
    have hk := HK9.out
    generalize ((((((((w3).setCell ⟨w.heap.size + 1, 0, none⟩ (.int .i64 (joT V G 0))).setCell ⟨w.heap.size + 1, 1, none⟩ (.int .i64 (joT V G 1))).setCell ⟨w.heap.size + 1, 2, none⟩ (.int .i64 (joT V G 2))).setCell ⟨w.heap.size + 1, 3, none⟩ (.int .i64 (joT V G 3))).setCell ⟨w.heap.size + 1, 4, none⟩ (.int .i64 (joT V G 4))).setCell ⟨w.heap.size + 1, 5, none⟩ (.int .i64 (joT V G 5))).setCell ⟨w.heap.size + 1, 6, none⟩ (.int .i64 (joT V G 6))).setCell ⟨w.heap.size + 1, 7, none⟩ (.int .i64 (joT V G 7)) = w9 at hp hk ⊢
    obtain ⟨d0, d1, d2, d3, d4, d5, d6, d7⟩ := cellsT hp
    refine bodyPost_ret (v := .agg _) (by simp [results, Try.results21, go_sem, d0, d1, d2, d3, d4, d5, d6, d7]; rfl) rfl ?_
    exact ⟨rfl, hk⟩
end Go.Proofs.Ytgmpbalibdlhdaa
