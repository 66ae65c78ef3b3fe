/- The walk of an index's Add: a Global. -/
import Derived.Test.YtgmpbalibdlhdaaQIAdd
import Derived.Deep.CutBlock
import Derived.Deep.DeepCutAuto
set_option linter.unusedSimpArgs false
set_option linter.unusedVariables false
namespace Go.Proofs.Ytgmpbalibdlhdaa
open Go.RowKit
section
variable {w : World} {xb mb n : Nat} {st : TSt} {L : List It}
theorem cells8 {w : World} {b : Nat} {n mb : Nat} {G A : Nat → Int} (h : w.heap[b]? = some (.cells (xcs n mb G A) 61 (0, 0))) :
    (w.cell? ⟨b, 2, none⟩ = some (.int .i64 (G 0)) ∧ w.cell? ⟨b, 3, none⟩ = some (.int .i64 (G 1)) ∧ w.cell? ⟨b, 4, none⟩ = some (.int .i64 (G 2)) ∧ w.cell? ⟨b, 5, none⟩ = some (.int .i64 (G 3)) ∧ w.cell? ⟨b, 6, none⟩ = some (.int .i64 (G 4)) ∧ w.cell? ⟨b, 7, none⟩ = some (.int .i64 (G 5)) ∧ w.cell? ⟨b, 8, none⟩ = some (.int .i64 (G 6)) ∧ w.cell? ⟨b, 9, none⟩ = some (.int .i64 (G 7))) ∧ w.cell? ⟨b, 10, none⟩ = some (.int .i64 (A 0)) ∧ w.cell? ⟨b, 11, none⟩ = some (.int .i64 (A 1)) ∧ w.cell? ⟨b, 12, none⟩ = some (.int .i64 (A 2)) ∧ w.cell? ⟨b, 13, none⟩ = some (.int .i64 (A 3)) ∧ w.cell? ⟨b, 14, none⟩ = some (.int .i64 (A 4)) ∧ w.cell? ⟨b, 15, none⟩ = some (.int .i64 (A 5)) ∧ w.cell? ⟨b, 16, none⟩ = some (.int .i64 (A 6)) ∧ w.cell? ⟨b, 17, none⟩ = some (.int .i64 (A 7)) := by
  refine ⟨⟨?_, ?_, ?_, ?_, ?_, ?_, ?_, ?_⟩, ?_, ?_, ?_, ?_, ?_, ?_, ?_, ?_⟩ <;> rw [cell_at h] <;> rfl
theorem putG {w : World} {b : Nat} {n mb : Nat} {G A : Nat → Int} (h : w.heap[b]? = some (.cells (xcs n mb G A) 61 (0, 0))) (f : Nat → Int) :
    (((((((((w).setCell ⟨b, 2, none⟩ (.int .i64 (f 0))).setCell ⟨b, 3, none⟩ (.int .i64 (f 1))).setCell ⟨b, 4, none⟩ (.int .i64 (f 2))).setCell ⟨b, 5, none⟩ (.int .i64 (f 3))).setCell ⟨b, 6, none⟩ (.int .i64 (f 4))).setCell ⟨b, 7, none⟩ (.int .i64 (f 5))).setCell ⟨b, 8, none⟩ (.int .i64 (f 6))).setCell ⟨b, 9, none⟩ (.int .i64 (f 7))).heap[b]? = some (.cells (xcs n mb f A) 61 (0, 0)) ∧ Chg (fun g => g = b) w (((((((((w).setCell ⟨b, 2, none⟩ (.int .i64 (f 0))).setCell ⟨b, 3, none⟩ (.int .i64 (f 1))).setCell ⟨b, 4, none⟩ (.int .i64 (f 2))).setCell ⟨b, 5, none⟩ (.int .i64 (f 3))).setCell ⟨b, 6, none⟩ (.int .i64 (f 4))).setCell ⟨b, 7, none⟩ (.int .i64 (f 5))).setCell ⟨b, 8, none⟩ (.int .i64 (f 6))).setCell ⟨b, 9, none⟩ (.int .i64 (f 7))) := by
  have h0 := Lib.heap_setCell_same (i := 2) h (.int .i64 (f 0))
  have h1 := Lib.heap_setCell_same (i := 3) h0 (.int .i64 (f 1))
  have h2 := Lib.heap_setCell_same (i := 4) h1 (.int .i64 (f 2))
  have h3 := Lib.heap_setCell_same (i := 5) h2 (.int .i64 (f 3))
  have h4 := Lib.heap_setCell_same (i := 6) h3 (.int .i64 (f 4))
  have h5 := Lib.heap_setCell_same (i := 7) h4 (.int .i64 (f 5))
  have h6 := Lib.heap_setCell_same (i := 8) h5 (.int .i64 (f 6))
  have h7 := Lib.heap_setCell_same (i := 9) h6 (.int .i64 (f 7))
  refine ⟨by simpa [xcs] using h7, ?_⟩
  exact ((((((((Chg.refl (fun g => g = b) w).setCell _ (fun _ => rfl)).setCell _ (fun _ => rfl)).setCell _ (fun _ => rfl)).setCell _ (fun _ => rfl)).setCell _ (fun _ => rfl)).setCell _ (fun _ => rfl)).setCell _ (fun _ => rfl)).setCell _ (fun _ => rfl)
theorem putA {w : World} {b : Nat} {n mb : Nat} {G A : Nat → Int} (h : w.heap[b]? = some (.cells (xcs n mb G A) 61 (0, 0))) (f : Nat → Int) :
    (((((((((w).setCell ⟨b, 10, none⟩ (.int .i64 (f 0))).setCell ⟨b, 11, none⟩ (.int .i64 (f 1))).setCell ⟨b, 12, none⟩ (.int .i64 (f 2))).setCell ⟨b, 13, none⟩ (.int .i64 (f 3))).setCell ⟨b, 14, none⟩ (.int .i64 (f 4))).setCell ⟨b, 15, none⟩ (.int .i64 (f 5))).setCell ⟨b, 16, none⟩ (.int .i64 (f 6))).setCell ⟨b, 17, none⟩ (.int .i64 (f 7))).heap[b]? = some (.cells (xcs n mb G f) 61 (0, 0)) ∧ Chg (fun g => g = b) w (((((((((w).setCell ⟨b, 10, none⟩ (.int .i64 (f 0))).setCell ⟨b, 11, none⟩ (.int .i64 (f 1))).setCell ⟨b, 12, none⟩ (.int .i64 (f 2))).setCell ⟨b, 13, none⟩ (.int .i64 (f 3))).setCell ⟨b, 14, none⟩ (.int .i64 (f 4))).setCell ⟨b, 15, none⟩ (.int .i64 (f 5))).setCell ⟨b, 16, none⟩ (.int .i64 (f 6))).setCell ⟨b, 17, none⟩ (.int .i64 (f 7))) := by
  have h0 := Lib.heap_setCell_same (i := 10) h (.int .i64 (f 0))
  have h1 := Lib.heap_setCell_same (i := 11) h0 (.int .i64 (f 1))
  have h2 := Lib.heap_setCell_same (i := 12) h1 (.int .i64 (f 2))
  have h3 := Lib.heap_setCell_same (i := 13) h2 (.int .i64 (f 3))
  have h4 := Lib.heap_setCell_same (i := 14) h3 (.int .i64 (f 4))
  have h5 := Lib.heap_setCell_same (i := 15) h4 (.int .i64 (f 5))
  have h6 := Lib.heap_setCell_same (i := 16) h5 (.int .i64 (f 6))
  have h7 := Lib.heap_setCell_same (i := 17) h6 (.int .i64 (f 7))
  refine ⟨by simpa [xcs] using h7, ?_⟩
  exact ((((((((Chg.refl (fun g => g = b) w).setCell _ (fun _ => rfl)).setCell _ (fun _ => rfl)).setCell _ (fun _ => rfl)).setCell _ (fun _ => rfl)).setCell _ (fun _ => rfl)).setCell _ (fun _ => rfl)).setCell _ (fun _ => rfl)).setCell _ (fun _ => rfl)
set_option maxRecDepth 100000 in
set_option maxHeartbeats 4000000 in
theorem add_global (h : IxAt w xb mb n st L) (x : It) (hx : okI n x) (hh : x.c.home.length ≤ 140737488355328) (hk : x.c.kind = 2) : Calls Try.prog 18 #[.pointer (some ⟨xb, 0, none⟩), x.c.v, x.id, .int .i64 x.seq] w (AddTo w xb mb n L x) := by
  have HR := Lib.hid (fun w' (c : Chg (fun g => g = xb) w w') hb => AddTo.of hx (h.global hx hh hk c hb) (c.mono (fun g _ e => .inl e)))
  have HKK := Lib.hid (show okK x.c.kind = true from decide_eq_true hx.1)
  have HB := Lib.hid h.blk
  have hlt := h.lt.1
  obtain ⟨-, h1, ⟨n1, n2⟩, s1, s2⟩ := hx
  have hn7 := h.size.2
  obtain ⟨⟨kind, home, da, dn, dc⟩, rep, num, seq⟩ := x
  simp only at *
  unfold Cm.v It.id Cm.dv
  clear h hh
  have HP := Lib.hid (show decide (0 ≤ rep ∧ rep < n) = true from decide_eq_true h1)
  have t1 : decide (num < 1) = false := decide_eq_false (by omega)
  have t2 : decide (4611686018427387903 < num) = false := decide_eq_false (by omega)
  have t3 : decide (seq < 0) = false := decide_eq_false (by omega)
  have t4 : decide (4611686018427387902 < seq) = false := decide_eq_false (by omega)
  subst hk
  have h7 : 0 ≤ rep ∧ rep < 7 := by omega
  have HWG := Lib.hid (fun W => with_any (tp pG L) rep num seq W h7)
  have HWA := Lib.hid (fun W => with_any (tp pA L) rep num seq W h7)
  clear h1 n1 n2 s1 s2 hn7 h7
  generalize wiT (tp pG L) rep num seq = G' at *
  generalize wiT (tp pA L) rep num seq = A' at *
  generalize tp pG L = G at *
  generalize tp pA L = A at *
  unfold tv tcs at HWG HWA
  have HK := Lib.hid (((Kept.refl w).alloc (.cells #[.int .i64 2, .string ⟨home.toArray⟩, .slice da dn dc] 34)).alloc (.cells #[.int .i64 rep, .int .i64 num] 47))
  have HB1 := Lib.hid (HK.out.block' HB.out)
  have HI := Lib.hid (two_new w (.cells #[.int .i64 2, .string ⟨home.toArray⟩, .slice da dn dc] 34) 47 (.int .i64 rep) (.int .i64 num))
  have HC := Lib.hid (cells3 (((Kept.refl _).alloc (.cells #[.int .i64 rep, .int .i64 num] 47)).block' (heap_alloc_new w (.cells #[.int .i64 2, .string ⟨home.toArray⟩, .slice da dn dc] 34))))
  have hc0 := HB1.out
  go_enter Try.func18, Try.ntmps18
  go_upto_region 1 with (fail)
  generalize (w.alloc (.cells #[.int .i64 2, .string ⟨home.toArray⟩, .slice da dn dc] 34)).alloc (.cells #[.int .i64 rep, .int .i64 num] 47) = w1 at *
  obtain ⟨i0, i1⟩ := cells2 HI.out
  obtain ⟨c0, c1, c2⟩ := HC.out
  clear hc0
  go_wp2_with fail
  refine (isKind_any 2 _).mono ?_
  rintro e w2 ⟨rfl, rfl⟩
  rw [HKK.out]
  go_wp2_with fail
  refine (xPlace_any n rep xb _ (by rw [cell_at HB1.out]; rfl)).mono ?_
  rintro e w2 ⟨rfl, rfl⟩
  rw [HP.out]
  clear c1 c2
  go_wp2
  have hKd := (Kept.refl w1).drew
  obtain ⟨⟨g0, g1, g2, g3, g4, g5, g6, g7⟩, a0, a1, a2, a3, a4, a5, a6, a7⟩ := cells8 (hKd.block' HB1.out)
  have j0 := hKd.cell i0
  have j1 := hKd.cell i1
  clear a0 a1 a2 a3 a4 a5 a6 a7 i0 i1
  go_region_with (go_at_call 31; refine (HWG.out _).mono ?_; rintro e w3 ⟨rfl, hk3⟩; have hkw := hKd.trans hk3; have hb3 := hkw.block' HB1.out; have f0 := frozen_at hb3 2; have f1 := frozen_at hb3 3; have f2 := frozen_at hb3 4; have f3 := frozen_at hb3 5; have f4 := frozen_at hb3 6; have f5 := frozen_at hb3 7; have f6 := frozen_at hb3 8; have f7 := frozen_at hb3 9; obtain ⟨⟨z0, z1, z2, z3, z4, z5, z6, z7⟩, -⟩ := cells8 hb3; have HB3 := Lib.hid hb3; have HK3 := Lib.hid hkw; clear hb3 hkw hk3)
  all_goals
    clear g0 g1 g2 g3 g4 g5 g6 g7 z0 z1 z2 z3 z4 z5 z6 z7 f0 f1 f2 f3 f4 f5 f6 f7 j0 j1
    obtain ⟨hb4, hc4⟩ := putG HB3.out G'
    have hi4 := hc4.block' (HK3.out.block' HI.out) (fun e => by omega)
    have hk4 := (Chg.of_kept (F := fun g => g = xb) HK3.out).trans hc4 (fun _ _ x => x)
    generalize ((((((((w3).setCell ⟨xb, 2, none⟩ (.int .i64 (G' 0))).setCell ⟨xb, 3, none⟩ (.int .i64 (G' 1))).setCell ⟨xb, 4, none⟩ (.int .i64 (G' 2))).setCell ⟨xb, 5, none⟩ (.int .i64 (G' 3))).setCell ⟨xb, 6, none⟩ (.int .i64 (G' 4))).setCell ⟨xb, 7, none⟩ (.int .i64 (G' 5))).setCell ⟨xb, 8, none⟩ (.int .i64 (G' 6))).setCell ⟨xb, 9, none⟩ (.int .i64 (G' 7)) = w4 at *
    have HB4 := Lib.hid hb4
    have HI4 := Lib.hid hi4
    have HC4 := Lib.hid hk4
    clear hb4 hc4 hi4 hk4
    go_wp2
    have hKe := (Kept.refl w4).drew
    obtain ⟨-, a0, a1, a2, a3, a4, a5, a6, a7⟩ := cells8 (hKe.block' HB4.out)
    obtain ⟨j0, j1⟩ := cells2 (hKe.block' HI4.out)
    go_region_with (go_at_call 31; refine (HWA.out _).mono ?_; rintro e w5 ⟨rfl, hk5⟩; have hkw := hKe.trans hk5; have hb3 := hkw.block' HB4.out; have f0 := frozen_at hb3 10; have f1 := frozen_at hb3 11; have f2 := frozen_at hb3 12; have f3 := frozen_at hb3 13; have f4 := frozen_at hb3 14; have f5 := frozen_at hb3 15; have f6 := frozen_at hb3 16; have f7 := frozen_at hb3 17; obtain ⟨-, z0, z1, z2, z3, z4, z5, z6, z7⟩ := cells8 hb3; have HB5 := Lib.hid hb3; have HK5 := Lib.hid hkw; clear hb3 hkw hk5)
    all_goals
      clear a0 a1 a2 a3 a4 a5 a6 a7 z0 z1 z2 z3 z4 z5 z6 z7 f0 f1 f2 f3 f4 f5 f6 f7 j0 j1
      obtain ⟨hb6, hc6⟩ := putA HB5.out A'
      have hk6 := ((Chg.of_kept (F := fun g => g = xb) HK.out).trans (HC4.out.trans ((Chg.of_kept (F := fun g => g = xb) HK5.out).trans hc6 (fun _ _ x => x)) (fun _ _ x => x)) (fun _ _ x => x))
      have HE := Lib.hid (HR.out _ hk6 hb6)
      clear hb6 hc6 hk6
      go_wp2
      go_ret
      exact HE.out
end
end Go.Proofs.Ytgmpbalibdlhdaa
