/- The walk of step: Drop. The walk of step: Repeat. The walk of step: Cut. The walk of step: Heal; any other kind. The walk of step: Lose. The walk of step: Advance. -/
import Derived.Test.YtnpenabkmpoafaaGNDuo2
import Derived.Deep.CutBlock
import Derived.Deep.DeepCutAuto
set_option linter.unusedSimpArgs false
set_option linter.unusedVariables false
namespace Go.Proofs.Ytnpenabkmpoafaa
open Go.RowKit
set_option maxRecDepth 100000 in
set_option maxHeartbeats 4000000 in
theorem step_drop (x : Op6) (A : Nat → Prop) (w0 w : World) (nb db : Nat) (s : NS) (d : RS) (lim : Nat) (h : Duo A w0 w nb db s d lim) (hk : x.kind = 3) (hl : lim + 2 < maxLen) :
    Calls Try.prog 8 #[.pointer (some ⟨nb, 0, none⟩), .pointer (some ⟨db, 0, none⟩), .agg #[.int .i64 x.kind, .int .i64 x.a, .int .i64 x.b, .int .i64 x.n, x.lv, x.nv]] w (StepTo A w0 w nb db s d lim x) := by
  have e1 : (x.kind == 1) = false := by simp [hk]
  have e2 : (x.kind == 2) = false := by simp [hk]
  have e3 : (x.kind == 3) = true := by simp [hk]
  have HS := Lib.hid (show stepS s x = delS s x.a x.b x.n ∧ rStepS d x = rDelS d x.a x.b x.n by unfold stepS rStepS; simp [hk])
  clear hk
  have hKa : Kept w (w.alloc (.cells #[.int .i64 x.kind, .int .i64 x.a, .int .i64 x.b, .int .i64 x.n, x.lv, x.nv] 39)) := (Kept.refl w).alloc _
  have hba := heap_alloc_new w (.cells #[.int .i64 x.kind, .int .i64 x.a, .int .i64 x.b, .int .i64 x.n, x.lv, x.nv] 39)
  have hbz : w.heap.size < (w.alloc (.cells #[.int .i64 x.kind, .int .i64 x.a, .int .i64 x.b, .int .i64 x.n, x.lv, x.nv] 39)).heap.size := by simp
  have HD := Lib.hid (h.grow hKa (A' := fun g => A g ∨ g = w.heap.size) (fun g y => y.elim .inl (fun e => .inr (by subst e; exact ⟨Nat.le_refl _, hbz⟩))))
  have HKA := Lib.hid hKa
  have HOLD := Lib.hid h.old
  clear h
  go_enter Try.func8, Try.ntmps8
  go_upto_region 1 with (fail)
  generalize w.alloc (.cells #[.int .i64 x.kind, .int .i64 x.a, .int .i64 x.b, .int .i64 x.n, x.lv, x.nv] 39) = wa at *
  have q0 := cell_at hba 0
  have q1 := cell_at hba 1
  have q2 := cell_at hba 2
  have q3 := cell_at hba 3
  have q4 := cell_at hba 4
  have q5 := cell_at hba 5
  simp only [List.getElem?_toArray, List.getElem?_cons_zero, List.getElem?_cons_succ] at q0 q1 q2 q3 q4 q5
  have HBA := Lib.hid hba
  clear hba
  have HC := Lib.hid (refDeliver_duo HD.out x.a x.b x.n)
  go_wp2_with fail
  refine HC.out.mono ?_
  rintro e w4 ⟨⟨mv, rfl, -⟩, hd4, hc4⟩
  have HD4 := Lib.hid hd4
  have HC4 := Lib.hid hc4
  have z1 := box_cell (.inr rfl) q1 hc4
  have z2 := box_cell (.inr rfl) q2 hc4
  have z3 := box_cell (.inr rfl) q3 hc4
  have HN := Lib.hid (drop_duo hd4 x.a x.b x.n hl)
  clear hd4 hc4 q0 q1 q2 q3 q4 q5
  go_wp2_with fail
  refine HN.out.mono ?_
  rintro e w5 ⟨rfl, hd5, hc5⟩
  have HD5 := Lib.hid hd5
  have HC5 := Lib.hid hc5
  clear hd5 hc5
  go_wp2
  go_ret
  refine ⟨_, rfl, fun hr => by rw [hr.wait]; simp, ?_, ?_⟩
  · rw [HS.out.1, HS.out.2]
    exact (HD5.out.grow (Kept.refl _) fun g y => .inl (.inl y))
  · exact ((Chg.of_kept (F := offA A w0) HKA.out).trans HC4.out (fun g _ y => ⟨y.1, fun a => y.2 (.inl a)⟩)).trans HC5.out (fun g _ y => ⟨y.1, fun a => y.2 (.inl a)⟩)
end Go.Proofs.Ytnpenabkmpoafaa
set_option linter.unusedSimpArgs false
set_option linter.unusedVariables false
namespace Go.Proofs.Ytnpenabkmpoafaa
open Go.RowKit
set_option maxRecDepth 100000 in
set_option maxHeartbeats 4000000 in
theorem step_repeat (x : Op6) (A : Nat → Prop) (w0 w : World) (nb db : Nat) (s : NS) (d : RS) (lim : Nat) (h : Duo A w0 w nb db s d lim) (hk : x.kind = 4) (hl : lim + 2 < maxLen) (hfew : d.list.length + 4096 ≤ 5000000) (hsm : ∀ y ∈ d.list, y.2.2.length ≤ 140737488355328) :
    Calls Try.prog 8 #[.pointer (some ⟨nb, 0, none⟩), .pointer (some ⟨db, 0, none⟩), .agg #[.int .i64 x.kind, .int .i64 x.a, .int .i64 x.b, .int .i64 x.n, x.lv, x.nv]] w (StepTo A w0 w nb db s d lim x) := by
  have e1 : (x.kind == 1) = false := by simp [hk]
  have e2 : (x.kind == 2) = false := by simp [hk]
  have e3 : (x.kind == 3) = false := by simp [hk]
  have e4 : (x.kind == 4) = true := by simp [hk]
  have HS := Lib.hid (show stepS s x = repS s x.a x.b x.n ∧ rStepS d x = rRepS d x.a x.b x.n by unfold stepS rStepS; simp [hk])
  clear hk
  have hKa : Kept w (w.alloc (.cells #[.int .i64 x.kind, .int .i64 x.a, .int .i64 x.b, .int .i64 x.n, x.lv, x.nv] 39)) := (Kept.refl w).alloc _
  have hba := heap_alloc_new w (.cells #[.int .i64 x.kind, .int .i64 x.a, .int .i64 x.b, .int .i64 x.n, x.lv, x.nv] 39)
  have hbz : w.heap.size < (w.alloc (.cells #[.int .i64 x.kind, .int .i64 x.a, .int .i64 x.b, .int .i64 x.n, x.lv, x.nv] 39)).heap.size := by simp
  have HD := Lib.hid (h.grow hKa (A' := fun g => A g ∨ g = w.heap.size) (fun g y => y.elim .inl (fun e => .inr (by subst e; exact ⟨Nat.le_refl _, hbz⟩))))
  have HKA := Lib.hid hKa
  have HOLD := Lib.hid h.old
  have HFW := Lib.hid hfew
  have HSM := Lib.hid hsm
  clear h hfew hsm
  go_enter Try.func8, Try.ntmps8
  go_upto_region 1 with (fail)
  generalize w.alloc (.cells #[.int .i64 x.kind, .int .i64 x.a, .int .i64 x.b, .int .i64 x.n, x.lv, x.nv] 39) = wa at *
  have q0 := cell_at hba 0
  have q1 := cell_at hba 1
  have q2 := cell_at hba 2
  have q3 := cell_at hba 3
  have q4 := cell_at hba 4
  have q5 := cell_at hba 5
  simp only [List.getElem?_toArray, List.getElem?_cons_zero, List.getElem?_cons_succ] at q0 q1 q2 q3 q4 q5
  have HBA := Lib.hid hba
  clear hba
  have hKd := (Kept.refl wa).drew
  have HC := Lib.hid (show ∀ W, Kept wa W → _ from fun W k => repeat_duo (HD.out.kept k) x.a x.b x.n hl)
  go_wp2_with fail
  go_region_held3 (fun W => W.cell? ⟨w.heap.size, 1, none⟩ = some (.int .i64 x.a) ∧ W.cell? ⟨w.heap.size, 2, none⟩ = some (.int .i64 x.b) ∧ W.cell? ⟨w.heap.size, 3, none⟩ = some (.int .i64 x.n))
    (first | exact ⟨q1, q2, q3⟩ | exact ⟨hKd.cell q1, hKd.cell q2, hKd.cell q3⟩ | exact ⟨z1, z2, z3⟩ | exact ⟨y1, y2, y3⟩)
    (first
      | (go_at_call 19; refine (HC.out _ hKd).mono ?_; rintro e w4 ⟨rfl, hd4, hc4⟩; have HD4 := Lib.hid hd4; have HC4 := Lib.hid hc4; have z1 := box_cell (.inr rfl) (hKd.cell q1) hc4; have z2 := box_cell (.inr rfl) (hKd.cell q2) hc4; have z3 := box_cell (.inr rfl) (hKd.cell q3) hc4; have HR := Lib.hid (refRepeat_duo hd4 x.a x.b x.n HFW.out HSM.out); clear hd4 hc4)
      | (go_at_call 20; refine HR.out.mono ?_; rintro e w5 ⟨rfl, hd5, hc5⟩; have HD5 := Lib.hid hd5; have HC5 := Lib.hid hc5; have y1 := box_cell (.inr rfl) z1 hc5; have y2 := box_cell (.inr rfl) z2 hc5; have y3 := box_cell (.inr rfl) z3 hc5; clear hd5 hc5))
  go_wp2
  go_ret
  refine ⟨_, rfl, fun hr => by rw [(hr.rep _ _ _).1]; simp, ?_, ?_⟩
  · rw [HS.out.1, HS.out.2]
    exact (HD5.out.grow (Kept.refl _) fun g y => .inl (.inl y))
  · exact ((Chg.of_kept (F := offA A w0) HKA.out.drew).trans HC4.out (fun g _ y => ⟨y.1, fun a => y.2 (.inl a)⟩)).trans HC5.out (fun g _ y => ⟨y.1, fun a => y.2 (.inl a)⟩)
end Go.Proofs.Ytnpenabkmpoafaa
set_option linter.unusedSimpArgs false
set_option linter.unusedVariables false
namespace Go.Proofs.Ytnpenabkmpoafaa
open Go.RowKit
set_option maxRecDepth 100000 in
set_option maxHeartbeats 4000000 in
theorem step_cut (x : Op6) (A : Nat → Prop) (w0 w : World) (nb db : Nat) (s : NS) (d : RS) (lim : Nat) (h : Duo A w0 w nb db s d lim) (hk : x.kind = 5) (hl : lim + 2 < maxLen) :
    Calls Try.prog 8 #[.pointer (some ⟨nb, 0, none⟩), .pointer (some ⟨db, 0, none⟩), .agg #[.int .i64 x.kind, .int .i64 x.a, .int .i64 x.b, .int .i64 x.n, x.lv, x.nv]] w (StepTo A w0 w nb db s d lim x) := by
  have e1 : (x.kind == 1) = false := by simp [hk]
  have e2 : (x.kind == 2) = false := by simp [hk]
  have e3 : (x.kind == 3) = false := by simp [hk]
  have e4 : (x.kind == 4) = false := by simp [hk]
  have e5 : (x.kind == 5) = true := by simp [hk]
  have HS := Lib.hid (show stepS s x = cutS s x.a x.b ∧ rStepS d x = rCutS d x.a x.b by unfold stepS rStepS; simp [hk])
  clear hk
  have hKa : Kept w (w.alloc (.cells #[.int .i64 x.kind, .int .i64 x.a, .int .i64 x.b, .int .i64 x.n, x.lv, x.nv] 39)) := (Kept.refl w).alloc _
  have hba := heap_alloc_new w (.cells #[.int .i64 x.kind, .int .i64 x.a, .int .i64 x.b, .int .i64 x.n, x.lv, x.nv] 39)
  have hbz : w.heap.size < (w.alloc (.cells #[.int .i64 x.kind, .int .i64 x.a, .int .i64 x.b, .int .i64 x.n, x.lv, x.nv] 39)).heap.size := by simp
  have HD := Lib.hid (h.grow hKa (A' := fun g => A g ∨ g = w.heap.size) (fun g y => y.elim .inl (fun e => .inr (by subst e; exact ⟨Nat.le_refl _, hbz⟩))))
  have HKA := Lib.hid hKa
  have HOLD := Lib.hid h.old
  clear h
  go_enter Try.func8, Try.ntmps8
  go_upto_region 1 with (fail)
  generalize w.alloc (.cells #[.int .i64 x.kind, .int .i64 x.a, .int .i64 x.b, .int .i64 x.n, x.lv, x.nv] 39) = wa at *
  have q0 := cell_at hba 0
  have q1 := cell_at hba 1
  have q2 := cell_at hba 2
  have q3 := cell_at hba 3
  have q4 := cell_at hba 4
  have q5 := cell_at hba 5
  simp only [List.getElem?_toArray, List.getElem?_cons_zero, List.getElem?_cons_succ] at q0 q1 q2 q3 q4 q5
  have HBA := Lib.hid hba
  clear hba
  have hKd := (Kept.refl wa).drew
  have HC := Lib.hid (show ∀ W, Kept wa W → _ from fun W k => cut_duo (HD.out.kept k) x.a x.b hl)
  go_wp2_with fail
  go_region_held3 (fun W => W.cell? ⟨w.heap.size, 1, none⟩ = some (.int .i64 x.a) ∧ W.cell? ⟨w.heap.size, 2, none⟩ = some (.int .i64 x.b))
    (first | exact ⟨q1, q2⟩ | exact ⟨hKd.cell q1, hKd.cell q2⟩ | exact ⟨z1, z2⟩ | exact ⟨y1, y2⟩)
    (first
      | (go_at_call 21; refine (HC.out _ hKd).mono ?_; rintro e w4 ⟨rfl, hd4, hc4⟩; have HD4 := Lib.hid hd4; have HC4 := Lib.hid hc4; have z1 := box_cell (.inr rfl) (hKd.cell q1) hc4; have z2 := box_cell (.inr rfl) (hKd.cell q2) hc4; have HR := Lib.hid (refCut_duo hd4 x.a x.b); clear hd4 hc4)
      | (go_at_call 22; refine HR.out.mono ?_; rintro e w5 ⟨rfl, hd5, hc5⟩; have HD5 := Lib.hid hd5; have HC5 := Lib.hid hc5; have y1 := box_cell (.inr rfl) z1 hc5; have y2 := box_cell (.inr rfl) z2 hc5; clear hd5 hc5))
  go_wp2
  go_ret
  refine ⟨_, rfl, fun hr => by rw [hr.cutE]; simp, ?_, ?_⟩
  · rw [HS.out.1, HS.out.2]
    exact (HD5.out.grow (Kept.refl _) fun g y => .inl (.inl y))
  · exact ((Chg.of_kept (F := offA A w0) HKA.out.drew).trans HC4.out (fun g _ y => ⟨y.1, fun a => y.2 (.inl a)⟩)).trans HC5.out (fun g _ y => ⟨y.1, fun a => y.2 (.inl a)⟩)
end Go.Proofs.Ytnpenabkmpoafaa
set_option linter.unusedSimpArgs false
set_option linter.unusedVariables false
namespace Go.Proofs.Ytnpenabkmpoafaa
open Go.RowKit
set_option maxRecDepth 100000 in
set_option maxHeartbeats 4000000 in
theorem step_heal (x : Op6) (A : Nat → Prop) (w0 w : World) (nb db : Nat) (s : NS) (d : RS) (lim : Nat) (h : Duo A w0 w nb db s d lim) (hk : x.kind = 6) (hl : lim + 2 < maxLen) :
    Calls Try.prog 8 #[.pointer (some ⟨nb, 0, none⟩), .pointer (some ⟨db, 0, none⟩), .agg #[.int .i64 x.kind, .int .i64 x.a, .int .i64 x.b, .int .i64 x.n, x.lv, x.nv]] w (StepTo A w0 w nb db s d lim x) := by
  have e1 : (x.kind == 1) = false := by simp [hk]
  have e2 : (x.kind == 2) = false := by simp [hk]
  have e3 : (x.kind == 3) = false := by simp [hk]
  have e4 : (x.kind == 4) = false := by simp [hk]
  have e5 : (x.kind == 5) = false := by simp [hk]
  have e6 : (x.kind == 6) = true := by simp [hk]
  have HS := Lib.hid (show stepS s x = healS s ∧ rStepS d x = rHealS d by unfold stepS rStepS; simp [hk])
  clear hk
  have hKa : Kept w (w.alloc (.cells #[.int .i64 x.kind, .int .i64 x.a, .int .i64 x.b, .int .i64 x.n, x.lv, x.nv] 39)) := (Kept.refl w).alloc _
  have hba := heap_alloc_new w (.cells #[.int .i64 x.kind, .int .i64 x.a, .int .i64 x.b, .int .i64 x.n, x.lv, x.nv] 39)
  have hbz : w.heap.size < (w.alloc (.cells #[.int .i64 x.kind, .int .i64 x.a, .int .i64 x.b, .int .i64 x.n, x.lv, x.nv] 39)).heap.size := by simp
  have HD := Lib.hid (h.grow hKa (A' := fun g => A g ∨ g = w.heap.size) (fun g y => y.elim .inl (fun e => .inr (by subst e; exact ⟨Nat.le_refl _, hbz⟩))))
  have HKA := Lib.hid hKa
  have HOLD := Lib.hid h.old
  clear h
  go_enter Try.func8, Try.ntmps8
  go_upto_region 1 with (fail)
  generalize w.alloc (.cells #[.int .i64 x.kind, .int .i64 x.a, .int .i64 x.b, .int .i64 x.n, x.lv, x.nv] 39) = wa at *
  have q0 := cell_at hba 0
  have q1 := cell_at hba 1
  have q2 := cell_at hba 2
  have q3 := cell_at hba 3
  have q4 := cell_at hba 4
  have q5 := cell_at hba 5
  simp only [List.getElem?_toArray, List.getElem?_cons_zero, List.getElem?_cons_succ] at q0 q1 q2 q3 q4 q5
  have HBA := Lib.hid hba
  clear hba
  have HC := Lib.hid (heal_duo HD.out)
  go_wp2_with fail
  refine HC.out.mono ?_
  rintro e w4 ⟨rfl, hd4, hc4⟩
  have HD4 := Lib.hid hd4
  have HC4 := Lib.hid hc4
  have HN := Lib.hid (refHeal_duo hd4)
  clear hd4 hc4 q0 q1 q2 q3 q4 q5
  go_wp2_with fail
  refine HN.out.mono ?_
  rintro e w5 ⟨rfl, hd5, hc5⟩
  have HD5 := Lib.hid hd5
  have HC5 := Lib.hid hc5
  clear hd5 hc5
  go_wp2
  go_ret
  refine ⟨_, rfl, fun hr => rfl, ?_, ?_⟩
  · rw [HS.out.1, HS.out.2]
    exact (HD5.out.grow (Kept.refl _) fun g y => .inl (.inl y)).more (by omega)
  · exact ((Chg.of_kept (F := offA A w0) HKA.out).trans HC4.out (fun g _ y => ⟨y.1, fun a => y.2 (.inl a)⟩)).trans HC5.out (fun g _ y => ⟨y.1, fun a => y.2 (.inl a)⟩)
set_option maxRecDepth 100000 in
set_option maxHeartbeats 4000000 in
theorem step_other (x : Op6) (A : Nat → Prop) (w0 w : World) (nb db : Nat) (s : NS) (d : RS) (lim : Nat) (h : Duo A w0 w nb db s d lim) (hk : x.kind < 1 ∨ 8 < x.kind) (hl : lim + 2 < maxLen) :
    Calls Try.prog 8 #[.pointer (some ⟨nb, 0, none⟩), .pointer (some ⟨db, 0, none⟩), .agg #[.int .i64 x.kind, .int .i64 x.a, .int .i64 x.b, .int .i64 x.n, x.lv, x.nv]] w (StepTo A w0 w nb db s d lim x) := by
  have e1 : (x.kind == 1) = false := by simp; omega
  have e2 : (x.kind == 2) = false := by simp; omega
  have e3 : (x.kind == 3) = false := by simp; omega
  have e4 : (x.kind == 4) = false := by simp; omega
  have e5 : (x.kind == 5) = false := by simp; omega
  have e6 : (x.kind == 6) = false := by simp; omega
  have e7 : (x.kind == 7) = false := by simp; omega
  have e8 : (x.kind == 8) = false := by simp; omega
  have HS := Lib.hid (show stepS s x = s ∧ rStepS d x = d by unfold stepS rStepS; simp only [show ¬ x.kind = 1 by omega, show ¬ x.kind = 2 by omega, show ¬ x.kind = 3 by omega, show ¬ x.kind = 4 by omega, show ¬ x.kind = 5 by omega, show ¬ x.kind = 6 by omega, show ¬ x.kind = 7 by omega, show ¬ x.kind = 8 by omega, if_false, and_self])
  clear hk
  have hKa : Kept w (w.alloc (.cells #[.int .i64 x.kind, .int .i64 x.a, .int .i64 x.b, .int .i64 x.n, x.lv, x.nv] 39)) := (Kept.refl w).alloc _
  have hba := heap_alloc_new w (.cells #[.int .i64 x.kind, .int .i64 x.a, .int .i64 x.b, .int .i64 x.n, x.lv, x.nv] 39)
  have hbz : w.heap.size < (w.alloc (.cells #[.int .i64 x.kind, .int .i64 x.a, .int .i64 x.b, .int .i64 x.n, x.lv, x.nv] 39)).heap.size := by simp
  have HD := Lib.hid (h.grow hKa (A' := fun g => A g ∨ g = w.heap.size) (fun g y => y.elim .inl (fun e => .inr (by subst e; exact ⟨Nat.le_refl _, hbz⟩))))
  have HKA := Lib.hid hKa
  have HOLD := Lib.hid h.old
  clear h
  go_enter Try.func8, Try.ntmps8
  go_upto_region 1 with (fail)
  generalize w.alloc (.cells #[.int .i64 x.kind, .int .i64 x.a, .int .i64 x.b, .int .i64 x.n, x.lv, x.nv] 39) = wa at *
  have q0 := cell_at hba 0
  have q1 := cell_at hba 1
  have q2 := cell_at hba 2
  have q3 := cell_at hba 3
  have q4 := cell_at hba 4
  have q5 := cell_at hba 5
  simp only [List.getElem?_toArray, List.getElem?_cons_zero, List.getElem?_cons_succ] at q0 q1 q2 q3 q4 q5
  have HBA := Lib.hid hba
  clear hba
  go_wp2
  go_ret
  refine ⟨_, rfl, fun hr => rfl, ?_, ?_⟩
  · rw [HS.out.1, HS.out.2]
    exact (HD.out.grow (Kept.refl _) fun g y => .inl (.inl y)).more (by omega)
  · exact Chg.of_kept HKA.out
end Go.Proofs.Ytnpenabkmpoafaa
set_option linter.unusedSimpArgs false
set_option linter.unusedVariables false
namespace Go.Proofs.Ytnpenabkmpoafaa
open Go.RowKit
set_option maxRecDepth 100000 in
set_option maxHeartbeats 4000000 in
theorem step_lose (x : Op6) (A : Nat → Prop) (w0 w : World) (nb db : Nat) (s : NS) (d : RS) (lim : Nat) (h : Duo A w0 w nb db s d lim) (hk : x.kind = 7) (hl : lim + 2 < maxLen) (hx : x.Reads w0) (hf : x.Fits) :
    Calls Try.prog 8 #[.pointer (some ⟨nb, 0, none⟩), .pointer (some ⟨db, 0, none⟩), .agg #[.int .i64 x.kind, .int .i64 x.a, .int .i64 x.b, .int .i64 x.n, x.lv, x.nv]] w (StepTo A w0 w nb db s d lim x) := by
  have e1 : (x.kind == 1) = false := by simp [hk]
  have e2 : (x.kind == 2) = false := by simp [hk]
  have e3 : (x.kind == 3) = false := by simp [hk]
  have e4 : (x.kind == 4) = false := by simp [hk]
  have e5 : (x.kind == 5) = false := by simp [hk]
  have e6 : (x.kind == 6) = false := by simp [hk]
  have e7 : (x.kind == 7) = true := by simp [hk]
  have HS := Lib.hid (show stepS s x = loseS s x.nodes ∧ rStepS d x = rLoseS d x.nodes by unfold stepS rStepS; simp [hk])
  clear hk
  have hKa : Kept w (w.alloc (.cells #[.int .i64 x.kind, .int .i64 x.a, .int .i64 x.b, .int .i64 x.n, x.lv, x.nv] 39)) := (Kept.refl w).alloc _
  have hba := heap_alloc_new w (.cells #[.int .i64 x.kind, .int .i64 x.a, .int .i64 x.b, .int .i64 x.n, x.lv, x.nv] 39)
  have hbz : w.heap.size < (w.alloc (.cells #[.int .i64 x.kind, .int .i64 x.a, .int .i64 x.b, .int .i64 x.n, x.lv, x.nv] 39)).heap.size := by simp
  have HD := Lib.hid (h.grow hKa (A' := fun g => A g ∨ g = w.heap.size) (fun g y => y.elim .inl (fun e => .inr (by subst e; exact ⟨Nat.le_refl _, hbz⟩))))
  have HKA := Lib.hid hKa
  have HOLD := Lib.hid h.old
  have HX := Lib.hid hx
  have HF := Lib.hid hf
  clear h hx hf
  go_enter Try.func8, Try.ntmps8
  go_upto_region 1 with (fail)
  generalize w.alloc (.cells #[.int .i64 x.kind, .int .i64 x.a, .int .i64 x.b, .int .i64 x.n, x.lv, x.nv] 39) = wa at *
  have q0 := cell_at hba 0
  have q1 := cell_at hba 1
  have q2 := cell_at hba 2
  have q3 := cell_at hba 3
  have q4 := cell_at hba 4
  have q5 := cell_at hba 5
  simp only [List.getElem?_toArray, List.getElem?_cons_zero, List.getElem?_cons_succ] at q0 q1 q2 q3 q4 q5
  have HBA := Lib.hid hba
  clear hba
  have hKd := (Kept.refl wa).drew
  have HCI := Lib.hid (show ∀ W, Kept wa W → _ from fun W k => copyInts_any x.nodes x.nv W (HX.out.2.kept ((HOLD.out.trans HKA.out).trans k)) HF.out.2.2)
  go_wp2_with fail
  go_region_held3 (fun W => W.cell? ⟨w.heap.size, 5, none⟩ = some x.nv)
    (first | exact q5 | exact hKd.cell q5 | exact u5 | exact z5 | exact y5)
    (first
      | (go_at_call 26; refine (HCI.out _ hKd).mono ?_; rintro e w3 ⟨v3, rfl, ho3, hk3⟩; have hq3 := hKd.trans hk3; have hlt3 := ho3.lt; have u5 := hq3.cell q5; have HK3 := Lib.hid hq3; have HO3 := Lib.hid ho3; have HD3 := Lib.hid (HD.out.grow hq3 (A' := fun g => (A g ∨ g = w.heap.size) ∨ v3.ownBlock = some g) (fun g y => y.elim .inl (fun e => .inr (hlt3 g e)))); have HN := Lib.hid (lose_duo HD3.out x.nodes v3 (own_base' HO3.out (Nat.zero_le _)) (fun g y => .inr y)); clear ho3 hk3 hq3 hlt3)
      | (go_at_call 25; refine HN.out.mono ?_; rintro e w4 ⟨rfl, hd4, hc4⟩; have HD4 := Lib.hid hd4; have HC4 := Lib.hid hc4; have z5 := box_cell (.inl (.inr rfl)) u5 hc4; have HR := Lib.hid (refLose_duo hd4 x.nodes x.nv (HX.out.2.kept hd4.old)); clear hd4 hc4)
      | (go_at_call 27; refine HR.out.mono ?_; rintro e w5 ⟨rfl, hd5, hc5⟩; have HD5 := Lib.hid hd5; have HC5 := Lib.hid hc5; have y5 := box_cell (.inl (.inr rfl)) z5 hc5; clear hd5 hc5))
  go_wp2
  go_ret
  refine ⟨_, rfl, fun hr => by rw [hr.loseE]; simp, ?_, ?_⟩
  · rw [HS.out.1, HS.out.2]
    exact (HD5.out.grow (Kept.refl _) fun g y => .inl (.inl (.inl y))).more (by omega)
  · exact ((Chg.of_kept (F := offA A w0) (HKA.out.trans HK3.out)).trans HC4.out (fun g _ y => ⟨y.1, fun a => y.2 (.inl (.inl a))⟩)).trans HC5.out (fun g _ y => ⟨y.1, fun a => y.2 (.inl (.inl a))⟩)
end Go.Proofs.Ytnpenabkmpoafaa
set_option linter.unusedSimpArgs false
set_option linter.unusedVariables false
namespace Go.Proofs.Ytnpenabkmpoafaa
open Go.RowKit
set_option maxRecDepth 100000 in
set_option maxHeartbeats 4000000 in
theorem step_advance (x : Op6) (A : Nat → Prop) (w0 w : World) (nb db : Nat) (s : NS) (d : RS) (lim : Nat) (h : Duo A w0 w nb db s d lim) (hk : x.kind = 8) (hl : lim + 2 < maxLen) (hx : x.Reads w0) (hf : x.Fits) (hn : -9223372036854775808 ≤ x.n ∧ x.n ≤ 9223372036854775807) (hcl : ∀ i, i < 32 → d.t i ≤ 1099511627776) :
    Calls Try.prog 8 #[.pointer (some ⟨nb, 0, none⟩), .pointer (some ⟨db, 0, none⟩), .agg #[.int .i64 x.kind, .int .i64 x.a, .int .i64 x.b, .int .i64 x.n, x.lv, x.nv]] w (StepTo A w0 w nb db s d lim x) := by
  have e1 : (x.kind == 1) = false := by simp [hk]
  have e2 : (x.kind == 2) = false := by simp [hk]
  have e3 : (x.kind == 3) = false := by simp [hk]
  have e4 : (x.kind == 4) = false := by simp [hk]
  have e5 : (x.kind == 5) = false := by simp [hk]
  have e6 : (x.kind == 6) = false := by simp [hk]
  have e7 : (x.kind == 7) = false := by simp [hk]
  have e8 : (x.kind == 8) = true := by simp [hk]
  have HS := Lib.hid (show stepS s x = advS s x.n x.nodes ∧ rStepS d x = rAdvS d x.n x.nodes by unfold stepS rStepS; simp [hk])
  clear hk
  have hKa : Kept w (w.alloc (.cells #[.int .i64 x.kind, .int .i64 x.a, .int .i64 x.b, .int .i64 x.n, x.lv, x.nv] 39)) := (Kept.refl w).alloc _
  have hba := heap_alloc_new w (.cells #[.int .i64 x.kind, .int .i64 x.a, .int .i64 x.b, .int .i64 x.n, x.lv, x.nv] 39)
  have hbz : w.heap.size < (w.alloc (.cells #[.int .i64 x.kind, .int .i64 x.a, .int .i64 x.b, .int .i64 x.n, x.lv, x.nv] 39)).heap.size := by simp
  have HD := Lib.hid (h.grow hKa (A' := fun g => A g ∨ g = w.heap.size) (fun g y => y.elim .inl (fun e => .inr (by subst e; exact ⟨Nat.le_refl _, hbz⟩))))
  have HKA := Lib.hid hKa
  have HOLD := Lib.hid h.old
  have HX := Lib.hid hx
  have HF := Lib.hid hf
  have HNN := Lib.hid hn
  have HCL := Lib.hid hcl
  clear h hx hf hn hcl
  go_enter Try.func8, Try.ntmps8
  go_upto_region 1 with (fail)
  generalize w.alloc (.cells #[.int .i64 x.kind, .int .i64 x.a, .int .i64 x.b, .int .i64 x.n, x.lv, x.nv] 39) = wa at *
  have q0 := cell_at hba 0
  have q1 := cell_at hba 1
  have q2 := cell_at hba 2
  have q3 := cell_at hba 3
  have q4 := cell_at hba 4
  have q5 := cell_at hba 5
  simp only [List.getElem?_toArray, List.getElem?_cons_zero, List.getElem?_cons_succ] at q0 q1 q2 q3 q4 q5
  have HBA := Lib.hid hba
  clear hba
  have hKd := (Kept.refl wa).drew
  have HCI := Lib.hid (show ∀ W, Kept wa W → _ from fun W k => copyInts_any x.nodes x.nv W (HX.out.2.kept ((HOLD.out.trans HKA.out).trans k)) HF.out.2.2)
  go_wp2_with fail
  go_region_held3 (fun W => W.cell? ⟨w.heap.size, 3, none⟩ = some (.int .i64 x.n) ∧ W.cell? ⟨w.heap.size, 5, none⟩ = some x.nv)
    (first | exact ⟨q3, q5⟩ | exact ⟨hKd.cell q3, hKd.cell q5⟩ | exact ⟨u3, u5⟩ | exact ⟨z3, z5⟩ | exact ⟨y3, y5⟩)
    (first
      | (go_at_call 26; refine (HCI.out _ hKd).mono ?_; rintro e w3 ⟨v3, rfl, ho3, hk3⟩; have hq3 := hKd.trans hk3; have hlt3 := ho3.lt; have u3 := hq3.cell q3; have u5 := hq3.cell q5; have HK3 := Lib.hid hq3; have HO3 := Lib.hid ho3; have HD3 := Lib.hid (HD.out.grow hq3 (A' := fun g => (A g ∨ g = w.heap.size) ∨ v3.ownBlock = some g) (fun g y => y.elim .inl (fun e => .inr (hlt3 g e)))); have HN := Lib.hid (advance_duo HD3.out x.n x.nodes v3 (Ints.of_own HO3.out) HNN.out.2); clear ho3 hk3 hq3 hlt3)
      | (go_at_call 28; refine HN.out.mono ?_; rintro e w4 ⟨rfl, hd4, hc4⟩; have HD4 := Lib.hid hd4; have HC4 := Lib.hid hc4; have z3 := box_cell (.inl (.inr rfl)) u3 hc4; have z5 := box_cell (.inl (.inr rfl)) u5 hc4; have HR := Lib.hid (refAdvance_duo hd4 x.n x.nodes x.nv (HX.out.2.kept hd4.old) HNN.out HCL.out); clear hd4 hc4)
      | (go_at_call 29; refine HR.out.mono ?_; rintro e w5 ⟨rfl, hd5, hc5⟩; have HD5 := Lib.hid hd5; have HC5 := Lib.hid hc5; have y3 := box_cell (.inl (.inr rfl)) z3 hc5; have y5 := box_cell (.inl (.inr rfl)) z5 hc5; clear hd5 hc5))
  go_wp2
  go_ret
  refine ⟨_, rfl, fun hr => by rw [(hr.adv _ _).1]; simp, ?_, ?_⟩
  · rw [HS.out.1, HS.out.2]
    exact (HD5.out.grow (Kept.refl _) fun g y => .inl (.inl (.inl y))).more (by omega)
  · exact ((Chg.of_kept (F := offA A w0) (HKA.out.trans HK3.out)).trans HC4.out (fun g _ y => ⟨y.1, fun a => y.2 (.inl (.inl a))⟩)).trans HC5.out (fun g _ y => ⟨y.1, fun a => y.2 (.inl (.inl a))⟩)
end Go.Proofs.Ytnpenabkmpoafaa
