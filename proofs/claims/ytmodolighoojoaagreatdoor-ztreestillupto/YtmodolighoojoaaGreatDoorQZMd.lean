/- The walk of made: a tree behind a script. -/
import Derived.Test.YtmodolighoojoaaGreatDoorGZWf2
import Derived.Test.YtmodolighoojoaaGreatDoorQApp
import Derived.Deep.CutBlock
import Derived.Deep.DeepCutAuto
set_option linter.unusedSimpArgs false
set_option linter.unusedVariables false
namespace Go.Proofs.YtmodolighoojoaaGreatDoor
open Go.RowKit
/-- One call, as it lies in memory. -/
structure Op7 where
  kind : Int
  n : Int
  path : Pth
  dv : Value
  data : List UInt8
  seq : Bool
def Op7.Reads (w : World) (x : Op7) : Prop := Bts w x.dv x.data
def Op7.Fits (x : Op7) : Prop := x.data.length ≤ 140737488355328
def Script7 (w : World) (v : Value) (xs : List Op7) : Prop :=
  ∃ A c, v = .slice A xs.length c ∧ xs.length ≤ c ∧ c ≤ maxLen ∧ (0 < xs.length → ∃ b o, A = some ⟨b, o, none⟩ ∧ ∀ k x, xs[k]? = some x →
    w.cell? ⟨b, o + k * 5, none⟩ = some (.int .i64 x.kind) ∧ w.cell? ⟨b, o + k * 5 + 1, none⟩ = some (.int .i64 x.n) ∧ w.cell? ⟨b, o + k * 5 + 2, none⟩ = some (.string ⟨x.path.toArray⟩) ∧
    w.cell? ⟨b, o + k * 5 + 3, none⟩ = some x.dv ∧ w.cell? ⟨b, o + k * 5 + 4, none⟩ = some (.bool x.seq) ∧ x.Reads w)
theorem Script7.form {w : World} {v : Value} {xs : List Op7} (h : Script7 w v xs) : ∃ A c, v = .slice A xs.length c ∧ xs.length ≤ c ∧ c ≤ maxLen := by
  obtain ⟨A, c, h1, h2, h3, -⟩ := h
  exact ⟨A, c, h1, h2, h3⟩
theorem Script7.at {w : World} {A : Option Addr} {n c : Nat} {xs : List Op7} (h : Script7 w (.slice A n c) xs) {k : Nat} (hk : k < xs.length) : ∃ b o, A = some ⟨b, o, none⟩ ∧
    w.cell? ⟨b, o + k * 5, none⟩ = some (.int .i64 xs[k].kind) ∧ w.cell? ⟨b, o + k * 5 + 1, none⟩ = some (.int .i64 xs[k].n) ∧ w.cell? ⟨b, o + k * 5 + 2, none⟩ = some (.string ⟨xs[k].path.toArray⟩) ∧
    w.cell? ⟨b, o + k * 5 + 3, none⟩ = some xs[k].dv ∧ w.cell? ⟨b, o + k * 5 + 4, none⟩ = some (.bool xs[k].seq) ∧ xs[k].Reads w := by
  obtain ⟨A', c', hv, -, -, h3⟩ := h
  obtain ⟨rfl, -, -⟩ : A = A' ∧ n = xs.length ∧ c = c' := by simpa using hv
  obtain ⟨b, o, e, hc⟩ := h3 (by omega)
  exact ⟨b, o, e, hc k xs[k] (by simp [hk])⟩
theorem Script7.kept {w w' : World} {v : Value} {xs : List Op7} (h : Script7 w v xs) (k : Kept w w') : Script7 w' v xs := by
  obtain ⟨A, c, h1, h2, h3, h4⟩ := h
  refine ⟨A, c, h1, h2, h3, fun hp => ?_⟩
  obtain ⟨b, o, e, hc⟩ := h4 hp
  refine ⟨b, o, e, fun i x hx => ?_⟩
  obtain ⟨a0, a1, a2, a3, a4, a5⟩ := hc i x hx
  exact ⟨k.cell a0, k.cell a1, k.cell a2, k.cell a3, k.cell a4, Bts.kept a5 k⟩
section
variable {w0 w : World} {tb mb : Nat} {st : ZSt} {lim : Nat} {F : Nat → Prop}
theorem create_any (h : TreeAt w tb mb st lim F) (p : Pth) (data : List UInt8) (v : Value) (owner : Int) (seq : Bool) (hv : Bts w v data) (htab : TbZ w) (hlim : lim + 2 < 4611686018427387903) :
    Calls Tryz.prog 30 #[.pointer (some ⟨tb, 0, none⟩), .string ⟨p.toArray⟩, v, .int .i64 owner, .bool seq] w fun e w' => e = .returned (.tuple #[.string ⟨(createP (plainZ st) p data.length owner seq).toArray⟩, .int .i64 (createE (plainZ st) p data.length owner seq)]) ∧ (∃ st', TreeAt w' tb mb st' (lim + 1) (ext F w w') ∧ plainZ st' = createS (plainZ st) p data owner seq) ∧ Chg F w w' := by
  by_cases hE : createE (plainZ st) p data.length owner seq = 0
  · refine (create_ok h p data v owner seq hv htab hE hlim).mono ?_
    rintro e w' ⟨rfl, h5, h7⟩
    exact ⟨by rw [hE], h5, h7⟩
  · refine (create_bad h p data v owner seq hv htab hE).mono ?_
    rintro e w' ⟨rfl, hk⟩
    refine ⟨by rw [createP_bad hE], ⟨st, ((h.kept hk).more (Nat.le_succ _)).mono (fun g x => .inl x), ?_⟩, Chg.of_kept hk⟩
    unfold createS
    rw [if_neg hE]
/-- A tree behind a call, beside w0. -/
theorem KT.back {w1 w' : World} {st' : ZSt} {lim' : Nat} {t : ZT} (k0 : Kept w0 w) (hF : ∀ g, F g → w0.heap.size ≤ g ∧ g < w.heap.size) (k : Kept w w1) (h : TreeAt w' tb mb st' lim' (ext F w1 w')) (hp : plainZ st' = t) (c : Chg F w1 w') : KT w0 w' tb t lim' := by
  have hs := c.size
  have hs1 := k.size
  have hs0 := k0.size
  refine ⟨mb, st', _, h, hp, fun g x => ?_, c.kept (k0.trans k) (fun g x => (hF g x).1)⟩
  rcases x with x | x
  · exact ⟨(hF g x).1, by have := (hF g x).2; omega⟩
  · exact ⟨by omega, x.2⟩
end
def MadeTo (w : World) (n : Nat) (e : Ending) (w' : World) : Prop := ∃ tb t, e = .returned (.pointer (some ⟨tb, 0, none⟩)) ∧ KT w w' tb t n ∧ WF t ∧ WB n t
set_option maxRecDepth 100000 in
set_option maxHeartbeats 4000000 in
theorem made_any (xs : List Op7) (v : Value) (w : World) (hv : Script7 w v xs) (hf : ∀ x ∈ xs, x.Fits) (hl : xs.length ≤ 2199023255552) (htab : TbZ w) :
    Calls Tryz.prog 41 #[v] w (MadeTo w xs.length) := by
  have HN := Lib.hid (new_kt w)
  have HV := Lib.hid hv
  have HF := Lib.hid hf
  have HT := Lib.hid htab
  obtain ⟨A, c, rfl, hc1, hc2⟩ := hv.form
  unfold maxLen at hc2
  clear hf hv htab
  go_enter Tryz.func41, Tryz.ntmps41
  go_wp2_with fail
  refine HN.out.mono ?_
  rintro e w1 ⟨tb, rfl, h1⟩
  have H1 := Lib.hid h1
  clear h1
  go_wp2
  go_loopw [11] (fun i W => ∃ (k : Nat) (t : ZT), i = .int .i64 (k : Int) ∧ k ≤ xs.length ∧ KT w W tb t k ∧ WF t ∧ WB k t) (fun i _ => xs.length - (intOf i).toNat)
  case atStart => exact ⟨0, newT, rfl, Nat.zero_le _, H1.out, WF.new, WB.new⟩
  case round =>
    obtain ⟨k, t, rfl, hk, hkt, hwf, hwb⟩ := hrel
    have HWB := Lib.hid hwb
    clear hwb
    have HKT := Lib.hid hkt
    have HWF := Lib.hid hwf
    have HKR := Lib.hid hkt.old
    clear hkt hwf
    by_cases hlt : k < xs.length
    · obtain ⟨b, o, rfl, a0, a1, a2, a3, a4, hrd⟩ := (HV.out.kept HKR.out).at hlt
      have g1 : (k : Int) < (xs.length : Int) := by omega
      have HXF := Lib.hid (HF.out xs[k] (List.getElem_mem hlt))
      have HRD := Lib.hid hrd
      clear hrd
      generalize xs[k] = x at *
      obtain ⟨Ad, cd, hdv, -, hd2, -⟩ := id HRD.out
      rw [hdv] at a3
      have HDV := Lib.hid hdv
      clear hdv
      go_upto_region 7 with (fail)
      have hKa : Kept wr (wr.alloc (.cells #[.int .i64 x.kind, .int .i64 x.n, .string ⟨x.path.toArray⟩, .slice Ad x.data.length cd, .bool x.seq] 59)) := (Kept.refl wr).alloc _
      have hba := heap_alloc_new wr (.cells #[.int .i64 x.kind, .int .i64 x.n, .string ⟨x.path.toArray⟩, .slice Ad x.data.length cd, .bool x.seq] 59)
      generalize wr.alloc (.cells #[.int .i64 x.kind, .int .i64 x.n, .string ⟨x.path.toArray⟩, .slice Ad x.data.length cd, .bool x.seq] 59) = wa at *
      clear a0 a1 a2 a3 a4
      have q0 := cell_at hba 0
      have q1 := cell_at hba 1
      have q2 := cell_at hba 2
      have q3 := cell_at hba 3
      have q4 := cell_at hba 4
      simp only [List.getElem?_toArray, List.getElem?_cons_zero, List.getElem?_cons_succ] at q0 q1 q2 q3 q4
      obtain ⟨mb, st, F, hT, hpl, hF, hK0⟩ := HKT.out
      have HTR := Lib.hid hT
      have HPL := Lib.hid hpl
      have HFF := Lib.hid hF
      have HKA := Lib.hid hKa
      have hnF : ¬ F wr.heap.size := fun y => by have := (hF _ y).2; omega
      have HNF := Lib.hid hnF
      obtain ⟨wo, rfl⟩ : ∃ wo, wo = wr := ⟨_, rfl⟩
      clear hT hpl hF hK0 hba hnF
      by_cases k1 : x.kind = 1
      · have e1 : (x.kind == 1) = true := by simp [k1]
        have hKd := (Kept.refl wa).drew
        have HCP := Lib.hid (show ∀ W, Kept wa W → _ from fun W hW => copy_any x.data (.slice Ad x.data.length cd) W (by rw [← HDV.out]; exact Bts.kept HRD.out (HKA.out.trans hW)) HXF.out)
        have HCR := Lib.hid (show ∀ v3 W, Kept wa W → Bts W v3 x.data → _ from fun v3 W hW hb => create_any (HTR.out.kept (HKA.out.trans hW)) x.path x.data v3 x.n x.seq hb (HT.out.kept (HKR.out.trans (HKA.out.trans hW))) (by omega))
        clear k1
        go_wp2_with fail
        go_region_held3 (fun W => W.cell? ⟨wo.heap.size, 1, none⟩ = some (.int .i64 x.n) ∧ W.cell? ⟨wo.heap.size, 2, none⟩ = some (.string ⟨x.path.toArray⟩) ∧ W.cell? ⟨wo.heap.size, 3, none⟩ = some (.slice Ad x.data.length cd) ∧ W.cell? ⟨wo.heap.size, 4, none⟩ = some (.bool x.seq))
          (first | exact ⟨q1, q2, q3, q4⟩ | exact ⟨hKd.cell q1, hKd.cell q2, hKd.cell q3, hKd.cell q4⟩ | exact ⟨u1, u2, u3, u4⟩ | exact ⟨z1, z2, z3, z4⟩)
          (first
            | (go_at_call 16; refine (HCP.out _ hKd).mono ?_; rintro e w3 ⟨v3, rfl, ho3, hk3⟩; have hq3 := hKd.trans hk3; have u1 := hq3.cell q1; have u2 := hq3.cell q2; have u3 := hq3.cell q3; have u4 := hq3.cell q4; have HK3 := Lib.hid hq3; have HB3 := Lib.hid (Bts.of_own ho3); clear ho3 hk3 hq3)
            | (go_at_call 30; refine (HCR.out _ _ HK3.out HB3.out).mono ?_; rintro e w4 ⟨rfl, h4, hc4⟩; have z1 := chg_cellS hc4 u1 HNF.out; have z2 := chg_cellS hc4 u2 HNF.out; have z3 := chg_cellS hc4 u3 HNF.out; have z4 := chg_cellS hc4 u4 HNF.out; have H4 := Lib.hid h4; have HC4 := Lib.hid hc4; clear h4 hc4))
        go_wp2
        go_roundw
        case rel =>
          obtain ⟨st', h5, h6⟩ := H4.out
          exact ⟨k + 1, _, by go_num, by omega, KT.back HKR.out HFF.out (HKA.out.trans HK3.out) h5 h6 HC4.out, by rw [HPL.out]; exact HWF.out.create _ _ _ _, by rw [HPL.out]; exact (HWB.out.create HWF.out.srt _ _ _ _).more (Nat.le_succ _)⟩
        case measure => simp [intOf]; omega
      by_cases k2 : x.kind = 2
      · have e2 : (x.kind == 2) = true := by simp [k2]
        have e1 : (x.kind == 1) = false := by simp [k2]
        have HDL := Lib.hid (delete_any (HTR.out.kept HKA.out) x.path x.n (by omega))
        clear k1 k2
        go_wp2_with fail
        refine HDL.out.mono ?_
        rintro e w4 ⟨rfl, h4, hc4⟩
        have H4 := Lib.hid h4
        have HC4 := Lib.hid hc4
        clear h4 hc4
        go_wp2
        go_roundw
        case rel =>
          obtain ⟨st', h5, h6⟩ := H4.out
          exact ⟨k + 1, _, by go_num, by omega, KT.back HKR.out HFF.out HKA.out h5 h6 HC4.out, by rw [HPL.out]; exact HWF.out.delete _ _, by rw [HPL.out]; exact (HWB.out.delete _ _).more (Nat.le_succ _)⟩
        case measure => simp [intOf]; omega
      by_cases k3 : x.kind = 3
      · have e3 : (x.kind == 3) = true := by simp [k3]
        have e1 : (x.kind == 1) = false := by simp [k3]
        have e2 : (x.kind == 2) = false := by simp [k3]
        have hKd := (Kept.refl wa).drew
        have HCP := Lib.hid (show ∀ W, Kept wa W → _ from fun W hW => copy_any x.data (.slice Ad x.data.length cd) W (by rw [← HDV.out]; exact Bts.kept HRD.out (HKA.out.trans hW)) HXF.out)
        have HCR := Lib.hid (show ∀ v3 W, Kept wa W → Bts W v3 x.data → _ from fun v3 W hW hb => set_any (HTR.out.kept (HKA.out.trans hW)) x.path x.data v3 x.n hb (by omega))
        clear k1 k2 k3
        go_wp2_with fail
        go_region_held3 (fun W => W.cell? ⟨wo.heap.size, 1, none⟩ = some (.int .i64 x.n) ∧ W.cell? ⟨wo.heap.size, 2, none⟩ = some (.string ⟨x.path.toArray⟩) ∧ W.cell? ⟨wo.heap.size, 3, none⟩ = some (.slice Ad x.data.length cd))
          (first | exact ⟨q1, q2, q3⟩ | exact ⟨hKd.cell q1, hKd.cell q2, hKd.cell q3⟩ | exact ⟨u1, u2, u3⟩ | exact ⟨z1, z2, z3⟩)
          (first
            | (go_at_call 16; refine (HCP.out _ hKd).mono ?_; rintro e w3 ⟨v3, rfl, ho3, hk3⟩; have hq3 := hKd.trans hk3; have u1 := hq3.cell q1; have u2 := hq3.cell q2; have u3 := hq3.cell q3; have HK3 := Lib.hid hq3; have HB3 := Lib.hid (Bts.of_own ho3); clear ho3 hk3 hq3)
            | (go_at_call 34; refine (HCR.out _ _ HK3.out HB3.out).mono ?_; rintro e w4 ⟨rfl, h4, hc4⟩; have z1 := chg_cellS hc4 u1 HNF.out; have z2 := chg_cellS hc4 u2 HNF.out; have z3 := chg_cellS hc4 u3 HNF.out; have H4 := Lib.hid h4; have HC4 := Lib.hid hc4; clear h4 hc4))
        go_wp2
        go_roundw
        case rel =>
          obtain ⟨st', h5, h6⟩ := H4.out
          exact ⟨k + 1, _, by go_num, by omega, KT.back HKR.out HFF.out (HKA.out.trans HK3.out) h5 h6 HC4.out, by rw [HPL.out]; exact HWF.out.setting _ _ _, by rw [HPL.out]; exact HWB.out.setting _ _ _⟩
        case measure => simp [intOf]; omega
      have e1 : (x.kind == 1) = false := by simpa using k1
      have e2 : (x.kind == 2) = false := by simpa using k2
      have e3 : (x.kind == 3) = false := by simpa using k3
      clear k1 k2 k3
      go_wp2
      go_roundw
      case rel => exact ⟨k + 1, t, by go_num, by omega, (HKT.out.kept HKA.out).more (by omega), HWF.out, HWB.out.more (Nat.le_succ _)⟩
      case measure => simp [intOf]; omega
    · obtain rfl : k = xs.length := by omega
      go_wp2
      go_ret
      exact ⟨tb, t, rfl, HKT.out, HWF.out, HWB.out⟩
end Go.Proofs.YtmodolighoojoaaGreatDoor
