/- The walk of MultiBounds. How a script of transactions, and a quota, are opened; their bulk. -/
import Derived.Test.YtkgcllkocoojdaaGreatDoorGMSa3
import Derived.Deep.CutBlock
import Derived.Deep.DeepCutAuto
import Derived.Test.YtkgcllkocoojdaaGreatDoorGZMd2
import Derived.Test.YtkgcllkocoojdaaGreatDoorGApp3
set_option linter.unusedSimpArgs false
set_option linter.unusedVariables false
namespace Go.Proofs.YtkgcllkocoojdaaGreatDoor
open Go.RowKit
set_option maxRecDepth 100000 in
set_option maxHeartbeats 8000000 in
theorem multiBounds_any (h : Pth) (qn qb : Int) (xs : List TxnX) (v : Value) (w : World) (hh : h.length ≤ 140737488355328) (hv : Script8 w v xs) (hf : ∀ x ∈ xs, x.Fits) (hl : xs.length ≤ 1048576) (ho : opsUp xs xs.length ≤ 1048576) (htab : TbZ w) {ml : Int} (hml : w.cell? ⟨1, 0, none⟩ = some (.int .i64 ml)) :
    Calls Tryz.prog 9 #[.string ⟨h.toArray⟩, .agg #[.int .i64 qn, .int .i64 qb], v] w fun e w' => e = .returned (.bool true) ∧ Kept w w' := by
  have hka := (Kept.refl w).alloc (.cells #[.int .i64 qn, .int .i64 qb] 82)
  have hba := heap_alloc_new w (.cells #[.int .i64 qn, .int .i64 qb] 82)
  have hkb := hka.alloc (.cells #[.string ⟨h.toArray⟩] 9)
  have hS := (start_any [h] _ _ (Txts.one (w.alloc (.cells #[.int .i64 qn, .int .i64 qb] 82)) h 9) (by simp) (fun x hx => by obtain rfl := List.mem_singleton.1 hx; exact hh) (htab.kept hkb))
  have s1 : (w.alloc (.cells #[.int .i64 qn, .int .i64 qb] 82)).heap.size = w.heap.size + 1 := by simp
  rw [s1] at hS
  have HS := Lib.hid hS
  clear hS s1
  have HA := Lib.hid (show ∀ W, Kept w W → _ from fun W k => awakeM_any W (htab.kept k) (k.cell hml))
  have HV := Lib.hid hv
  have HF := Lib.hid hf
  have HTB := Lib.hid htab
  have HML := Lib.hid hml
  have HKA := Lib.hid hka
  have HKB := Lib.hid hkb
  have HHM := Lib.hid (show h.length ≤ maxLen by unfold maxLen; omega)
  obtain ⟨Av, cv, rfl, hc1, hc2⟩ := hv.form
  unfold maxLen at hc2
  have HBA := Lib.hid hba
  clear hv hf htab hml hka hkb hba
  go_enter Tryz.func9, Tryz.ntmps9
  go_wp2_with fail
  refine HS.out.mono ?_
  rintro e w1 ⟨tb, rfl, hkt, hwf, hwb⟩
  have hlt := startT_len [h]
  have hk1 : Kept w w1 := HKB.out.trans hkt.old
  have hT0 : KT (w.alloc (.cells #[.int .i64 qn, .int .i64 qb] 82)) w1 tb (startT [h]) 1 := (hkt.tr.under ((Kept.refl _).alloc _)).kt
  have HT0 := Lib.hid hT0
  have HWF := Lib.hid hwf
  have HWB := Lib.hid hwb
  have HLT := Lib.hid hlt
  have HK1 := Lib.hid hk1
  have hba1 := hT0.old.block' HBA.out
  have c0 := cell_at hba1 0
  have c1 := cell_at hba1 1
  simp only [List.getElem?_toArray, List.getElem?_cons_zero, List.getElem?_cons_succ] at c0 c1
  clear hkt hwf hwb hlt hk1 hT0 hba1
  have hqq : useN h (startT [h]) = useN h (startT [h]) := rfl
  simp only [List.length_cons, List.length_nil, Nat.zero_add] at HT0 HWB HLT
  generalize startT [h] = T0 at *
  obtain ⟨un, hun⟩ : ∃ x, useN h T0 = x := ⟨_, rfl⟩
  obtain ⟨ub, hub⟩ : ∃ x, useB h T0 = x := ⟨_, rfl⟩
  have hus := usage_tr HT0.out.tr ((Kept.refl w1).alloc (.cells #[.string ⟨h.toArray⟩] 9)) (by decide) (by have := HLT.out; omega) h HHM.out _ (Txts.one w1 h 9)
  rw [hun, hub] at hus
  have HUS := Lib.hid hus
  have HUN := Lib.hid hun
  have HUB := Lib.hid hub
  clear hqq hus hun hub
  go_wp2_with fail
  refine HUS.out.mono ?_
  rintro e w2 ⟨rfl, hk2⟩
  have hk12 : Kept w1 w2 := ((Kept.refl w1).alloc _).trans hk2
  have hk3 := (Kept.refl w2).alloc (.cells #[.int .i64 un, .int .i64 ub] 82)
  have hb3 := heap_alloc_new w2 (.cells #[.int .i64 un, .int .i64 ub] 82)
  have c0 := (hk12.trans hk3).cell c0
  have c1 := (hk12.trans hk3).cell c1
  have q0 := cell_at hb3 0
  have q1 := cell_at hb3 1
  simp only [List.getElem?_toArray, List.getElem?_cons_zero, List.getElem?_cons_succ] at q0 q1
  have HK13 := Lib.hid (hk12.trans hk3)
  clear hk2 hk12 hk3 hb3
  go_upto_region 5 with (fail)
  generalize w2.alloc (.cells #[.int .i64 un, .int .i64 ub] 82) = w3 at *
  have HK3 := Lib.hid (HK1.out.trans HK13.out)
  by_cases hq1 : qn < un
  · have d1 : decide (qn < un) = true := decide_eq_true hq1
    clear hq1
    go_wp2_with fail
    refine (HA.out _ HK3.out).mono ?_
    rintro e w4 ⟨rfl, hk4⟩
    have hkf := HK3.out.trans hk4
    go_wp2
    go_ret
    exact ⟨rfl, hkf⟩
  have d1 : decide (qn < un) = false := decide_eq_false hq1
  by_cases hq2 : qb < ub
  · have d2 : decide (qb < ub) = true := decide_eq_true hq2
    clear hq1 hq2
    go_wp2_with fail
    refine (HA.out _ HK3.out).mono ?_
    rintro e w4 ⟨rfl, hk4⟩
    have hkf := HK3.out.trans hk4
    go_wp2
    go_ret
    exact ⟨rfl, hkf⟩
  have d2 : decide (qb < ub) = false := decide_eq_false hq2
  have HQ0 := Lib.hid (show useN h T0 ≤ qn ∧ useB h T0 ≤ qb by rw [HUN.out, HUB.out]; omega)
  clear hq1 hq2
  go_wp2
  clear d1 d2 q0 q1 c0 c1
  go_loopw [36] (fun i W => ∃ (k : Nat) (t : ZT), i = .int .i64 (k : Int) ∧ k ≤ xs.length ∧ KT (w.alloc (.cells #[.int .i64 qn, .int .i64 qb] 82)) W tb t (1 + 16 * k) ∧ WF t ∧ WB (1 + opsUp xs k) t ∧ t.length ≤ 2 + opsUp xs k ∧ useN h t ≤ qn ∧ useB h t ≤ qb) (fun i _ => xs.length - (intOf i).toNat)
  case atStart => exact ⟨0, T0, rfl, Nat.zero_le _, HT0.out.kept HK13.out, HWF.out, HWB.out.more (by omega), by have := HLT.out; omega, HQ0.out.1, HQ0.out.2⟩
  case round =>
    obtain ⟨k, t, rfl, hk, hkt, hwf, hwb, hfew, hn, hb⟩ := hrel
    have HKT := Lib.hid hkt
    have HWFk := Lib.hid hwf
    have HWBk := Lib.hid hwb
    have HFW := Lib.hid hfew
    have HQ := Lib.hid (And.intro hn hb)
    have HKR := Lib.hid (HKA.out.trans hkt.old)
    have hbk := hkt.old.block' HBA.out
    have c0 := cell_at hbk 0
    have c1 := cell_at hbk 1
    simp only [List.getElem?_toArray, List.getElem?_cons_zero, List.getElem?_cons_succ] at c0 c1
    clear hkt hwf hwb hfew hn hb hbk
    by_cases hlt : k < xs.length
    · obtain ⟨b, o, rfl, a0, a1, a2, a3, a4, a5, hrd⟩ := (HV.out.kept HKR.out).at hlt
      have g1 : (k : Int) < (xs.length : Int) := by omega
      have HXF := Lib.hid (HF.out xs[k] (List.getElem_mem hlt))
      have HOS := Lib.hid (opsUp_succ xs hlt)
      have HOL := Lib.hid (Nat.le_trans (opsUp_le xs (k + 1)) ho)
      obtain ⟨Ad, cd, hdv, hd1, hd2⟩ := hrd.form
      unfold maxLen at hd2
      rw [hdv] at a4
      have hrd2 := hrd
      unfold TxnX.Reads at hrd2
      rw [hdv] at hrd2
      have HRD := Lib.hid hrd2
      clear hrd hrd2 hdv
      generalize xs[k] = x at *
      go_upto_region 10 with (fail)
      have hKa := (Kept.refl wr).alloc (.cells #[.string ⟨x.home.toArray⟩, .int .i64 x.owner, .int .i64 x.qn, .int .i64 x.qb, .slice Ad x.ops.length cd, .bool x.sweep] 85)
      have hba := heap_alloc_new wr (.cells #[.string ⟨x.home.toArray⟩, .int .i64 x.owner, .int .i64 x.qn, .int .i64 x.qb, .slice Ad x.ops.length cd, .bool x.sweep] 85)
      generalize wr.alloc (.cells #[.string ⟨x.home.toArray⟩, .int .i64 x.owner, .int .i64 x.qn, .int .i64 x.qb, .slice Ad x.ops.length cd, .bool x.sweep] 85) = wa at *
      clear a0 a1 a2 a3 a4 a5
      have q1 := cell_at hba 1
      have q4 := cell_at hba 4
      simp only [List.getElem?_toArray, List.getElem?_cons_zero, List.getElem?_cons_succ] at q1 q4
      have p0 := hKa.cell c0
      have p1 := hKa.cell c1
      have hKd := (Kept.refl wa).drew
      have HSA := Lib.hid (Array.getElem?_eq_some_iff.1 hba).1
      have HKA2 := Lib.hid hKa
      have HCP := Lib.hid (show ∀ W, Kept wa W → _ from fun W hW => mcopied_any x.ops (.slice Ad x.ops.length cd) W (HRD.out.kept (hKa.trans hW)) HXF.out.2.1 HXF.out.2.2)
      unfold CopTo at HCP
      have hfe := HFW.out
      have hwe := HWBk.out
      have HAP := Lib.hid (show ∀ W v ys Wc, Kept wa W → OpsAt W.heap.size Wc v ys → ys.map OpX.o = plainO x.ops → Kept W Wc → Calls Tryz.prog 42 #[.pointer (some ⟨tb, 0, none⟩), .string ⟨h.toArray⟩, .int .i64 x.owner, .agg #[.int .i64 qn, .int .i64 qb], v] Wc (ApplyTo (fun g => no g ∨ (wr.heap.size ≤ g ∧ g < Wc.heap.size)) (w.alloc (.cells #[.int .i64 qn, .int .i64 qb] 82)) tb (applyM h x.owner qn qb t (plainO x.ops)) (1 + 16 * k + 16) Wc) from fun W v ys Wc k1 h1 h2 k2 => by
        have := apply_cop HKT.out.tr HWFk.out HWBk.out (by have := HOL.out; have := HOS.out; omega) h HHM.out x.owner qn qb ys v (by have := (hKa.trans k1).size; omega) h1 (hKa.trans (k1.trans k2)) (HTB.out.kept HKA.out) (HKA.out.cell HML.out) (by omega) (by have := HOL.out; have := HOS.out; omega)
        rw [show plainO ys = plainO x.ops from h2] at this
        exact this)
      unfold ApplyTo at HAP
      have HIN := Lib.hid (apply_in (owner := x.owner) (os := plainO x.ops) HWFk.out HWBk.out HQ.out.1 HQ.out.2)
      have HKP := Lib.hid (apply_keeps (h := h) (owner := x.owner) (qn := qn) (qb := qb) (os := plainO x.ops) HWFk.out HWBk.out)
      have HLN := Lib.hid (apply_len h x.owner qn qb t (plainO x.ops))
      have HPL := Lib.hid (show (plainO x.ops).length = x.ops.length by simp [plainO])
      clear hKa hba hfe hwe
      generalize applyM h x.owner qn qb t (plainO x.ops) = am at *
      go_wp2_with fail
      go_region_held3 (fun W => W.cell? ⟨wr.heap.size, 1, none⟩ = some (.int .i64 x.owner) ∧ W.cell? ⟨wr.heap.size, 4, none⟩ = some (.slice Ad x.ops.length cd) ∧ W.cell? ⟨w.heap.size, 0, none⟩ = some (.int .i64 qn) ∧ W.cell? ⟨w.heap.size, 1, none⟩ = some (.int .i64 qb))
        (first | exact ⟨q1, q4, p0, p1⟩ | exact ⟨hKd.cell q1, hKd.cell q4, hKd.cell p0, hKd.cell p1⟩ | exact ⟨u1, u2, u3, u4⟩ | exact ⟨z1, z2, z3, z4⟩)
        (first
          | (go_at_call 41; refine (HCP.out _ hKd).mono ?_; rintro e w3 ⟨v3, ys, rfl, ho3, hp3, hk3⟩; have hq3 := hKd.trans hk3; have u1 := hq3.cell q1; have u2 := hq3.cell q4; have u3 := hq3.cell p0; have u4 := hq3.cell p1; have HK3 := Lib.hid hk3; have HO3 := Lib.hid ho3; have HP3 := Lib.hid hp3; have hs3 := Lib.hid hq3.size; clear ho3 hk3 hq3 hp3)
          | (go_at_call 42; refine (HAP.out _ _ _ _ hKd HO3.out HP3.out HK3.out).mono ?_; rintro e w4 ⟨rv, ev, H, rfl, -, -, -, -, -, htr, hap⟩; have hin : no wr.heap.size ∨ (wr.heap.size ≤ wr.heap.size ∧ wr.heap.size < w3.heap.size) := .inr ⟨Nat.le_refl _, by have := hs3.out; have := HSA.out; omega⟩; have z1 := hap.cell u1 hin; have z2 := hap.cell u2 hin; have hbz := htr.old.block' HBA.out; have z3 := cell_at hbz 0; have z4 := cell_at hbz 1; simp only [List.getElem?_toArray, List.getElem?_cons_zero, List.getElem?_cons_succ] at z3 z4; have H4 := Lib.hid htr; clear htr hap hin hbz))
      have hus := usage_tr H4.out ((Kept.refl w4).alloc (.cells #[.string ⟨h.toArray⟩] 9)) (by omega) (by have := HLN.out; have := HPL.out; have := HFW.out; have := HOL.out; have := HOS.out; omega) h HHM.out _ (Txts.one w4 h 9)
      obtain ⟨i1, i2⟩ := HIN.out
      obtain ⟨um, hum⟩ : ∃ y, useN h am.t = y := ⟨_, rfl⟩
      obtain ⟨uc, huc⟩ : ∃ y, useB h am.t = y := ⟨_, rfl⟩
      rw [hum, huc] at hus
      rw [hum] at i1
      rw [huc] at i2
      have HUS4 := Lib.hid hus
      have HI1 := Lib.hid i1
      have HI2 := Lib.hid i2
      clear hus i1 i2 hum huc
      go_wp2_with fail
      refine HUS4.out.mono ?_
      rintro e w5 ⟨rfl, hk5⟩
      have hk45 : Kept w4 w5 := ((Kept.refl w4).alloc _).trans hk5
      have hk6 := (Kept.refl w5).alloc (.cells #[.int .i64 um, .int .i64 uc] 82)
      have hb6 := heap_alloc_new w5 (.cells #[.int .i64 um, .int .i64 uc] 82)
      have s0 := (hk45.trans hk6).cell z3
      have s1 := (hk45.trans hk6).cell z4
      have r0 := cell_at hb6 0
      have r1 := cell_at hb6 1
      simp only [List.getElem?_toArray, List.getElem?_cons_zero, List.getElem?_cons_succ] at r0 r1
      have HK46 := Lib.hid (hk45.trans hk6)
      clear hk5 hk45 hk6 hb6 z1 z2 z3 z4 u1 u2 u3 u4 q1 q4 p0 p1 c0 c1
      go_upto_region 12 with (fail)
      generalize w5.alloc (.cells #[.int .i64 um, .int .i64 uc] 82) = w6 at *
      have d1 : decide (qn < um) = false := decide_eq_false (by have := HI1.out; omega)
      have d2 : decide (qb < uc) = false := decide_eq_false (by have := HI2.out; omega)
      go_wp2
      go_roundw
      case rel =>
        exact ⟨k + 1, am.t, by go_num, by omega, ((H4.out.kept HK46.out).kt), HKP.out.1, HKP.out.2.more (by have := HPL.out; have := HOS.out; omega), by have := HLN.out; have := HPL.out; have := HFW.out; have := HOS.out; omega, HIN.out.1, HIN.out.2⟩
      case measure => simp [intOf]; omega
    · obtain rfl : k = xs.length := by omega
      go_wp2_with fail
      refine (HA.out _ HKR.out).mono ?_
      rintro e w4 ⟨rfl, hk4⟩
      have hkf := HKR.out.trans hk4
      go_wp2
      go_ret
      exact ⟨rfl, hkf⟩
end Go.Proofs.YtkgcllkocoojdaaGreatDoor
set_option linter.unusedVariables false
set_option linter.unusedSimpArgs false
namespace Go.Proofs.YtkgcllkocoojdaaGreatDoor
open Go.ChangeShapes Go.WideShapes Go.ChangeAt Go.RowKit Go.Joins
theorem cellsOpM : Tryz.prog.cellsOf 100 = 6 := by kernel_rfl
theorem cellsOpsM : Tryz.prog.cellsOf 83 = 1 := by kernel_rfl
theorem cellsQuo : Tryz.prog.cellsOf 82 = 2 := by kernel_rfl
theorem cellsTxn : Tryz.prog.cellsOf 85 = 6 := by kernel_rfl
instance : Inhabited OpM := ⟨⟨0, [], [], 0, false, false⟩⟩
instance : Inhabited OpX := ⟨⟨default, .bool false⟩⟩
instance : Inhabited TxnX := ⟨⟨[], 0, 0, 0, .bool false, [], false⟩⟩
set_option maxRecDepth 100000 in
theorem openOpM {H : Type} {enc : TypeId × Value → H} {W : World} {n : Nat} {c0 c1 c2 c3 c4 c5 : Value} {y : DataW H × List MemPlace} (h : DataW.trod enc Tryz.prog W 0 (fun _ => true) true n 100 [c0, c1, c2, c3, c4, c5] = some y) :
    ∃ x : OpX, c0 = .int .i64 x.o.kind ∧ c1 = .string ⟨x.o.path.toArray⟩ ∧ c2 = x.dv ∧ c3 = .int .i64 x.o.ver ∧ c4 = .bool x.o.eph ∧ c5 = .bool x.o.seq ∧ Bts W x.dv x.o.data ∧ x.o.data.length ≤ Rows.uptoBulk y.1 := by
  obtain ⟨xs, m, -, rfl, -, hl, hf⟩ := DataW.trod_struct Tryz.underlying100 h
  have hl6 : xs.length = 6 := hl
  match xs, hl6 with
  | [y0, y1, y2, y3, y4, y5], _ =>
    have h0 : DataW.trod enc Tryz.prog W 0 (fun _ => true) true m 3 [c0] = some y0 := by have := hf 0 _ rfl; simpa [cellsInt] using this
    have h1 : DataW.trod enc Tryz.prog W 0 (fun _ => true) true m 9 [c1] = some y1 := by have := hf 1 _ rfl; simpa [cellsStr] using this
    have h2 : DataW.trod enc Tryz.prog W 0 (fun _ => true) true m 22 [c2] = some y2 := by have := hf 2 _ rfl; simpa [cellsBts] using this
    have h3 : DataW.trod enc Tryz.prog W 0 (fun _ => true) true m 3 [c3] = some y3 := by have := hf 3 _ rfl; simpa [cellsInt] using this
    have h4 : DataW.trod enc Tryz.prog W 0 (fun _ => true) true m 4 [c4] = some y4 := by have := hf 4 _ rfl; simpa [cellsBool] using this
    have h5 : DataW.trod enc Tryz.prog W 0 (fun _ => true) true m 4 [c5] = some y5 := by have := hf 5 _ rfl; simpa [cellsBool] using this
    obtain ⟨x0, e0, -, -⟩ := DataW.trod_int Tryz.underlying3 h0
    obtain rfl : c0 = .int .i64 x0 := by simpa using e0
    obtain ⟨⟨⟨s1⟩⟩, e1, -, -⟩ := DataW.trod_string Tryz.underlying9 h1
    obtain rfl : c1 = .string ⟨⟨s1⟩⟩ := by simpa using e1
    obtain ⟨ld, b2, r2⟩ := openBtsAt h2
    obtain ⟨x3, e3, -, -⟩ := DataW.trod_int Tryz.underlying3 h3
    obtain rfl : c3 = .int .i64 x3 := by simpa using e3
    obtain ⟨x4, e4, -⟩ := DataW.trod_bool Tryz.underlying4 h4
    obtain rfl : c4 = .bool x4 := by simpa using e4
    obtain ⟨x5, e5, -⟩ := DataW.trod_bool Tryz.underlying4 h5
    obtain rfl : c5 = .bool x5 := by simpa using e5
    refine ⟨⟨⟨x0, s1, ld, x3, x4, x5⟩, c2⟩, rfl, rfl, rfl, rfl, rfl, rfl, b2, ?_⟩
    have k2 := r2.bulk
    simp only [List.map_cons, List.map_nil, Rows.uptoBulk, Rows.uptoBulkAll]
    omega
set_option maxRecDepth 100000 in
theorem openOpsM {H : Type} {enc : TypeId × Value → H} {W : World} {fuel : Nat} {v : Value} {y : DataW H × List MemPlace} (h0 : DataW.trod enc Tryz.prog W 0 (fun _ => true) true fuel 83 [v] = some y) :
    ∃ xs : List OpX, Ops8 W v xs ∧ xs.length ≤ Rows.uptoBulk y.1 ∧ ∀ x ∈ xs, x.o.data.length ≤ Rows.uptoBulk y.1 := by
  obtain ⟨a0, len, cap, hv⟩ := slice_form Tryz.underlying83 h0
  obtain rfl : v = .slice a0 len cap := by simpa using hv
  obtain ⟨d0, p⟩ := y
  rcases Go.Deep.open_slice Tryz.underlying83 h0 with ⟨hcs, hx⟩ | ⟨a, len', cap', m, n, D, Pl, hcs, -, hl, hm, hmm, hx, hat⟩
  · simp [Value.cells] at hcs
    obtain ⟨rfl, rfl, rfl⟩ := hcs
    exact ⟨[], ⟨none, 0, rfl, Nat.le_refl _, by decide, fun h => absurd h (by simp)⟩, Nat.zero_le _, fun x hx => by cases hx⟩
  · simp [Value.cells] at hcs
    obtain ⟨rfl, rfl, rfl⟩ := hcs
    simp only [Prod.mk.injEq] at hx
    obtain ⟨rfl, rfl⟩ := hx
    simp only [if_true] at hmm
    subst hmm
    rw [cellsOpM] at hat
    obtain ⟨F, hF⟩ := Go.Deep.choose_lt (α := OpX) (n := len) (p := fun i x => W.cell? ((a.add (i * 6)).add 0) = some (.int .i64 x.o.kind) ∧ W.cell? ((a.add (i * 6)).add 1) = some (.string ⟨x.o.path.toArray⟩) ∧ W.cell? ((a.add (i * 6)).add 2) = some x.dv ∧ W.cell? ((a.add (i * 6)).add 3) = some (.int .i64 x.o.ver) ∧ W.cell? ((a.add (i * 6)).add 4) = some (.bool x.o.eph) ∧ W.cell? ((a.add (i * 6)).add 5) = some (.bool x.o.seq) ∧ Bts W x.dv x.o.data ∧
      x.o.data.length ≤ Rows.uptoBulk (D i)) (fun i hi => by
      obtain ⟨cs', h1, h2⟩ := hat i (by omega)
      obtain ⟨-, hlen, hcell⟩ := World.cells?_some h1
      match cs', hlen with
      | [c0, c1, c2, c3, c4, c5], _ =>
        have g0 := hcell 0 (by omega)
        have g1 := hcell 1 (by omega)
        have g2 := hcell 2 (by omega)
        have g3 := hcell 3 (by omega)
        have g4 := hcell 4 (by omega)
        have g5 := hcell 5 (by omega)
        obtain ⟨x, rfl, rfl, rfl, rfl, rfl, rfl, b, z⟩ := openOpM h2
        exact ⟨x, g0, g1, g2, g3, g4, g5, b, z⟩)
    refine ⟨(List.range len).map F, ⟨some a, m, by simp, by simpa using hl, hm, fun hpos => ?_⟩, ?_, fun x hx => ?_⟩
    · have hp : 0 < len := by simpa using hpos
      have hz := (hF 0 hp).1
      rw [show a.add (0 * 6) = a by simp [Addr.add]] at hz
      obtain ⟨b, o, rfl⟩ := addr_plain hz
      refine ⟨b, o, rfl, fun k x hx => ?_⟩
      have hk : k < len := by
        have := (List.getElem?_eq_some_iff.1 hx).1
        simpa using this
      simp only [List.getElem?_map, List.getElem?_range hk, Option.map_some, Option.some.injEq] at hx
      subst hx
      have := hF k hk
      simp only [Go.WideShapes.add_plain] at this
      exact ⟨this.1, this.2.1, this.2.2.1, this.2.2.2.1, this.2.2.2.2.1, this.2.2.2.2.2.1, this.2.2.2.2.2.2.1⟩
    · have h2 := bulk_len ((List.range len).map D)
      simp only [List.length_map, List.length_range] at h2 ⊢
      simp only [Rows.uptoBulk]
      omega
    · obtain ⟨i, hi, rfl⟩ := List.mem_map.1 hx
      have hi' : i < len := by simpa using hi
      have h3 := (hF i hi').2.2.2.2.2.2.2
      have h4 := bulk_mem (l := (List.range len).map D) (List.mem_map.2 ⟨i, hi, rfl⟩)
      simp only [Rows.uptoBulk]
      omega
/-- What is known of one transaction's bulk. -/
def TxnB (x : TxnX) (n : Nat) : Prop := x.home.length ≤ n ∧ x.ops.length ≤ n ∧ ∀ o ∈ x.ops, o.o.data.length ≤ n
theorem TxnB.fits {x : TxnX} {n : Nat} (h : TxnB x n) (hn : n ≤ 1048576) : x.Fits := ⟨by have := h.1; omega, by have := h.2.1; omega, fun o ho => by have := h.2.2 o ho; omega⟩
theorem TxnB.more {x : TxnX} {n m : Nat} (h : TxnB x n) (hn : n ≤ m) : TxnB x m := ⟨by have := h.1; omega, by have := h.2.1; omega, fun o ho => by have := h.2.2 o ho; omega⟩
set_option maxRecDepth 100000 in
theorem openTxn {H : Type} {enc : TypeId × Value → H} {W : World} {n : Nat} {c0 c1 c2 c3 c4 c5 : Value} {y : DataW H × List MemPlace} (h : DataW.trod enc Tryz.prog W 0 (fun _ => true) true n 85 [c0, c1, c2, c3, c4, c5] = some y) :
    ∃ x : TxnX, c0 = .string ⟨x.home.toArray⟩ ∧ c1 = .int .i64 x.owner ∧ c2 = .int .i64 x.qn ∧ c3 = .int .i64 x.qb ∧ c4 = x.ov ∧ c5 = .bool x.sweep ∧ x.Reads W ∧ TxnB x (Rows.uptoBulk y.1) := by
  obtain ⟨xs, m, -, rfl, -, hl, hf⟩ := DataW.trod_struct Tryz.underlying85 h
  have hl6 : xs.length = 5 := hl
  match xs, hl6 with
  | [y0, y1, y2, y3, y4], _ =>
    have h0 : DataW.trod enc Tryz.prog W 0 (fun _ => true) true m 9 [c0] = some y0 := by have := hf 0 _ rfl; simpa [cellsStr] using this
    have h1 : DataW.trod enc Tryz.prog W 0 (fun _ => true) true m 3 [c1] = some y1 := by have := hf 1 _ rfl; simpa [cellsStr, cellsInt] using this
    have h2 : DataW.trod enc Tryz.prog W 0 (fun _ => true) true m 82 [c2, c3] = some y2 := by have := hf 2 _ rfl; simpa [cellsStr, cellsInt, cellsQuo] using this
    have h3 : DataW.trod enc Tryz.prog W 0 (fun _ => true) true m 83 [c4] = some y3 := by have := hf 3 _ rfl; simpa [cellsStr, cellsInt, cellsQuo, cellsOpsM] using this
    have h4 : DataW.trod enc Tryz.prog W 0 (fun _ => true) true m 4 [c5] = some y4 := by have := hf 4 _ rfl; simpa [cellsStr, cellsInt, cellsQuo, cellsOpsM, cellsBool] using this
    obtain ⟨⟨⟨s0⟩⟩, e0, hy0, -⟩ := DataW.trod_string Tryz.underlying9 h0
    obtain rfl : c0 = .string ⟨⟨s0⟩⟩ := by simpa using e0
    obtain ⟨x1, e1, -, -⟩ := DataW.trod_int Tryz.underlying3 h1
    obtain rfl : c1 = .int .i64 x1 := by simpa using e1
    obtain ⟨x2, x3, rfl, rfl⟩ : ∃ x2 x3, c2 = .int .i64 x2 ∧ c3 = .int .i64 x3 := by
      obtain ⟨zs, m2, -, rfl, -, hl2, hf2⟩ := DataW.trod_struct Tryz.underlying82 h2
      have hl3 : zs.length = 2 := hl2
      match zs, hl3 with
      | [z0, z1], _ =>
        have g0 : DataW.trod enc Tryz.prog W 0 (fun _ => true) true m2 3 [c2] = some z0 := by have := hf2 0 _ rfl; simpa [cellsInt] using this
        have g1 : DataW.trod enc Tryz.prog W 0 (fun _ => true) true m2 3 [c3] = some z1 := by have := hf2 1 _ rfl; simpa [cellsInt] using this
        obtain ⟨a2, e2, -, -⟩ := DataW.trod_int Tryz.underlying3 g0
        obtain ⟨a3, e3, -, -⟩ := DataW.trod_int Tryz.underlying3 g1
        exact ⟨a2, a3, by simpa using e2, by simpa using e3⟩
    obtain ⟨os, ho, hol, hod⟩ := openOpsM h3
    obtain ⟨x5, e5, -⟩ := DataW.trod_bool Tryz.underlying4 h4
    obtain rfl : c5 = .bool x5 := by simpa using e5
    refine ⟨⟨s0, x1, x2, x3, c4, os, x5⟩, rfl, rfl, rfl, rfl, rfl, rfl, ho, ?_, ?_, fun o ho => ?_⟩
    · rw [hy0]
      simp only [List.map_cons, List.map_nil, Rows.uptoBulk, Rows.uptoBulkAll]
      simp
      omega
    · simp only [List.map_cons, List.map_nil, Rows.uptoBulk, Rows.uptoBulkAll]
      omega
    · have := hod o ho
      simp only [List.map_cons, List.map_nil, Rows.uptoBulk, Rows.uptoBulkAll]
      omega
theorem sum_bulk {H : Type} (f : Nat → Nat) (D : Nat → DataW H) (l : List Nat) (h : ∀ i ∈ l, f i ≤ Rows.uptoBulk (D i)) : (l.map f).sum ≤ Rows.uptoBulkAll (l.map D) := by
  induction l with
  | nil => simp
  | cons i r ih =>
    have h1 := h i (.head _)
    have h2 := ih (fun j hj => h j (.tail _ hj))
    simp only [List.map_cons, List.sum_cons, Rows.uptoBulkAll]
    omega
set_option maxRecDepth 100000 in
theorem openTxns {H : Type} {enc : TypeId × Value → H} {W : World} {fuel : Nat} {v : Value} {y : DataW H × List MemPlace} (h0 : DataW.trod enc Tryz.prog W 0 (fun _ => true) true fuel 78 [v] = some y) :
    ∃ xs : List TxnX, Script8 W v xs ∧ xs.length ≤ Rows.uptoBulk y.1 ∧ opsUp xs xs.length ≤ Rows.uptoBulk y.1 ∧ ∀ x ∈ xs, TxnB x (Rows.uptoBulk y.1) := by
  obtain ⟨a0, len, cap, hv⟩ := slice_form Tryz.underlying78 h0
  obtain rfl : v = .slice a0 len cap := by simpa using hv
  obtain ⟨d0, p⟩ := y
  rcases Go.Deep.open_slice Tryz.underlying78 h0 with ⟨hcs, hx⟩ | ⟨a, len', cap', m, n, D, Pl, hcs, -, hl, hm, hmm, hx, hat⟩
  · simp [Value.cells] at hcs
    obtain ⟨rfl, rfl, rfl⟩ := hcs
    exact ⟨[], ⟨none, 0, rfl, Nat.le_refl _, by decide, fun h => absurd h (by simp)⟩, Nat.zero_le _, by simp [opsUp], fun x hx => by cases hx⟩
  · simp [Value.cells] at hcs
    obtain ⟨rfl, rfl, rfl⟩ := hcs
    simp only [Prod.mk.injEq] at hx
    obtain ⟨rfl, rfl⟩ := hx
    simp only [if_true] at hmm
    subst hmm
    rw [cellsTxn] at hat
    obtain ⟨F, hF⟩ := Go.Deep.choose_lt (α := TxnX) (n := len) (p := fun i x => W.cell? ((a.add (i * 6)).add 0) = some (.string ⟨x.home.toArray⟩) ∧ W.cell? ((a.add (i * 6)).add 1) = some (.int .i64 x.owner) ∧ W.cell? ((a.add (i * 6)).add 2) = some (.int .i64 x.qn) ∧ W.cell? ((a.add (i * 6)).add 3) = some (.int .i64 x.qb) ∧ W.cell? ((a.add (i * 6)).add 4) = some x.ov ∧ W.cell? ((a.add (i * 6)).add 5) = some (.bool x.sweep) ∧ x.Reads W ∧
      TxnB x (Rows.uptoBulk (D i))) (fun i hi => by
      obtain ⟨cs', h1, h2⟩ := hat i (by omega)
      obtain ⟨-, hlen, hcell⟩ := World.cells?_some h1
      match cs', hlen with
      | [c0, c1, c2, c3, c4, c5], _ =>
        have g0 := hcell 0 (by omega)
        have g1 := hcell 1 (by omega)
        have g2 := hcell 2 (by omega)
        have g3 := hcell 3 (by omega)
        have g4 := hcell 4 (by omega)
        have g5 := hcell 5 (by omega)
        obtain ⟨x, rfl, rfl, rfl, rfl, rfl, rfl, b, z⟩ := openTxn h2
        exact ⟨x, g0, g1, g2, g3, g4, g5, b, z⟩)
    refine ⟨(List.range len).map F, ⟨some a, m, by simp, by simpa using hl, hm, fun hpos => ?_⟩, ?_, ?_, fun x hx => ?_⟩
    · have hp : 0 < len := by simpa using hpos
      have hz := (hF 0 hp).1
      rw [show a.add (0 * 6) = a by simp [Addr.add]] at hz
      obtain ⟨b, o, rfl⟩ := addr_plain hz
      refine ⟨b, o, rfl, fun k x hx => ?_⟩
      have hk : k < len := by
        have := (List.getElem?_eq_some_iff.1 hx).1
        simpa using this
      simp only [List.getElem?_map, List.getElem?_range hk, Option.map_some, Option.some.injEq] at hx
      subst hx
      have := hF k hk
      simp only [Go.WideShapes.add_plain] at this
      exact ⟨this.1, this.2.1, this.2.2.1, this.2.2.2.1, this.2.2.2.2.1, this.2.2.2.2.2.1, this.2.2.2.2.2.2.1⟩
    · have h2 := bulk_len ((List.range len).map D)
      simp only [List.length_map, List.length_range] at h2 ⊢
      simp only [Rows.uptoBulk]
      omega
    · have h2 := sum_bulk (fun i => (F i).ops.length) D (List.range len) (fun i hi => (hF i (by simpa using hi)).2.2.2.2.2.2.2.2.1)
      unfold opsUp
      rw [List.take_length, List.map_map]
      simp only [Function.comp_def, Rows.uptoBulk]
      omega
    · obtain ⟨i, hi, rfl⟩ := List.mem_map.1 hx
      have hi' : i < len := by simpa using hi
      have h3 := (hF i hi').2.2.2.2.2.2.2
      have h4 := bulk_mem (l := (List.range len).map D) (List.mem_map.2 ⟨i, hi, rfl⟩)
      exact h3.more (by simp only [Rows.uptoBulk]; omega)
theorem openScript8 {H : Type} {enc : TypeId × Value → H} {W : World} {a0 : Option Addr} {len cap : Nat} {d : DataW H} {p : List MemPlace} (h : DataW.Trod enc Tryz.prog W 0 (fun _ => true) true 78 (.slice a0 len cap) d p) :
    ∃ xs : List TxnX, Script8 W (.slice a0 len cap) xs ∧ xs.length ≤ Rows.uptoBulk d ∧ opsUp xs xs.length ≤ Rows.uptoBulk d ∧ ∀ x ∈ xs, TxnB x (Rows.uptoBulk d) := by
  obtain ⟨fuel, hf⟩ := h
  exact openTxns (y := (d, p)) (by simpa [Value.cells] using hf)
set_option maxRecDepth 100000 in
theorem openQuota {H : Type} {enc : TypeId × Value → H} {W : World} {base : Nat} {v : Value} {d : DataW H} {p : List MemPlace} (hv : Value.okWide Tryz.prog W .any base 82 v) (h : DataW.Trod enc Tryz.prog W 0 (fun _ => true) true 82 v d p) :
    ∃ qn qb, v = .agg #[.int .i64 qn, .int .i64 qb] := by
  obtain ⟨cs, rfl, hsz⟩ := okWide_struct Tryz.underlying82 hv
  rw [cellsQuo] at hsz
  obtain ⟨cs⟩ := cs
  obtain ⟨fuel, hf⟩ := h
  match cs, hsz with
  | [c2, c3], _ =>
    obtain ⟨zs, m2, -, hd, -, hl2, hf2⟩ := DataW.trod_struct Tryz.underlying82 (show DataW.trod enc Tryz.prog W 0 (fun _ => true) true fuel 82 [c2, c3] = some (d, p) by simpa [Value.cells] using hf)
    have hl3 : zs.length = 2 := hl2
    match zs, hl3 with
    | [z0, z1], _ =>
      have g0 : DataW.trod enc Tryz.prog W 0 (fun _ => true) true m2 3 [c2] = some z0 := by have := hf2 0 _ rfl; simpa [cellsInt] using this
      have g1 : DataW.trod enc Tryz.prog W 0 (fun _ => true) true m2 3 [c3] = some z1 := by have := hf2 1 _ rfl; simpa [cellsInt] using this
      obtain ⟨a2, e2, -, -⟩ := DataW.trod_int Tryz.underlying3 g0
      obtain ⟨a3, e3, -, -⟩ := DataW.trod_int Tryz.underlying3 g1
      obtain rfl : c2 = .int .i64 a2 := by simpa using e2
      obtain rfl : c3 = .int .i64 a3 := by simpa using e3
      exact ⟨a2, a3, rfl⟩
theorem multiBounds_row (h : Pth) (qn qb : Int) (xs : List TxnX) (v : Value) (w : World) (hh : h.length ≤ 140737488355328) (hv : Script8 w v xs) (hf : ∀ x ∈ xs, x.Fits) (hl : xs.length ≤ 1048576) (ho : opsUp xs xs.length ≤ 1048576) (htab : TbZ w) (hsh : w.ShapedOpen Tryz.prog) :
    Calls Tryz.prog 9 #[.string ⟨h.toArray⟩, .agg #[.int .i64 qn, .int .i64 qb], v] w fun e w' => e = .returned (.bool true) ∧ Kept w w' := by
  obtain ⟨ml, hml⟩ := maxLen_cell hsh
  exact multiBounds_any h qn qb xs v w hh hv hf hl ho htab hml
theorem text_bulk {H : Type} {l : Pth} {d : DataW H} (h : d = .lit (.string l)) : l.length ≤ Rows.uptoBulk d := by
  rw [h]
  simp [Rows.uptoBulk]
end Go.Proofs.YtkgcllkocoojdaaGreatDoor
