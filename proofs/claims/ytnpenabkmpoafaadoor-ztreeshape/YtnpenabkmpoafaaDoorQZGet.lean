/- The walk of Get. -/
import Derived.Test.YtnpenabkmpoafaaDoorQZNew
import Derived.Deep.CutBlock
import Derived.Deep.DeepCutAuto
set_option linter.unusedSimpArgs false
set_option linter.unusedVariables false
namespace Go.Proofs.YtnpenabkmpoafaaDoor
open Go.RowKit
def statV (n : ZN) : Value := .agg #[.int .i64 (n.ver : Int), .int .i64 (n.ctr : Int), .int .i64 (n.own : Int), .int .i64 n.kids]
set_option maxRecDepth 100000 in
set_option maxHeartbeats 4000000 in
theorem get_ok (w : World) (tb mb : Nat) (st : ZSt) (lim : Nat) (F : Nat → Prop) (h : TreeAt w tb mb st lim F) (p : Pth) (e : ZE) (hn : (names p).isSome = true) (hg : getZ p st = some e) :
    Calls Tryd.prog 8 #[.pointer (some ⟨tb, 0, none⟩), .string ⟨p.toArray⟩] w fun x w' => ∃ v, x = .returned (.tuple #[v, statV e.nd, .int .i64 0]) ∧ w'.ownsRow w.heap.size 5 1 v e.nd.data.length (Lib.byteCells e.nd.data) ∧ Kept w w' := by
  have hka := (Kept.refl w).alloc (.cells #[.int .i64 0, .int .i64 0, .int .i64 0, .int .i64 0] 32)
  have hna := heap_alloc_new w (.cells #[.int .i64 0, .int .i64 0, .int .i64 0, .int .i64 0] 32)
  have hsa : (w.alloc (.cells #[.int .i64 0, .int .i64 0, .int .i64 0, .int .i64 0] 32)).heap.size = w.heap.size + 1 := by simp
  have hfi := zfind_any (h.kept hka) p
  rw [(findE_ok hn hg).1, (findE_ok hn hg).2] at hfi
  have HFI := Lib.hid hfi
  have HN := Lib.hid (h.get hg)
  have HKA := Lib.hid hka
  have hdl := (h.get hg).2.small
  clear h hn hg hfi
  obtain ⟨nb, dv, nd⟩ := e
  unfold ptrZ at HFI
  unfold statV
  simp only at HFI HN hdl ⊢
  have hnbl : nb < w.heap.size := (Array.getElem?_eq_some_iff.1 HN.out.1.1).1
  have hO : w.ownsRow 0 5 1 dv nd.data.length (Lib.byteCells nd.data) := HN.out.1.2
  obtain ⟨Ad, cd, rfl⟩ := own_form hO
  clear hO
  go_enter Tryd.func8, Tryd.ntmps8
  go_upto_region 1 with (fail)
  generalize w.alloc (.cells #[.int .i64 0, .int .i64 0, .int .i64 0, .int .i64 0] 32) = wa at *
  go_wp2_with fail
  refine HFI.out.mono ?_
  rintro x w1 ⟨rfl, hk⟩
  have HK := Lib.hid hk
  have hN1 := (HKA.out.trans hk).block' HN.out.1.1
  have c0 := cell_at hN1 0
  have c1 := cell_at hN1 1
  have c2 := cell_at hN1 2
  have c3 := cell_at hN1 3
  have c4 := cell_at hN1 4
  simp only [List.getElem?_toArray, List.getElem?_cons_zero, List.getElem?_cons_succ] at c0 c1 c2 c3 c4
  have hb1 := hk.block' hna
  have HB1 := Lib.hid hb1
  have hKd := (Kept.refl w1).drew
  have HBC := Lib.hid (show ∀ W, Kept w1 W → _ from fun W k => bclone_any nd.data (.slice Ad nd.data.length cd) W ((Bts.of_own HN.out.1.2).kept ((HKA.out.trans HK.out).trans k)) (by omega))
  have hne : ¬ nb = w.heap.size := by omega
  clear hk hN1 hna hka hb1
  go_wp2_with fail
  go_region_held3 (fun W => W.cell? ⟨nb, 0, none⟩ = some (.int .i64 (nd.ver : Int)) ∧ W.cell? ⟨nb, 1, none⟩ = some (.int .i64 (nd.ctr : Int)) ∧ W.cell? ⟨nb, 2, none⟩ = some (.int .i64 (nd.own : Int)) ∧ W.cell? ⟨nb, 3, none⟩ = some (.int .i64 nd.kids) ∧ W.cell? ⟨nb, 4, none⟩ = some (.slice Ad nd.data.length cd))
    (first | exact ⟨c0, c1, c2, c3, c4⟩ | exact ⟨hKd.cell c0, hKd.cell c1, hKd.cell c2, hKd.cell c3, hKd.cell c4⟩ | exact ⟨z0, z1, z2, z3, z4⟩ | exact ⟨y0, y1, y2, y3, y4⟩)
    (first
      | (go_at_call 24; refine (HBC.out _ hKd).mono ?_; rintro x w4 ⟨v4, rfl, ho4, hk4⟩; obtain ⟨A4, c4', rfl⟩ := own_form ho4; have hq4 := hKd.trans hk4; have z0 := hq4.cell c0; have z1 := hq4.cell c1; have z2 := hq4.cell c2; have z3 := hq4.cell c3; have z4 := hq4.cell c4; have HO4 := Lib.hid ho4; have HK4 := Lib.hid hq4; have hb4 := hq4.block' HB1.out; have HB4 := Lib.hid hb4; have hf0 := frozen_at hb4 0; have hf1 := frozen_at hb4 1; have hf2 := frozen_at hb4 2; have hf3 := frozen_at hb4 3; have hcb0 := cell_at hb4 0; have hcb1 := cell_at hb4 1; have hcb2 := cell_at hb4 2; have hcb3 := cell_at hb4 3; have hcs : Chg (fun g => g = w.heap.size) w4 ((((w4.setCell ⟨w.heap.size, 0, none⟩ (.int .i64 (nd.ver : Int))).setCell ⟨w.heap.size, 1, none⟩ (.int .i64 (nd.ctr : Int))).setCell ⟨w.heap.size, 2, none⟩ (.int .i64 (nd.own : Int))).setCell ⟨w.heap.size, 3, none⟩ (.int .i64 nd.kids)) := ((((Chg.refl (fun g => g = w.heap.size) w4).setCell _ (fun _ => rfl)).setCell _ (fun _ => rfl)).setCell _ (fun _ => rfl)).setCell _ (fun _ => rfl); have y0 := chg_cellS hcs z0 hne; have y1 := chg_cellS hcs z1 hne; have y2 := chg_cellS hcs z2 hne; have y3 := chg_cellS hcs z3 hne; have y4 := chg_cellS hcs z4 hne; have HCS := Lib.hid hcs; clear ho4 hk4 hq4 hcs hb4))
  have h51 := Lib.heap_setCell_same (i := 0) HB4.out (.int .i64 (nd.ver : Int))
  have h52 := Lib.heap_setCell_same (i := 1) h51 (.int .i64 (nd.ctr : Int))
  have h53 := Lib.heap_setCell_same (i := 2) h52 (.int .i64 (nd.own : Int))
  have h54 := Lib.heap_setCell_same (i := 3) h53 (.int .i64 nd.kids)
  obtain ⟨w5, hw5⟩ : ∃ w5, w5 = (((w4.setCell ⟨w.heap.size, 0, none⟩ (.int .i64 (nd.ver : Int))).setCell ⟨w.heap.size, 1, none⟩ (.int .i64 (nd.ctr : Int))).setCell ⟨w.heap.size, 2, none⟩ (.int .i64 (nd.own : Int))).setCell ⟨w.heap.size, 3, none⟩ (.int .i64 nd.kids) := ⟨_, rfl⟩
  have HC5 := Lib.hid HCS.out
  rw [← hw5] at h54 HC5 ⊢
  have hb5 : w5.heap[w.heap.size]? = some (.cells #[.int .i64 (nd.ver : Int), .int .i64 (nd.ctr : Int), .int .i64 (nd.own : Int), .int .i64 nd.kids] 32 (0, 0)) := by simpa using h54
  have d0 := cell_at hb5 0
  have d1 := cell_at hb5 1
  have d2 := cell_at hb5 2
  have d3 := cell_at hb5 3
  simp only [List.getElem?_toArray, List.getElem?_cons_zero, List.getElem?_cons_succ] at d0 d1 d2 d3
  have hrow : w5.ownsRow w.heap.size 5 1 (.slice A4 nd.data.length c4') nd.data.length (Lib.byteCells nd.data) := own_base' (own_chg HO4.out HC5.out (fun g hg x => by
    have h1 := (HO4.out.lt g hg).1
    have h2 : w1.drew.heap.size = w1.heap.size := rfl
    have h3 := HK.out.size
    omega)) (by have h3 := HK.out.size; have h2 : w1.drew.heap.size = w1.heap.size := rfl; omega)
  have hkf : Kept w w5 := Chg.kept ((HKA.out.trans HK.out).trans HK4.out) HC5.out (fun g x => by omega)
  have HROW := Lib.hid hrow
  have HKF := Lib.hid hkf
  clear h51 h52 h53 h54 hw5 hb5 hrow hkf c0 c1 c2 c3 c4 z0 z1 z2 z3 z4 y0 y1 y2 y3 y4 hf0 hf1 hf2 hf3 hcb0 hcb1 hcb2 hcb3
  go_wp2
  (try simp only [Exit.inBlock, Exit.then])
  refine bodyPost_ret (v := .tuple #[.slice A4 nd.data.length c4', .agg #[.int .i64 (nd.ver : Int), .int .i64 (nd.ctr : Int), .int .i64 (nd.own : Int), .int .i64 nd.kids], .int .i64 0]) (by simp [results, Tryd.results8, go_sem, d0, d1, d2, d3]) rfl ?_
  exact ⟨_, rfl, HROW.out, HKF.out⟩
end Go.Proofs.YtnpenabkmpoafaaDoor
