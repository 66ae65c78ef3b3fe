/- The walk of the document's Homes. -/
import Derived.Test.YtgmpbalibdlhdaaQIRh
set_option linter.unusedSimpArgs false
set_option linter.unusedVariables false
namespace Go.Proofs.Ytgmpbalibdlhdaa
open Go.RowKit
theorem less_beforeT (a b : Pth) : Op.bytesLess a b = bytesBefore a b := by
  induction a generalizing b with
  | nil => cases b <;> rfl
  | cons x r ih =>
    cases b with
    | nil => rfl
    | cons y s => simp [Op.bytesLess, bytesBefore, ih]
set_option maxRecDepth 100000 in
set_option maxHeartbeats 8000000 in
theorem refHomes_any {w : World} {base db n : Nat} {lv : Value} {L : List It} (h : RxAt w base db n lv L) (hl : L.length * 72 ≤ 140737488355328) :
    Calls Try.prog 15 #[.pointer (some ⟨db, 0, none⟩)] w fun e w' => ∃ v, e = .returned v ∧ w'.ownsRow w.heap.size 9 1 v (homsR L).length (strCells (homsR L)) ∧ Kept w w' := by
  have H := Lib.hid h
  obtain ⟨lA, lc, rfl⟩ := own_form h.row
  clear h
  go_enter Try.func15, Try.ntmps15
  go_wp2
  go_loopw [3, 4] (fun ov i W => ∃ k : Nat, i = .int .i64 (k : Int) ∧ k ≤ L.length ∧ W.ownsRow w.heap.size 9 1 ov (homsR (L.take k)).length (strCells (homsR (L.take k))) ∧ Kept w W) (fun _ i _ => L.length - (intOf i).toNat)
  case atStart => exact ⟨0, rfl, Nat.zero_le _, World.ownsRow_nil _ _ _ _, Kept.refl _⟩
  case round =>
    obtain ⟨k, rfl, hk, hr, hkw⟩ := hrel
    obtain ⟨wo, hwo⟩ : ∃ wo, wo = wr := ⟨wr, rfl⟩
    subst hwo
    have HR := Lib.hid hr
    have HKW := Lib.hid hkw
    obtain ⟨oA, oc, rfl⟩ := own_form hr
    have hHW := H.out.kept hkw
    obtain ⟨d0, d1⟩ := cells2 hHW.blk
    have HOL := Lib.hid (show (homsR (L.take k)).length ≤ k by have := homsR_len (L.take k); rw [List.length_take] at this; omega)
    by_cases hlt : k < L.length
    · obtain ⟨g, lc', ev, hlc, hcm⟩ := own_some hHW.row (by omega)
      obtain ⟨rfl, -, rfl⟩ : lA = some ⟨g, 0, none⟩ ∧ L.length = L.length ∧ lc = lc' := by simpa using ev
      unfold maxLen at hcm
      have g1 : (k : Int) < (L.length : Int) := by omega
      have q0 := own_cell hHW.row (j := k * 6 + 0) ((flat_at (m := 6) (f := It.cs) (fun _ => rfl) hlt (j := 0) (by omega)).trans rfl)
      have q1 := own_cell hHW.row (j := k * 6 + 1) ((flat_at (m := 6) (f := It.cs) (fun _ => rfl) hlt (j := 1) (by omega)).trans rfl)
      simp only [Nat.add_zero] at q0
      have HTK := Lib.hid (show homsR (L.take (k + 1)) = homR (homsR (L.take k)) L[k] by rw [List.take_succ_eq_append_getElem hlt, homsR_snoc])
      generalize L[k] = x at *
      generalize homsR (L.take k) = out at *
      clear hr hkw hHW ev
      by_cases h1 : x.c.kind = 1
      · have HNX := Lib.hid (show homsR (L.take (k + 1)) = insT x.c.home out by rw [HTK.out]; unfold homR; rw [if_pos h1])
        rw [h1] at q0
        clear HTK h1
        generalize x.c.home = h at *
        go_wp2
        go_loopw [6, 7, 8] (fun nv pv kv W => ∃ (j : Nat) (nx : List Pth) (put : Bool), kv = .int .i64 (j : Int) ∧ j ≤ out.length ∧ pv = .bool put ∧ W.ownsRow wo.heap.size 9 1 nv nx.length (strCells nx) ∧ Kept wo W ∧ InsAt h out j nx put) (fun _ _ kv _ => out.length - (intOf kv).toNat)
        case atStart => exact ⟨0, [], false, rfl, Nat.zero_le _, rfl, World.ownsRow_nil _ _ _ _, Kept.refl _, InsAt.start _ _⟩
        case round =>
          obtain ⟨j, nx, put, rfl, hj, rfl, hnr, hkw, hin⟩ := hrel
          have HN := Lib.hid hnr
          have HKJ := Lib.hid hkw
          obtain ⟨nA, nc, rfl⟩ := own_form hnr
          have HIN := Lib.hid hin
          have hnl := hin.len hj
          have hol := HOL.out
          have hjj : wo.heap.size ≤ wr.heap.size := hkw.size
          by_cases hjl : j < out.length
          · have g2 : (j : Int) < (out.length : Int) := by omega
            obtain ⟨go, oc', eo, -, hoc⟩ := own_some HR.out (by omega)
            obtain ⟨rfl, -, rfl⟩ : oA = some ⟨go, 0, none⟩ ∧ out.length = out.length ∧ oc = oc' := by simpa using eo
            unfold maxLen at hoc
            have p0 := hkw.cell (own_cell HR.out (j := j) (show (strCells out)[j]? = some (.string ⟨out[j].toArray⟩) by unfold strCells; rw [List.getElem?_map, List.getElem?_eq_getElem hjl]; rfl))
            have HHIT := Lib.hid (fun e => HIN.out.hit hjl e)
            have HYC := Lib.hid (show (strCells out)[j]? = some (.string ⟨out[j].toArray⟩) by unfold strCells; rw [List.getElem?_map, List.getElem?_eq_getElem hjl]; rfl)
            have HPUT := Lib.hid (fun (e : put = false) (hne : out[j] ≠ h) hb => InsAt.put (e ▸ HIN.out) hjl hne hb)
            have HGO := Lib.hid (fun (e : put = false) (hne : out[j] ≠ h) hb => InsAt.go (e ▸ HIN.out) hjl hne hb)
            have HPAST := Lib.hid (fun (e : put = true) => InsAt.past (e ▸ HIN.out) hjl)
            generalize out[j] = y at *
            clear hnr hkw hin eo
            by_cases he : y = h
            · subst he
              have HI := Lib.hid (HHIT.out rfl)
              clear HHIT HPUT HGO HPAST
              go_wp2_with (first | (at_builtin; refine wpList_append_txts rfl _ _ rfl wo.heap.size _ _ nx [y] _ rfl rfl (own_kept HN.out ((Kept.refl wr).alloc _)) (Txts.one _ y _) (by simp; omega) (by simp; omega) ?_; intro v5 w5 z1 z2 z3; obtain ⟨A5, p5, rfl⟩ := own_form z1; have w5Z := Lib.hid z1; have w5K := Lib.hid (show Kept wo w5 from (Chg.of_grown (F := fun b => wo.heap.size ≤ b) z2 (fun b hb _ => own_geS HN.out b hb)).kept (HKJ.out.alloc _) (fun b x => x)); have w5s := z2.size; clear z1 z2 z3))
              go_roundw
              case rel => exact ⟨j + 1, nx ++ [y], true, by go_num, by omega, rfl, by simpa using w5Z.out, w5K.out, HI.out⟩
              case measure => simp [intOf]; omega
            · have he3 : (y == h) = false := by simpa using he
              cases put with
              | true =>
                have HI := Lib.hid (HPAST.out rfl)
                clear HHIT HPUT HGO HPAST
                go_wp2_with (first | (at_builtin; refine wpList_append_txts rfl _ _ rfl wo.heap.size _ _ nx [y] _ rfl rfl (own_kept HN.out ((Kept.refl wr).alloc _)) (Txts.one _ y _) (by simp; omega) (by simp; omega) ?_; intro v5 w5 z1 z2 z3; obtain ⟨A5, p5, rfl⟩ := own_form z1; have w5Z := Lib.hid z1; have w5K := Lib.hid (show Kept wo w5 from (Chg.of_grown (F := fun b => wo.heap.size ≤ b) z2 (fun b hb _ => own_geS HN.out b hb)).kept (HKJ.out.alloc _) (fun b x => x)); have w5s := z2.size; clear z1 z2 z3))
                all_goals first
                  | (exfalso; simp_all; done)
                  | (go_roundw
                     · exact ⟨j + 1, nx ++ [y], true, by go_num, by omega, rfl, by simpa using w5Z.out, w5K.out, HI.out⟩
                     · simp [intOf]; omega
                    )
              | false =>
                cases hb : bytesBefore h y with
                | false =>
                  have HI := Lib.hid (HGO.out rfl he hb)
                  have t1 : Op.bytesLess h y = false := by rw [less_beforeT]; exact hb
                  clear HHIT HPUT HGO HPAST hb
                  go_wp2_with (first | (at_builtin; refine wpList_append_txts rfl _ _ rfl wo.heap.size _ _ nx [y] _ rfl rfl (own_kept HN.out ((Kept.refl wr).alloc _)) (Txts.one _ y _) (by simp; omega) (by simp; omega) ?_; intro v5 w5 z1 z2 z3; obtain ⟨A5, p5, rfl⟩ := own_form z1; have w5Z := Lib.hid z1; have w5K := Lib.hid (show Kept wo w5 from (Chg.of_grown (F := fun b => wo.heap.size ≤ b) z2 (fun b hb _ => own_geS HN.out b hb)).kept (HKJ.out.alloc _) (fun b x => x)); have w5s := z2.size; clear z1 z2 z3))
                  all_goals first
                    | (exfalso; simp_all; done)
                    | (go_roundw
                       · exact ⟨j + 1, nx ++ [y], false, by go_num, by omega, rfl, by simpa using w5Z.out, w5K.out, HI.out⟩
                       · simp [intOf]; omega
                      )
                | true =>
                  have HI := Lib.hid (HPUT.out rfl he hb)
                  have t1 : Op.bytesLess h y = true := by rw [less_beforeT]; exact hb
                  clear HHIT HPUT HGO HPAST hb
                  go_wp2_with (first
                    | (at_builtin; refine wpList_append_txts rfl _ _ rfl wo.heap.size _ _ (nx ++ [h]) [y] _ rfl rfl (own_kept w6Z.out ((Kept.refl w6).alloc _)) (Txts.one _ y _) (by simp; omega) (by simp; omega) ?_; intro v5 w7 z1 z2 z3; obtain ⟨A5, p5, rfl⟩ := own_form z1; have w7Z := Lib.hid z1; have w7K := Lib.hid (show Kept wo w7 from (Chg.of_grown (F := fun b => wo.heap.size ≤ b) z2 (fun b hb _ => own_geS w6Z.out b hb)).kept (w6K.out.alloc _) (fun b x => x)); have w7s := z2.size; clear z1 z2 z3)
                    | (at_builtin; refine wpList_append_txts rfl _ _ rfl wo.heap.size _ _ nx [h] _ rfl rfl (own_kept HN.out ((Kept.refl wr).alloc _)) (Txts.one _ h _) (by simp; omega) (by simp; omega) ?_; intro v5 w6 z1 z2 z3; obtain ⟨A5, p5, rfl⟩ := own_form z1; have w6Z := Lib.hid z1; have w6K := Lib.hid (show Kept wo w6 from (Chg.of_grown (F := fun b => wo.heap.size ≤ b) z2 (fun b hb _ => own_geS HN.out b hb)).kept (HKJ.out.alloc _) (fun b x => x)); have w6s := w6K.out.size; have p6 := w6K.out.cell (own_cell HR.out (j := j) HYC.out); clear z1 z2 z3))
                  all_goals first
                    | (exfalso; simp_all; done)
                    | (go_roundw
                       · exact ⟨j + 1, nx ++ [h] ++ [y], true, by go_num, by omega, rfl, by simpa using w7Z.out, w7K.out, HI.out⟩
                       · simp [intOf]; omega
                      )
          · obtain rfl : j = out.length := by omega
            have HFN := Lib.hid hin.fin
            have HWB := Lib.hid HKW.out.size
            clear hnr hkw hin
            cases put with
            | true =>
              have HO := Lib.hid (show homsR (L.take (k + 1)) = nx from HNX.out.trans HFN.out.symm)
              go_wp2
              go_roundw
              case rel => exact ⟨k + 1, by go_num, by omega, by rw [HO.out]; exact row_base HN.out HWB.out, HKW.out.trans HKJ.out⟩
              case measure => simp [intOf]; omega
            | false =>
              have HO := Lib.hid (show homsR (L.take (k + 1)) = nx ++ [h] from HNX.out.trans HFN.out.symm)
              go_wp2_with (first | (at_builtin; refine wpList_append_txts rfl _ _ rfl wo.heap.size _ _ nx [h] _ rfl rfl (own_kept HN.out ((Kept.refl wr).alloc _)) (Txts.one _ h _) (by simp; omega) (by simp; omega) ?_; intro v5 w5 z1 z2 z3; obtain ⟨A5, p5, rfl⟩ := own_form z1; have w5Z := Lib.hid z1; have w5K := Lib.hid (show Kept wo w5 from (Chg.of_grown (F := fun b => wo.heap.size ≤ b) z2 (fun b hb _ => own_geS HN.out b hb)).kept (HKJ.out.alloc _) (fun b x => x)); have w5s := z2.size; clear z1 z2 z3))
              go_roundw
              case rel => exact ⟨k + 1, by go_num, by omega, by rw [HO.out]; exact row_base (by simpa using w5Z.out) HWB.out, HKW.out.trans w5K.out⟩
              case measure => simp [intOf]; omega
      · have HNX := Lib.hid (show homsR (L.take (k + 1)) = out by rw [HTK.out]; unfold homR; rw [if_neg h1])
        clear HTK
        generalize x.c.kind = kd at *
        go_wp2
        go_roundw
        case rel => exact ⟨k + 1, by go_num, by omega, by rw [HNX.out]; exact HR.out, HKW.out⟩
        case measure => simp [intOf]; omega
    · obtain rfl : k = L.length := by omega
      simp only [List.take_length] at HR ⊢
      clear hr hkw hHW
      go_wp2
      go_ret
      exact ⟨.slice oA (homsR L).length oc, rfl, HR.out, HKW.out⟩
end Go.Proofs.Ytgmpbalibdlhdaa
