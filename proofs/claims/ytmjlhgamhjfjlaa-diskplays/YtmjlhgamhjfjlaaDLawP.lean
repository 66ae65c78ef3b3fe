/- The walk of DiskPlays. -/
import Derived.Test.YtmjlhgamhjfjlaaDPlo
import Derived.Lib.SlBytesConst
import Derived.Deep.CutBlock
import Derived.Deep.DeepCutAuto
set_option linter.unusedSimpArgs false
set_option linter.unusedVariables false
namespace Go.Proofs.Ytmjlhgamhjfjlaa
open Go.RowKit
set_option maxRecDepth 100000 in
set_option maxHeartbeats 8000000 in
theorem diskPlays_walk (cap : Nat) (xs : List Call) (v : Value) (w : World) (hv : Script w v xs) (hc : cap ≤ 1073741824) (hl : xs.length ≤ 1256584717458) (hd : ∀ x ∈ xs, x.data.length ≤ 140737488355328 ∧ x.cuts.length ≤ 17592186044416) :
    Calls Try.prog 3 #[.int .i64 (cap : Int), v] w fun e w' => e = .returned (.bool true) ∧ Kept w w' := by
  have HV := Lib.hid hv
  have HDL := Lib.hid hd
  obtain ⟨A, c, rfl, hc1, hc2⟩ := hv.form
  clear hv hd
  unfold maxLen at hc2
  have HN := Lib.hid (new_dk cap w w (Kept.refl w) hc)
  have t1 : decide ((cap : Int) < 0) = false := by simp
  have t2 : decide ((1073741824 : Int) < (cap : Int)) = false := by simp; omega
  go_enter Try.func3, Try.ntmps3
  go_wp2_with fail
  refine HN.out.mono ?_
  rintro e w1 ⟨db0, rfl, h1⟩
  have HJ := Lib.hid (jk_new h1 hc)
  clear h1
  go_wp2
  go_loopw [5, 44] (fun d5 i W => ∃ (k db : Nat) (fs : Fls), d5 = .pointer (some ⟨db, 0, none⟩) ∧ i = .int .i64 (k : Int) ∧ k ≤ xs.length ∧ fs.length ≤ k ∧ JK w W (.pointer (some ⟨db, 0, none⟩)) (.pointer (some ⟨w1.heap.size, 0, none⟩)) cap fs fs) (fun _ i _ => xs.length - (intOf i).toNat)
  case atStart => exact ⟨0, db0, [], rfl, rfl, Nat.zero_le _, Nat.le_refl _, HJ.out⟩
  case round =>
    obtain ⟨k, db, fs, rfl, rfl, hk, hfl, hjk⟩ := hrel
    have HJK := Lib.hid hjk
    clear hjk
    by_cases hlt : k < xs.length
    · obtain ⟨b, o, rfl, a0, a1, a2, a3, a4, a5, hrd⟩ := (HV.out.kept HJK.out.old).at hlt
      have g1 : (k : Int) < (xs.length : Int) := by omega
      have hdl := HDL.out xs[k] (List.getElem_mem hlt)
      have HRD0 := Lib.hid (show xs[k].Reads w from by obtain ⟨_, _, _, _, _, _, _, _, _, h⟩ := HV.out.at hlt; exact h)
      clear hrd
      generalize xs[k] = x at *
      obtain ⟨hdl1, hdl2⟩ := hdl
      obtain ⟨Ad, cd, hdv, -, -, -⟩ := HRD0.out.data
      obtain ⟨An, cn, hnv, -, -⟩ := HRD0.out.names.form
      obtain ⟨Ac, cc, hcv, -, -⟩ := HRD0.out.cuts.form
      rw [hdv] at a3
      rw [hnv] at a4
      rw [hcv] at a5
      have HRD := Lib.hid (show Bts w (.slice Ad x.data.length cd) x.data by rw [← hdv]; exact HRD0.out.data)
      have HRN := Lib.hid (show Txts w (.slice An x.names.length cn) x.names by rw [← hnv]; exact HRD0.out.names)
      have HRC := Lib.hid (show Ints w (.slice Ac x.cuts.length cc) x.cuts by rw [← hcv]; exact HRD0.out.cuts)
      clear hdv hnv hcv
      go_upto_block 2 with (fail)
      have hKa : Kept wr (wr.alloc (.cells #[.int .i64 x.kind, .string ⟨x.a.toArray⟩, .string ⟨x.b.toArray⟩, .slice Ad x.data.length cd, .slice An x.names.length cn, .slice Ac x.cuts.length cc] 36)) := (Kept.refl wr).alloc _
      have hba := heap_alloc_new wr (.cells #[.int .i64 x.kind, .string ⟨x.a.toArray⟩, .string ⟨x.b.toArray⟩, .slice Ad x.data.length cd, .slice An x.names.length cn, .slice Ac x.cuts.length cc] 36)
      have hbz : wr.heap.size < (wr.alloc (.cells #[.int .i64 x.kind, .string ⟨x.a.toArray⟩, .string ⟨x.b.toArray⟩, .slice Ad x.data.length cd, .slice An x.names.length cn, .slice Ac x.cuts.length cc] 36)).heap.size := by simp
      generalize wr.alloc (.cells #[.int .i64 x.kind, .string ⟨x.a.toArray⟩, .string ⟨x.b.toArray⟩, .slice Ad x.data.length cd, .slice An x.names.length cn, .slice Ac x.cuts.length cc] 36) = wa at *
      have q1 := cell_at hba 1
      have q2 := cell_at hba 2
      have q3 := cell_at hba 3
      have q4 := cell_at hba 4
      have q5 := cell_at hba 5
      simp only [List.getElem?_toArray, List.getElem?_cons_zero, List.getElem?_cons_succ] at q1 q2 q3 q4 q5
      have HBA := Lib.hid hba
      have hsrt := HJK.out.good.1.1
      have hld := length_doS (cap := cap) (x := x) hsrt
      have HLD := Lib.hid (show (doS cap x fs).length ≤ k + 1 by omega)
      clear hba a0 a1 a2 a3 a4 a5 hld hsrt
      go_cut [5] (fun s5 wx => ∃ (db' : Nat) (fs' : Fls), s5 = .pointer (some ⟨db', 0, none⟩) ∧ fs'.length ≤ k + 1 ∧ JK w wx (.pointer (some ⟨db', 0, none⟩)) (.pointer (some ⟨w1.heap.size, 0, none⟩)) cap fs' fs')
      case first =>
        by_cases k1 : x.kind = 1
        · have e1 : (x.kind == 1) = true := by simp [k1]
          have HDO := Lib.hid (show doS cap x fs = if okA cap x.a x.data fs = 0 then appS x.a x.data fs else fs by unfold doS; rw [if_pos k1])
          clear k1
          go_wp2_with fail
          refine (copy_any x.data _ wa (HRD.out.kept (HJK.out.old.trans hKa)) hdl1).mono ?_
          rintro e w2 ⟨v2, rfl, ho2, k2⟩
          obtain ⟨A2, c2, rfl⟩ := own_form ho2
          have HO2 := Lib.hid ho2
          have hr8 := Row8.of_own ho2
          have hs2 := k2.size
          have HJA := Lib.hid ((HJK.out.avoid (hKa.trans k2) (A := fun g => wr.heap.size ≤ g ∧ g < w2.heap.size) (fun g hg => hg)).kept (Kept.refl w2).drew)
          have hnA : ¬ ¬ (wr.heap.size ≤ wr.heap.size ∧ wr.heap.size < w2.heap.size) := fun h => h ⟨Nat.le_refl _, by omega⟩
          have HBD := Lib.hid (show w2.drew.heap[wr.heap.size]? = _ from k2.block' HBA.out)
          have HC1 := Lib.hid (append_jka x.a x.data _ HJA.out (Bts.kept (Bts.of_own HO2.out) (Kept.refl w2).drew) (by omega))
          have r1 := k2.cell q1
          have r3 := k2.cell q3
          have HR8 := Lib.hid hr8
          clear ho2 hr8
          go_wp2_with fail
          go_region_held3 (fun W => W.cell? ⟨wr.heap.size, 1, none⟩ = some (.string ⟨x.a.toArray⟩) ∧ W.cell? ⟨wr.heap.size, 3, none⟩ = some (.slice Ad x.data.length cd))
            (first | exact ⟨r1, r3⟩ | exact ⟨hz1, hz3⟩ | exact ⟨hy1, hy3⟩)
            (first
              | (go_at_call 11; refine HC1.out.mono ?_; rintro e w3 ⟨rfl, hd3, hc3⟩; have HJ3 := Lib.hid hd3; clear hd3; have hz1 := cell_at (hc3.block' HBD.out hnA) 1; have hz3 := cell_at (hc3.block' HBD.out hnA) 3; simp only [List.getElem?_toArray, List.getElem?_cons_zero, List.getElem?_cons_succ] at hz1 hz3; have HB3 := Lib.hid (hc3.block' HBD.out hnA))
              | (go_at_call 12; refine (rappend_jka x.a x.data _ HJ3.out (HRD.out.kept HJ3.out.old) hdl1 (by omega)).mono ?_; rintro e w4 ⟨rfl, hd4, hc4⟩; have HJ4 := Lib.hid hd4; clear hd4; have hy1 := cell_at (hc4.block' HB3.out hnA) 1; have hy3 := cell_at (hc4.block' HB3.out hnA) 3; simp only [List.getElem?_toArray, List.getElem?_cons_zero, List.getElem?_cons_succ] at hy1 hy3))
          have hrow4 : Row8 w4 wa.heap.size (.slice A2 x.data.length c2) x.data.length := by
            obtain ⟨zs, h⟩ := HR8.out
            have hlt2 : ∀ g, (Value.slice A2 x.data.length c2).ownBlock = some g → ¬ ¬ (wr.heap.size ≤ g ∧ g < w2.heap.size) := fun g hg hn => hn (by have := h.lt g hg; exact ⟨by omega, this.2⟩)
            exact ⟨zs, own_chg (own_chg (own_kept h (Kept.refl w2).drew) hc3 (fun g hg => hlt2 g hg)) hc4 (fun g hg => hlt2 g hg)⟩
          have HR4 := Lib.hid hrow4
          have hfl8 : x.data.length ≤ 140737488355328 := hdl1
          clear hrow4 hz1 hz3 hy1 hy3 r1 r3 q1 q2 q3 q4 q5
          go_wp2
          go_loopw [69] (fun i W => ∃ j : Nat, i = .int .i64 (j : Int) ∧ j ≤ x.data.length ∧ Row8 W wa.heap.size (.slice A2 x.data.length c2) x.data.length ∧ JKA (fun g => wr.heap.size ≤ g ∧ g < w2.heap.size) w W (.pointer (some ⟨db, 0, none⟩)) (.pointer (some ⟨w1.heap.size, 0, none⟩)) cap (doS cap x fs) (doS cap x fs)) (fun i _ => x.data.length - (intOf i).toNat)
          case atStart => exact ⟨0, rfl, Nat.zero_le _, HR4.out, by rw [HDO.out]; exact HJ4.out⟩
          case round =>
            obtain ⟨j, rfl, hj, hr, hja⟩ := hrel
            have HJA5 := Lib.hid hja
            clear hja
            by_cases hjl : j < x.data.length
            · obtain ⟨g, z, rfl, hge, y1, y2, y3⟩ := hr.at hjl
              have g2 : (j : Int) < (x.data.length : Int) := by omega
              have Y3 := Lib.hid y3
              have hgl : g < w2.heap.size := (HO2.out.lt g rfl).2
              clear y3 hr
              go_wp2
              go_roundw
              case rel => exact ⟨j + 1, by go_num, by omega, Y3.out _, HJA5.out.chg (Chg.setCell (Chg.refl _ _) _ (fun _ => ⟨by omega, hgl⟩))⟩
              case measure => simp [intOf]; omega
            · obtain rfl : j = x.data.length := by omega
              clear hr
              go_wp2
              go_meet
              case rel => exact ⟨db, _, rfl, HLD.out, HJA5.out.jk⟩
        by_cases k2 : x.kind = 2
        · have e1 : (x.kind == 1) = false := by simp [k2]
          have e2 : (x.kind == 2) = true := by simp [k2]
          have HDO := Lib.hid (show doS cap x fs = if allS x.names fs = 0 then syncS x.names fs else fs by unfold doS; rw [if_neg k1, if_pos k2])
          have HJA := Lib.hid ((HJK.out.avoid hKa (A := fun g => wr.heap.size ≤ g ∧ g < wa.heap.size) (fun g hg => hg)).kept (Kept.refl wa).drew)
          have hnA : ¬ ¬ (wr.heap.size ≤ wr.heap.size ∧ wr.heap.size < wa.heap.size) := fun h => h ⟨Nat.le_refl _, hbz⟩
          have HC1 := Lib.hid (sync_jka x.names _ HJA.out HRN.out)
          have hbd : wa.drew.heap[wr.heap.size]? = _ := HBA.out
          have HBD := Lib.hid hbd
          clear k1 k2 hbd
          go_wp2_with fail
          go_region_held3 (fun W => W.cell? ⟨wr.heap.size, 4, none⟩ = some (.slice An x.names.length cn))
            (first | exact q4 | exact hz4 | exact hy4)
            (first
              | (go_at_call 13; refine HC1.out.mono ?_; rintro e w3 ⟨rfl, hd3, hc3⟩; have HJ3 := Lib.hid hd3; clear hd3; have hz4 := cell_at (hc3.block' (HBD.out) hnA) 4; simp only [List.getElem?_toArray, List.getElem?_cons_zero, List.getElem?_cons_succ] at hz4; have HB3 := Lib.hid (hc3.block' HBD.out hnA))
              | (go_at_call 14; refine (rsync_jka x.names _ HJ3.out HRN.out).mono ?_; rintro e w4 ⟨rfl, hd4, hc4⟩; have HJ4 := Lib.hid hd4; clear hd4; have hy4 := cell_at (hc4.block' (HB3.out) hnA) 4; simp only [List.getElem?_toArray, List.getElem?_cons_zero, List.getElem?_cons_succ] at hy4; skip))
          go_wp2
          go_meet
          case rel => exact ⟨db, _, rfl, HLD.out, by rw [HDO.out]; exact HJ4.out.jk⟩
        by_cases k3 : x.kind = 3
        · have e1 : (x.kind == 1) = false := by simp [k3]
          have e2 : (x.kind == 2) = false := by simp [k3]
          have e3 : (x.kind == 3) = true := by simp [k3]
          have HDO := Lib.hid (show doS cap x fs = if renE x.a x.b fs = 0 then renS x.a x.b fs else fs by unfold doS; rw [if_neg k1, if_neg k2, if_pos k3])
          have HJA := Lib.hid ((HJK.out.avoid hKa (A := fun g => wr.heap.size ≤ g ∧ g < wa.heap.size) (fun g hg => hg)).kept (Kept.refl wa).drew)
          have hnA : ¬ ¬ (wr.heap.size ≤ wr.heap.size ∧ wr.heap.size < wa.heap.size) := fun h => h ⟨Nat.le_refl _, hbz⟩
          have HC1 := Lib.hid (rename_jka x.a x.b HJA.out)
          have hbd : wa.drew.heap[wr.heap.size]? = _ := HBA.out
          have HBD := Lib.hid hbd
          clear k1 k2 k3 hbd
          go_wp2_with fail
          go_region_held3 (fun W => W.cell? ⟨wr.heap.size, 1, none⟩ = some (.string ⟨x.a.toArray⟩) ∧ W.cell? ⟨wr.heap.size, 2, none⟩ = some (.string ⟨x.b.toArray⟩))
            (first | exact ⟨q1, q2⟩ | exact ⟨hz1, hz2⟩ | exact ⟨hy1, hy2⟩)
            (first
              | (go_at_call 15; refine HC1.out.mono ?_; rintro e w3 ⟨rfl, hd3, hc3⟩; have HJ3 := Lib.hid hd3; clear hd3; have hz1 := cell_at (hc3.block' (HBD.out) hnA) 1; simp only [List.getElem?_toArray, List.getElem?_cons_zero, List.getElem?_cons_succ] at hz1; have hz2 := cell_at (hc3.block' (HBD.out) hnA) 2; simp only [List.getElem?_toArray, List.getElem?_cons_zero, List.getElem?_cons_succ] at hz2; have HB3 := Lib.hid (hc3.block' HBD.out hnA))
              | (go_at_call 16; refine (rrename_jka x.a x.b HJ3.out).mono ?_; rintro e w4 ⟨rfl, hd4, hc4⟩; have HJ4 := Lib.hid hd4; clear hd4; have hy1 := cell_at (hc4.block' (HB3.out) hnA) 1; simp only [List.getElem?_toArray, List.getElem?_cons_zero, List.getElem?_cons_succ] at hy1; have hy2 := cell_at (hc4.block' (HB3.out) hnA) 2; simp only [List.getElem?_toArray, List.getElem?_cons_zero, List.getElem?_cons_succ] at hy2; skip))
          go_wp2
          go_meet
          case rel => exact ⟨db, _, rfl, HLD.out, by rw [HDO.out]; exact HJ4.out.jk⟩
        by_cases k4 : x.kind = 4
        · have e1 : (x.kind == 1) = false := by simp [k4]
          have e2 : (x.kind == 2) = false := by simp [k4]
          have e3 : (x.kind == 3) = false := by simp [k4]
          have e4 : (x.kind == 4) = true := by simp [k4]
          have HDO := Lib.hid (show doS cap x fs = if allS x.names fs = 0 then remS x.names fs else fs by unfold doS; rw [if_neg k1, if_neg k2, if_neg k3, if_pos k4])
          have HJA := Lib.hid ((HJK.out.avoid hKa (A := fun g => wr.heap.size ≤ g ∧ g < wa.heap.size) (fun g hg => hg)).kept (Kept.refl wa).drew)
          have hnA : ¬ ¬ (wr.heap.size ≤ wr.heap.size ∧ wr.heap.size < wa.heap.size) := fun h => h ⟨Nat.le_refl _, hbz⟩
          have HC1 := Lib.hid (remove_jka x.names _ HJA.out HRN.out)
          have hbd : wa.drew.heap[wr.heap.size]? = _ := HBA.out
          have HBD := Lib.hid hbd
          clear k1 k2 k3 k4 hbd
          go_wp2_with fail
          go_region_held3 (fun W => W.cell? ⟨wr.heap.size, 4, none⟩ = some (.slice An x.names.length cn))
            (first | exact q4 | exact hz4 | exact hy4)
            (first
              | (go_at_call 17; refine HC1.out.mono ?_; rintro e w3 ⟨rfl, hd3, hc3⟩; have HJ3 := Lib.hid hd3; clear hd3; have hz4 := cell_at (hc3.block' (HBD.out) hnA) 4; simp only [List.getElem?_toArray, List.getElem?_cons_zero, List.getElem?_cons_succ] at hz4; have HB3 := Lib.hid (hc3.block' HBD.out hnA))
              | (go_at_call 18; refine (rremove_jka x.names _ HJ3.out HRN.out).mono ?_; rintro e w4 ⟨rfl, hd4, hc4⟩; have HJ4 := Lib.hid hd4; clear hd4; have hy4 := cell_at (hc4.block' (HB3.out) hnA) 4; simp only [List.getElem?_toArray, List.getElem?_cons_zero, List.getElem?_cons_succ] at hy4; skip))
          go_wp2
          go_meet
          case rel => exact ⟨db, _, rfl, HLD.out, by rw [HDO.out]; exact HJ4.out.jk⟩
        by_cases k5 : x.kind = 5
        · have e1 : (x.kind == 1) = false := by simp [k5]
          have e2 : (x.kind == 2) = false := by simp [k5]
          have e3 : (x.kind == 3) = false := by simp [k5]
          have e4 : (x.kind == 4) = false := by simp [k5]
          have e5 : (x.kind == 5) = true := by simp [k5]
          have HDO := Lib.hid (show doS cap x fs = crashS x.cuts fs by unfold doS; rw [if_neg k1, if_neg k2, if_neg k3, if_neg k4, if_pos k5])
          clear k1 k2 k3 k4 k5
          go_wp2_with fail
          refine (copyInts_any x.cuts _ wa (HRC.out.kept (HJK.out.old.trans hKa)) hdl2).mono ?_
          rintro e w2 ⟨v2, rfl, ho2, k2⟩
          obtain ⟨A2, c2, rfl⟩ := own_form ho2
          have HO2 := Lib.hid ho2
          have hs2 := k2.size
          have HJA := Lib.hid (HJK.out.avoid (hKa.trans k2) (A := fun g => wr.heap.size ≤ g ∧ g < w2.heap.size) (fun g hg => hg))
          have hnA : ¬ ¬ (wr.heap.size ≤ wr.heap.size ∧ wr.heap.size < w2.heap.size) := fun h => h ⟨Nat.le_refl _, by omega⟩
          clear ho2
          go_wp2_with fail
          refine (crash_jka x.cuts _ _ _ _ HJA.out HO2.out (fun g hg => by have := HO2.out.lt g hg; exact ⟨by omega, this.2⟩)).mono ?_
          rintro e w3 ⟨rfl, hd3, hc3⟩
          have HJ3 := Lib.hid hd3
          have hz5 := cell_at (hc3.block' (k2.block' HBA.out) hnA) 5
          simp only [List.getElem?_toArray, List.getElem?_cons_zero, List.getElem?_cons_succ] at hz5
          clear hd3
          go_wp2_with fail
          refine (rcrash_jka x.cuts _ HJ3.out HRC.out).mono ?_
          rintro e w4 ⟨rfl, hd4, hc4⟩
          have HJ4 := Lib.hid hd4
          clear hd4
          go_wp2
          go_meet
          case rel => exact ⟨db, _, rfl, HLD.out, by rw [HDO.out]; exact HJ4.out.jk⟩
        by_cases k6 : x.kind = 6
        · have e1 : (x.kind == 1) = false := by simp [k6]
          have e2 : (x.kind == 2) = false := by simp [k6]
          have e3 : (x.kind == 3) = false := by simp [k6]
          have e4 : (x.kind == 4) = false := by simp [k6]
          have e5 : (x.kind == 5) = false := by simp [k6]
          have e6 : (x.kind == 6) = true := by simp [k6]
          have kc := fun (w : World) (C : Array Value) (n c : Nat) => Lib.run_convert_bytes_const (P := Try.prog) w 32 5 C n c Try.underlying32 Try.underlying5
          clear k1 k2 k3 k4 k5 k6
          go_wp2_with fail
          refine (clone_tk _ _ cap fs fs w wr wa HJK.out hKa).mono ?_
          rintro e w2 ⟨db2, rfl, h2⟩
          have H2 := Lib.hid h2
          clear h2
          go_wp2_with fail
          refine (append_tk [122] [122] _ H2.out ((Kept.refl w2).alloc _) (Bts.lit w2 [122] _ _ (by simp [maxLen])) (by omega)).mono ?_
          rintro e w3 ⟨rfl, h3⟩
          have H3 := Lib.hid h3
          clear h3
          go_wp2_with fail
          refine (crash_tk H3.out).mono ?_
          rintro e w4 ⟨rfl, h4⟩
          have H4 := Lib.hid h4
          clear h4
          go_wp2
          go_meet
          case rel => exact ⟨db2, fs, rfl, by omega, H4.out.jk⟩
        · have e1 : (x.kind == 1) = false := by simpa using k1
          have e2 : (x.kind == 2) = false := by simpa using k2
          have e3 : (x.kind == 3) = false := by simpa using k3
          have e4 : (x.kind == 4) = false := by simpa using k4
          have e5 : (x.kind == 5) = false := by simpa using k5
          have e6 : (x.kind == 6) = false := by simpa using k6
          clear k1 k2 k3 k4 k5 k6
          go_wp2
          go_meet
          case rel => exact ⟨db, fs, rfl, by omega, HJK.out.kept hKa⟩
      case rest =>
        obtain ⟨db', fs', rfl, hfl', hjk'⟩ := hcut
        have HJK' := Lib.hid hjk'
        clear hjk'
        go_wp2_with fail
        refine (alike_any _ _ cap fs' w wc HJK'.out).mono ?_
        rintro e wz ⟨rfl, hkz⟩
        go_wp2
        go_roundw
        case rel => exact ⟨k + 1, db', fs', rfl, by go_num, by omega, hfl', HJK'.out.kept hkz⟩
        case measure => simp [intOf]; omega
    · obtain rfl : k = xs.length := by omega
      go_wp2_with fail
      refine (awake_any _).mono ?_
      rintro e w9 ⟨rfl, k9⟩
      go_wp2
      go_ret
      exact ⟨rfl, HJK.out.old.trans k9⟩
set_option maxRecDepth 100000 in
set_option maxHeartbeats 4000000 in
theorem diskPlays_bad (cap : Int) (v : Value) (w : World) (hc : cap < 0 ∨ 1073741824 < cap) : Calls Try.prog 3 #[.int .i64 cap, v] w fun e w' => e = .returned (.bool true) ∧ Kept w w' := by
  have HN := Lib.hid (new_bad cap w hc)
  rcases hc with hc | hc
  · have t1 : decide (cap < 0) = true := by simpa using hc
    go_enter Try.func3, Try.ntmps3
    go_wp2_with fail
    refine HN.out.mono ?_
    rintro e w1 ⟨rfl, hw1⟩
    subst hw1
    go_wp2_with fail
    refine (awake_any _).mono ?_
    rintro e w9 ⟨rfl, k9⟩
    go_wp2
    go_ret
    exact ⟨rfl, k9⟩
  · have t1 : decide (cap < 0) = false := by simp; omega
    have t2 : decide ((1073741824 : Int) < cap) = true := by simpa using hc
    go_enter Try.func3, Try.ntmps3
    go_wp2_with fail
    refine HN.out.mono ?_
    rintro e w1 ⟨rfl, hw1⟩
    subst hw1
    go_wp2_with fail
    refine (awake_any _).mono ?_
    rintro e w9 ⟨rfl, k9⟩
    go_wp2
    go_ret
    exact ⟨rfl, k9⟩
theorem diskPlays_any (cap : Int) (xs : List Call) (v : Value) (w : World) (hv : Script w v xs) (hl : xs.length ≤ 1256584717458) (hd : ∀ x ∈ xs, x.data.length ≤ 140737488355328 ∧ x.cuts.length ≤ 17592186044416) :
    Calls Try.prog 3 #[.int .i64 cap, v] w fun e w' => e = .returned (.bool true) ∧ Kept w w' := by
  by_cases hc : cap < 0 ∨ 1073741824 < cap
  · exact diskPlays_bad cap v w hc
  · obtain ⟨n, rfl⟩ : ∃ n : Nat, cap = (n : Int) := ⟨cap.toNat, by omega⟩
    exact diskPlays_walk n xs v w hv (by omega) hl hd
end Go.Proofs.Ytmjlhgamhjfjlaa
