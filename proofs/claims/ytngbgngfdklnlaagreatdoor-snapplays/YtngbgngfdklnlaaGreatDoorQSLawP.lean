/- The walk of SnapPlays. -/
import Derived.Test.YtngbgngfdklnlaaGreatDoorQSLw1
import Derived.Test.YtngbgngfdklnlaaGreatDoorGDJk3
import Derived.Deep.CutBlock
import Derived.Deep.DeepCutAuto
set_option linter.unusedSimpArgs false
set_option linter.unusedVariables false
namespace Go.Proofs.YtngbgngfdklnlaaGreatDoor
open Go.RowKit
/-- Two blocks of the call's own behind a disk's: one name each. -/
theorem Txts.mine {A : Nat → Prop} {w : World} {l : Nm} {t : TypeId} {g : Nat} (hb : w.heap[g]? = some (.cells #[.string ⟨l.toArray⟩] t (0, 0))) (hA : A g) : ∀ W, Chg (fun g => ¬ A g) w W → Txts W (.slice (some ⟨g, 0, none⟩) 1 1) [l] := by
  intro W c
  refine ⟨_, 1, rfl, Nat.le_refl _, by decide, fun _ => ⟨_, 0, rfl, fun k x hx => ?_⟩⟩
  have hb := c.block' hb (fun h => h hA)
  match k, hx with
  | 0, hx =>
    obtain rfl : l = x := by simpa using hx
    rw [cell_at hb]
    simp
set_option maxRecDepth 100000 in
set_option maxHeartbeats 8000000 in
theorem snapPlays_walk (cap : Nat) (nm : Nm) (xs : List Call5) (v : Value) (w : World) (hE : Env w) (hv : Script5 w v xs) (hc : cap ≤ 1073741824) (hl : xs.length ≤ 1760000000000) (hd : ∀ x ∈ xs, x.data.length ≤ 140737488355328 ∧ x.cuts.length ≤ 17592186044416) :
    Calls Tryz.prog 3 #[.int .i64 (cap : Int), .string ⟨nm.toArray⟩, v] w fun e w' => e = .returned (.bool true) ∧ Kept w w' := by
  have HV := Lib.hid hv
  have HDL := Lib.hid hd
  have HE := Lib.hid hE
  have HAW := Lib.hid (show ∀ W, Kept w W → _ from fun W hW => awake_any W (hE.kept hW))
  obtain ⟨A, c, rfl, hc1, hc2⟩ := hv.form
  clear hv hd hE
  unfold maxLen at hc2
  have HN := Lib.hid (new_dk cap w w (Kept.refl w) hc)
  have t1 : decide ((cap : Int) < 0) = false := by simp
  have t2 : decide ((1073741824 : Int) < (cap : Int)) = false := by simp; omega
  go_enter Tryz.func3, Tryz.ntmps3
  go_wp2_with fail
  refine HN.out.mono ?_
  rintro e w1 ⟨db, rfl, h1⟩
  have HJ := Lib.hid (jk_new h1 hc)
  clear h1
  go_wp2
  go_loopw [45] (fun i W => ∃ (k : Nat) (fs : Fls), i = .int .i64 (k : Int) ∧ k ≤ xs.length ∧ pot nm fs ≤ k + 1 ∧ JK w W (.pointer (some ⟨db, 0, none⟩)) (.pointer (some ⟨w1.heap.size, 0, none⟩)) cap fs fs) (fun i _ => xs.length - (intOf i).toNat)
  case atStart => exact ⟨0, [], rfl, Nat.zero_le _, (by decide : 0 + 1 ≤ 0 + 1), HJ.out⟩
  case round =>
    obtain ⟨k, fs, rfl, hk, hfp, hjk⟩ := hrel
    have HJK := Lib.hid hjk
    have hfl : fs.length ≤ k + 1 := Nat.le_trans (pot_len nm fs) hfp
    clear hjk
    by_cases hlt : k < xs.length
    · obtain ⟨b, o, rfl, a0, a1, a2, a3, a4, hrd⟩ := (HV.out.kept HJK.out.old).at hlt
      have g1 : (k : Int) < (xs.length : Int) := by omega
      have hdl := HDL.out xs[k] (List.getElem_mem hlt)
      have HRD0 := Lib.hid (show xs[k].Reads w from by obtain ⟨_, _, _, _, _, _, _, _, h⟩ := HV.out.at hlt; exact h)
      clear hrd
      generalize xs[k] = x at *
      obtain ⟨hdl1, hdl2⟩ := hdl
      obtain ⟨Ad, cd, hdv, -, -, -⟩ := HRD0.out.1
      obtain ⟨Ac, cc, hcv, -, -⟩ := HRD0.out.2.form
      rw [hdv] at a3
      rw [hcv] at a4
      have HRD := Lib.hid (show Bts w (.slice Ad x.data.length cd) x.data by rw [← hdv]; exact HRD0.out.1)
      have HRC := Lib.hid (show Ints w (.slice Ac x.cuts.length cc) x.cuts by rw [← hcv]; exact HRD0.out.2)
      clear hdv hcv
      go_upto_block 2 with (fail)
      have hKa : Kept wr (wr.alloc (.cells #[.int .i64 x.kind, .int .i64 x.num, .string ⟨x.a.toArray⟩, .slice Ad x.data.length cd, .slice Ac x.cuts.length cc] 35)) := (Kept.refl wr).alloc _
      have hba := heap_alloc_new wr (.cells #[.int .i64 x.kind, .int .i64 x.num, .string ⟨x.a.toArray⟩, .slice Ad x.data.length cd, .slice Ac x.cuts.length cc] 35)
      have hbz : wr.heap.size < (wr.alloc (.cells #[.int .i64 x.kind, .int .i64 x.num, .string ⟨x.a.toArray⟩, .slice Ad x.data.length cd, .slice Ac x.cuts.length cc] 35)).heap.size := by simp
      generalize wr.alloc (.cells #[.int .i64 x.kind, .int .i64 x.num, .string ⟨x.a.toArray⟩, .slice Ad x.data.length cd, .slice Ac x.cuts.length cc] 35) = wa at *
      have q0 := cell_at hba 0
      have q1 := cell_at hba 1
      have q2 := cell_at hba 2
      have q3 := cell_at hba 3
      have q4 := cell_at hba 4
      simp only [List.getElem?_toArray, List.getElem?_cons_zero, List.getElem?_cons_succ] at q0 q1 q2 q3 q4
      have HBA := Lib.hid hba
      have hgood := HJK.out.good.1
      have hld := pot_do (cap := cap) (nm := nm) (x := x) hgood
      have HLD := Lib.hid (show pot nm (doS5 cap nm x fs) ≤ k + 2 by omega)
      clear hba a0 a1 a2 a3 a4 hld hgood
      go_cut [] (fun wx => ∃ (fs' : Fls), pot nm fs' ≤ k + 2 ∧ JK w wx (.pointer (some ⟨db, 0, none⟩)) (.pointer (some ⟨w1.heap.size, 0, none⟩)) cap fs' fs')
      case first =>
        by_cases k1 : x.kind = 1
        · have e1 : (x.kind == 1) = true := by simp [k1]
          have HDO := Lib.hid (show doS5 cap nm x fs = (saveS cap nm x.num x.data fs).2 by unfold doS5; rw [if_pos k1])
          clear k1
          go_wp2_with fail
          refine (copy_any x.data _ wa (HRD.out.kept (HJK.out.old.trans hKa)) hdl1).mono ?_
          rintro e w2 ⟨v2, rfl, ho2, k2⟩
          obtain ⟨A2, c2, rfl⟩ := own_form ho2
          have HO2 := Lib.hid ho2
          have hr8 := Row8.of_own ho2
          have hs2 := k2.size
          have HJA := Lib.hid ((HJK.out.avoid (hKa.trans k2) (A := fun g => wr.heap.size ≤ g ∧ g < w2.heap.size) (fun g hg => hg)).kept (Kept.refl w2).drew)
          have hnA : ¬ ¬ (wr.heap.size ≤ wr.heap.size ∧ wr.heap.size < w2.heap.size) := fun h => h ⟨Nat.le_refl _, by omega⟩
          have HBD := Lib.hid (show w2.drew.heap[wr.heap.size]? = _ from k2.block' HBA.out)
          have HC1 := Lib.hid (save_jka nm x.num x.data _ _ _ HJA.out (own_kept HO2.out (Kept.refl w2).drew) (fun g hg => by have := HO2.out.lt g hg; exact ⟨by omega, this.2⟩) HE.out (by omega))
          have r1 := k2.cell q1
          have r3 := k2.cell q3
          have HR8 := Lib.hid hr8
          generalize hsv : saveS cap nm x.num x.data fs = sv at *
          have HSV := Lib.hid hsv
          clear ho2 hr8 hsv
          go_wp2_with fail
          go_region_held3 (fun W => W.cell? ⟨wr.heap.size, 1, none⟩ = some (.int .i64 x.num) ∧ W.cell? ⟨wr.heap.size, 3, none⟩ = some (.slice Ad x.data.length cd))
            (first | exact ⟨r1, r3⟩ | exact ⟨hz1, hz3⟩ | exact ⟨hy1, hy3⟩)
            (first
              | (go_at_call 10; refine HC1.out.mono ?_; rintro e w3 ⟨rfl, hd3, hc3⟩; have HJ3 := Lib.hid hd3; clear hd3; have hz1 := cell_at (hc3.block' HBD.out hnA) 1; have hz3 := cell_at (hc3.block' HBD.out hnA) 3; simp only [List.getElem?_toArray, List.getElem?_cons_zero, List.getElem?_cons_succ] at hz1 hz3; have HB3 := Lib.hid (hc3.block' HBD.out hnA))
              | (go_at_call 11; refine (rsave_jka nm x.num x.data _ HJ3.out HRD.out (by omega)).mono ?_; rw [HSV.out]; rintro e w4 ⟨rfl, hd4, hc4⟩; have HJ4 := Lib.hid hd4; clear hd4; have hy1 := cell_at (hc4.block' HB3.out hnA) 1; have hy3 := cell_at (hc4.block' HB3.out hnA) 3; simp only [List.getElem?_toArray, List.getElem?_cons_zero, List.getElem?_cons_succ] at hy1 hy3))
          have hrow4 : Row8 w4 wa.heap.size (.slice A2 x.data.length c2) x.data.length := by
            obtain ⟨zs, h⟩ := HR8.out
            have hlt2 : ∀ g, (Value.slice A2 x.data.length c2).ownBlock = some g → ¬ ¬ (wr.heap.size ≤ g ∧ g < w2.heap.size) := fun g hg hn => hn (by have := h.lt g hg; exact ⟨by omega, this.2⟩)
            exact ⟨zs, own_chg (own_chg (own_kept h (Kept.refl w2).drew) hc3 (fun g hg => hlt2 g hg)) hc4 (fun g hg => hlt2 g hg)⟩
          have HR4 := Lib.hid hrow4
          have hfl8 : x.data.length ≤ 140737488355328 := hdl1
          clear hrow4 hz1 hz3 hy1 hy3 r1 r3 q0 q1 q2 q3 q4
          go_wp2
          go_loopw [72] (fun i W => ∃ j : Nat, i = .int .i64 (j : Int) ∧ j ≤ x.data.length ∧ Row8 W wa.heap.size (.slice A2 x.data.length c2) x.data.length ∧ JKA (fun g => wr.heap.size ≤ g ∧ g < w2.heap.size) w W (.pointer (some ⟨db, 0, none⟩)) (.pointer (some ⟨w1.heap.size, 0, none⟩)) cap (doS5 cap nm x fs) (doS5 cap nm x fs)) (fun i _ => x.data.length - (intOf i).toNat)
          case atStart => exact ⟨0, rfl, Nat.zero_le _, HR4.out, by rw [HDO.out]; exact HJ4.out⟩
          case round =>
            obtain ⟨j, rfl, hj, hr, hja⟩ := hrel
            have HJA5 := Lib.hid hja
            clear hja
            by_cases hjl : j < x.data.length
            · obtain ⟨g, z, rfl, hge, y1, y2, y3⟩ := hr.at hjl
              have g2 : (j : Int) < (x.data.length : Int) := by omega
              have Y3 := Lib.hid y3
              have hgl : g < w2.heap.size := (HO2.out.lt g rfl).2
              clear y3 hr
              go_wp2
              go_roundw
              case rel => exact ⟨j + 1, by go_num, by omega, Y3.out _, HJA5.out.chg (Chg.setCell (Chg.refl _ _) _ (fun _ => ⟨by omega, hgl⟩))⟩
              case measure => simp [intOf]; omega
            · obtain rfl : j = x.data.length := by omega
              clear hr
              go_wp2
              go_meet
              case rel => exact ⟨_, HLD.out, HJA5.out.jk⟩
        by_cases k2 : x.kind = 2
        · have e1 : (x.kind == 1) = false := by simp [k2]
          have e2 : (x.kind == 2) = true := by simp [k2]
          have HDO := Lib.hid (show doS5 cap nm x fs = crashS x.cuts fs by unfold doS5; rw [if_neg k1, if_pos k2])
          clear k1 k2
          go_wp2_with fail
          refine (copyInts_any x.cuts _ wa (HRC.out.kept (HJK.out.old.trans hKa)) hdl2).mono ?_
          rintro e w2 ⟨v2, rfl, ho2, k2⟩
          obtain ⟨A2, c2, rfl⟩ := own_form ho2
          have HO2 := Lib.hid ho2
          have hs2 := k2.size
          have HJA := Lib.hid (HJK.out.avoid (hKa.trans k2) (A := fun g => wr.heap.size ≤ g ∧ g < w2.heap.size) (fun g hg => hg))
          have hnA : ¬ ¬ (wr.heap.size ≤ wr.heap.size ∧ wr.heap.size < w2.heap.size) := fun h => h ⟨Nat.le_refl _, by omega⟩
          clear ho2
          go_wp2_with fail
          refine (crash_jka x.cuts _ _ _ _ HJA.out HO2.out (fun g hg => by have := HO2.out.lt g hg; exact ⟨by omega, this.2⟩)).mono ?_
          rintro e w3 ⟨rfl, hd3, hc3⟩
          have HJ3 := Lib.hid hd3
          have hz4 := cell_at (hc3.block' (k2.block' HBA.out) hnA) 4
          simp only [List.getElem?_toArray, List.getElem?_cons_zero, List.getElem?_cons_succ] at hz4
          clear hd3
          go_wp2_with fail
          refine (rcrash_jka x.cuts _ HJ3.out HRC.out).mono ?_
          rintro e w4 ⟨rfl, hd4, hc4⟩
          have HJ4 := Lib.hid hd4
          clear hd4
          go_wp2
          go_meet
          case rel => exact ⟨_, HLD.out, by rw [HDO.out]; exact HJ4.out.jk⟩
        by_cases k3 : x.kind = 3
        · have e1 : (x.kind == 1) = false := by simp [k3]
          have e2 : (x.kind == 2) = false := by simp [k3]
          have e3 : (x.kind == 3) = true := by simp [k3]
          have HDO := Lib.hid (show doS5 cap nm x fs = if okA cap x.a x.data fs = 0 then appS x.a x.data fs else fs by unfold doS5; rw [if_neg k1, if_neg k2, if_pos k3])
          have HKD := Lib.hid (Kept.refl wa).drew
          have HCP := Lib.hid (show ∀ W, Kept wa W → _ from fun W hW => copy_any x.data _ W (HRD.out.kept ((HJK.out.old.trans hKa).trans hW)) hdl1)
          clear k1 k2 k3
          go_wp2_with fail
          go_region_held3 (fun W => W.cell? ⟨wr.heap.size, 2, none⟩ = some (.string ⟨x.a.toArray⟩) ∧ W.cell? ⟨wr.heap.size, 3, none⟩ = some (.slice Ad x.data.length cd))
            (first | exact ⟨q2, q3⟩ | exact ⟨k2'.cell q2, k2'.cell q3⟩ | exact ⟨hz2, hz3⟩ | exact ⟨hy2, hy3⟩)
            (first
              | (go_at_call 9; refine (HCP.out _ HKD.out).mono ?_; rintro e w2 ⟨v2, rfl, ho2, k2⟩; have k2' := HKD.out.trans k2; obtain ⟨A2, c2, rfl⟩ := own_form ho2; have HO2 := Lib.hid ho2; have hs2 := k2'.size; have HJA := Lib.hid (HJK.out.avoid (hKa.trans k2') (A := fun g => wr.heap.size ≤ g ∧ g < w2.heap.size) (fun g hg => hg)); have hnA : ¬ ¬ (wr.heap.size ≤ wr.heap.size ∧ wr.heap.size < w2.heap.size) := fun h => h ⟨Nat.le_refl _, by omega⟩; have HBD := Lib.hid (k2'.block' HBA.out); clear ho2)
              | (go_at_call 15; refine (append_jka x.a x.data _ HJA.out (Bts.of_own HO2.out) (by omega)).mono ?_; rintro e w3 ⟨rfl, hd3, hc3⟩; have HJ3 := Lib.hid hd3; clear hd3; have hz2 := cell_at (hc3.block' HBD.out hnA) 2; have hz3 := cell_at (hc3.block' HBD.out hnA) 3; simp only [List.getElem?_toArray, List.getElem?_cons_zero, List.getElem?_cons_succ] at hz2 hz3; have HB3 := Lib.hid (hc3.block' HBD.out hnA))
              | (go_at_call 16; refine (rappend_jka x.a x.data _ HJ3.out (HRD.out.kept HJ3.out.old) hdl1 (by omega)).mono ?_; rintro e w4 ⟨rfl, hd4, hc4⟩; have HJ4 := Lib.hid hd4; clear hd4; have hy2 := cell_at (hc4.block' HB3.out hnA) 2; have hy3 := cell_at (hc4.block' HB3.out hnA) 3; simp only [List.getElem?_toArray, List.getElem?_cons_zero, List.getElem?_cons_succ] at hy2 hy3))
          go_wp2
          go_meet
          case rel => exact ⟨_, HLD.out, by rw [HDO.out]; exact HJ4.out.jk⟩
        by_cases k4 : x.kind = 4
        · have e1 : (x.kind == 1) = false := by simp [k4]
          have e2 : (x.kind == 2) = false := by simp [k4]
          have e3 : (x.kind == 3) = false := by simp [k4]
          have e4 : (x.kind == 4) = true := by simp [k4]
          have HDO := Lib.hid (show doS5 cap nm x fs = if allS [x.a] fs = 0 then remS [x.a] fs else fs by unfold doS5; rw [if_neg k1, if_neg k2, if_neg k3, if_pos k4])
          have hkb := hKa.alloc (.cells #[.string ⟨x.a.toArray⟩] 9)
          have hbs : (wa.alloc (.cells #[.string ⟨x.a.toArray⟩] 9)).heap.size = wa.heap.size + 1 := by simp
          have HJA := Lib.hid (HJK.out.avoid hkb (A := fun g => wr.heap.size ≤ g ∧ g < wa.heap.size + 1) (fun g hg => by rw [hbs]; exact hg))
          have hnA : ¬ ¬ (wr.heap.size ≤ wr.heap.size ∧ wr.heap.size < wa.heap.size + 1) := fun h => h ⟨Nat.le_refl _, by omega⟩
          have HTX := Lib.hid (Txts.mine (A := fun g => wr.heap.size ≤ g ∧ g < wa.heap.size + 1) (heap_alloc_new wa (.cells #[.string ⟨x.a.toArray⟩] 9)) ⟨by omega, by omega⟩)
          have HBX := Lib.hid (((Kept.refl wa).alloc (.cells #[.string ⟨x.a.toArray⟩] 9)).block' HBA.out)
          clear k1 k2 k3 k4
          go_wp2_with fail
          refine (remove1_jka x.a _ HJA.out HTX.out).mono ?_
          rintro e w3 ⟨rfl, hd3, hc3⟩
          have hb3 := hc3.block' HBX.out hnA
          have hz2 := cell_at hb3 2
          simp only [List.getElem?_toArray, List.getElem?_cons_zero, List.getElem?_cons_succ] at hz2
          have HJ3 := Lib.hid (hd3.jk.avoid ((Kept.refl w3).alloc (.cells #[.string ⟨x.a.toArray⟩] 9)) (A := fun g => w3.heap.size ≤ g ∧ g < w3.heap.size + 1) (fun g hg => by simp; exact hg))
          have HTY := Lib.hid (Txts.mine (A := fun g => w3.heap.size ≤ g ∧ g < w3.heap.size + 1) (heap_alloc_new w3 (.cells #[.string ⟨x.a.toArray⟩] 9)) ⟨by omega, by omega⟩)
          clear hd3 hb3
          go_wp2_with fail
          refine (rremove1_jka x.a _ HJ3.out HTY.out).mono ?_
          rintro e w4 ⟨rfl, hd4, hc4⟩
          have HJ4 := Lib.hid hd4
          clear hd4
          go_wp2
          go_meet
          case rel => exact ⟨_, HLD.out, by rw [HDO.out]; exact HJ4.out.jk⟩
        · have e1 : (x.kind == 1) = false := by simpa using k1
          have e2 : (x.kind == 2) = false := by simpa using k2
          have e3 : (x.kind == 3) = false := by simpa using k3
          have e4 : (x.kind == 4) = false := by simpa using k4
          clear k1 k2 k3 k4
          go_wp2
          go_meet
          case rel => exact ⟨fs, by omega, HJK.out.kept hKa⟩
      case rest =>
        obtain ⟨fs', hfl', hjk'⟩ := hcut
        have HJK' := Lib.hid hjk'
        obtain ⟨F, hF⟩ := hjk'.disk
        obtain ⟨G, hG⟩ := hjk'.ref
        have HF := Lib.hid hF
        have HG := Lib.hid hG
        clear hjk' hF hG
        cases hnm : goodL nm with
        | false =>
          go_wp2_with fail
          refine (load_bad _ nm cap fs' F wc HF.out hnm).mono ?_
          rintro e wd ⟨rfl, kd⟩
          have HRS := Lib.hid (rsave_name w1.heap.size nm 0 [] none 0 wd hnm)
          go_wp2_with fail
          refine HRS.out.mono ?_
          rintro e we ⟨rfl, ke⟩
          have kde := kd.trans ke
          go_wp2_with fail
          refine (alikeS_any _ _ cap fs' w we (HJK'.out.kept kde)).mono ?_
          rintro e wz ⟨rfl, hkz⟩
          go_wp2
          go_roundw
          case rel => exact ⟨k + 1, fs', by go_num, by omega, hfl', HJK'.out.kept (kde.trans hkz)⟩
          case measure => simp [intOf]; omega
        | true =>
          have HLO := Lib.hid (load_any _ nm cap fs' F wc HF.out (HE.out.kept HJK'.out.old).1 hnm)
          have HRL := Lib.hid (show ∀ W, Kept wc W → _ from fun W hW => rload_any nm _ cap fs' G W (HG.out.kept hW) (goodL_ok hnm).2)
          have hcase : (∃ (n : Nat) (bs : List UInt8), loadS nm fs' = some (n, bs)) ∨ loadS nm fs' = none := by
            cases loadS nm fs' with
            | none => exact .inr rfl
            | some p => exact .inl ⟨p.1, p.2, rfl⟩
          rcases hcase with ⟨n, bs, hls⟩ | hls
          · rw [hls] at HLO
            rw [(loadI_some hls).1, (loadI_some hls).2] at HRL
            simp only [Option.getD_some, Option.isSome_some] at HLO
            clear hls
            go_wp2_with fail
            refine HLO.out.mono ?_
            rintro e wd ⟨vd, rfl, hod, kd⟩
            have HOD := Lib.hid hod
            obtain ⟨Av, cv, rfl⟩ := own_form hod
            clear hod
            go_wp2_with fail
            refine (HRL.out wd kd).mono ?_
            rintro e we ⟨ve, rfl, hbe, ke⟩
            have HSM := Lib.hid (same_any bs bs _ _ we (Bts.of_own (own_kept HOD.out ke)) hbe)
            rw [show (bs == bs) = true by simp] at HSM
            obtain ⟨Ae, ce, rfl⟩ := hbe.form
            have kde := kd.trans ke
            have i0 : decide ((0 : Int) ≤ (n : Int)) = true := by simp
            clear hbe
            go_wp2_with fail
            refine HSM.out.mono ?_
            rintro e wf ⟨rfl, rfl⟩
            go_wp2_with fail
            refine (alikeS_any _ _ cap fs' w we (HJK'.out.kept kde)).mono ?_
            rintro e wz ⟨rfl, hkz⟩
            go_wp2
            go_roundw
            case rel => exact ⟨k + 1, fs', by go_num, by omega, hfl', HJK'.out.kept (kde.trans hkz)⟩
            case measure => simp [intOf]; omega
          · rw [hls] at HLO
            rw [(loadI_none hls).1, (loadI_none hls).2] at HRL
            simp only [Option.getD_none, Option.isSome_none] at HLO
            clear hls
            go_wp2_with fail
            refine HLO.out.mono ?_
            rintro e wd ⟨vd, rfl, hod, kd⟩
            have HOD := Lib.hid hod
            obtain ⟨Av, cv, rfl⟩ := own_form hod
            clear hod
            go_wp2_with fail
            refine (HRL.out wd kd).mono ?_
            rintro e we ⟨ve, rfl, hbe, ke⟩
            have HSM := Lib.hid (same_any [] [] _ _ we (Bts.of_own (own_kept HOD.out ke)) hbe)
            rw [show (([] : List UInt8) == []) = true by simp] at HSM
            obtain ⟨Ae, ce, rfl⟩ := hbe.form
            have kde := kd.trans ke
            clear hbe
            go_wp2_with fail
            refine HSM.out.mono ?_
            rintro e wf ⟨rfl, rfl⟩
            go_wp2_with fail
            refine (alikeS_any _ _ cap fs' w we (HJK'.out.kept kde)).mono ?_
            rintro e wz ⟨rfl, hkz⟩
            go_wp2
            go_roundw
            case rel => exact ⟨k + 1, fs', by go_num, by omega, hfl', HJK'.out.kept (kde.trans hkz)⟩
            case measure => simp [intOf]; omega
    · obtain rfl : k = xs.length := by omega
      go_wp2_with fail
      refine (HAW.out _ HJK.out.old).mono ?_
      rintro e w9 ⟨rfl, k9⟩
      have hk9 := HJK.out.old.trans k9
      go_wp2
      go_ret
      exact ⟨rfl, hk9⟩
set_option maxRecDepth 100000 in
set_option maxHeartbeats 4000000 in
theorem snapPlays_bad (cap : Int) (nm : Nm) (v : Value) (w : World) (A : Option Addr) (n c : Nat) (hv : v = .slice A n c) (hE : Env w) (hc : cap < 0 ∨ 1073741824 < cap) : Calls Tryz.prog 3 #[.int .i64 cap, .string ⟨nm.toArray⟩, v] w fun e w' => e = .returned (.bool true) ∧ Kept w w' := by
  subst hv
  have HN := Lib.hid (new_bad cap w hc)
  have HAW := Lib.hid (awake_any w hE)
  clear hE
  rcases hc with hc | hc
  · have t1 : decide (cap < 0) = true := by simpa using hc
    go_enter Tryz.func3, Tryz.ntmps3
    go_wp2_with fail
    refine HN.out.mono ?_
    rintro e w1 ⟨rfl, rfl⟩
    go_wp2_with fail
    refine HAW.out.mono ?_
    rintro e w9 ⟨rfl, k9⟩
    go_wp2
    go_ret
    exact ⟨rfl, k9⟩
  · have t1 : decide (cap < 0) = false := by simp; omega
    have t2 : decide ((1073741824 : Int) < cap) = true := by simpa using hc
    go_enter Tryz.func3, Tryz.ntmps3
    go_wp2_with fail
    refine HN.out.mono ?_
    rintro e w1 ⟨rfl, rfl⟩
    go_wp2_with fail
    refine HAW.out.mono ?_
    rintro e w9 ⟨rfl, k9⟩
    go_wp2
    go_ret
    exact ⟨rfl, k9⟩
theorem snapPlays_any (cap : Int) (nm : Nm) (xs : List Call5) (v : Value) (w : World) (hE : Env w) (hv : Script5 w v xs) (hl : xs.length ≤ 1760000000000) (hd : ∀ x ∈ xs, x.data.length ≤ 140737488355328 ∧ x.cuts.length ≤ 17592186044416) :
    Calls Tryz.prog 3 #[.int .i64 cap, .string ⟨nm.toArray⟩, v] w fun e w' => e = .returned (.bool true) ∧ Kept w w' := by
  by_cases hc : cap < 0 ∨ 1073741824 < cap
  · obtain ⟨A, c, hvv, -, -⟩ := hv.form
    exact snapPlays_bad cap nm v w A _ c hvv hE hc
  · obtain ⟨n, rfl⟩ : ∃ n : Nat, cap = (n : Int) := ⟨cap.toNat, by omega⟩
    exact snapPlays_walk n nm xs v w hE hv (by omega) hl hd
end Go.Proofs.YtngbgngfdklnlaaGreatDoor
