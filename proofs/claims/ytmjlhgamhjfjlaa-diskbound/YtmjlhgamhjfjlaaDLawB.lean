/- The walk of DiskBound. -/
import Derived.Test.YtmjlhgamhjfjlaaDOps
import Derived.Deep.CutBlock
import Derived.Deep.DeepCutAuto
set_option linter.unusedSimpArgs false
set_option linter.unusedVariables false
namespace Go.Proofs.Ytmjlhgamhjfjlaa
open Go.RowKit
/-- The name ahead of a place. -/
def lastN (fs : Fls) (j : Nat) : Nm := if j = 0 then [] else (fs.getD (j - 1) ([], ([], 0))).1
theorem used_take {fs : Fls} {j : Nat} (h : j < fs.length) : used (fs.take (j + 1)) = used (fs.take j) + fs[j].2.1.length := by
  rw [List.take_succ_eq_append_getElem h, used_app]
  simp [used]
theorem all_here {fs : Fls} (hg : Good fs) {k : Nm} {f : Fl} (h : (k, f) ∈ fs) : allS [k] fs = 0 ∧ (getA k fs).getD ([], 0) = f ∧ f.2 ≤ f.1.length := by
  have h1 := get_of_mem hg.1 h
  have h2 : hasA k fs = true := by rw [hasA_get, h1]; rfl
  have h3 := (hg.2 _ h).1
  refine ⟨?_, by rw [h1]; rfl, (hg.2 _ h).2⟩
  simp only at h3
  simp [allS, h2, h3]
theorem used_take_le (fs : Fls) (j : Nat) : used (fs.take j) ≤ used fs := by
  have : used fs = used (fs.take j) + used (fs.drop j) := by rw [← used_app, List.take_append_drop]
  omega
theorem lastN_succ {fs : Fls} {j : Nat} (h : j < fs.length) : lastN fs (j + 1) = fs[j].1 := by
  unfold lastN
  simp [h, List.getD]
theorem last_before {fs : Fls} (hg : Good fs) {j : Nat} (h : j < fs.length) : bytesBefore (lastN fs j) fs[j].1 = true := by
  unfold lastN
  by_cases h0 : j = 0
  · subst h0
    rw [if_pos rfl]
    have h1 := (hg.2 fs[0] (List.getElem_mem h)).1
    cases e : fs[0].1 with
    | nil => rw [e] at h1; cases h1
    | cons y r => rfl
  · rw [if_neg h0]
    have hj : j - 1 < fs.length := by omega
    have := List.pairwise_iff_getElem.1 hg.1 (j - 1) j hj h (by omega)
    simpa [List.getD, hj] using this
set_option maxRecDepth 100000 in
set_option maxHeartbeats 8000000 in
theorem diskBound_walk (cap : Nat) (xs : List Call) (v : Value) (w : World) (hv : Script w v xs) (hc : cap ≤ 1073741824) (hl : xs.length ≤ 1256584717458) (hd : ∀ x ∈ xs, x.data.length ≤ 140737488355328) :
    Calls Try.prog 7 #[.int .i64 (cap : Int), v] w fun e w' => e = .returned (.bool true) ∧ Kept w w' := by
  have HV := Lib.hid hv
  have HDL := Lib.hid hd
  obtain ⟨A, c, rfl, hc1, hc2⟩ := hv.form
  clear hv hd
  unfold maxLen at hc2
  have HN := Lib.hid (new_dk cap w w (Kept.refl w) hc)
  go_enter Try.func7, Try.ntmps7
  go_wp2_with fail
  refine HN.out.mono ?_
  rintro e w1 ⟨db, rfl, h1⟩
  have H1 := Lib.hid h1
  clear h1
  go_wp2
  go_loopw [39] (fun i W => ∃ (k : Nat) (fs : Fls), i = .int .i64 (k : Int) ∧ k ≤ xs.length ∧ fs.length ≤ k ∧ DK w W (.pointer (some ⟨db, 0, none⟩)) cap fs) (fun i _ => xs.length - (intOf i).toNat)
  case atStart => exact ⟨0, [], rfl, Nat.zero_le _, Nat.le_refl _, H1.out⟩
  case round =>
    obtain ⟨k, fs, rfl, hk, hfl, hdk⟩ := hrel
    have HDK := Lib.hid hdk
    clear hdk
    by_cases hlt : k < xs.length
    · obtain ⟨b, o, rfl, a0, a1, a2, a3, a4, a5, hrd⟩ := (HV.out.kept HDK.out.2).at hlt
      have g1 : (k : Int) < (xs.length : Int) := by omega
      have hdl := HDL.out xs[k] (List.getElem_mem hlt)
      have HRD := Lib.hid hrd
      have HRD0 := Lib.hid (show xs[k].Reads w from by obtain ⟨_, _, _, _, _, _, _, _, _, h⟩ := HV.out.at hlt; exact h)
      clear hrd
      generalize xs[k] = x at *
      obtain ⟨Ad, cd, hdv, -, -, -⟩ := HRD.out.data
      obtain ⟨An, cn, hnv, -, -⟩ := HRD.out.names.form
      obtain ⟨Ac, cc, hcv, -, -⟩ := HRD.out.cuts.form
      rw [hdv] at a3
      rw [hnv] at a4
      rw [hcv] at a5
      have HDV := Lib.hid hdv
      have HNV := Lib.hid hnv
      have HCV := Lib.hid hcv
      clear hdv hnv hcv
      go_upto_block 2 with (fail)
      have hKa : Kept wr (wr.alloc (.cells #[.int .i64 x.kind, .string ⟨x.a.toArray⟩, .string ⟨x.b.toArray⟩, .slice Ad x.data.length cd, .slice An x.names.length cn, .slice Ac x.cuts.length cc] 36)) := (Kept.refl wr).alloc _
      have hba := heap_alloc_new wr (.cells #[.int .i64 x.kind, .string ⟨x.a.toArray⟩, .string ⟨x.b.toArray⟩, .slice Ad x.data.length cd, .slice An x.names.length cn, .slice Ac x.cuts.length cc] 36)
      have hbz : wr.heap.size < (wr.alloc (.cells #[.int .i64 x.kind, .string ⟨x.a.toArray⟩, .string ⟨x.b.toArray⟩, .slice Ad x.data.length cd, .slice An x.names.length cn, .slice Ac x.cuts.length cc] 36)).heap.size := by simp
      generalize wr.alloc (.cells #[.int .i64 x.kind, .string ⟨x.a.toArray⟩, .string ⟨x.b.toArray⟩, .slice Ad x.data.length cd, .slice An x.names.length cn, .slice Ac x.cuts.length cc] 36) = wa at *
      have q1 := cell_at hba 1
      have q2 := cell_at hba 2
      have q3 := cell_at hba 3
      have q4 := cell_at hba 4
      have q5 := cell_at hba 5
      simp only [List.getElem?_toArray, List.getElem?_cons_zero, List.getElem?_cons_succ] at q1 q2 q3 q4 q5
      have HBA := Lib.hid hba
      have hsrt := HDK.out.good.1.1
      have hld := length_doS (cap := cap) (x := x) hsrt
      have HLD := Lib.hid (show (doS cap x fs).length ≤ k + 1 by omega)
      clear hba a0 a1 a2 a3 a4 a5 hld hsrt
      go_cut [] (fun wx => ∃ fs' : Fls, fs'.length ≤ k + 1 ∧ DK w wx (.pointer (some ⟨db, 0, none⟩)) cap fs')
      case first =>
        by_cases k1 : x.kind = 1
        · have e1 : (x.kind == 1) = true := by simp [k1]
          have hdo : doS cap x fs = if okA cap x.a x.data fs = 0 then appS x.a x.data fs else fs := by unfold doS; rw [if_pos k1]
          have HDO := Lib.hid hdo
          have K1 := Lib.hid k1
          have hKa0 := (Kept.refl wa).drew
          have HCP := Lib.hid (show ∀ W, Kept wa W → _ from fun W hW => copy_any x.data (.slice Ad x.data.length cd) W (by rw [← HDV.out]; exact HRD.out.data.kept (hKa.trans hW)) hdl)
          have HAP := Lib.hid (show ∀ v W, Kept wa W → Bts W v x.data → _ from fun v W hW hb => append_dk x.a x.data v _ cap fs w wr W HDK.out (hKa.trans hW) hb (by omega))
          clear hdo k1
          go_wp2_with fail
          go_region_held3 (fun W => W.cell? ⟨wr.heap.size, 1, none⟩ = some (.string ⟨x.a.toArray⟩) ∧ W.cell? ⟨wr.heap.size, 3, none⟩ = some (.slice Ad x.data.length cd))
            (first | exact ⟨q1, q3⟩ | exact ⟨hq1.cell q1, hq1.cell q3⟩ | exact ⟨hz1, hz3⟩)
            (first
              | (go_at_call 10; refine (HCP.out _ hKa0).mono ?_; rintro e w3 ⟨v3, rfl, ho3, hq⟩; have hq1 := hKa0.trans hq; obtain ⟨A3, c3, rfl⟩ := own_form ho3; have HO3 := Lib.hid ho3; clear ho3)
              | (go_at_call 11; refine (HAP.out _ _ hq1 (Bts.of_own HO3.out)).mono ?_; rintro e w4 ⟨rfl, hd4, hc4⟩; have HD4 := Lib.hid hd4; clear hd4; have hz := hc4.block wr.heap.size (Nat.lt_of_lt_of_le hbz hq1.size) (fun z => by have := z.2; omega); have hz1 := (World.cell?_of_block (a := ⟨wr.heap.size, 1, none⟩) hz).trans (hq1.cell q1); have hz3 := (World.cell?_of_block (a := ⟨wr.heap.size, 3, none⟩) hz).trans (hq1.cell q3); clear hz))
          go_wp2
          go_meet
          case rel => exact ⟨_, HLD.out, by rw [HDO.out]; exact HD4.out⟩
        by_cases k2 : x.kind = 2
        · have e1 : (x.kind == 1) = false := by simp [k2]
          have e2 : (x.kind == 2) = true := by simp [k2]
          have hdo : doS cap x fs = if allS x.names fs = 0 then syncS x.names fs else fs := by unfold doS; rw [if_neg k1, if_pos k2]
          have HDO := Lib.hid hdo
          have HS := Lib.hid (sync_dk x.names (.slice An x.names.length cn) _ cap fs w wr wa HDK.out hKa (Txts.old (by rw [← HNV.out]; exact HRD0.out.names) (HDK.out.2.trans hKa)))
          clear hdo k1 k2
          go_wp2_with fail
          refine HS.out.mono ?_
          rintro e w4 ⟨rfl, hd4, -⟩
          have HD4 := Lib.hid hd4
          clear hd4
          go_wp2
          go_meet
          case rel => exact ⟨_, HLD.out, by rw [HDO.out]; exact HD4.out⟩
        by_cases k3 : x.kind = 3
        · have e1 : (x.kind == 1) = false := by simp [k3]
          have e2 : (x.kind == 2) = false := by simp [k3]
          have e3 : (x.kind == 3) = true := by simp [k3]
          have hdo : doS cap x fs = if renE x.a x.b fs = 0 then renS x.a x.b fs else fs := by unfold doS; rw [if_neg k1, if_neg k2, if_pos k3]
          have HDO := Lib.hid hdo
          have HS := Lib.hid (rename_dk x.a x.b _ cap fs w wr wa HDK.out hKa)
          clear hdo k1 k2 k3
          go_wp2_with fail
          refine HS.out.mono ?_
          rintro e w4 ⟨rfl, hd4, -⟩
          have HD4 := Lib.hid hd4
          clear hd4
          go_wp2
          go_meet
          case rel => exact ⟨_, HLD.out, by rw [HDO.out]; exact HD4.out⟩
        by_cases k4 : x.kind = 4
        · have e1 : (x.kind == 1) = false := by simp [k4]
          have e2 : (x.kind == 2) = false := by simp [k4]
          have e3 : (x.kind == 3) = false := by simp [k4]
          have e4 : (x.kind == 4) = true := by simp [k4]
          have hdo : doS cap x fs = if allS x.names fs = 0 then remS x.names fs else fs := by unfold doS; rw [if_neg k1, if_neg k2, if_neg k3, if_pos k4]
          have HDO := Lib.hid hdo
          have HS := Lib.hid (remove_dk x.names (.slice An x.names.length cn) _ cap fs w wr wa HDK.out hKa (Txts.old (by rw [← HNV.out]; exact HRD0.out.names) (HDK.out.2.trans hKa)))
          clear hdo k1 k2 k3 k4
          go_wp2_with fail
          refine HS.out.mono ?_
          rintro e w4 ⟨rfl, hd4, -⟩
          have HD4 := Lib.hid hd4
          clear hd4
          go_wp2
          go_meet
          case rel => exact ⟨_, HLD.out, by rw [HDO.out]; exact HD4.out⟩
        by_cases k5 : x.kind = 5
        · have e1 : (x.kind == 1) = false := by simp [k5]
          have e2 : (x.kind == 2) = false := by simp [k5]
          have e3 : (x.kind == 3) = false := by simp [k5]
          have e4 : (x.kind == 4) = false := by simp [k5]
          have e5 : (x.kind == 5) = true := by simp [k5]
          have hdo : doS cap x fs = crashS x.cuts fs := by unfold doS; rw [if_neg k1, if_neg k2, if_neg k3, if_neg k4, if_pos k5]
          have HDO := Lib.hid hdo
          have HS := Lib.hid (crash_dk x.cuts (.slice Ac x.cuts.length cc) _ cap fs w wr wa HDK.out hKa (Ints.old (by rw [← HCV.out]; exact HRD0.out.cuts) (HDK.out.2.trans hKa)))
          clear hdo k1 k2 k3 k4 k5
          go_wp2_with fail
          refine HS.out.mono ?_
          rintro e w4 ⟨rfl, hd4, -⟩
          have HD4 := Lib.hid hd4
          clear hd4
          go_wp2
          go_meet
          case rel => exact ⟨_, HLD.out, by rw [HDO.out]; exact HD4.out⟩
        · have e1 : (x.kind == 1) = false := by simpa using k1
          have e2 : (x.kind == 2) = false := by simpa using k2
          have e3 : (x.kind == 3) = false := by simpa using k3
          have e4 : (x.kind == 4) = false := by simpa using k4
          have e5 : (x.kind == 5) = false := by simpa using k5
          clear k1 k2 k3 k4 k5
          go_wp2
          go_meet
          case rel => exact ⟨fs, by omega, HDK.out.kept hKa⟩
      case rest =>
        obtain ⟨fs', hfl', hdk'⟩ := hcut
        have HDK' := Lib.hid hdk'
        clear hdk'
        go_wp2_with fail
        refine (files_any cap fs' _ _ wc HDK'.out.1).mono ?_
        rintro e wf ⟨vn, rfl, hn, kf⟩
        obtain ⟨An', cn', rfl, hcn1, hcn2⟩ := hn.form
        unfold maxLen at hcn2
        have hnl : (namesA fs').length = fs'.length := by simp [namesA]
        rw [hnl] at hcn1
        have HNM := Lib.hid hn
        have HNL := Lib.hid hnl
        have hug := HDK'.out.good
        obtain ⟨hgood, hfit, -, hsm⟩ := hug
        have HGD := Lib.hid hgood
        clear hn hgood
        rw [HNL.out]
        clear hnl
        go_wp2
        go_loopw [9, 10, 83] (fun s9 s10 i W => ∃ j : Nat, i = .int .i64 (j : Int) ∧ j ≤ fs'.length ∧ s9 = .int .i64 (used (fs'.take j) : Int) ∧ s10 = .string ⟨(lastN fs' j).toArray⟩ ∧ Kept wf W) (fun _ _ i _ => fs'.length - (intOf i).toNat)
        case atStart => exact ⟨0, rfl, Nat.zero_le _, rfl, rfl, Kept.refl _⟩
        case round =>
          obtain ⟨j, rfl, hj, rfl, rfl, hkj⟩ := hrel
          by_cases hjl : j < fs'.length
          · obtain ⟨bn, on, rfl, hcell⟩ := (HNM.out.kept hkj).at (k := j) (by rw [HNL.out]; exact hjl)
            obtain ⟨nm, f, hp⟩ : ∃ nm f, fs'[j] = (nm, f) := ⟨_, _, rfl⟩
            obtain ⟨fb, s⟩ := f
            have hnk : (namesA fs')[j]'(by rw [HNL.out]; exact hjl) = nm := by simp [namesA, hp]
            rw [hnk] at hcell
            have hmem : (nm, (fb, s)) ∈ fs' := by rw [← hp]; exact List.getElem_mem hjl
            obtain ⟨hal, hget, hsl⟩ := all_here HGD.out hmem
            simp only at hsl
            have hbef := last_before HGD.out hjl
            have hut := used_take hjl
            have hule := used_take_le fs' (j + 1)
            have hls := lastN_succ hjl
            rw [hp] at hbef hut hls
            simp only at hbef hut hls
            rw [hut] at hule
            have hcapl := HDK'.out.good.2.2.1
            have HAL := Lib.hid hal
            have HGET := Lib.hid hget
            have HUT := Lib.hid hut
            have HLS := Lib.hid hls
            have g2 : (j : Int) < (fs'.length : Int) := by omega
            have HRE := Lib.hid (read_any nm cap fs' _ _ wr ((HDK'.out.kept kf).kept hkj).1)
            rw [hal, if_pos rfl, hget] at HRE
            clear hal hget hut hls hnk hmem hp
            go_wp2_with fail
            refine HRE.out.mono ?_
            rintro e wg ⟨vg, rfl, hog, hkg⟩
            obtain ⟨Ag, cg, rfl⟩ := own_form hog
            have HOG := Lib.hid hog
            clear hog
            have HSA := Lib.hid (safe_any nm cap fs' _ _ wg (((HDK'.out.kept kf).kept hkj).kept hkg).1)
            rw [HAL.out, if_pos rfl, HGET.out] at HSA
            go_wp2_with fail
            refine HSA.out.mono ?_
            rintro e wh ⟨rfl, hkh⟩
            have t1 : Op.bytesLess nm (lastN fs' j) = false := by rw [less_before]; exact bb_asymm hbef
            have t2 : (nm == lastN fs' j) = false := by simpa using (bb_ne hbef).symm
            have t3 : decide ((s : Int) < 0) = false := by simp
            have t4 : decide (fb.length < s) = false := by simp; omega
            go_wp2
            go_roundw
            case rel => exact ⟨j + 1, by go_num, by omega, by rw [HUT.out]; go_num, by rw [HLS.out], (hkj.trans hkg).trans hkh⟩
            case measure => simp [intOf]; omega
          · obtain rfl : j = fs'.length := by omega
            have hu : used (fs'.take fs'.length) = used fs' := by rw [List.take_length]
            rw [hu]
            have HUS := Lib.hid (used_any cap fs' _ _ wr ((HDK'.out.kept kf).kept hkj).1)
            have hcapl := HDK'.out.good.2.2.1
            have t1 : decide ((cap : Int) < (used fs' : Int)) = false := by simp; omega
            clear hu
            generalize used fs' = u at *
            go_wp2_with fail
            refine HUS.out.mono ?_
            rintro e wu ⟨rfl, hwu⟩
            subst hwu
            go_wp2
            go_roundw
            case rel => exact ⟨k + 1, fs', by go_num, by omega, by omega, (HDK'.out.kept kf).kept hkj⟩
            case measure => simp [intOf]; omega
    · obtain rfl : k = xs.length := by omega
      go_wp2_with fail
      refine (awake_any _).mono ?_
      rintro e w9 ⟨rfl, k9⟩
      go_wp2
      go_ret
      exact ⟨rfl, HDK.out.2.trans k9⟩
set_option maxRecDepth 100000 in
set_option maxHeartbeats 4000000 in
theorem diskBound_bad (cap : Int) (v : Value) (w : World) (hc : cap < 0 ∨ 1073741824 < cap) : Calls Try.prog 7 #[.int .i64 cap, v] w fun e w' => e = .returned (.bool true) ∧ Kept w w' := by
  have HN := Lib.hid (new_bad cap w hc)
  rcases hc with hc | hc
  · have t1 : decide (cap < 0) = true := by simpa using hc
    go_enter Try.func7, Try.ntmps7
    go_wp2_with fail
    refine HN.out.mono ?_
    rintro e w1 ⟨rfl, hw1⟩
    subst hw1
    go_wp2_with fail
    refine (awake_any _).mono ?_
    rintro e w9 ⟨rfl, k9⟩
    go_wp2
    go_ret
    exact ⟨rfl, k9⟩
  · have t1 : decide (cap < 0) = false := by simp; omega
    have t2 : decide ((1073741824 : Int) < cap) = true := by simpa using hc
    go_enter Try.func7, Try.ntmps7
    go_wp2_with fail
    refine HN.out.mono ?_
    rintro e w1 ⟨rfl, hw1⟩
    subst hw1
    go_wp2_with fail
    refine (awake_any _).mono ?_
    rintro e w9 ⟨rfl, k9⟩
    go_wp2
    go_ret
    exact ⟨rfl, k9⟩
theorem diskBound_any (cap : Int) (xs : List Call) (v : Value) (w : World) (hv : Script w v xs) (hl : xs.length ≤ 1256584717458) (hd : ∀ x ∈ xs, x.data.length ≤ 140737488355328) :
    Calls Try.prog 7 #[.int .i64 cap, v] w fun e w' => e = .returned (.bool true) ∧ Kept w w' := by
  by_cases hc : cap < 0 ∨ 1073741824 < cap
  · exact diskBound_bad cap v w hc
  · obtain ⟨n, rfl⟩ : ∃ n : Nat, cap = (n : Int) := ⟨cap.toNat, by omega⟩
    exact diskBound_walk n xs v w hv (by omega) hl hd
end Go.Proofs.Ytmjlhgamhjfjlaa
