/- The walk of DiskReads. -/
import Derived.Test.YtmjlhgamhjfjlaaDJk
set_option linter.unusedSimpArgs false
set_option linter.unusedVariables false
namespace Go.Proofs.Ytmjlhgamhjfjlaa
open Go.RowKit
/-- No file is empty, and nothing is safe. -/
def Loose (fs : Fls) : Prop := ∀ p ∈ fs, 1 ≤ p.2.1.length ∧ p.2.2 = 0
theorem Loose.len {fs : Fls} (h : Loose fs) : fs.length ≤ used fs := by
  unfold used
  induction fs with
  | nil => exact Nat.le_refl _
  | cons p r ih =>
    have h1 := (h p (by simp)).1
    have h2 := ih (fun q hq => h q (by simp [hq]))
    simp only [List.map_cons, List.sum_cons, List.length_cons]
    omega
theorem Loose.app {fs : Fls} (h : Loose fs) {k : Nm} {b : List UInt8} (hb : 1 ≤ b.length) : Loose (appS k b fs) := by
  intro p hp
  unfold appS at hp
  rcases mem_put hp with rfl | ⟨hp, -⟩
  · refine ⟨by simp only [List.length_append]; omega, ?_⟩
    cases hg : getA k fs with
    | none => rfl
    | some f => exact (h _ (getA_mem hg)).2
  · exact h p hp
theorem okA_len {cap : Nat} {k : Nm} {b : List UInt8} {fs : Fls} (h : okA cap k b fs = 0) : 1 ≤ k.length := by
  unfold okA at h
  cases hk : okN k with
  | false => rw [hk] at h; simp at h
  | true =>
    unfold okN at hk
    simp only [Bool.and_eq_true, decide_eq_true_eq] at hk
    omega
set_option maxRecDepth 100000 in
set_option maxHeartbeats 8000000 in
theorem diskReads_walk (ls : List Nm) (q : Nm) (v : Value) (w : World) (hv : Txts w v ls) (hl : ∀ l ∈ ls, l.length ≤ 140737488355328) :
    Calls Try.prog 4 #[v, .string ⟨q.toArray⟩] w fun e w' => e = .returned (.bool true) ∧ Kept w w' := by
  have HV := Lib.hid hv
  have HL := Lib.hid hl
  obtain ⟨A, c, rfl, hc1, hc2⟩ := hv.form
  clear hv hl
  unfold maxLen at hc2
  have HN := Lib.hid (new_dk 1048576 w w (Kept.refl w) (by omega))
  go_enter Try.func4, Try.ntmps4
  go_wp2_with fail
  refine HN.out.mono ?_
  rintro e w1 ⟨db, rfl, h1⟩
  have HJ := Lib.hid (jk_new h1 (by omega))
  clear h1
  go_wp2
  go_loopw [30] (fun i W => ∃ (k : Nat) (fs : Fls), i = .int .i64 (k : Int) ∧ k ≤ ls.length ∧ Loose fs ∧ JK w W (.pointer (some ⟨db, 0, none⟩)) (.pointer (some ⟨w1.heap.size, 0, none⟩)) 1048576 fs fs) (fun i _ => ls.length - (intOf i).toNat)
  case atStart => exact ⟨0, [], rfl, Nat.zero_le _, fun p hp => (by cases hp), HJ.out⟩
  case round =>
    obtain ⟨k, fs, rfl, hk, hlo, hjk⟩ := hrel
    have hfl : fs.length ≤ 1048576 := Nat.le_trans hlo.len hjk.good.2.1
    have HJK := Lib.hid hjk
    have HLO := Lib.hid hlo
    clear hjk hlo
    by_cases hlt : k < ls.length
    · obtain ⟨b, o, rfl, hcell⟩ := (HV.out.kept HJK.out.old).at hlt
      have g1 : (k : Int) < (ls.length : Int) := by omega
      have hsl := HL.out ls[k] (List.getElem_mem hlt)
      generalize ls[k] = s at *
      obtain ⟨A1, c1, wa, hr1, hb1, hka⟩ := conv_sb wr s (by unfold maxLen; omega)
      obtain ⟨F, hF1, hF2, hF3, hF4⟩ := HJK.out.onDisk hka
      have HAP := Lib.hid (append_any s s _ _ 1048576 fs F wa hF1 hb1 (by omega))
      have HF4 := Lib.hid hF4
      clear hb1 hF1 hF4
      go_wp2_with fail
      refine HAP.out.mono ?_
      rintro e wb ⟨rfl, hd2, hc2'⟩
      have HJ2 := Lib.hid (HF4.out wb _ hd2 hc2')
      clear hd2 hc2'
      obtain ⟨A2, c2, wc, hr2, hb2, hkc⟩ := conv_sb wb s (by unfold maxLen; omega)
      obtain ⟨G, hG1, hG2, hG3, hG4⟩ := HJ2.out.onRef hkc
      have HRP := Lib.hid (rappend_any s s _ _ 1048576 fs G wc hG1 hb2 hsl (by omega))
      have HG4 := Lib.hid hG4
      have HOL := Lib.hid (show okA 1048576 s s fs = 0 → 1 ≤ s.length from okA_len)
      clear hb2 hG1 hG4 hr1
      generalize okA 1048576 s s fs = e0 at *
      go_wp2_with fail
      refine HRP.out.mono ?_
      rintro e wd ⟨rfl, hd3, hc3⟩
      have HJ3 := Lib.hid (HG4.out wd _ hd3 hc3)
      clear hd3 hc3 hr2
      go_wp2
      go_roundw
      case rel =>
        refine ⟨k + 1, _, by go_num, by omega, ?_, HJ3.out⟩
        split
        · rename_i h0
          exact HLO.out.app (HOL.out h0)
        · exact HLO.out
      case measure => simp [intOf]; omega
    · obtain rfl : k = ls.length := by omega
      obtain ⟨F, hF⟩ := HJK.out.disk
      have HRE := Lib.hid (read_any q 1048576 fs F _ wr hF)
      have HFD := Lib.hid hF
      clear hF
      have hgd := HJK.out.good.1
      have HGD := Lib.hid hgd
      clear hgd
      by_cases h0 : allS [q] fs = 0
      · rw [h0, if_pos rfl] at HRE
        have hhas := (allS_zero h0).2
        simp only [List.all_cons, List.all_nil, Bool.and_true] at hhas
        have H0 := Lib.hid h0
        have HHAS := Lib.hid hhas
        clear h0 hhas
        obtain ⟨f, hf⟩ : ∃ f, getA q fs = some f := by
          have := HHAS.out
          rw [hasA_get] at this
          cases hg : getA q fs with
          | none => rw [hg] at this; cases this
          | some f => exact ⟨f, rfl⟩
        have hf0 := (HLO.out _ (getA_mem hf)).2
        simp only at hf0
        rw [hf, Option.getD_some] at HRE
        have HFQ := Lib.hid hf
        have HF0 := Lib.hid hf0
        clear hf hf0
        go_wp2_with fail
        refine HRE.out.mono ?_
        rintro e wa ⟨va, rfl, hoa, hka⟩
        obtain ⟨Aa, ca, rfl⟩ := own_form hoa
        have HOA := Lib.hid (Bts.of_own hoa)
        clear hoa
        have HSA := Lib.hid (safe_any q 1048576 fs F _ wa (HFD.out.kept hka))
        rw [H0.out, if_pos rfl, HFQ.out, Option.getD_some, HF0.out] at HSA
        go_wp2_with fail
        refine HSA.out.mono ?_
        rintro e wb ⟨rfl, hkb⟩
        obtain ⟨G, hG⟩ := (HJK.out.kept (hka.trans hkb)).ref
        have HRR := Lib.hid (rread_any q _ 1048576 fs G wb hG)
        rw [H0.out, if_pos rfl] at HRR
        obtain ⟨rb, vL, rs, ex, hm, hrd⟩ := hG
        obtain rfl : w1.heap.size = rb := by simpa using ex
        have hhr : hasA q rs = true := by rw [← hasA_mapV Prod.snd, hm]; exact HHAS.out
        obtain ⟨i, hi, hfi, hnm⟩ := find_pos hhr
        rw [← hm, findI_mapV, hfi] at HRR
        have hfl2 : rs[i].2.2 = f := by
          have h1 := get_at hrd.srt hi
          have h2 := HFQ.out
          rw [← hm, getA_mapV, ← hnm, h1] at h2
          simpa using h2
        have HRD := Lib.hid hrd
        have HFL := Lib.hid hfl2
        clear hrd hm hhr hnm hfl2 hfi ex
        go_wp2_with fail
        refine HRR.out.mono ?_
        rintro e wc ⟨rfl, hkc⟩
        have hrd2 := HRD.out.kept hkc
        obtain ⟨AL, cL, rfl, hcl1, hcl2⟩ := hrd2.form
        unfold maxLen at hcl2
        have c1 := hrd2.c1
        obtain ⟨gL, rfl, q0, q1, q2, -⟩ := hrd2.at hi
        have hob := hrd2.files _ (List.getElem_mem hi)
        obtain ⟨Ab, cb, hvb⟩ := own_form hob
        rw [hvb] at q1 hob
        have HOB := Lib.hid (Bts.of_own hob)
        have g2 : (i : Int) < (rs.length : Int) := by omega
        have g3 : (0 : Int) ≤ (i : Int) := by omega
        clear hrd2 hvb hob q0 q2
        go_wp2_with fail
        refine (same_any f.1 rs[i].2.2.1 _ _ wc (HOA.out.kept (hkb.trans hkc)) HOB.out).mono ?_
        rintro e wd ⟨rfl, hwd⟩
        subst hwd
        rw [show (f.1 == rs[i].2.2.1) = true by rw [HFL.out]; simp]
        go_wp2_with fail
        refine (awake_any wc).mono ?_
        rintro e we ⟨rfl, hke⟩
        go_wp2
        go_ret
        exact ⟨rfl, (HJK.out.old.trans ((hka.trans hkb).trans hkc)).trans hke⟩
      · rw [if_neg h0] at HRE
        have HN0 := Lib.hid h0
        have t0 : (allS [q] fs != 0) = true := by simpa using h0
        clear h0
        have HSA := Lib.hid (show ∀ W, Kept wr W → _ from fun W hW => safe_any q 1048576 fs F _ W (HFD.out.kept hW))
        rw [if_neg HN0.out] at HSA
        have HRR := Lib.hid (show ∀ W, Kept wr W → ∃ G, Ref W _ 1048576 fs G from fun W hW => (HJK.out.kept hW).ref)
        have HRR2 := Lib.hid (show ∀ W, Kept wr W → _ from fun W hW => by
          obtain ⟨G, hG⟩ := HRR.out W hW
          have := rread_any q _ 1048576 fs G W hG
          rw [if_neg HN0.out] at this
          exact this)
        generalize allS [q] fs = e0 at *
        go_wp2_with fail
        refine HRE.out.mono ?_
        rintro e wa ⟨va, rfl, hoa, hka⟩
        obtain ⟨Aa, ca, rfl⟩ := own_form hoa
        clear hoa
        go_wp2_with fail
        refine (HSA.out _ hka).mono ?_
        rintro e wb ⟨rfl, hkb⟩
        go_wp2_with fail
        refine (HRR2.out _ (hka.trans hkb)).mono ?_
        rintro e wc ⟨rfl, hkc⟩
        go_wp2_with fail
        refine (awake_any wc).mono ?_
        rintro e we ⟨rfl, hke⟩
        go_wp2
        go_ret
        exact ⟨rfl, (HJK.out.old.trans ((hka.trans hkb).trans hkc)).trans hke⟩
end Go.Proofs.Ytmjlhgamhjfjlaa
