/- The walk of SnapKeeps. -/
import Derived.Test.YtngbgngfdklnlaaGreatDoorGSSav4
import Derived.Test.YtngbgngfdklnlaaGreatDoorQDCpiS
set_option linter.unusedSimpArgs false
set_option linter.unusedVariables false
namespace Go.Proofs.YtngbgngfdklnlaaGreatDoor
open Go.RowKit
/-- The first save: the error and the files behind it. -/
theorem keep_first (cap : Nat) (b : List UInt8) : ((saveS cap sNm ((3 : Nat) : Int) b []).1 ≠ 0 ∧ (saveS cap sNm ((3 : Nat) : Int) b []).2 = []) ∨ ((saveS cap sNm ((3 : Nat) : Int) b []).1 = 0 ∧ b.length ≤ 1048576 ∧ safeS sNm 3 b (saveS cap sNm ((3 : Nat) : Int) b []).2 ∧ (saveS cap sNm ((3 : Nat) : Int) b []).2.length ≤ 5) := by
  by_cases hb : b.length ≤ 1048576
  · rw [saveS_s (by omega) hb]
    by_cases h0 : (saveT cap sNm 3 b []).1 = 0
    · refine .inr ⟨h0, hb, ?_, saveT_len cap sNm 3 b []⟩
      rw [saveT_zero h0]
      exact sav5_safe ⟨List.Pairwise.nil, fun p hp => by simp at hp⟩ good_s (by omega)
    · exact .inl ⟨h0, save_empty cap sNm 3 b h0⟩
  · rw [saveS_long (by omega) (by omega)]
    exact .inl ⟨(by decide : (14 : Int) ≠ 0), rfl⟩
/-- The second one. -/
theorem keep_second (cap : Nat) (a b : List UInt8) (fs : Fls) (hg : Good fs) (hs : safeS sNm 3 a fs) : ((saveS cap sNm ((4 : Nat) : Int) b fs).1 ≠ 0 ∧ safeS sNm 3 a (saveS cap sNm ((4 : Nat) : Int) b fs).2) ∨ ((saveS cap sNm ((4 : Nat) : Int) b fs).1 = 0 ∧ b.length ≤ 1048576 ∧ safeS sNm 4 b (saveS cap sNm ((4 : Nat) : Int) b fs).2 ∧ (saveS cap sNm ((4 : Nat) : Int) b fs).2.length ≤ fs.length + 5) := by
  by_cases hb : b.length ≤ 1048576
  · rw [saveS_s (by omega) hb]
    by_cases h0 : (saveT cap sNm 4 b fs).1 = 0
    · refine .inr ⟨h0, hb, ?_, saveT_len cap sNm 4 b fs⟩
      rw [saveT_zero h0]
      exact sav5_safe hg good_s (by omega)
    · exact .inl ⟨h0, save_fails hs (by omega) (by omega) (by omega) h0⟩
  · rw [saveS_long (by omega) (by omega)]
    exact .inl ⟨(by decide : (14 : Int) ≠ 0), hs⟩
/-- A third one with the same number is told so. -/
theorem keep_third (cap : Nat) (b : List UInt8) (fs : Fls) (hs : safeS sNm 4 b fs) (hb : b.length ≤ 1048576) : (saveS cap sNm ((4 : Nat) : Int) [] fs).1 = 41 := by
  rw [saveS_s (by omega) (by simp)]
  unfold saveT
  rw [if_pos (by rw [hs.reach (by omega) hb (crc_leN b)]; simp)]
set_option maxRecDepth 100000 in
set_option maxHeartbeats 8000000 in
theorem snapKeeps_walk (cap : Int) (lx ly : List UInt8) (lu : List Int) (x y u : Value) (w : World) (hx : Bts w x lx) (hy : Bts w y ly) (hu : Ints w u lu) (hE : Env w) (hlx : lx.length ≤ 140737488355328) (hly : ly.length ≤ 140737488355328) (hlu : lu.length ≤ 17592186044416) :
    Calls Tryz.prog 4 #[.agg #[.int .i64 cap, x, y, u]] w fun e w' => e = .returned (.bool true) ∧ Kept w w' := by
  have HX := Lib.hid hx
  have HY := Lib.hid hy
  have HU := Lib.hid hu
  have HE := Lib.hid hE
  obtain ⟨Ax, cx, hvx, hcx1, hcx2, -⟩ := hx
  obtain ⟨Ay, cy, hvy, hcy1, hcy2, -⟩ := hy
  obtain ⟨Au, cu, hvu, hcu1, hcu2, -⟩ := hu
  subst hvx hvy hvu
  unfold maxLen at hcx2 hcy2 hcu2
  have HAW := Lib.hid (show ∀ W, Kept w W → _ from fun W hW => awake_any W (hE.kept hW))
  have hnm : (⟨sNm.toArray⟩ : ByteArray) = ⟨#[115]⟩ := rfl
  by_cases hc : cap < 0 ∨ 1073741824 < cap
  · have HN := Lib.hid (show ∀ W, _ from fun W => new_bad cap W hc)
    have t2 : decide (cap < 0) = true ∨ (decide (cap < 0) = false ∧ decide ((1073741824 : Int) < cap) = true) := by
      rcases hc with h | h
      · exact .inl (by simpa using h)
      · by_cases h2 : cap < 0
        · exact .inl (by simpa using h2)
        · exact .inr ⟨by simpa using h2, by simpa using h⟩
    clear hc hE
    rcases t2 with t2 | ⟨t2, t3⟩
    all_goals (
      go_enter Tryz.func4, Tryz.ntmps4
      go_wp2
      go_quiet (fail)
      rename_i nq
      have hK0 : Kept w ((w.alloc (.cells #[.int .i64 cap, .slice Ax lx.length cx, .slice Ay ly.length cy, .slice Au lu.length cu] 55)).drewN nq) := ((Kept.refl w).alloc _).drewN nq
      generalize (w.alloc (.cells #[.int .i64 cap, .slice Ax lx.length cx, .slice Ay ly.length cy, .slice Au lu.length cu] 55)).drewN nq = w0 at *
      go_wp2_with fail
      refine (HN.out w0).mono ?_
      rintro e w1 ⟨rfl, rfl⟩
      go_wp2_with fail
      refine (HAW.out _ hK0).mono ?_
      rintro e w3 ⟨rfl, k3⟩
      have hk3 := hK0.trans k3
      go_wp2
      go_ret
      exact ⟨rfl, hk3⟩)
  · obtain ⟨c, rfl⟩ := Int.eq_ofNat_of_zero_le (show 0 ≤ cap by omega)
    have hc1 : c ≤ 1073741824 := by omega
    have HCX := Lib.hid (show ∀ W, Kept w W → _ from fun W hW => copy_any lx _ W (HX.out.kept hW) hlx)
    have HCY := Lib.hid (show ∀ W, Kept w W → _ from fun W hW => copy_any ly _ W (HY.out.kept hW) hly)
    have HCU := Lib.hid (show ∀ W, Kept w W → _ from fun W hW => copyInts_any lu _ W (HU.out.kept hW) hlu)
    have HSV := Lib.hid (show ∀ (k : Nat) (b : List UInt8) d fs w2 w3 vb, DK w w2 d c fs → Kept w2 w3 → (∀ W, Chg (mid w w2) w3 W → Bts W vb b) → fs.length ≤ 20 → _ from fun k b d fs w2 w3 vb h1 h2 h3 h4 => save_dk d sNm (k : Int) b vb c fs w w2 w3 h1 h2 h3 hE (by omega))
    have HLD := Lib.hid (show ∀ d fs w2, DK w w2 d c fs → _ from fun d fs w2 h => load_dk d sNm c fs w w2 h hE good_s)
    rw [hnm] at HSV HLD
    have HCR := Lib.hid (show ∀ d fs w2 w3 v n, DK w w2 d c fs → Kept w2 w3 → w3.ownsRow w2.heap.size 3 1 v n (lu.map (Value.int .i64)) → _ from fun d fs w2 w3 v n h1 h2 h3 => crash_dk lu v d c fs w w2 w3 h1 h2 (fun W cW => Ints.of_own (own_chg h3 cW (fun g hg x => by have := own_ge h3 g hg; have := x.2; omega))))
    have K1 := Lib.hid (keep_first c lx)
    have K2 := Lib.hid (show ∀ fs, _ → _ → _ from fun fs h1 h2 => keep_second c lx ly fs h1 h2)
    have K3 := Lib.hid (show ∀ fs, _ → _ → _ from fun fs h1 h2 => keep_third c ly fs h1 h2)
    clear hc hE hlx hly hlu
    go_enter Tryz.func4, Tryz.ntmps4
    go_wp2
    go_quiet (fail)
    rename_i nq
    have hK0 : Kept w ((w.alloc (.cells #[.int .i64 (c : Int), .slice Ax lx.length cx, .slice Ay ly.length cy, .slice Au lu.length cu] 55)).drewN nq) := ((Kept.refl w).alloc _).drewN nq
    generalize (w.alloc (.cells #[.int .i64 (c : Int), .slice Ax lx.length cx, .slice Ay ly.length cy, .slice Au lu.length cu] 55)).drewN nq = w0 at *
    go_wp2_with fail
    refine (new_dk c w w0 hK0 hc1).mono ?_
    rintro e w1 ⟨db, rfl, h1⟩
    have H1 := Lib.hid h1
    clear h1
    go_wp2_with fail
    refine (HCX.out w1 H1.out.2).mono ?_
    rintro e w2 ⟨v2, rfl, ho2, k2⟩
    have HO2 := Lib.hid ho2
    obtain ⟨A2, c2, rfl⟩ := own_form ho2
    clear ho2
    go_wp2_with fail
    refine (HSV.out 3 lx _ [] w1 w2 _ H1.out k2 (fun W cW => own_apart HO2.out (Nat.le_refl _) cW) (by simp)).mono ?_
    rintro e w3 ⟨rfl, h3, -⟩
    have H3 := Lib.hid h3
    clear h3
    generalize hr1 : saveS c sNm ((3 : Nat) : Int) lx [] = r1 at *
    clear hr1
    rcases K1.out with ⟨hne, hem⟩ | ⟨hze, hbl, hsf, hln⟩
    · have t0 : (r1.1 != 0) = true := by simpa using hne
      have t1 : (r1.1 == 0) = false := by simpa using hne
      rw [hem] at H3
      have HL0 := Lib.hid (HLD.out _ [] w3 H3.out)
      rw [show loadS sNm [] = none from rfl] at HL0
      simp only [Option.getD_none, Option.isSome_none] at HL0
      have HUS := Lib.hid (show ∀ W, Kept w3 W → _ from fun W hW => used_any c [] _ _ W (H3.out.kept hW).1)
      rw [show used [] = 0 from rfl] at HUS
      clear hem K1
      go_wp2_with fail
      refine HL0.out.mono ?_
      rintro e w4 ⟨v4, rfl, ho4, k4⟩
      obtain ⟨A4, c4, rfl⟩ := own_form ho4
      clear ho4
      go_wp2_with fail
      refine (HUS.out w4 k4).mono ?_
      rintro e w5 ⟨rfl, rfl⟩
      go_wp2_with fail
      refine (HAW.out _ (H3.out.2.trans k4)).mono ?_
      rintro e w6 ⟨rfl, k6⟩
      have hk6 := (H3.out.2.trans k4).trans k6
      go_wp2
      go_ret
      exact ⟨rfl, hk6⟩
    · rw [hze]
      generalize r1.2 = fs1 at *
      have HSF := Lib.hid (hsf.crash lu)
      have hln2 : (crashS lu fs1).length ≤ 5 := by rw [crash_len]; exact hln
      have HBL := Lib.hid hbl
      clear hze hsf hln hbl K1
      go_wp2_with fail
      refine (HCU.out w3 H3.out.2).mono ?_
      rintro e w4 ⟨v4, rfl, ho4, k4⟩
      have HO4 := Lib.hid ho4
      obtain ⟨A4, c4, rfl⟩ := own_form ho4
      clear ho4
      go_wp2_with fail
      refine (HCR.out _ fs1 w3 w4 _ _ H3.out k4 HO4.out).mono ?_
      rintro e w5 ⟨rfl, h5, -⟩
      have H5 := Lib.hid h5
      clear h5
      generalize crashS lu fs1 = fs2 at *
      have HL5 := Lib.hid (HLD.out _ fs2 w5 H5.out)
      rw [HSF.out.load (by omega) HBL.out (crc_leN lx)] at HL5
      simp only [Option.getD_some, Option.isSome_some] at HL5
      rw [show ((3 : Nat) : Int) = 3 from rfl] at HL5
      have hg2 := H5.out.good.1
      have K22 := Lib.hid (K2.out fs2 hg2 HSF.out)
      clear hg2
      go_wp2_with fail
      refine HL5.out.mono ?_
      rintro e w6 ⟨v6, rfl, ho6, k6⟩
      have hk6 := H5.out.2.trans k6
      have HSM := Lib.hid (same_any lx lx v6 _ w6 (Bts.of_own ho6) (HX.out.kept hk6))
      rw [beq_self_eq_true] at HSM
      obtain ⟨A6, c6, rfl⟩ := own_form ho6
      clear ho6 HL5
      go_wp2_with fail
      refine HSM.out.mono ?_
      rintro e w7 ⟨rfl, rfl⟩
      go_wp2_with fail
      refine (HCY.out _ hk6).mono ?_
      rintro e w8 ⟨v8, rfl, ho8, k8⟩
      have HO8 := Lib.hid ho8
      obtain ⟨A8, c8, rfl⟩ := own_form ho8
      have hs6 := k6.size
      clear ho8 HSM
      go_wp2_with fail
      refine (HSV.out 4 ly _ fs2 w5 w8 _ H5.out (k6.trans k8) (fun W cW => own_apart HO8.out hs6 cW) (by omega)).mono ?_
      rintro e w9 ⟨rfl, h9, -⟩
      have H9 := Lib.hid h9
      clear h9
      generalize hr2 : saveS c sNm ((4 : Nat) : Int) ly fs2 = r2 at *
      clear hr2
      obtain ⟨e2, f2⟩ := r2
      simp only at K22 H9
      try simp only
      go_wp2_with fail
      refine (HCU.out w9 H9.out.2).mono ?_
      rintro e w10 ⟨v10, rfl, ho10, k10⟩
      have HO10 := Lib.hid ho10
      obtain ⟨A10, c10, rfl⟩ := own_form ho10
      clear ho10
      go_wp2_with fail
      refine (HCR.out _ f2 w9 w10 _ _ H9.out k10 HO10.out).mono ?_
      rintro e w11 ⟨rfl, h11, -⟩
      have H11 := Lib.hid h11
      clear h11
      have HL11 := Lib.hid (HLD.out _ _ w11 H11.out)
      rcases K22.out with ⟨hne, hsf⟩ | ⟨hze, hbl, hsf, hln⟩
      · have t0 : (e2 != 0) = true := by simpa using hne
        have t1 : (e2 == 0) = false := by simpa using hne
        rw [(hsf.crash lu).load (by omega) HBL.out (crc_leN lx)] at HL11
        simp only [Option.getD_some, Option.isSome_some] at HL11
        rw [show ((3 : Nat) : Int) = 3 from rfl] at HL11
        clear K22 hsf
        go_wp2_with fail
        refine HL11.out.mono ?_
        rintro e w12 ⟨v12, rfl, ho12, k12⟩
        have hk12 := H11.out.2.trans k12
        have HSM := Lib.hid (same_any lx lx v12 _ w12 (Bts.of_own ho12) (HX.out.kept hk12))
        rw [beq_self_eq_true] at HSM
        obtain ⟨A12, c12, rfl⟩ := own_form ho12
        clear ho12 HL11
        go_wp2_with fail
        refine HSM.out.mono ?_
        rintro e w13 ⟨rfl, rfl⟩
        go_wp2_with fail
        refine (HAW.out _ hk12).mono ?_
        rintro e w14 ⟨rfl, k14⟩
        have hk14 := hk12.trans k14
        go_wp2
        go_ret
        exact ⟨rfl, hk14⟩
      · have hsc := hsf.crash lu
        rw [hsc.load (by omega) hbl (crc_leN ly)] at HL11
        simp only [Option.getD_some, Option.isSome_some] at HL11
        rw [show ((4 : Nat) : Int) = 4 from rfl] at HL11
        subst hze
        have K33 := Lib.hid (K3.out _ hsc hbl)
        have hln3 : (crashS lu f2).length ≤ 10 := by rw [crash_len]; omega
        generalize crashS lu f2 = fs3 at *
        clear K22 hsf hsc
        go_wp2_with fail
        refine HL11.out.mono ?_
        rintro e w12 ⟨v12, rfl, ho12, k12⟩
        have hk12 := H11.out.2.trans k12
        have HSM := Lib.hid (same_any ly ly v12 _ w12 (Bts.of_own ho12) (HY.out.kept hk12))
        rw [beq_self_eq_true] at HSM
        obtain ⟨A12, c12, rfl⟩ := own_form ho12
        have HS3 := Lib.hid (HSV.out 4 [] _ fs3 w11 w12 (.slice none 0 0) H11.out k12 (fun W _ => bts_nil W) (by omega))
        rw [K33.out] at HS3
        clear ho12 HL11
        go_wp2_with fail
        refine HSM.out.mono ?_
        rintro e w13 ⟨rfl, rfl⟩
        go_wp2_with fail
        refine HS3.out.mono ?_
        rintro e w14 ⟨rfl, h14, -⟩
        have hk14 := h14.2
        clear h14
        go_wp2_with fail
        refine (HAW.out _ hk14).mono ?_
        rintro e w15 ⟨rfl, k15⟩
        have hk15 := hk14.trans k15
        go_wp2
        go_ret
        exact ⟨rfl, hk15⟩
end Go.Proofs.YtngbgngfdklnlaaGreatDoor
