/- The walk of VecCovers. -/
import Derived.Test.YteopgcbihekcjaaQVWth
import Derived.Test.YteopgcbihekcjaaQVLwJ
set_option linter.unusedSimpArgs false
set_option linter.unusedVariables false
namespace Go.Proofs.Yteopgcbihekcjaa
open Go.RowKit
theorem covT_succ {l : List Int} {ids : List (Int × Int)} {k : Nat} (hk : k < ids.length) : covT l (ids.take (k + 1)) = (covT l (ids.take k) && cov1 l ids[k].1 ids[k].2) := by
  unfold covT
  rw [List.take_succ_eq_append_getElem hk, List.all_append, List.all_cons, List.all_nil, Bool.and_true, Bool.and_assoc]
theorem withOk_succ {l : List Int} {ids : List (Int × Int)} {k : Nat} (hk : k < ids.length) : withOk l (ids.take (k + 1)) = (withOk l (ids.take k) && idOk l.length ids[k].1 ids[k].2) := by
  unfold withOk
  rw [List.take_succ_eq_append_getElem hk, List.all_append, List.all_cons, List.all_nil, Bool.and_true, Bool.and_assoc]
theorem covT_vok {l : List Int} {ids : List (Int × Int)} (h : covT l ids = true) : vok l = true := by
  unfold covT at h
  simp only [Bool.and_eq_true] at h
  exact h.1
theorem withOk_vok {l : List Int} {ids : List (Int × Int)} (h : withOk l ids = true) : vok l = true ∧ vok (setAll l ids) = true := by
  unfold withOk at h
  simp only [Bool.and_eq_true, List.all_eq_true] at h
  exact ⟨h.1, setAll_vok ids l h.1 h.2⟩
theorem told_with (l : List Int) (ids : List (Int × Int)) : toldB (withE l ids) (withOk l ids) 90 = true := by unfold toldB withE; cases withOk l ids <;> rfl
/-- What the loop of VecCovers carries: whether all are covered, the document's vector, whether there is one. -/
def CovTo (w : World) (l : List Int) (ids : List (Int × Int)) (k : Nat) (t6 t7 t8 : Value) (W : World) : Prop :=
  t6 = .bool (covT l (ids.take k)) ∧ t8 = .bool (withOk l (ids.take k)) ∧ (∃ A n c, t7 = .slice A n c) ∧ (withOk l (ids.take k) = true → Ints W t7 (setAll l (ids.take k))) ∧ Kept w W
set_option maxRecDepth 100000 in
set_option maxHeartbeats 4000000 in
theorem vecCovers_any (l : List Int) (ids : List (Int × Int)) (v u : Value) (w : World) (hv : Ints w v l) (hu : Ids w u ids) (hl : l.length ≤ 17592186044416) :
    Calls Try.prog 6 #[v, u] w fun e w' => e = .returned (.bool true) ∧ Kept w w' := by
  obtain ⟨A, c, rfl, hc1, hc2⟩ := hv.form
  obtain ⟨B, d, rfl, hd1, hd2⟩ := hu.form
  unfold maxLen at hc2 hd2
  have HV := Lib.hid hv
  have HU := Lib.hid hu
  clear hv hu
  have HT := Lib.hid (told_with l ids)
  go_enter Try.func6, Try.ntmps6
  go_wp2_with fail
  refine (copyInts_any l _ _ HV.out hl).mono ?_
  rintro e w1 ⟨v1, rfl, ho1, k1⟩
  have HI1 := Lib.hid (Ints.of_own ho1)
  have HK1 := Lib.hid k1
  obtain ⟨A1, c1, rfl⟩ := own_form ho1
  clear ho1 k1
  go_wp2_with fail
  refine (badvec_any l _ _ (HV.out.kept HK1.out)).mono ?_
  rintro e w2 ⟨rfl, rfl⟩
  go_wp2_with fail
  refine (copyInts_any l _ _ (HV.out.kept HK1.out) hl).mono ?_
  rintro e w2 ⟨v2, rfl, ho2, k2⟩
  have HI2 := Lib.hid (Ints.of_own ho2)
  have HI1' := Lib.hid (HI1.out.kept k2)
  have HK2 := Lib.hid (HK1.out.trans k2)
  obtain ⟨A2, c2, rfl⟩ := own_form ho2
  clear ho2 k2
  go_wp2_with fail
  refine (badvec_any l _ _ (HV.out.kept HK2.out)).mono ?_
  rintro e w3 ⟨rfl, rfl⟩
  have HST := Lib.hid (show CovTo w2 l ids 0 (.bool (vok l)) (.slice A2 l.length c2) (.bool (vok l)) w2 from ⟨by simp [covT], by simp [withOk], ⟨_, _, _, rfl⟩, fun _ => HI2.out, Kept.refl _⟩)
  go_wp2
  go_loopw [6, 7, 8, 25] (fun t6 t7 t8 i W => ∃ k : Nat, i = .int .i64 (k : Int) ∧ k ≤ ids.length ∧ CovTo w2 l ids k t6 t7 t8 W) (fun _ _ _ i _ => ids.length - (intOf i).toNat)
  case atStart => exact ⟨0, rfl, Nat.zero_le _, HST.out⟩
  case round =>
    obtain ⟨k, rfl, hk, rfl, rfl, ⟨A7, n7, c7, rfl⟩, hacc, hkk⟩ := hrel
    have HACC := Lib.hid hacc
    have HK := Lib.hid hkk
    clear hacc hkk
    by_cases hlt : k < ids.length
    · obtain ⟨b, o, rfl, hcell0, hcell1⟩ := HU.out.at hlt
      have hcell0 := (HK2.out.trans HK.out).cell hcell0
      have hcell1 := (HK2.out.trans HK.out).cell hcell1
      have HCS := Lib.hid (covT_succ (l := l) hlt)
      have HWS := Lib.hid (withOk_succ (l := l) hlt)
      have HSS := Lib.hid (setAll_succ (l := l) hlt)
      have HLEN := Lib.hid (setAll_len (ids.take k) l)
      have HCV := Lib.hid (fun h => covT_vok (l := l) (ids := ids.take k) h)
      have HWV := Lib.hid (fun h => withOk_vok (l := l) (ids := ids.take k) h)
      generalize covT l (ids.take k) = ak at *
      generalize withOk l (ids.take k) = ok at *
      generalize setAll l (ids.take k) = acc at *
      generalize ids[k] = x at *
      obtain ⟨r, m⟩ := x
      simp only at hcell0 hcell1 HCS HWS HSS
      have g1 : (k : Int) < (ids.length : Int) := by omega
      have HB3 := Lib.hid (heap_alloc_new wr (.cells #[.int .i64 r, .int .i64 m] 52))
      have HK3 := Lib.hid (HK.out.alloc (.cells #[.int .i64 r, .int .i64 m] 52))
      have HA3 := Lib.hid (fun h => (HACC.out h).kept ((Kept.refl wr).alloc (.cells #[.int .i64 r, .int .i64 m] 52)))
      obtain ⟨p0, p1⟩ := cells2 HB3.out
      cases ak with
      | true =>
        have HC1 := Lib.hid (show (vok l && cov1 l r m) = covT l (ids.take (k + 1)) by rw [HCS.out, HCV.out rfl])
        cases ok with
        | true =>
          have hvo := (HWV.out rfl).2
          have HA3' := Lib.hid (HA3.out rfl)
          have HW1 := Lib.hid (show (vok acc && idOk acc.length r m) = withOk l (ids.take (k + 1)) by rw [HWS.out, hvo, HLEN.out])
          have HIF := Lib.hid (fun (h : withOk l (ids.take (k + 1)) = true) => (show vok acc = true ∧ idOk acc.length r m = true from ⟨hvo, by rw [HWS.out] at h; rw [HLEN.out]; simpa using h⟩))
          clear hvo
          go_wp2_with fail
          refine (refCovers_any l r m _ _ (HV.out.kept (HK2.out.trans HK3.out))).mono ?_
          rintro e w4 ⟨rfl, rfl⟩
          rw [HC1.out]
          generalize hak2 : covT l (ids.take (k + 1)) = ak2 at *
          have HAK2 := Lib.hid hak2
          clear hak2
          go_wp2_with fail
          refine (refWith_any acc r m _ _ HA3'.out (by rw [HLEN.out]; exact hl)).mono ?_
          rintro e w4 ⟨v4, rfl, h4, ⟨A8, n8, c8, rfl⟩, k4⟩
          rw [HW1.out]
          have H4 := Lib.hid h4
          have HK4 := Lib.hid (HK3.out.trans k4)
          clear h4 k4
          generalize hok2 : withOk l (ids.take (k + 1)) = ok2 at *
          have HOK2 := Lib.hid hok2
          clear hok2
          go_wp2
          go_roundw
          case rel => exact ⟨k + 1, by go_num, by omega, by rw [HAK2.out], by rw [HOK2.out], ⟨_, _, _, rfl⟩, fun h => (by rw [HSS.out]; exact H4.out (HIF.out (HOK2.out ▸ h))), HK4.out⟩
          case measure => simp [intOf]; omega
        | false =>
          have HW1 := Lib.hid (show withOk l (ids.take (k + 1)) = false by rw [HWS.out]; rfl)
          go_wp2_with fail
          refine (refCovers_any l r m _ _ (HV.out.kept (HK2.out.trans HK3.out))).mono ?_
          rintro e w4 ⟨rfl, rfl⟩
          rw [HC1.out]
          generalize hak2 : covT l (ids.take (k + 1)) = ak2 at *
          have HAK2 := Lib.hid hak2
          clear hak2
          go_wp2
          go_roundw
          case rel => exact ⟨k + 1, by go_num, by omega, by rw [HAK2.out], by rw [HW1.out], ⟨_, _, _, rfl⟩, fun h => (by rw [HW1.out] at h; exact absurd h (by decide)), HK3.out⟩
          case measure => simp [intOf]; omega
      | false =>
        have HC1 := Lib.hid (show covT l (ids.take (k + 1)) = false by rw [HCS.out]; rfl)
        cases ok with
        | true =>
          have hvo := (HWV.out rfl).2
          have HA3' := Lib.hid (HA3.out rfl)
          have HW1 := Lib.hid (show (vok acc && idOk acc.length r m) = withOk l (ids.take (k + 1)) by rw [HWS.out, hvo, HLEN.out])
          have HIF := Lib.hid (fun (h : withOk l (ids.take (k + 1)) = true) => (show vok acc = true ∧ idOk acc.length r m = true from ⟨hvo, by rw [HWS.out] at h; rw [HLEN.out]; simpa using h⟩))
          clear hvo
          generalize hak2 : covT l (ids.take (k + 1)) = ak2 at *
          have HAK2 := Lib.hid hak2
          clear hak2
          go_wp2_with fail
          refine (refWith_any acc r m _ _ HA3'.out (by rw [HLEN.out]; exact hl)).mono ?_
          rintro e w4 ⟨v4, rfl, h4, ⟨A8, n8, c8, rfl⟩, k4⟩
          rw [HW1.out]
          have H4 := Lib.hid h4
          have HK4 := Lib.hid (HK3.out.trans k4)
          clear h4 k4
          generalize hok2 : withOk l (ids.take (k + 1)) = ok2 at *
          have HOK2 := Lib.hid hok2
          clear hok2
          go_wp2
          go_roundw
          case rel => exact ⟨k + 1, by go_num, by omega, by rw [HAK2.out, HC1.out], by rw [HOK2.out], ⟨_, _, _, rfl⟩, fun h => (by rw [HSS.out]; exact H4.out (HIF.out (HOK2.out ▸ h))), HK4.out⟩
          case measure => simp [intOf]; omega
        | false =>
          have HW1 := Lib.hid (show withOk l (ids.take (k + 1)) = false by rw [HWS.out]; rfl)
          generalize hak2 : covT l (ids.take (k + 1)) = ak2 at *
          have HAK2 := Lib.hid hak2
          clear hak2
          go_wp2
          go_roundw
          case rel => exact ⟨k + 1, by go_num, by omega, by rw [HAK2.out, HC1.out], by rw [HW1.out], ⟨_, _, _, rfl⟩, fun h => (by rw [HW1.out] at h; exact absurd h (by decide)), HK3.out⟩
          case measure => simp [intOf]; omega
    · obtain rfl : k = ids.length := by omega
      rw [List.take_length] at HACC
      have hcv : covT l (ids.take ids.length) = covT l ids := by rw [List.take_length]
      have hwo : withOk l (ids.take ids.length) = withOk l ids := by rw [List.take_length]
      rw [hcv, hwo]
      have HWK := Lib.hid (fun (h : withOk l ids = false) => (show withT l ids = [] by unfold withT; rw [h]; rfl))
      have HWG := Lib.hid (fun (h : withOk l ids = true) => (show withT l ids = setAll l ids by unfold withT; rw [h]; rfl))
      clear hcv hwo
      go_wp2_with fail
      refine (with_any l ids _ _ _ (HI1'.out.kept HK.out) (HU.out.kept (HK2.out.trans HK.out))).mono ?_
      rintro e w5 ⟨v5, rfl, h5, k5⟩
      have HI5 := Lib.hid (Ints.of_own h5)
      have HK5 := Lib.hid (HK.out.trans k5)
      have HA5 := Lib.hid (fun h => (HACC.out h).kept k5)
      obtain ⟨A5, c5, rfl⟩ := own_form h5
      clear h5 k5
      cases hok : withOk l ids with
      | true =>
        rw [hok] at HT
        have hwt := HWG.out hok
        have hA := HA5.out hok
        have hI := HI5.out
        rw [hwt] at hI ⊢
        have HIA := Lib.hid hA
        have HII := Lib.hid hI
        have HSA := Lib.hid (show (setAll l ids == setAll l ids) = true by simp)
        have HLL := Lib.hid (show (l == l) = true by simp)
        clear hA hI hwt HI5 HA5 HWK HWG HACC hok
        generalize setAll l ids = sa at *
        generalize withE l ids = we at *
        go_wp2_with fail
        refine (covers_any l ids _ _ _ (HI1'.out.kept HK5.out) (HU.out.kept (HK2.out.trans HK5.out))).mono ?_
        rintro e w6 ⟨rfl, k6⟩
        generalize covT l ids = cv at *
        have HK6 := Lib.hid (HK5.out.trans k6)
        have HIA6 := Lib.hid (HIA.out.kept k6)
        have HII6 := Lib.hid (HII.out.kept k6)
        clear k6
        go_wp2_with fail
        refine (sameInts_any sa sa _ _ _ HII6.out HIA6.out).mono ?_
        rintro e w7 ⟨rfl, k7⟩
        rw [HSA.out]
        have HK7 := Lib.hid (HK6.out.trans k7)
        clear k7
        go_wp2_with fail
        refine (told_any we true 90 _).mono ?_
        rintro e w8 ⟨rfl, rfl⟩
        rw [HT.out]
        go_wp2_with fail
        refine (sameInts_any l l _ _ _ (HI1'.out.kept HK7.out) (HV.out.kept (HK2.out.trans HK7.out))).mono ?_
        rintro e w8 ⟨rfl, k8⟩
        rw [HLL.out]
        have HK8 := Lib.hid (HK7.out.trans k8)
        clear k8
        go_wp2_with fail
        refine (awake_any _).mono ?_
        rintro e w9 ⟨rfl, k9⟩
        have hkk := HK2.out.trans (HK8.out.trans k9)
        go_wp2
        go_ret
        exact ⟨rfl, hkk⟩
      | false =>
        rw [hok] at HT
        have hwt := HWK.out hok
        have hI := HI5.out
        rw [hwt] at hI ⊢
        have HII := Lib.hid hI
        have HSA := Lib.hid (show (([] : List Int) == []) = true by rfl)
        have HLL := Lib.hid (show (l == l) = true by simp)
        clear hI hwt HI5 HA5 HWK HWG HACC hok
        generalize withE l ids = we at *
        go_wp2_with fail
        refine (covers_any l ids _ _ _ (HI1'.out.kept HK5.out) (HU.out.kept (HK2.out.trans HK5.out))).mono ?_
        rintro e w6 ⟨rfl, k6⟩
        generalize covT l ids = cv at *
        have HK6 := Lib.hid (HK5.out.trans k6)
        have HII6 := Lib.hid (HII.out.kept k6)
        clear k6
        go_wp2_with fail
        refine (sameInts_any [] [] _ _ _ HII6.out (ints_none _)).mono ?_
        rintro e w7 ⟨rfl, k7⟩
        rw [HSA.out]
        have HK7 := Lib.hid (HK6.out.trans k7)
        clear k7
        go_wp2_with fail
        refine (told_any we false 90 _).mono ?_
        rintro e w8 ⟨rfl, rfl⟩
        rw [HT.out]
        go_wp2_with fail
        refine (sameInts_any l l _ _ _ (HI1'.out.kept HK7.out) (HV.out.kept (HK2.out.trans HK7.out))).mono ?_
        rintro e w8 ⟨rfl, k8⟩
        rw [HLL.out]
        have HK8 := Lib.hid (HK7.out.trans k8)
        clear k8
        go_wp2_with fail
        refine (awake_any _).mono ?_
        rintro e w9 ⟨rfl, k9⟩
        have hkk := HK2.out.trans (HK8.out.trans k9)
        go_wp2
        go_ret
        exact ⟨rfl, hkk⟩
end Go.Proofs.Yteopgcbihekcjaa
