/- The walk of the document's Unframe. -/
import Derived.Test.YtngbgngfdklnlaaGreatDoorQUnf
import Derived.Test.YtngbgngfdklnlaaGreatDoorGRefNum2
namespace Go.Proofs.YtngbgngfdklnlaaGreatDoor
open Go.RowKit
set_option maxRecDepth 100000 in
set_option maxHeartbeats 400000 in
theorem refUnframe_place (l : List UInt8) (a : Int) (v : Value) (w : World) (hv : Bts w v l) (h : a < 0 ∨ (l.length : Int) < a) :
    Calls Tryz.prog 67 #[v, .int .i64 a] w (UnPost w (unAt l a)) := by
  have HU := Lib.hid (unAt_bad h)
  obtain ⟨A, c, rfl, hc1, hc2, hcs⟩ := hv
  unfold maxLen at hc2
  clear hcs
  rcases h with h | h
  · go_enter Tryz.func67, Tryz.ntmps67
    go_wp2
    go_ret3
    exact UnPost.fail HU.out (Kept.refl _)
  · have h0 : ¬ a < 0 := by omega
    go_enter Tryz.func67, Tryz.ntmps67
    go_wp2
    go_ret3
    exact UnPost.fail HU.out (Kept.refl _)
set_option maxRecDepth 100000 in
set_option maxHeartbeats 400000 in
theorem refUnframe_short (l : List UInt8) (a : Nat) (v : Value) (w : World) (hv : Bts w v l) (h : a ≤ l.length) (h8 : l.length < a + 8) :
    Calls Tryz.prog 67 #[v, .int .i64 (a : Int)] w (UnPost w (unAt l a)) := by
  have HU := Lib.hid ((unAt_good h).trans (unOf_short (by simp; omega)))
  obtain ⟨A, c, rfl, hc1, hc2, hcs⟩ := hv
  unfold maxLen at hc2
  clear hcs
  have h0 : decide ((a : Int) < 0) = false := by simp
  have h1 : decide (l.length < a) = false := by simp; omega
  go_enter Tryz.func67, Tryz.ntmps67
  go_wp2
  go_ret3
  exact UnPost.fail HU.out (Kept.refl _)
set_option maxRecDepth 100000 in
set_option maxHeartbeats 6000000 in
theorem refUnframe_there (l : List UInt8) (a : Nat) (v : Value) (w : World) (hv : Bts w v l) (h8 : a + 8 ≤ l.length) (hlim : l.length ≤ 140737488355328) :
    Calls Tryz.prog 67 #[v, .int .i64 (a : Int)] w (UnPost w (unAt l a)) := by
  obtain ⟨A, c, hv', hc1, hc2, -⟩ := id hv
  subst hv'
  unfold maxLen at hc2
  obtain ⟨b, o, rfl⟩ := hv.addr (by omega)
  have hu := unAt_good (l := l) (a := a) (by omega)
  have s4 := hv.cut a 4 (by omega)
  have hv4 : val4 ((l.drop a).take 4) = val4 (l.drop a) := by
    unfold val4
    simp only [List.getD_eq_getElem?_getD]
    rw [List.getElem?_take_of_lt (by decide), List.getElem?_take_of_lt (by decide), List.getElem?_take_of_lt (by decide), List.getElem?_take_of_lt (by decide)]
  have hsl : (l.drop a).length = l.length - a := List.length_drop
  have HSL := Lib.hid hsl
  have HU := Lib.hid hu
  have HV := Lib.hid hv
  have HV4 := Lib.hid hv4
  have S4 := Lib.hid s4
  clear hu hsl hv4 s4 hv
  have h0 : decide ((a : Int) < 0) = false := by simp
  have h1 : decide (l.length < a) = false := by simp; omega
  have hca : ¬ c = a := by omega
  have hca4 : ¬ c = a + 4 := by omega
  go_enter Tryz.func67, Tryz.ntmps67
  go_wp2_with fail
  refine (value_any ((l.drop a).take 4) _ _ S4.out (by rw [List.length_take, HSL.out]; omega)).mono ?_
  rintro e w1 ⟨rfl, q, rfl⟩
  rw [HV4.out]
  have hvl := val4_lt (l.drop a)
  by_cases hbig : 65536 < val4 (l.drop a)
  · have hfin := HU.out.trans (unOf_long (by rw [HSL.out]; omega) hbig)
    have HFIN := Lib.hid hfin
    clear hfin HV4
    generalize val4 (l.drop a) = n at *
    go_wp2
    go_ret3
    exact UnPost.fail HFIN.out ((Kept.refl w).drewN q)
  · by_cases hpart : l.length - a < 8 + val4 (l.drop a)
    · have hfin := HU.out.trans (unOf_part (by rw [HSL.out]; omega) hbig (by rw [HSL.out]; exact hpart))
      have HFIN := Lib.hid hfin
      clear hfin HV4
      generalize val4 (l.drop a) = n at *
      go_wp2
      go_ret3
      exact UnPost.fail HFIN.out ((Kept.refl w).drewN q)
    · have c1 : ¬ crc ((l.drop a).take 4 ++ ((l.drop a).drop 8).take (val4 (l.drop a))) = val4 ((l.drop a).drop 4) → unAt l a = ([], 0, 15) := fun e => HU.out.trans (unOf_sum (by rw [HSL.out]; omega) hbig (by rw [HSL.out]; exact hpart) e)
      have c2 : crc ((l.drop a).take 4 ++ ((l.drop a).drop 8).take (val4 (l.drop a))) = val4 ((l.drop a).drop 4) → unAt l a = (((l.drop a).drop 8).take (val4 (l.drop a)), (a : Int) + 8 + (val4 (l.drop a) : Nat), 0) := fun e => HU.out.trans (unOf_ok (by rw [HSL.out]; omega) hbig (by rw [HSL.out]; exact hpart) e)
      have sb := HV.out.cut (a + 8) (val4 (l.drop a)) (by omega)
      have s48 := HV.out.cut (a + 4) 4 (by omega)
      rw [← List.drop_drop, ← Nat.add_assoc] at sb s48
      have e48 : val4 (((l.drop a).drop 4).take 4) = val4 ((l.drop a).drop 4) := by
        unfold val4
        simp only [List.getD_eq_getElem?_getD]
        rw [List.getElem?_take_of_lt (by decide), List.getElem?_take_of_lt (by decide), List.getElem?_take_of_lt (by decide), List.getElem?_take_of_lt (by decide)]
      have hl4 : (((l.drop a).drop 4).take 4).length = 4 := by rw [List.length_take, List.length_drop, HSL.out]; omega
      have hbl0 : (((l.drop a).drop 8).take (val4 (l.drop a))).length = val4 (l.drop a) := by rw [List.length_take, List.length_drop, HSL.out]; omega
      rw [← e48] at c1 c2
      have HL4 := Lib.hid hl4
      have C1 := Lib.hid c1
      have C2 := Lib.hid c2
      have SB := Lib.hid sb
      have S48 := Lib.hid s48
      have BL := Lib.hid hbl0
      clear c1 c2 sb s48 hl4 hbl0 e48 HV4
      generalize val4 (l.drop a) = n at *
      have h4l : ((l.drop a).take 4).length = 4 := by rw [List.length_take, HSL.out]; omega
      have H4L := Lib.hid h4l
      clear h4l
      generalize (l.drop a).take 4 = h4 at *
      generalize ((l.drop a).drop 8).take n = body at *
      generalize ((l.drop a).drop 4).take 4 = s4 at *
      have hbl : body.length ≤ 140737488355328 := by have := BL.out; omega
      have hjo : ∀ W v, Parts W v [h4, body] → Calls Tryz.prog 34 #[v] W fun e w' => ∃ v', e = .returned v' ∧ Bts w' v' (h4 ++ body) ∧ Kept W w' := fun W v h => by
        have hj := join_any [h4, body] v W h (by have := BL.out; have := H4L.out; simp; omega)
        rw [show [h4, body].flatten = h4 ++ body by simp] at hj
        exact hj.mono fun e w' ⟨v', h1, h2, h3⟩ => ⟨v', h1, Bts.of_own h2, h3⟩
      have hsu : ∀ W v, Bts W v (h4 ++ body) → Calls Tryz.prog 50 #[v] W fun e w' => e = .returned (.int .i64 (crc (h4 ++ body) : Nat)) ∧ W = w' := fun W v h => refSum_any (h4 ++ body) v W h
      have hva : ∀ W v, Bts W v s4 → Calls Tryz.prog 101 #[v] W fun e w' => e = .returned (.int .i64 (val4 s4 : Nat)) ∧ ∃ q, w' = W.drewN q := fun W v h => value_any s4 v W h (Nat.le_of_eq HL4.out.symm)
      have hcl := crc_le (h4 ++ body)
      have hvl4 := val4_lt s4
      generalize hcr : crc (h4 ++ body) = cr at *
      generalize hvs : val4 s4 = vs at *
      have JO := Lib.hid hjo
      have SU := Lib.hid hsu
      have VA := Lib.hid hva
      clear hcr hvs hjo hsu hva
      by_cases hc8 : c = a + 8
      · obtain rfl : c = a + 8 := hc8
        obtain rfl : n = 0 := by omega
        have hb0 : body = [] := List.eq_nil_of_length_eq_zero BL.out
        clear SB
        have SB : Hid (Bts w (.slice (some ⟨b, o, none⟩) 0 0) body) := by rw [hb0]; exact Lib.hid (Bts.empty w (some ⟨b, o, none⟩) 0 (by decide))
        clear hb0
        rw [show a + 8 - a = 8 by omega] at S4
        rw [show a + 8 - (a + 4) = 4 by omega] at S48
        by_cases hcv : cr = vs
        · have hfin := C2.out hcv
          have HFIN := Lib.hid hfin
          clear hfin
          have t1 : ((cr : Int) != (vs : Int)) = false := by rw [hcv]; simp
          have t2 : (cr != vs) = false := by rw [hcv]; simp
          clear hcv
          go_wp2_with fail
          refine (copy_any body _ _ (SB.out.kept ((Kept.refl w).drewN q)) hbl).mono ?_
          rintro e w3 ⟨v3, rfl, ho3, hk3⟩
          have hK3 := ((Kept.refl w).drewN q).trans hk3
          have hb3 := Bts.of_own ho3
          have HO3 := Lib.hid ho3
          obtain ⟨A3, c3, rfl⟩ := hb3.form
          have HB3 := Lib.hid hb3
          clear hk3 ho3 hb3
          go_wp2_with fail
          have hw4 : IntKind.i64.wrap ((a : Int) + 4) = (a : Int) + 4 := by rw [IntKind.wrap_i64]; omega
          have hw8 : IntKind.i64.wrap ((a : Int) + 8) = (a : Int) + 8 := by rw [IntKind.wrap_i64]; omega
          have ht4 : ((a : Int) + 4).toNat = a + 4 := by omega
          have ht8 : ((a : Int) + 8).toNat = a + 8 := by omega
          have hi1 : (0 : Int) ≤ (a : Int) + 4 := by omega
          have hi2 : (0 : Int) ≤ (a : Int) + 8 := by omega
          have hi3 : (a : Int) + 4 ≤ ((a + 8 : Nat) : Int) := by omega
          have hi4 : (a : Int) + 8 ≤ ((a + 8 : Nat) : Int) := by omega
          go_region_with (first
            | (go_at_call 34; refine (JO.out _ _ (Parts.two (w := w3.drew) (S4.out.kept hK3.drew) (HB3.out.kept (Kept.refl w3).drew))).mono ?_; rintro e w4 ⟨v4, rfl, hb4, hk4⟩)
            | (go_at_call 50; refine (SU.out _ _ hb4).mono ?_; rintro e w5 ⟨rfl, rfl⟩)
            | (go_at_call 101; refine (VA.out _ _ (S48.out.kept ((hK3.drew.alloc _).trans hk4))).mono ?_; rintro e w6 ⟨rfl, q2, rfl⟩))
          all_goals (
            clear hw4 hw8 ht4 ht8 hi1 hi2 hi3 hi4
            have hK := ((hK3.drew.alloc _).trans hk4).drewN q2
            have hO := own_keptR HO3.out ((((Kept.refl w3).drew.alloc _).trans hk4).drewN q2)
            have HO := Lib.hid hO
            have HK := Lib.hid hK
            clear hO hK hb4 hk4
            go_wp2
            go_ret3
            exact UnPost.good HFIN.out (by first | rfl | omega) HO.out HK.out)
        · have hfin := C1.out hcv
          have HFIN := Lib.hid hfin
          clear hfin
          have t1 : ((cr : Int) != (vs : Int)) = true := by rw [bne_iff_ne]; omega
          have t2 : (cr != vs) = true := by rw [bne_iff_ne]; exact hcv
          clear hcv
          go_wp2_with fail
          refine (copy_any body _ _ (SB.out.kept ((Kept.refl w).drewN q)) hbl).mono ?_
          rintro e w3 ⟨v3, rfl, ho3, hk3⟩
          have hK3 := ((Kept.refl w).drewN q).trans hk3
          have hb3 := Bts.of_own ho3
          have HO3 := Lib.hid ho3
          obtain ⟨A3, c3, rfl⟩ := hb3.form
          have HB3 := Lib.hid hb3
          clear hk3 ho3 hb3
          go_wp2_with fail
          have hw4 : IntKind.i64.wrap ((a : Int) + 4) = (a : Int) + 4 := by rw [IntKind.wrap_i64]; omega
          have hw8 : IntKind.i64.wrap ((a : Int) + 8) = (a : Int) + 8 := by rw [IntKind.wrap_i64]; omega
          have ht4 : ((a : Int) + 4).toNat = a + 4 := by omega
          have ht8 : ((a : Int) + 8).toNat = a + 8 := by omega
          have hi1 : (0 : Int) ≤ (a : Int) + 4 := by omega
          have hi2 : (0 : Int) ≤ (a : Int) + 8 := by omega
          have hi3 : (a : Int) + 4 ≤ ((a + 8 : Nat) : Int) := by omega
          have hi4 : (a : Int) + 8 ≤ ((a + 8 : Nat) : Int) := by omega
          go_region_with (first
            | (go_at_call 34; refine (JO.out _ _ (Parts.two (w := w3.drew) (S4.out.kept hK3.drew) (HB3.out.kept (Kept.refl w3).drew))).mono ?_; rintro e w4 ⟨v4, rfl, hb4, hk4⟩)
            | (go_at_call 50; refine (SU.out _ _ hb4).mono ?_; rintro e w5 ⟨rfl, rfl⟩)
            | (go_at_call 101; refine (VA.out _ _ (S48.out.kept ((hK3.drew.alloc _).trans hk4))).mono ?_; rintro e w6 ⟨rfl, q2, rfl⟩))
          all_goals (
            clear hw4 hw8 ht4 ht8 hi1 hi2 hi3 hi4
            have hK := ((hK3.drew.alloc _).trans hk4).drewN q2
            have HK := Lib.hid hK
            clear hK hb4 hk4
            go_wp2
            go_ret3
            exact UnPost.fail HFIN.out HK.out)
      · have hc8' : ¬ c = a + 8 := hc8
        by_cases hcv : cr = vs
        · have hfin := C2.out hcv
          have HFIN := Lib.hid hfin
          clear hfin
          have t1 : ((cr : Int) != (vs : Int)) = false := by rw [hcv]; simp
          have t2 : (cr != vs) = false := by rw [hcv]; simp
          clear hcv
          go_wp2_with fail
          refine (copy_any body _ _ (SB.out.kept ((Kept.refl w).drewN q)) hbl).mono ?_
          rintro e w3 ⟨v3, rfl, ho3, hk3⟩
          have hK3 := ((Kept.refl w).drewN q).trans hk3
          have hb3 := Bts.of_own ho3
          have HO3 := Lib.hid ho3
          obtain ⟨A3, c3, rfl⟩ := hb3.form
          have HB3 := Lib.hid hb3
          clear hk3 ho3 hb3
          go_wp2_with fail
          have hw4 : IntKind.i64.wrap ((a : Int) + 4) = (a : Int) + 4 := by rw [IntKind.wrap_i64]; omega
          have hw8 : IntKind.i64.wrap ((a : Int) + 8) = (a : Int) + 8 := by rw [IntKind.wrap_i64]; omega
          have ht4 : ((a : Int) + 4).toNat = a + 4 := by omega
          have ht8 : ((a : Int) + 8).toNat = a + 8 := by omega
          have hi1 : (0 : Int) ≤ (a : Int) + 4 := by omega
          have hi2 : (0 : Int) ≤ (a : Int) + 8 := by omega
          have hi3 : (a : Int) + 4 ≤ (c : Int) := by omega
          have hi4 : (a : Int) + 8 ≤ (c : Int) := by omega
          go_region_with (first
            | (go_at_call 34; refine (JO.out _ _ (Parts.two (w := w3.drew) (S4.out.kept hK3.drew) (HB3.out.kept (Kept.refl w3).drew))).mono ?_; rintro e w4 ⟨v4, rfl, hb4, hk4⟩)
            | (go_at_call 50; refine (SU.out _ _ hb4).mono ?_; rintro e w5 ⟨rfl, rfl⟩)
            | (go_at_call 101; refine (VA.out _ _ (S48.out.kept ((hK3.drew.alloc _).trans hk4))).mono ?_; rintro e w6 ⟨rfl, q2, rfl⟩))
          all_goals (
            clear hw4 hw8 ht4 ht8 hi1 hi2 hi3 hi4
            have hK := ((hK3.drew.alloc _).trans hk4).drewN q2
            have hO := own_keptR HO3.out ((((Kept.refl w3).drew.alloc _).trans hk4).drewN q2)
            have HO := Lib.hid hO
            have HK := Lib.hid hK
            clear hO hK hb4 hk4
            go_wp2
            go_ret3
            exact UnPost.good HFIN.out (by first | rfl | omega) HO.out HK.out)
        · have hfin := C1.out hcv
          have HFIN := Lib.hid hfin
          clear hfin
          have t1 : ((cr : Int) != (vs : Int)) = true := by rw [bne_iff_ne]; omega
          have t2 : (cr != vs) = true := by rw [bne_iff_ne]; exact hcv
          clear hcv
          go_wp2_with fail
          refine (copy_any body _ _ (SB.out.kept ((Kept.refl w).drewN q)) hbl).mono ?_
          rintro e w3 ⟨v3, rfl, ho3, hk3⟩
          have hK3 := ((Kept.refl w).drewN q).trans hk3
          have hb3 := Bts.of_own ho3
          have HO3 := Lib.hid ho3
          obtain ⟨A3, c3, rfl⟩ := hb3.form
          have HB3 := Lib.hid hb3
          clear hk3 ho3 hb3
          go_wp2_with fail
          have hw4 : IntKind.i64.wrap ((a : Int) + 4) = (a : Int) + 4 := by rw [IntKind.wrap_i64]; omega
          have hw8 : IntKind.i64.wrap ((a : Int) + 8) = (a : Int) + 8 := by rw [IntKind.wrap_i64]; omega
          have ht4 : ((a : Int) + 4).toNat = a + 4 := by omega
          have ht8 : ((a : Int) + 8).toNat = a + 8 := by omega
          have hi1 : (0 : Int) ≤ (a : Int) + 4 := by omega
          have hi2 : (0 : Int) ≤ (a : Int) + 8 := by omega
          have hi3 : (a : Int) + 4 ≤ (c : Int) := by omega
          have hi4 : (a : Int) + 8 ≤ (c : Int) := by omega
          go_region_with (first
            | (go_at_call 34; refine (JO.out _ _ (Parts.two (w := w3.drew) (S4.out.kept hK3.drew) (HB3.out.kept (Kept.refl w3).drew))).mono ?_; rintro e w4 ⟨v4, rfl, hb4, hk4⟩)
            | (go_at_call 50; refine (SU.out _ _ hb4).mono ?_; rintro e w5 ⟨rfl, rfl⟩)
            | (go_at_call 101; refine (VA.out _ _ (S48.out.kept ((hK3.drew.alloc _).trans hk4))).mono ?_; rintro e w6 ⟨rfl, q2, rfl⟩))
          all_goals (
            clear hw4 hw8 ht4 ht8 hi1 hi2 hi3 hi4
            have hK := ((hK3.drew.alloc _).trans hk4).drewN q2
            have HK := Lib.hid hK
            clear hK hb4 hk4
            go_wp2
            go_ret3
            exact UnPost.fail HFIN.out HK.out)

/-- The document's Unframe, at any place of any bytes. -/
theorem refUnframe_any (l : List UInt8) (a : Int) (v : Value) (w : World) (hv : Bts w v l) (hlim : l.length ≤ 140737488355328) :
    Calls Tryz.prog 67 #[v, .int .i64 a] w (UnPost w (unAt l a)) := by
  by_cases h : a < 0 ∨ (l.length : Int) < a
  · exact refUnframe_place l a v w hv h
  · obtain ⟨n, rfl⟩ := Int.eq_ofNat_of_zero_le (show 0 ≤ a by omega)
    by_cases h8 : n + 8 ≤ l.length
    · exact refUnframe_there l n v w hv h8 hlim
    · exact refUnframe_short l n v w hv (by omega) (by omega)
end Go.Proofs.YtngbgngfdklnlaaGreatDoor
