/- The walk of VecLattice. -/
import Derived.Test.YteopgcbihekcjaaQVLat
import Derived.Test.YteopgcbihekcjaaQVAwk
import Derived.Test.YteopgcbihekcjaaQVLeq
set_option linter.unusedSimpArgs false
set_option linter.unusedVariables false
namespace Go.Proofs.Yteopgcbihekcjaa
open Go.RowKit
set_option maxRecDepth 100000 in
set_option maxHeartbeats 2000000 in
theorem vecLattice_any (x y z : List Int) (vx vy vz : Value) (w : World) (hx : Ints w vx x) (hy : Ints w vy y) (hz : Ints w vz z) : Calls Try.prog 7 #[vx, vy, vz] w fun e w' => e = .returned (.bool true) ∧ Kept w w' := by
  obtain ⟨Ax, cx, rfl, -, hx2⟩ := hx.form
  obtain ⟨Ay, cy, rfl, -, hy2⟩ := hy.form
  obtain ⟨Az, cz, rfl, -, hz2⟩ := hz.form
  unfold maxLen at hx2 hy2 hz2
  have HX := Lib.hid hx
  have HY := Lib.hid hy
  have HZ := Lib.hid hz
  have HE := Lib.hid (join_err x y)
  have HV1 := Lib.hid (Vecs.two (t := 39) hx hy)
  clear hx hy hz
  go_enter Try.func7, Try.ntmps7
  go_wp2_with fail
  refine (vjoin_any [x, y] _ _ HV1.out).mono ?_
  rintro e w1 ⟨vj, rfl, hj, k1⟩
  have HJ := Lib.hid hj
  have hk1 := ((Kept.refl w).alloc (.cells #[.slice Ax x.length cx, .slice Ay y.length cy] 39)).trans k1
  have HK1 := Lib.hid hk1
  have HV2 := Lib.hid (Vecs.three (t := 39) (HY.out.kept hk1) (HX.out.kept hk1) (HY.out.kept hk1))
  clear hj k1 hk1
  generalize hej : joinE [x, y] = ej at *
  have HEJ := Lib.hid hej
  clear hej
  go_wp2_with fail
  refine (vjoin_any [y, x, y] _ _ HV2.out).mono ?_
  rintro e w2 ⟨vk, rfl, hk, k2⟩
  rw [← HE.out]
  have HKK := Lib.hid hk
  have hk2 := ((Kept.refl w1).alloc (.cells #[.slice Ay y.length cy, .slice Ax x.length cx, .slice Ay y.length cy] 39)).trans k2
  have HJ2 := Lib.hid (own_kept HJ.out hk2)
  have HK2 := Lib.hid (HK1.out.trans hk2)
  clear hk k2 hk2
  have t0 : (ej != ej) = false := by simp
  cases hok : joinOk [x, y] with
  | false =>
    have he : ej = 90 := by rw [← HEJ.out]; exact (joinT_no hok).2
    have hsome : vok x = false ∨ vok y = false ∨ ¬ x.length = y.length := by
      by_cases h1 : vok x = true
      · by_cases h2 : vok y = true
        · refine .inr (.inr fun h => ?_)
          rw [(joinOk_two x y).2 ⟨h1, h2, h.symm⟩] at hok
          cases hok
        · exact .inr (.inl (by simpa using h2))
      · exact .inl (by simpa using h1)
    subst he
    clear hok
    by_cases h1 : vok x = false
    · have HA := Lib.hid (vE_no h1)
      clear hsome h1
      go_wp2_with fail
      refine (vcheck_any x _ _ (HX.out.kept HK2.out)).mono ?_
      rintro e w3 ⟨rfl, rfl⟩
      rw [HA.out]
      go_wp2_with fail
      refine (awake_any _).mono ?_
      rintro e w9 ⟨rfl, k9⟩
      have hkk := HK2.out.trans k9
      go_wp2
      go_ret
      exact ⟨rfl, hkk⟩
    · have HA := Lib.hid (vE_ok (l := x) (by simpa using h1))
      by_cases h2 : vok y = false
      · have HB := Lib.hid (vE_no h2)
        clear hsome h1 h2
        go_wp2_with fail
        refine (vcheck_any x _ _ (HX.out.kept HK2.out)).mono ?_
        rintro e w3 ⟨rfl, rfl⟩
        rw [HA.out]
        go_wp2_with fail
        refine (vcheck_any y _ _ (HY.out.kept HK2.out)).mono ?_
        rintro e w3 ⟨rfl, rfl⟩
        rw [HB.out]
        go_wp2_with fail
        refine (awake_any _).mono ?_
        rintro e w9 ⟨rfl, k9⟩
        have hkk := HK2.out.trans k9
        go_wp2
        go_ret
        exact ⟨rfl, hkk⟩
      · have HB := Lib.hid (vE_ok (l := y) (by simpa using h2))
        have hlen : ¬ x.length = y.length := by
          rcases hsome with h | h | h
          · exact absurd h h1
          · exact absurd h h2
          · exact h
        have t1 : ((x.length : Int) != (y.length : Int)) = true := by simp; omega
        clear hsome h1 h2 hlen
        go_wp2_with fail
        refine (vcheck_any x _ _ (HX.out.kept HK2.out)).mono ?_
        rintro e w3 ⟨rfl, rfl⟩
        rw [HA.out]
        go_wp2_with fail
        refine (vcheck_any y _ _ (HY.out.kept HK2.out)).mono ?_
        rintro e w3 ⟨rfl, rfl⟩
        rw [HB.out]
        go_wp2_with fail
        refine (awake_any _).mono ?_
        rintro e w9 ⟨rfl, k9⟩
        have hkk := HK2.out.trans k9
        go_wp2
        go_ret
        exact ⟨rfl, hkk⟩
  | true =>
    have he : ej = 0 := by rw [← HEJ.out]; exact (joinT_ok hok).2
    subst he
    obtain ⟨h1, h2, h3⟩ := (joinOk_two x y).1 hok
    obtain ⟨l1, l2, l3, l4⟩ := lattice z h1 h2 h3
    have hj := HJ2.out
    have hk := HKK.out
    rw [join_two h1 h2 h3] at hj
    rw [join_three h1 h2 h3] at hk
    generalize vmax x y = j at *
    have HIJ := Lib.hid (Ints.of_own hj)
    have HIK := Lib.hid (Ints.of_own hk)
    have HL1 := Lib.hid l1
    have HL2 := Lib.hid l2
    have HL3 := Lib.hid l3
    have HL4 := Lib.hid l4
    have HBB := Lib.hid (show (j == j) = true by simp)
    clear hj hk l1 l2 l3 l4 h1 h2 h3 hok
    obtain ⟨Aj, cj, rfl, -, -⟩ := HIJ.out.form
    obtain ⟨Ak, ck, rfl, -, -⟩ := HIK.out.form
    go_wp2_with fail
    refine (sameInts_any j j _ _ _ HIJ.out HIK.out).mono ?_
    rintro e w3 ⟨rfl, k3⟩
    rw [HBB.out]
    have HK3 := Lib.hid (HK2.out.trans k3)
    have HIJ3 := Lib.hid (HIJ.out.kept k3)
    clear k3
    go_wp2_with fail
    refine (leq_any x j _ _ _ (HX.out.kept HK3.out) HIJ3.out).mono ?_
    rintro e w4 ⟨rfl, rfl⟩
    rw [HL1.out]
    go_wp2_with fail
    refine (leq_any y j _ _ _ (HY.out.kept HK3.out) HIJ3.out).mono ?_
    rintro e w4 ⟨rfl, rfl⟩
    rw [HL2.out]
    cases hxz : leqT x z with
    | false =>
      have HXZ := Lib.hid hxz
      clear hxz
      go_wp2_with fail
      refine (leq_any x z _ _ _ (HX.out.kept HK3.out) (HZ.out.kept HK3.out)).mono ?_
      rintro e w4 ⟨rfl, rfl⟩
      rw [HXZ.out]
      generalize hb : leqT x y = b at *
      have HB := Lib.hid hb
      clear hb
      go_wp2_with fail
      refine (leq_any x y _ _ _ (HX.out.kept HK3.out) (HY.out.kept HK3.out)).mono ?_
      rintro e w4 ⟨rfl, rfl⟩
      rw [HB.out]
      go_wp2_with fail
      refine (sameInts_any j y _ _ _ HIJ3.out (HY.out.kept HK3.out)).mono ?_
      rintro e w5 ⟨rfl, k5⟩
      rw [← HL4.out]
      have HK5 := Lib.hid (HK3.out.trans k5)
      clear k5
      go_wp2_with fail
      refine (awake_any _).mono ?_
      rintro e w9 ⟨rfl, k9⟩
      have hkk := HK5.out.trans k9
      go_wp2
      go_ret
      exact ⟨rfl, hkk⟩
    | true =>
      have HXZ := Lib.hid hxz
      clear hxz
      cases hyz : leqT y z with
      | false =>
        have HYZ := Lib.hid hyz
        clear hyz
        go_wp2_with fail
        refine (leq_any x z _ _ _ (HX.out.kept HK3.out) (HZ.out.kept HK3.out)).mono ?_
        rintro e w4 ⟨rfl, rfl⟩
        rw [HXZ.out]
        go_wp2_with fail
        refine (leq_any y z _ _ _ (HY.out.kept HK3.out) (HZ.out.kept HK3.out)).mono ?_
        rintro e w4 ⟨rfl, rfl⟩
        rw [HYZ.out]
        generalize hb : leqT x y = b at *
        have HB := Lib.hid hb
        clear hb
        go_wp2_with fail
        refine (leq_any x y _ _ _ (HX.out.kept HK3.out) (HY.out.kept HK3.out)).mono ?_
        rintro e w4 ⟨rfl, rfl⟩
        rw [HB.out]
        go_wp2_with fail
        refine (sameInts_any j y _ _ _ HIJ3.out (HY.out.kept HK3.out)).mono ?_
        rintro e w5 ⟨rfl, k5⟩
        rw [← HL4.out]
        have HK5 := Lib.hid (HK3.out.trans k5)
        clear k5
        go_wp2_with fail
        refine (awake_any _).mono ?_
        rintro e w9 ⟨rfl, k9⟩
        have hkk := HK5.out.trans k9
        go_wp2
        go_ret
        exact ⟨rfl, hkk⟩
      | true =>
        have HYZ := Lib.hid hyz
        have HJZ := Lib.hid (HL3.out HXZ.out hyz)
        clear hyz
        go_wp2_with fail
        refine (leq_any x z _ _ _ (HX.out.kept HK3.out) (HZ.out.kept HK3.out)).mono ?_
        rintro e w4 ⟨rfl, rfl⟩
        rw [HXZ.out]
        go_wp2_with fail
        refine (leq_any y z _ _ _ (HY.out.kept HK3.out) (HZ.out.kept HK3.out)).mono ?_
        rintro e w4 ⟨rfl, rfl⟩
        rw [HYZ.out]
        go_wp2_with fail
        refine (leq_any j z _ _ _ HIJ3.out (HZ.out.kept HK3.out)).mono ?_
        rintro e w4 ⟨rfl, rfl⟩
        rw [HJZ.out]
        generalize hb : leqT x y = b at *
        have HB := Lib.hid hb
        clear hb
        go_wp2_with fail
        refine (leq_any x y _ _ _ (HX.out.kept HK3.out) (HY.out.kept HK3.out)).mono ?_
        rintro e w4 ⟨rfl, rfl⟩
        rw [HB.out]
        go_wp2_with fail
        refine (sameInts_any j y _ _ _ HIJ3.out (HY.out.kept HK3.out)).mono ?_
        rintro e w5 ⟨rfl, k5⟩
        rw [← HL4.out]
        have HK5 := Lib.hid (HK3.out.trans k5)
        clear k5
        go_wp2_with fail
        refine (awake_any _).mono ?_
        rintro e w9 ⟨rfl, k9⟩
        have hkk := HK5.out.trans k9
        go_wp2
        go_ret
        exact ⟨rfl, hkk⟩
end Go.Proofs.Yteopgcbihekcjaa
