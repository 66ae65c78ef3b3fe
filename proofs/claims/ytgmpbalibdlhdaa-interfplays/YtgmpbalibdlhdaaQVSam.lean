/- The walks of SameInts, Leq and the document's Leq. -/
import Derived.Test.YtgmpbalibdlhdaaQVChk
set_option linter.unusedSimpArgs false
set_option linter.unusedVariables false
namespace Go.Proofs.Ytgmpbalibdlhdaa
open Go.RowKit
theorem take_eq_snoc {l m : List Int} {k : Nat} (h1 : k < l.length) (h2 : k < m.length) (h : l.take k = m.take k) (he : l[k] = m[k]) : l.take (k + 1) = m.take (k + 1) := by
  rw [List.take_succ_eq_append_getElem h1, List.take_succ_eq_append_getElem h2, h, he]
set_option maxRecDepth 100000 in
set_option maxHeartbeats 1000000 in
theorem sameInts_any (l m : List Int) (v u : Value) (w : World) (hv : Ints w v l) (hu : Ints w u m) : Calls Try.prog 12 #[v, u] w fun e w' => e = .returned (.bool (l == m)) ∧ Kept w w' := by
  obtain ⟨A, c, rfl, hc1, hc2⟩ := hv.form
  obtain ⟨B, d, rfl, hd1, hd2⟩ := hu.form
  unfold maxLen at hc2 hd2
  have HV := Lib.hid hv
  have HU := Lib.hid hu
  clear hv hu
  by_cases hlen : l.length = m.length
  · have t1 : ((l.length : Int) != (m.length : Int)) = false := by simp [hlen]
    have HL := Lib.hid hlen
    have hle : l.length ≤ m.length := by omega
    have hge : m.length ≤ l.length := by omega
    clear hlen
    go_enter Try.func12, Try.ntmps12
    go_wp2
    go_loopw [5] (fun i W => ∃ k : Nat, i = .int .i64 (k : Int) ∧ k ≤ l.length ∧ l.take k = m.take k ∧ Kept w W) (fun i _ => l.length - (intOf i).toNat)
    case atStart => exact ⟨0, rfl, Nat.zero_le _, rfl, Kept.refl w⟩
    case round =>
      obtain ⟨k, rfl, hk, hall, hkk⟩ := hrel
      have HALL := Lib.hid hall
      have HK := Lib.hid hkk
      clear hall hkk
      by_cases hlt : k < l.length
      · obtain ⟨b, o, rfl, hcell⟩ := (HV.out.kept HK.out).atI hlt
        obtain ⟨b', o', rfl, hcell'⟩ := (HU.out.kept HK.out).atI (show k < m.length by omega)
        have g1 : (k : Int) < (l.length : Int) := by omega
        have g2 : (k : Int) < (m.length : Int) := by omega
        by_cases hx : l[k] = m[k]
        · have t2 : (l[k] != m[k]) = false := by simp [hx]
          have HT := Lib.hid (take_eq_snoc hlt (by omega) HALL.out hx)
          have HX := Lib.hid hx
          clear hx
          generalize l[k] = x at *
          generalize m[k] = y at *
          go_wp2
          go_region
          all_goals go_wp2
          go_roundw
          case rel => exact ⟨k + 1, by go_num, by omega, HT.out, by first | exact HK.out.drew | exact HK.out.drewN _ | exact HK.out⟩
          case measure => simp [intOf]; omega
        · have t2 : (l[k] != m[k]) = true := by simpa using hx
          have hne : (l == m) = false := by
            rw [beq_eq_false_iff_ne]
            intro h
            subst h
            exact hx rfl
          have HNE := Lib.hid hne
          clear hne hx
          generalize l[k] = x at *
          generalize m[k] = y at *
          go_wp2
          go_region
          all_goals go_wp2
          go_ret
          exact ⟨ret_b HNE.out.symm, by first | exact HK.out.drew | exact HK.out.drewN _ | exact HK.out⟩
      · obtain rfl : k = l.length := by omega
        have he : (l == m) = true := by
          rw [beq_iff_eq]
          have h := HALL.out
          rw [List.take_length, HL.out, List.take_length] at h
          exact h
        have HE := Lib.hid he
        clear he
        go_wp2
        go_ret
        exact ⟨ret_b HE.out.symm, HK.out⟩
  · have t1 : ((l.length : Int) != (m.length : Int)) = true := by simp; omega
    have he : (l == m) = false := by
      rw [beq_eq_false_iff_ne]
      intro h
      exact hlen (by rw [h])
    rw [he]
    go_enter Try.func12, Try.ntmps12
    go_wp2
    go_ret
    exact ⟨rfl, Kept.refl w⟩
end Go.Proofs.Ytgmpbalibdlhdaa
