/- The walk of With. -/
import Derived.Test.YteopgcbihekcjaaQVCv2
set_option linter.unusedSimpArgs false
set_option linter.unusedVariables false
namespace Go.Proofs.Yteopgcbihekcjaa
open Go.RowKit
/-- What With leaves. -/
def WithTo (w : World) (l : List Int) (ids : List (Int × Int)) (e : Ending) (w' : World) : Prop := ∃ v, e = .returned (.tuple #[v, .int .i64 (withE l ids)]) ∧ w'.ownsRow w.heap.size 3 1 v (withT l ids).length (iv (withT l ids)) ∧ Kept w w'
theorem WithTo.bad {w w' : World} {l : List Int} {ids : List (Int × Int)} (h : withOk l ids = false) (k : Kept w w') : WithTo w l ids (.returned (.tuple #[.slice none 0 0, .int .i64 90])) w' := by
  refine ⟨.slice none 0 0, by unfold withE; rw [h]; rfl, ?_, k⟩
  rw [show withT l ids = [] by unfold withT; rw [h]; rfl]
  exact World.ownsRow_nil _ _ _ _
theorem WithTo.good {w w' : World} {l : List Int} {ids : List (Int × Int)} {v : Value} (h : withOk l ids = true) (hr : w'.ownsRow w.heap.size 3 1 v l.length (iv (setAll l ids))) (k : Kept w w') : WithTo w l ids (.returned (.tuple #[v, .int .i64 0])) w' := by
  refine ⟨v, by unfold withE; rw [h]; rfl, ?_, k⟩
  rw [show withT l ids = setAll l ids by unfold withT; rw [h]; rfl, setAll_len]
  exact hr
theorem withOk_no {l : List Int} {ids : List (Int × Int)} {d : Int × Int} (hd : d ∈ ids) (h : ¬ idOk l.length d.1 d.2 = true) : withOk l ids = false := by
  unfold withOk
  cases ha : ids.all (fun d => idOk l.length d.1 d.2) with
  | false => simp
  | true => exact absurd (List.all_eq_true.1 ha d hd) h
theorem withOk_yes {l : List Int} {ids : List (Int × Int)} (hv : vok l = true) (h : ∀ d ∈ ids, idOk l.length d.1 d.2 = true) : withOk l ids = true := by
  unfold withOk
  rw [hv, List.all_eq_true.2 h]
  rfl
theorem setAll_succ {l : List Int} {ids : List (Int × Int)} {k : Nat} (hk : k < ids.length) : setAll l (ids.take (k + 1)) = setM (setAll l (ids.take k)) ids[k].1 ids[k].2 := by rw [List.take_succ_eq_append_getElem hk, setAll_snoc]
set_option maxRecDepth 100000 in
set_option maxHeartbeats 4000000 in
theorem with_any (l : List Int) (ids : List (Int × Int)) (v u : Value) (w : World) (hv : Ints w v l) (hu : Ids w u ids) : Calls Try.prog 27 #[v, u] w (WithTo w l ids) := by
  obtain ⟨A, c, rfl, hc1, hc2⟩ := hv.form
  obtain ⟨B, d, rfl, hd1, hd2⟩ := hu.form
  unfold maxLen at hc2 hd2
  have HV := Lib.hid hv
  have HU := Lib.hid hu
  clear hv hu
  have HBAD := Lib.hid (fun W (k : Kept w W) (h : withOk l ids = false) => WithTo.bad h k)
  cases hok : vok l with
  | false =>
    have HE := Lib.hid (vE_no hok)
    have HB := Lib.hid (HBAD.out w (Kept.refl w) (by unfold withOk; rw [hok]; rfl))
    clear hok
    go_enter Try.func27, Try.ntmps27
    go_wp2_with fail
    refine (vcheck_any l _ _ HV.out).mono ?_
    rintro e w1 ⟨rfl, rfl⟩
    rw [HE.out]
    go_wp2
    go_ret2
    exact HB.out
  | true =>
    have HE := Lib.hid (vE_ok hok)
    have hlen := vok_len hok
    have HOK := Lib.hid hok
    clear hok
    go_enter Try.func27, Try.ntmps27
    go_wp2_with fail
    refine (vcheck_any l _ _ HV.out).mono ?_
    rintro e w1 ⟨rfl, rfl⟩
    rw [HE.out]
    go_wp2_with fail
    refine (vclone_any l _ _ HV.out hlen.1 hlen.2).mono ?_
    rintro e w1 ⟨v1, rfl, ho1, hk1⟩
    obtain ⟨g, cj, rfl, hg1, hg2, hg3, hg4⟩ := row_form ho1 (by omega)
    unfold maxLen at hg4
    have HO1 := Lib.hid ho1
    have HK1 := Lib.hid hk1
    clear ho1 hk1
    go_wp2
    go_loopw [19] (fun i W => ∃ k : Nat, i = .int .i64 (k : Int) ∧ k ≤ ids.length ∧ W.ownsRow w.heap.size 3 1 (.slice (some ⟨g, 0, none⟩) l.length cj) l.length (iv (setAll l (ids.take k))) ∧ Kept w W ∧ ∀ d ∈ ids.take k, idOk l.length d.1 d.2 = true) (fun i _ => ids.length - (intOf i).toNat)
    case atStart => exact ⟨0, rfl, Nat.zero_le _, HO1.out, HK1.out, fun d hd => by simp at hd⟩
    case round =>
      obtain ⟨k, rfl, hk, hrow, hkk, hall⟩ := hrel
      have HROW := Lib.hid hrow
      have HALL := Lib.hid hall
      have HK := Lib.hid hkk
      clear hrow hall hkk
      by_cases hlt : k < ids.length
      · obtain ⟨b, o, rfl, hcell0, hcell1⟩ := HU.out.at hlt
        have hcell0 := HK.out.cell hcell0
        have hcell1 := HK.out.cell hcell1
        have HM := Lib.hid (List.getElem_mem hlt)
        have HTM := Lib.hid (fun h => takeI_more (Q := fun d => idOk l.length d.1 d.2 = true) hlt HALL.out h)
        have HSUC := Lib.hid (setAll_succ (l := l) hlt)
        have HACC := Lib.hid (setAll_len (ids.take k) l)
        generalize ids[k] = x at *
        generalize setAll l (ids.take k) = acc at *
        obtain ⟨r, m⟩ := x
        simp only at hcell0 hcell1 HSUC
        have g1 : (k : Int) < (ids.length : Int) := by omega
        have HK2 := Lib.hid (HK.out.alloc (.cells #[.int .i64 r, .int .i64 m] 52))
        have HROW2 := Lib.hid (own_kept HROW.out ((Kept.refl wr).alloc (.cells #[.int .i64 r, .int .i64 m] 52)))
        have HB2 := Lib.hid (heap_alloc_new wr (.cells #[.int .i64 r, .int .i64 m] 52))
        have HGW := Lib.hid (show g ≠ wr.heap.size from by have := (HROW.out.lt g rfl).2; omega)
        by_cases h1 : 0 ≤ r ∧ r < (l.length : Int)
        · have HP := Lib.hid (show decide (0 ≤ r ∧ r < (l.length : Int)) = true from decide_eq_true h1)
          by_cases h2 : m < 1
          · have t2 : decide (m < 1) = true := decide_eq_true h2
            have HR := Lib.hid (withOk_no (l := l) HM.out (fun h => absurd (idOk_iff.1 h).2.1 (by show ¬ 1 ≤ m; omega)))
            clear h1
            go_wp2_with fail
            refine (hasPlace_at (HV.out.kept HK2.out) HP.out).mono ?_
            rintro e w3 ⟨rfl, k3⟩
            have HK3 := Lib.hid (HK2.out.trans k3)
            obtain ⟨p0, p1⟩ := cells2 (k3.block' HB2.out)
            have HBD := Lib.hid (HBAD.out _ HK3.out HR.out)
            clear k3
            go_wp2
            go_ret2
            exact HBD.out
          · have t2 : decide (m < 1) = false := decide_eq_false h2
            by_cases h3 : 4611686018427387903 < m
            · have t3 : decide (4611686018427387903 < m) = true := decide_eq_true h3
              have HR := Lib.hid (withOk_no (l := l) HM.out (fun h => absurd (idOk_iff.1 h).2.2 (by show ¬ m ≤ 4611686018427387903; omega)))
              clear h1
              go_wp2_with fail
              refine (hasPlace_at (HV.out.kept HK2.out) HP.out).mono ?_
              rintro e w3 ⟨rfl, k3⟩
              have HK3 := Lib.hid (HK2.out.trans k3)
              obtain ⟨p0, p1⟩ := cells2 (k3.block' HB2.out)
              have HBD := Lib.hid (HBAD.out _ HK3.out HR.out)
              clear k3
              go_wp2
              go_ret2
              exact HBD.out
            · have t3 : decide (4611686018427387903 < m) = false := decide_eq_false h3
              have HN := Lib.hid (HTM.out (idOk_iff.2 ⟨h1, by omega, by show m ≤ 4611686018427387903; omega⟩))
              obtain ⟨j, rfl⟩ := Int.eq_ofNat_of_zero_le h1.1
              have hj : j < acc.length := by rw [HACC.out]; omega
              have HSM := Lib.hid (show setM acc (j : Int) m = acc.set j (max acc[j] m) by unfold setM; rw [getD_at h1.1 (by rw [HACC.out]; exact h1.2)]; rfl)
              have g2 : (j : Int) < (l.length : Int) := h1.2
              have g3 : j < l.length := by omega
              clear h1
              go_wp2_with fail
              refine (hasPlace_at (HV.out.kept HK2.out) HP.out).mono ?_
              rintro e w3 ⟨rfl, k3⟩
              have HK3 := Lib.hid (HK2.out.trans k3)
              have HROW3 := Lib.hid (own_kept HROW2.out k3)
              have HB3 := Lib.hid (k3.block' HB2.out)
              obtain ⟨p0, p1⟩ := cells2 HB3.out
              clear k3
              go_wp2
              refine still_tail 12 (by kernel_rfl) (by kernel_rfl) (fun wd hKd => ?_)
              have hrow4 := own_kept HROW3.out hKd
              obtain ⟨p2, p3⟩ := cells2 (hKd.block' HB3.out)
              obtain ⟨hcg, hfg⟩ := row_at hrow4 hj
              have HSET := Lib.hid (row_set hrow4 j (max acc[j] m))
              have HPK := Lib.hid (kept_poke (HK3.out.trans hKd) hg1 j (.int .i64 (max acc[j] m)))
              clear hrow4 hKd p0 p1
              generalize acc[j] = y at *
              simp only [List.take_succ_cons, List.take_zero, List.drop_succ_cons, List.drop_zero]
              repeat still_step
              refine wpStill_nil ?_
              go_wp2
              go_roundw
              case rel => exact ⟨k + 1, by go_num, by omega, by rw [HSUC.out, HSM.out]; exact HSET.out, HPK.out, HN.out⟩
              case measure => simp [intOf]; omega
        · have HP := Lib.hid (show decide (0 ≤ r ∧ r < (l.length : Int)) = false from decide_eq_false h1)
          have HR := Lib.hid (withOk_no (l := l) HM.out (fun h => absurd (idOk_iff.1 h).1 h1))
          clear h1
          go_wp2_with fail
          refine (hasPlace_at (HV.out.kept HK2.out) HP.out).mono ?_
          rintro e w3 ⟨rfl, k3⟩
          have HK3 := Lib.hid (HK2.out.trans k3)
          obtain ⟨p0, p1⟩ := cells2 (k3.block' HB2.out)
          have HBD := Lib.hid (HBAD.out _ HK3.out HR.out)
          clear k3
          go_wp2
          go_ret2
          exact HBD.out
      · obtain rfl : k = ids.length := by omega
        have hall := HALL.out
        have hrow := HROW.out
        rw [List.take_length] at hall hrow
        have HR := Lib.hid (WithTo.good (withOk_yes HOK.out hall) hrow HK.out)
        clear hall hrow
        go_wp2
        go_ret2
        exact HR.out
end Go.Proofs.Yteopgcbihekcjaa
