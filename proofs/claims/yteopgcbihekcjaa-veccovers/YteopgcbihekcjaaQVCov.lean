/- Instances that vectors cover: as plain data; the walks of Covers, of the document's Covers and With, of Clone. -/
import Derived.Test.YteopgcbihekcjaaQVJoin
import Derived.Test.YteopgcbihekcjaaQVCpi
import Derived.Test.YteopgcbihekcjaaQVQui
set_option linter.unusedSimpArgs false
set_option linter.unusedVariables false
namespace Go.Proofs.Yteopgcbihekcjaa
open Go.RowKit
/-- The value is a slice of instances: a replica and a number each. -/
def Ids (w : World) (v : Value) (ids : List (Int × Int)) : Prop :=
  ∃ A c, v = .slice A ids.length c ∧ ids.length ≤ c ∧ c ≤ maxLen ∧ (0 < ids.length → ∃ b o, A = some ⟨b, o, none⟩ ∧ ∀ k x, ids[k]? = some x →
    w.cell? ⟨b, o + k * 2, none⟩ = some (.int .i64 x.1) ∧ w.cell? ⟨b, o + k * 2 + 1, none⟩ = some (.int .i64 x.2))
theorem Ids.kept {w w' : World} {v : Value} {ids : List (Int × Int)} (h : Ids w v ids) (k : Kept w w') : Ids w' v ids := by
  obtain ⟨A, c, rfl, h1, h2, h3⟩ := h
  refine ⟨A, c, rfl, h1, h2, fun hl => ?_⟩
  obtain ⟨b, o, rfl, hc⟩ := h3 hl
  exact ⟨b, o, rfl, fun i x hx => ⟨k.cell (hc i x hx).1, k.cell (hc i x hx).2⟩⟩
theorem Ids.at {w : World} {A : Option Addr} {n c : Nat} {ids : List (Int × Int)} (h : Ids w (.slice A n c) ids) {k : Nat} (hk : k < ids.length) : ∃ b o, A = some ⟨b, o, none⟩ ∧
    w.cell? ⟨b, o + k * 2, none⟩ = some (.int .i64 ids[k].1) ∧ w.cell? ⟨b, o + k * 2 + 1, none⟩ = some (.int .i64 ids[k].2) := by
  obtain ⟨A', c', hv, -, -, h3⟩ := h
  obtain ⟨rfl, -, -⟩ : A = A' ∧ n = ids.length ∧ c = c' := by simpa using hv
  obtain ⟨b, o, e, hc⟩ := h3 (by omega)
  exact ⟨b, o, e, hc k ids[k] (by simp [hk])⟩
theorem Ids.form {w : World} {v : Value} {ids : List (Int × Int)} (h : Ids w v ids) : ∃ A c, v = .slice A ids.length c ∧ ids.length ≤ c ∧ c ≤ maxLen := by
  obtain ⟨A, c, rfl, h1, h2, -⟩ := h
  exact ⟨A, c, rfl, h1, h2⟩
/-- Does it cover that instance (of a vector)? May it be put into one? -/
def cov1 (l : List Int) (r m : Int) : Bool := decide (0 ≤ r ∧ r < l.length) && (decide (1 ≤ m) && decide (m ≤ l.getD r.toNat 0))
def idOk (n : Nat) (r m : Int) : Bool := decide (0 ≤ r ∧ r < n) && (decide (1 ≤ m) && decide (m ≤ 4611686018427387903))
def covT (l : List Int) (ids : List (Int × Int)) : Bool := vok l && ids.all fun d => cov1 l d.1 d.2
def setM (l : List Int) (r m : Int) : List Int := l.set r.toNat (max (l.getD r.toNat 0) m)
def withOk (l : List Int) (ids : List (Int × Int)) : Bool := vok l && ids.all fun d => idOk l.length d.1 d.2
def setAll (l : List Int) (ids : List (Int × Int)) : List Int := ids.foldl (fun l d => setM l d.1 d.2) l
def withT (l : List Int) (ids : List (Int × Int)) : List Int := if withOk l ids then setAll l ids else []
def withE (l : List Int) (ids : List (Int × Int)) : Int := if withOk l ids then 0 else 90
theorem setM_len (l : List Int) (r m : Int) : (setM l r m).length = l.length := by unfold setM; simp
theorem setAll_snoc (l : List Int) (ids : List (Int × Int)) (d : Int × Int) : setAll l (ids ++ [d]) = setM (setAll l ids) d.1 d.2 := by unfold setAll; simp
theorem setAll_len (ids : List (Int × Int)) : ∀ l : List Int, (setAll l ids).length = l.length := by
  induction ids with
  | nil => intro l; rfl
  | cons d ids ih => intro l; show (setAll (setM l d.1 d.2) ids).length = _; rw [ih, setM_len]
theorem getD_at {l : List Int} {r : Int} (h0 : 0 ≤ r) (h : r < l.length) : l.getD r.toNat 0 = l[r.toNat]'(by omega) := by
  rw [List.getD_eq_getElem?_getD, List.getElem?_eq_getElem (by omega), Option.getD_some]
theorem idOk_iff {n : Nat} {r m : Int} : idOk n r m = true ↔ (0 ≤ r ∧ r < n) ∧ 1 ≤ m ∧ m ≤ 4611686018427387903 := by
  unfold idOk
  simp only [Bool.and_eq_true, decide_eq_true_eq]
theorem cov1_iff {l : List Int} {r m : Int} : cov1 l r m = true ↔ (0 ≤ r ∧ r < l.length) ∧ 1 ≤ m ∧ m ≤ l.getD r.toNat 0 := by
  unfold cov1
  simp only [Bool.and_eq_true, decide_eq_true_eq]
theorem setM_vok {l : List Int} {r m : Int} (h : vok l = true) (hi : idOk l.length r m = true) : vok (setM l r m) = true := by
  have hl := vok_len h
  obtain ⟨⟨h0, h1⟩, h2, h3⟩ := idOk_iff.1 hi
  refine vok_of (by rw [setM_len]; exact hl.1) (by rw [setM_len]; exact hl.2) (fun a ha => ?_)
  unfold setM at ha
  rcases List.mem_or_eq_of_mem_set ha with ha | ha
  · exact vok_all h a ha
  · have := vok_all h _ (List.getElem_mem (show r.toNat < l.length by omega))
    rw [getD_at h0 h1] at ha
    omega
theorem setAll_vok (ids : List (Int × Int)) : ∀ l : List Int, vok l = true → (∀ d ∈ ids, idOk l.length d.1 d.2 = true) → vok (setAll l ids) = true := by
  induction ids with
  | nil => intro l h _; exact h
  | cons d ids ih =>
    intro l h hi
    refine ih (setM l d.1 d.2) (setM_vok h (hi d (by simp))) (fun x hx => ?_)
    rw [setM_len]
    exact hi x (by simp [hx])
theorem false_of {b : Bool} {p : Prop} (h : b = true ↔ p) (hn : ¬ p) : b = false := by
  cases b with
  | false => rfl
  | true => exact absurd (h.1 rfl) hn
theorem true_of {b : Bool} {p : Prop} (h : b = true ↔ p) (hn : p) : b = true := h.2 hn
set_option maxHeartbeats 400000 in
theorem hasPlace_any (l : List Int) (r : Int) (v : Value) (w : World) (hv : Ints w v l) : Calls Try.prog 31 #[v, .int .i64 r] w fun e w' => e = .returned (.bool (decide (0 ≤ r ∧ r < l.length))) ∧ w = w' := by
  obtain ⟨A, c, rfl, hc1, hc2⟩ := hv.form
  clear hv
  by_cases h1 : 0 ≤ r
  · have t1 : decide (0 ≤ r) = true := decide_eq_true h1
    by_cases h2 : r < l.length
    · have t2 : decide (r < (l.length : Int)) = true := decide_eq_true h2
      rw [show decide (0 ≤ r ∧ r < l.length) = true from decide_eq_true ⟨h1, h2⟩]
      go_enter Try.func31, Try.ntmps31
      go_wp2
      go_ret
      exact ⟨rfl, rfl⟩
    · have t2 : decide (r < (l.length : Int)) = false := decide_eq_false h2
      rw [show decide (0 ≤ r ∧ r < l.length) = false from decide_eq_false (fun h => h2 h.2)]
      go_enter Try.func31, Try.ntmps31
      go_wp2
      go_ret
      exact ⟨rfl, rfl⟩
  · have t1 : decide (0 ≤ r) = false := decide_eq_false h1
    rw [show decide (0 ≤ r ∧ r < l.length) = false from decide_eq_false (fun h => h1 h.1)]
    go_enter Try.func31, Try.ntmps31
    go_wp2
    go_ret
    exact ⟨rfl, rfl⟩
set_option maxHeartbeats 400000 in
theorem refCovers_any (l : List Int) (r m : Int) (v : Value) (w : World) (hv : Ints w v l) : Calls Try.prog 25 #[v, .int .i64 r, .int .i64 m] w fun e w' => e = .returned (.bool (vok l && cov1 l r m)) ∧ w = w' := by
  obtain ⟨A, c, rfl, hc1, hc2⟩ := hv.form
  have HV := Lib.hid hv
  clear hv
  cases hok : vok l with
  | false =>
    have HB := Lib.hid (show (!vok l) = true by rw [hok]; rfl)
    clear hok
    simp only [Bool.false_and]
    go_enter Try.func25, Try.ntmps25
    go_wp2_with fail
    refine (badvec_any l _ _ HV.out).mono ?_
    rintro e w1 ⟨rfl, rfl⟩
    rw [HB.out]
    go_wp2
    go_ret
    exact ⟨rfl, rfl⟩
  | true =>
    have HB := Lib.hid (show (!vok l) = false by rw [hok]; rfl)
    have hlen := vok_len hok
    clear hok
    simp only [Bool.true_and]
    by_cases h1 : 0 ≤ r
    · have t1 : decide (0 ≤ r) = true := decide_eq_true h1
      by_cases h2 : r < (l.length : Int)
      · have t2 : decide (r < (l.length : Int)) = true := decide_eq_true h2
        by_cases h3 : 1 ≤ m
        · have t3 : decide (1 ≤ m) = true := decide_eq_true h3
          obtain ⟨k, rfl⟩ := Int.eq_ofNat_of_zero_le h1
          have hk : k < l.length := by omega
          obtain ⟨b, o, rfl, hcell⟩ := HV.out.atI hk
          have hg : l.getD (k : Int).toNat 0 = l[k] := by rw [getD_at h1 h2]; rfl
          by_cases h4 : m ≤ l[k]
          · have t4 : decide (m ≤ l[k]) = true := decide_eq_true h4
            rw [cov1_iff.2 ⟨⟨h1, h2⟩, h3, by rw [hg]; exact h4⟩]
            generalize l[k] = x at *
            clear hg
            go_enter Try.func25, Try.ntmps25
            go_wp2_with fail
            refine (badvec_any l _ _ HV.out).mono ?_
            rintro e w1 ⟨rfl, rfl⟩
            rw [HB.out]
            go_wp2
            go_ret
            exact ⟨rfl, rfl⟩
          · have t4 : decide (m ≤ l[k]) = false := decide_eq_false h4
            rw [false_of cov1_iff (fun h => h4 (by rw [← hg]; exact h.2.2))]
            generalize l[k] = x at *
            clear hg
            go_enter Try.func25, Try.ntmps25
            go_wp2_with fail
            refine (badvec_any l _ _ HV.out).mono ?_
            rintro e w1 ⟨rfl, rfl⟩
            rw [HB.out]
            go_wp2
            go_ret
            exact ⟨rfl, rfl⟩
        · have t3 : decide (1 ≤ m) = false := decide_eq_false h3
          rw [false_of cov1_iff (fun h => h3 h.2.1)]
          go_enter Try.func25, Try.ntmps25
          go_wp2_with fail
          refine (badvec_any l _ _ HV.out).mono ?_
          rintro e w1 ⟨rfl, rfl⟩
          rw [HB.out]
          go_wp2
          go_ret
          exact ⟨rfl, rfl⟩
      · have t2 : decide (r < (l.length : Int)) = false := decide_eq_false h2
        rw [false_of cov1_iff (fun h => h2 h.1.2)]
        go_enter Try.func25, Try.ntmps25
        go_wp2_with fail
        refine (badvec_any l _ _ HV.out).mono ?_
        rintro e w1 ⟨rfl, rfl⟩
        rw [HB.out]
        go_wp2
        go_ret
        exact ⟨rfl, rfl⟩
    · have t1 : decide (0 ≤ r) = false := decide_eq_false h1
      rw [false_of cov1_iff (fun h => h1 h.1.1)]
      go_enter Try.func25, Try.ntmps25
      go_wp2_with fail
      refine (badvec_any l _ _ HV.out).mono ?_
      rintro e w1 ⟨rfl, rfl⟩
      rw [HB.out]
      go_wp2
      go_ret
      exact ⟨rfl, rfl⟩
/-- What the document's With leaves. -/
def RefWithTo (w : World) (l : List Int) (r m : Int) (e : Ending) (w' : World) : Prop := ∃ v, e = .returned (.tuple #[v, .bool (vok l && idOk l.length r m)]) ∧ (vok l = true ∧ idOk l.length r m = true → Ints w' v (setM l r m)) ∧ (∃ A n c, v = .slice A n c) ∧ Kept w w'
theorem RefWithTo.bad {w : World} {l : List Int} {r m : Int} (h : (vok l && idOk l.length r m) = false) : RefWithTo w l r m (.returned (.tuple #[.slice none 0 0, .bool false])) w :=
  ⟨.slice none 0 0, by rw [h], fun h' => (by rw [h'.1, h'.2] at h; exact absurd h (by decide)), ⟨_, _, _, rfl⟩, Kept.refl w⟩
set_option maxHeartbeats 1000000 in
theorem refWith_any (l : List Int) (r m : Int) (v : Value) (w : World) (hv : Ints w v l) (hl : l.length ≤ 17592186044416) : Calls Try.prog 26 #[v, .int .i64 r, .int .i64 m] w (RefWithTo w l r m) := by
  obtain ⟨A, c, rfl, hc1, hc2⟩ := hv.form
  unfold maxLen at hc2
  have HV := Lib.hid hv
  clear hv
  by_cases hok : vok l = true
  · have HB := Lib.hid (show (!vok l) = false by rw [hok]; rfl)
    have HOK := Lib.hid hok
    by_cases hid : idOk l.length r m = true
    · obtain ⟨⟨h0, h1⟩, h2, h3⟩ := idOk_iff.1 hid
      have HBI := Lib.hid (show (!okNum m) = false by rw [(okNum_iff m).2 ⟨by omega, h3⟩]; rfl)
      have HTT := Lib.hid (show (vok l && idOk l.length r m) = true by rw [hok, hid]; rfl)
      have t1 : decide (r < 0) = false := decide_eq_false (by omega)
      have t2 : decide ((l.length : Int) ≤ r) = false := decide_eq_false (by omega)
      have t3 : decide (m < 1) = false := decide_eq_false (by omega)
      obtain ⟨k, rfl⟩ := Int.eq_ofNat_of_zero_le h0
      have hk : k < l.length := by omega
      have hg : l.getD (k : Int).toNat 0 = l[k] := by rw [getD_at h0 h1]; rfl
      have HSM := Lib.hid (show setM l (k : Int) m = l.set k (max l[k] m) by unfold setM; rw [hg]; rfl)
      clear hok hid hg
      go_enter Try.func26, Try.ntmps26
      go_wp2_with fail
      refine (badvec_any l _ _ HV.out).mono ?_
      rintro e w1 ⟨rfl, rfl⟩
      rw [HB.out]
      go_wp2_with fail
      refine (badI_any m _).mono ?_
      rintro e w1 ⟨rfl, rfl⟩
      rw [HBI.out]
      go_wp2_with fail
      refine (copyInts_any l _ _ HV.out hl).mono ?_
      rintro e w2 ⟨v2, rfl, ho, k2⟩
      obtain ⟨g, c2, rfl, hg1, hg2, hg3, hg4⟩ := row_form ho (by omega)
      unfold maxLen at hg4
      obtain ⟨hcg, hfg⟩ := row_at ho hk
      have HO := Lib.hid ho
      have HK2 := Lib.hid k2
      have HLN := Lib.hid (List.set_getElem_self hk)
      clear ho k2
      have g1 : (k : Int) < (l.length : Int) := by omega
      by_cases hlt : l[k] < m
      · have t4 : decide (l[k] < m) = true := decide_eq_true hlt
        have HSET := Lib.hid (row_set HO.out k m)
        have HMX := Lib.hid (show max l[k] m = m by omega)
        have HPK := Lib.hid (kept_poke HK2.out hg1 k (.int .i64 m))
        clear hlt HLN
        generalize l[k] = x at *
        go_wp2
        go_ret2
        refine ⟨.slice (some ⟨g, 0, none⟩) l.length c2, by rw [HTT.out]; rfl, fun _ => ?_, ⟨_, _, _, rfl⟩, HPK.out⟩
        rw [HSM.out, HMX.out]
        exact Ints.of_own HSET.out
      · have t4 : decide (l[k] < m) = false := decide_eq_false hlt
        have HMX := Lib.hid (show max l[k] m = l[k] by omega)
        have HSM2 := Lib.hid (show setM l (k : Int) m = l by rw [HSM.out, HMX.out]; exact HLN.out)
        clear hlt HSM HMX HLN
        generalize l[k] = x at *
        go_wp2
        go_ret2
        refine ⟨.slice (some ⟨g, 0, none⟩) l.length c2, by rw [HTT.out]; rfl, fun _ => ?_, ⟨_, _, _, rfl⟩, HK2.out⟩
        rw [HSM2.out]
        exact Ints.of_own HO.out
    · have hno : (vok l && idOk l.length r m) = false := by rw [hok]; simpa using hid
      have HR := Lib.hid (RefWithTo.bad (w := w) hno)
      clear hno hok
      by_cases h1 : r < 0
      · have t1 : decide (r < 0) = true := decide_eq_true h1
        go_enter Try.func26, Try.ntmps26
        go_wp2_with fail
        refine (badvec_any l _ _ HV.out).mono ?_
        rintro e w1 ⟨rfl, rfl⟩
        rw [HB.out]
        go_wp2
        go_ret2
        exact HR.out
      · have t1 : decide (r < 0) = false := decide_eq_false h1
        by_cases h2 : (l.length : Int) ≤ r
        · have t2 : decide ((l.length : Int) ≤ r) = true := decide_eq_true h2
          go_enter Try.func26, Try.ntmps26
          go_wp2_with fail
          refine (badvec_any l _ _ HV.out).mono ?_
          rintro e w1 ⟨rfl, rfl⟩
          rw [HB.out]
          go_wp2
          go_ret2
          exact HR.out
        · have t2 : decide ((l.length : Int) ≤ r) = false := decide_eq_false h2
          by_cases h3 : m < 1
          · have t3 : decide (m < 1) = true := decide_eq_true h3
            go_enter Try.func26, Try.ntmps26
            go_wp2_with fail
            refine (badvec_any l _ _ HV.out).mono ?_
            rintro e w1 ⟨rfl, rfl⟩
            rw [HB.out]
            go_wp2
            go_ret2
            exact HR.out
          · have t3 : decide (m < 1) = false := decide_eq_false h3
            have h4 : ¬ m ≤ 4611686018427387903 := fun h => hid (idOk_iff.2 ⟨⟨by omega, by omega⟩, by omega, h⟩)
            have HBI := Lib.hid (show (!okNum m) = true by rw [false_of (okNum_iff m) (fun h => h4 h.2)]; rfl)
            clear hid h4
            go_enter Try.func26, Try.ntmps26
            go_wp2_with fail
            refine (badvec_any l _ _ HV.out).mono ?_
            rintro e w1 ⟨rfl, rfl⟩
            rw [HB.out]
            go_wp2_with fail
            refine (badI_any m _).mono ?_
            rintro e w1 ⟨rfl, rfl⟩
            rw [HBI.out]
            go_wp2
            go_ret2
            exact HR.out
  · have hok' : vok l = false := by simpa using hok
    have HB := Lib.hid (show (!vok l) = true by rw [hok']; rfl)
    have HR := Lib.hid (RefWithTo.bad (w := w) (l := l) (r := r) (m := m) (by rw [hok']; rfl))
    clear hok hok'
    go_enter Try.func26, Try.ntmps26
    go_wp2_with fail
    refine (badvec_any l _ _ HV.out).mono ?_
    rintro e w1 ⟨rfl, rfl⟩
    rw [HB.out]
    go_wp2
    go_ret2
    exact HR.out
end Go.Proofs.Yteopgcbihekcjaa
