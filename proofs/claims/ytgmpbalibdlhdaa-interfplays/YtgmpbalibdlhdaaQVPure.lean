/- Vectors of instance numbers as plain data: which lists are vectors, the greatest of several, which lies above which. No program in it. -/
import Derived.Test.YtgmpbalibdlhdaaQPut
namespace Go.Proofs.Ytgmpbalibdlhdaa
/-- Is it a vector? -/
def vok (l : List Int) : Bool := decide (1 ≤ l.length) && decide (l.length ≤ 7) && l.all okNum
/-- The greater one at each place. -/
def vmax (a b : List Int) : List Int := List.zipWith max a b
/-- The greatest of several, from acc on. -/
def vjoin (acc : List Int) (vs : List (List Int)) : List Int := vs.foldl vmax acc
def zeros (n : Nat) : List Int := List.replicate n 0
/-- May these be joined? -/
def joinOk (vs : List (List Int)) : Bool := decide (1 ≤ vs.length) && vs.all fun v => vok v && v.length == (vs.headD []).length
def joinT (vs : List (List Int)) : List Int := if joinOk vs then vjoin (zeros (vs.headD []).length) vs else []
def joinE (vs : List (List Int)) : Int := if joinOk vs then 0 else 90
/-- Is no number above the other's? -/
def below (a b : List Int) : Bool := (List.zipWith (fun x y => decide (x ≤ y)) a b).all id
def leqT (a b : List Int) : Bool := a.length == b.length && vok a && vok b && below a b
def vE (l : List Int) : Int := if vok l then 0 else 90

theorem vok_len {l : List Int} (h : vok l = true) : 1 ≤ l.length ∧ l.length ≤ 7 := by
  unfold vok at h
  simp only [Bool.and_eq_true, decide_eq_true_eq] at h
  exact h.1
theorem vok_all {l : List Int} (h : vok l = true) : ∀ x ∈ l, 0 ≤ x ∧ x ≤ 4611686018427387903 := fun x hx => by
  unfold vok at h
  simp only [Bool.and_eq_true, decide_eq_true_eq, List.all_eq_true] at h
  have := h.2 x hx
  unfold okNum at this
  simpa using this
theorem vok_of {l : List Int} (h1 : 1 ≤ l.length) (h2 : l.length ≤ 7) (h3 : ∀ x ∈ l, 0 ≤ x ∧ x ≤ 4611686018427387903) : vok l = true := by
  unfold vok
  simp only [Bool.and_eq_true, decide_eq_true_eq, List.all_eq_true]
  exact ⟨⟨h1, h2⟩, fun x hx => by unfold okNum; simpa using h3 x hx⟩
theorem vmax_len {a b : List Int} (h : a.length = b.length) : (vmax a b).length = a.length := by unfold vmax; rw [List.length_zipWith]; omega
theorem vmax_at {a b : List Int} {k : Nat} (h : k < (vmax a b).length) (ha : k < a.length) (hb : k < b.length) : (vmax a b)[k] = max a[k] b[k] := List.getElem_zipWith (f := max) (h := h)
/-- The greater ones up to a place, the old ones behind. -/
def vmaxTo (k : Nat) (a b : List Int) : List Int := (vmax a b).take k ++ a.drop k
theorem vmaxTo_zero (a b : List Int) : vmaxTo 0 a b = a := by simp [vmaxTo]
theorem vmaxTo_all {a b : List Int} (h : a.length = b.length) : vmaxTo b.length a b = vmax a b := by
  unfold vmaxTo
  rw [List.take_of_length_le (by rw [vmax_len h]; omega), List.drop_eq_nil_of_le (by omega), List.append_nil]
theorem vmaxTo_len {a b : List Int} (h : a.length = b.length) (k : Nat) : (vmaxTo k a b).length = a.length := by
  unfold vmaxTo
  rw [List.length_append, List.length_take, vmax_len h, List.length_drop]
  omega
theorem vmaxTo_at {a b : List Int} (h : a.length = b.length) {k : Nat} (hk : k < a.length) : (vmaxTo k a b)[k]'(by rw [vmaxTo_len h]; exact hk) = a[k] := by
  unfold vmaxTo
  have hl : ((vmax a b).take k).length = k := by rw [List.length_take, vmax_len h]; omega
  rw [List.getElem_append_right (by omega)]
  simp [hl]
theorem vmaxTo_succ {a b : List Int} (h : a.length = b.length) {k : Nat} (hk : k < a.length) (hb : k < b.length) : (vmaxTo k a b).set k (max a[k] b[k]) = vmaxTo (k + 1) a b := by
  unfold vmaxTo
  have hv : k < (vmax a b).length := by rw [vmax_len h]; exact hk
  have hl : ((vmax a b).take k).length = k := by rw [List.length_take]; omega
  rw [List.set_append_right _ _ (by omega), hl, Nat.sub_self, List.drop_eq_getElem_cons hk, List.set_cons_zero, List.take_succ_eq_append_getElem hv, vmax_at hv hk hb, List.append_assoc, List.singleton_append]
theorem vjoin_snoc (acc : List Int) (vs : List (List Int)) (v : List Int) : vjoin acc (vs ++ [v]) = vmax (vjoin acc vs) v := by unfold vjoin; simp
theorem vjoin_len {n : Nat} : ∀ {vs : List (List Int)} {acc : List Int}, acc.length = n → (∀ v ∈ vs, v.length = n) → (vjoin acc vs).length = n
  | [], acc, ha, _ => ha
  | v :: vs, acc, ha, h => vjoin_len (vs := vs) (acc := vmax acc v) (by rw [vmax_len (by rw [ha, h v (by simp)])]; exact ha) (fun u hu => h u (by simp [hu]))
theorem joinOk_of {vs : List (List Int)} {v : List Int} {n : Nat} (h : joinOk vs = true) (hv : v ∈ vs) (hn : (vs.headD []).length = n) : vok v = true ∧ v.length = n := by
  unfold joinOk at h
  simp only [Bool.and_eq_true, decide_eq_true_eq, List.all_eq_true, beq_iff_eq] at h
  have := h.2 v hv
  exact ⟨this.1, by omega⟩
theorem joinOk_bad {vs : List (List Int)} {v : List Int} (hv : v ∈ vs) (h : vok v = false ∨ v.length ≠ (vs.headD []).length) : joinOk vs = false := by
  cases hj : joinOk vs with
  | false => rfl
  | true =>
    obtain ⟨a, b⟩ := joinOk_of hj hv rfl
    rcases h with h | h
    · rw [a] at h; cases h
    · exact absurd b h
theorem joinOk_head {vs : List (List Int)} (h : (vs.headD []).length < 1 ∨ 7 < (vs.headD []).length) : joinOk vs = false := by
  cases vs with
  | nil => rfl
  | cons v vs =>
    refine joinOk_bad (v := v) (by simp) (.inl ?_)
    cases hv : vok v with
    | false => rfl
    | true =>
      have := vok_len hv
      simp only [List.headD_cons] at h
      omega
theorem joinOk_all {vs : List (List Int)} (h1 : 1 ≤ vs.length) (h : ∀ v ∈ vs, vok v = true ∧ v.length = (vs.headD []).length) : joinOk vs = true := by
  unfold joinOk
  simp only [Bool.and_eq_true, decide_eq_true_eq, List.all_eq_true, beq_iff_eq]
  exact ⟨h1, h⟩
theorem zeros_len (n : Nat) : (zeros n).length = n := by unfold zeros; simp
theorem below_at {a b : List Int} (h : a.length = b.length) : below a b = true ↔ ∀ k (ha : k < a.length) (hb : k < b.length), a[k] ≤ b[k] := by
  unfold below
  rw [List.all_eq_true]
  constructor
  · intro H k ha hb
    have := H (decide (a[k] ≤ b[k])) (by
      rw [List.mem_iff_getElem]
      exact ⟨k, by rw [List.length_zipWith]; omega, by rw [List.getElem_zipWith]⟩)
    simpa using this
  · intro H x hx
    obtain ⟨k, hk, rfl⟩ := List.mem_iff_getElem.1 hx
    rw [List.length_zipWith] at hk
    rw [List.getElem_zipWith]
    have := H k (by omega) (by omega)
    simpa using this
theorem below_bad {a b : List Int} (h : a.length = b.length) {k : Nat} (ha : k < a.length) (hb : k < b.length) (hx : b[k] < a[k]) : below a b = false := by
  cases hc : below a b with
  | false => rfl
  | true => have := (below_at h).1 hc k ha hb; omega
theorem leqT_len {a b : List Int} (h : a.length ≠ b.length) : leqT a b = false := by
  unfold leqT
  rw [show (a.length == b.length) = false from beq_eq_false_iff_ne.2 h]
  rfl
theorem leqT_bad {a b : List Int} (h : vok a = false ∨ vok b = false) : leqT a b = false := by
  unfold leqT
  rcases h with h | h <;> rw [h] <;> simp
theorem leqT_ok {a b : List Int} (h : a.length = b.length) (ha : vok a = true) (hb : vok b = true) : leqT a b = below a b := by
  unfold leqT
  rw [ha, hb, show (a.length == b.length) = true from beq_iff_eq.2 h]
  simp
end Go.Proofs.Ytgmpbalibdlhdaa
