/- The join of vectors is the least one above them: as plain data. No program in it. -/
import Derived.Test.YteopgcbihekcjaaQVPure
namespace Go.Proofs.Yteopgcbihekcjaa
theorem vmax_zeros {x : List Int} (h : vok x = true) : vmax (zeros x.length) x = x := by
  refine List.ext_getElem (by rw [vmax_len (zeros_len _), zeros_len]) (fun k h1 h2 => ?_)
  rw [vmax_at h1 (by rw [zeros_len]; exact h2) h2]
  have := (vok_all h _ (List.getElem_mem h2)).1
  have hz : (zeros x.length)[k]'(by rw [zeros_len]; exact h2) = 0 := by simp [zeros]
  rw [hz]
  omega
theorem vmax_comm {x y : List Int} (h : x.length = y.length) : vmax x y = vmax y x := by
  refine List.ext_getElem (by rw [vmax_len h, vmax_len h.symm, h]) (fun k h1 h2 => ?_)
  have hx : k < x.length := by rw [vmax_len h] at h1; exact h1
  rw [vmax_at h1 hx (by omega), vmax_at h2 (by omega) hx]
  omega
theorem vmax_again {x y : List Int} (h : x.length = y.length) : vmax (vmax y x) y = vmax x y := by
  have e : (vmax y x).length = y.length := vmax_len h.symm
  refine List.ext_getElem (by rw [vmax_len e, vmax_len h, e, h]) (fun k h1 h2 => ?_)
  have hx : k < x.length := by rw [vmax_len h] at h2; exact h2
  rw [vmax_at h1 (by rw [e]; omega) (by omega), vmax_at (by rw [e]; omega) (by omega) hx, vmax_at h2 hx (by omega)]
  omega
theorem vmax_vok {x y : List Int} (hx : vok x = true) (hy : vok y = true) (h : x.length = y.length) : vok (vmax x y) = true := by
  have hl := vok_len hx
  refine vok_of (by rw [vmax_len h]; exact hl.1) (by rw [vmax_len h]; exact hl.2) (fun a ha => ?_)
  obtain ⟨k, hk, rfl⟩ := List.mem_iff_getElem.1 ha
  have h1 : k < x.length := by rw [vmax_len h] at hk; exact hk
  have h2 : k < y.length := by omega
  rw [vmax_at hk h1 h2]
  have a1 := vok_all hx _ (List.getElem_mem h1)
  have a2 := vok_all hy _ (List.getElem_mem h2)
  omega
theorem joinOk_two (x y : List Int) : joinOk [x, y] = true ↔ vok x = true ∧ vok y = true ∧ y.length = x.length := by
  unfold joinOk
  simp
theorem joinOk_three (x y : List Int) : joinOk [y, x, y] = true ↔ vok x = true ∧ vok y = true ∧ y.length = x.length := by
  unfold joinOk
  simp only [List.all_cons, List.all_nil, List.headD_cons, Bool.and_eq_true, beq_iff_eq, decide_eq_true_eq, List.length_cons, List.length_nil, Bool.and_true]
  constructor
  · rintro ⟨-, ⟨h1, -⟩, ⟨h2, h3⟩, -⟩; exact ⟨h2, h1, h3.symm⟩
  · rintro ⟨h1, h2, h3⟩; exact ⟨by omega, ⟨h2, trivial⟩, ⟨h1, h3.symm⟩, ⟨h2, trivial⟩⟩
theorem bool_same {a b : Bool} (h : a = true ↔ b = true) : a = b := by cases a <;> cases b <;> simp_all
theorem join_err (x y : List Int) : joinE [x, y] = joinE [y, x, y] := by
  unfold joinE
  rw [bool_same ((joinOk_two x y).trans (joinOk_three x y).symm)]
theorem join_two {x y : List Int} (hx : vok x = true) (hy : vok y = true) (h : y.length = x.length) : joinT [x, y] = vmax x y := by
  unfold joinT
  rw [(joinOk_two x y).2 ⟨hx, hy, h⟩]
  show vmax (vmax (zeros x.length) x) y = _
  rw [vmax_zeros hx]
theorem join_three {x y : List Int} (hx : vok x = true) (hy : vok y = true) (h : y.length = x.length) : joinT [y, x, y] = vmax x y := by
  unfold joinT
  rw [(joinOk_three x y).2 ⟨hx, hy, h⟩]
  show vmax (vmax (vmax (zeros y.length) y) x) y = _
  rw [vmax_zeros hy, vmax_again h.symm]
/-- What VecLattice asks, of vectors that may be joined. -/
theorem lattice {x y : List Int} (z : List Int) (hx : vok x = true) (hy : vok y = true) (h : y.length = x.length) :
    leqT x (vmax x y) = true ∧ leqT y (vmax x y) = true ∧ (leqT x z = true → leqT y z = true → leqT (vmax x y) z = true) ∧ leqT x y = (vmax x y == y) := by
  have hl := vmax_len h.symm
  have hv := vmax_vok hx hy h.symm
  refine ⟨?_, ?_, fun h1 h2 => ?_, ?_⟩
  · rw [leqT_ok hl.symm hx hv, below_at hl.symm]
    intro k a b
    rw [vmax_at b a (by omega)]
    omega
  · rw [leqT_ok (by omega) hy hv, below_at (by omega)]
    intro k a b
    rw [vmax_at b (by omega) a]
    omega
  · have hz : vok z = true := by
      cases e : vok z with
      | true => rfl
      | false => rw [leqT_bad (.inr e)] at h1; cases h1
    have hlz : x.length = z.length := by
      by_cases e : x.length = z.length
      · exact e
      · rw [leqT_len e] at h1; cases h1
    rw [leqT_ok hlz hx hz, below_at hlz] at h1
    rw [leqT_ok (by omega) hy hz, below_at (by omega)] at h2
    rw [leqT_ok (by omega) hv hz, below_at (by omega)]
    intro k a b
    rw [vmax_at a (by omega) (by omega)]
    have := h1 k (by omega) b
    have := h2 k (by omega) b
    omega
  · refine bool_same ?_
    rw [leqT_ok h.symm hx hy, below_at h.symm, beq_iff_eq]
    constructor
    · intro H
      refine List.ext_getElem (by omega) (fun k a b => ?_)
      rw [vmax_at a (by omega) b]
      have := H k (by omega) b
      omega
    · intro H k a b
      have e : (vmax x y)[k]'(by omega) = y[k] := by simp only [H]
      rw [vmax_at (by omega) a b] at e
      omega
end Go.Proofs.Yteopgcbihekcjaa
