/- The walks of VecBallots and VecNext. -/
import Derived.Test.YteopgcbihekcjaaQVAwk
import Derived.Test.YteopgcbihekcjaaQVRnx
set_option linter.unusedSimpArgs false
set_option linter.unusedVariables false
namespace Go.Proofs.Yteopgcbihekcjaa
open Go.RowKit
theorem told_bE (n r : Int) : toldB (bE n r) (!(!bOk n r)) 110 = true := by unfold toldB bE; cases bOk n r <;> rfl
theorem told_next (n r rep : Int) : toldB (nextE n r rep) (nextOk n r rep) 110 = true := by unfold toldB nextE; cases nextOk n r rep <;> rfl
/-- What stands to be known of ballots for VecNext. -/
theorem next_facts (n r m s rep : Int) : (n = m ∧ r = s → bLess n r m s = false) ∧ (¬ (n = m ∧ r = s) → bLess n r m s = !bLess m s n r) ∧
    (nextOk n r rep = true → bLess n r (nextA n r rep) (nextB n r rep) = true ∧ nextB n r rep = rep ∧ (s = rep → bLess n r m s = true → bLess m s (nextA n r rep) (nextB n r rep) = false)) := by
  refine ⟨?_, ?_, ?_⟩
  · rintro ⟨rfl, rfl⟩
    simp [bLess]
  · intro h
    unfold bLess
    by_cases h1 : n < m
    · have h2 : ¬ m < n := by omega
      have h3 : ¬ m = n := by omega
      simp [h1, h2, h3]
    · by_cases h2 : m < n
      · have h3 : ¬ n = m := by omega
        simp [h1, h2, h3]
      · obtain rfl : n = m := by omega
        have h4 : r ≠ s := fun e => h ⟨rfl, e⟩
        by_cases h5 : r < s
        · have : ¬ s < r := by omega
          simp [h5, this]
        · have : s < r := by omega
          simp [h5, this]
  · intro h
    obtain ⟨e1, e2, -⟩ := next_good h
    rw [e1, e2]
    refine ⟨?_, rfl, ?_⟩
    · unfold nextN bLess
      by_cases hle : rep ≤ r
      · rw [if_pos hle]; simp; omega
      · rw [if_neg hle]; simp; omega
    · rintro rfl h1
      unfold nextN bLess at *
      by_cases hle : s ≤ r
      · rw [if_pos hle]
        simp at h1 ⊢
        omega
      · rw [if_neg hle]
        simp at h1 ⊢
        omega
end Go.Proofs.Yteopgcbihekcjaa
