/- A log without its first segments, in plain lists. No program in it. -/
import Derived.Test.YtcdeagmoldbicaaGreatDoorQWCrs
set_option linter.unusedSimpArgs false
set_option linter.unusedVariables false
namespace Go.Proofs.YtcdeagmoldbicaaGreatDoor
theorem Linked.right {a b : List Sg} (h : Linked (a ++ b)) (hf : ∀ s ∈ b, s.fst ≤ 1152921504606846976) : Linked b := by
  intro x s y e
  have h1 := h (a ++ x) s y (by rw [e, List.append_assoc])
  rcases List.eq_nil_or_concat x with rfl | ⟨c, p, rfl⟩
  · have := hf s (by rw [e]; simp)
    simpa [followS] using this
  · rw [List.concat_eq_append] at *
    rw [← List.append_assoc, follow_snoc] at h1
    rw [follow_snoc]
    exact h1
theorem NsOk.right {a b : Ns} (h : NsOk (a ++ b)) : NsOk b := ⟨(List.pairwise_append.1 h.1).2.1, fun p hp => h.2 p (by simp [hp])⟩
theorem Rep.right {a b : List Sg} {safe : Nat} {ns : Ns} (h : Rep (a ++ b) safe ns) (hb : b ≠ []) : ∃ nb, ns = a.map fo ++ nb ∧ Rep b safe nb := by
  rcases h with ⟨h, -⟩ | ⟨sa, q, sf, j, h1, h2, h3⟩
  · exact absurd (List.append_eq_nil_iff.1 h).2 hb
  · obtain ⟨b', q', rfl⟩ := Rep.all hb
    rw [← List.append_assoc] at h1
    obtain ⟨e1, e2⟩ := List.append_inj' h1 rfl
    obtain rfl : q' = q := by simpa using e2
    subst e1
    refine ⟨b'.map fo ++ [lastF q' sf], by rw [h2]; simp, .inr ⟨b', q', sf, j, rfl, rfl, h3⟩⟩
theorem Inv.right {a b : List Sg} {safe : Nat} {ns : Ns} (h : Inv (a ++ b) safe ns) (hb : b ≠ []) (hf : ∀ s ∈ b, s.fst ≤ 1152921504606846976) : ∃ nb, ns = a.map fo ++ nb ∧ Inv b safe nb := by
  obtain ⟨nb, rfl, hr⟩ := h.rep.right hb
  exact ⟨nb, rfl, hr, h.linked.right hf, fun s hs => h.good s (by simp [hs]), h.ok.right⟩
/-- All records of the segment, if it has any, are below. -/
def lowS (at_ : Nat) (s : Sg) : Prop := s.recs.length = 0 ∨ s.next ≤ at_
theorem low_next {a : List Sg} {i : Nat} (h : Linked a) (h0 : firstS a = 0) (hl : ∀ s ∈ a, lowS i s) : nextS a ≤ i := by
  have gen : ∀ (n : Nat) (a : List Sg), a.length = n → Linked a → firstS a = 0 → (∀ s ∈ a, lowS i s) → nextS a ≤ i := by
    intro n
    induction n with
    | zero =>
      intro a ha _ _ _
      rw [List.length_eq_zero_iff.1 ha]
      exact Nat.zero_le _
    | succ n ih =>
      intro a ha h h0 hl
      obtain ⟨b, p, rfl⟩ := Rep.all (ss := a) (fun e => by rw [e] at ha; simp at ha)
      have hx := ih b (by simpa using ha) h.left
      rw [nextS_snoc]
      rcases hl p (by simp) with hp | hp
      · have hL := h.last h0
        have := hx hL.1 (fun s hs => hl s (by simp [hs]))
        unfold Sg.next
        omega
      · exact hp
  exact gen _ a rfl h h0 hl
theorem recsOf_app (a b : List Sg) : recsOf (a ++ b) = recsOf a ++ recsOf b := by simp [recsOf]
/-- What is left when the first segments are gone. -/
theorem cut_facts {a b : List Sg} {i : Nat} (h : Linked (a ++ b)) (h0 : firstS (a ++ b) = 0) (hb : b ≠ [] ∨ a = []) (hl : ∀ s ∈ a, lowS i s) :
    firstS b ≤ i ∧ nextS b = nextS (a ++ b) ∧ firstS b ≤ (recsOf (a ++ b)).length ∧ recsOf b = (recsOf (a ++ b)).drop (firstS b) := by
  rcases List.eq_nil_or_concat a with rfl | ⟨a', p, rfl⟩
  · rw [List.nil_append] at *
    rw [h0]
    exact ⟨Nat.zero_le _, rfl, Nat.zero_le _, rfl⟩
  · rw [List.concat_eq_append] at *
    have hb : b ≠ [] := hb.resolve_right (by simp)
    have hn : nextS b = nextS (a' ++ [p] ++ b) := by
      obtain ⟨c, q, rfl⟩ := Rep.all hb
      rw [nextS_snoc, ← List.append_assoc, nextS_snoc]
    have hL := h.left
    have hf0 : firstS (a' ++ [p]) = 0 := by
      cases a' with
      | nil => exact h0
      | cons x r => exact h0
    have hnx := hL.next
    have hlow := low_next hL hf0 hl
    match b, hb with
    | s :: r, _ =>
      have hf := h (a' ++ [p]) s r rfl
      rw [follow_snoc] at hf
      simp only [Bool.and_eq_true, decide_eq_true_eq] at hf
      have e : firstS (s :: r) = s.fst := rfl
      rw [nextS_snoc] at hnx hlow
      have hfl : firstS (s :: r) = (recsOf (a' ++ [p])).length := by omega
      refine ⟨by omega, hn, ?_, ?_⟩
      · rw [recsOf_app, List.length_append]
        omega
      · rw [recsOf_app, hfl, List.drop_left]
end Go.Proofs.YtcdeagmoldbicaaGreatDoor
