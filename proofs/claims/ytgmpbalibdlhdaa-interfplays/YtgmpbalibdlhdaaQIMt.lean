/- Add, whole; the walks of meet, of Interfere with one other, of the document's Interfere. -/
import Derived.Test.YtgmpbalibdlhdaaQIAd3
set_option linter.unusedSimpArgs false
set_option linter.unusedVariables false
namespace Go.Proofs.Ytgmpbalibdlhdaa
open Go.RowKit
theorem add_any {w : World} {xb mb n : Nat} {st : TSt} {L : List It} (h : IxAt w xb mb n st L) (x : It) (hh : x.c.home.length ≤ 140737488355328) (hf : L.length < maxLen) : Calls Try.prog 18 #[.pointer (some ⟨xb, 0, none⟩), x.c.v, x.id, .int .i64 x.seq] w (AddTo w xb mb n L x) := by
  by_cases hk : 0 ≤ x.c.kind ∧ x.c.kind ≤ 2
  · by_cases h2 : (0 ≤ x.rep ∧ x.rep < n) ∧ (1 ≤ x.num ∧ x.num ≤ 4611686018427387903) ∧ 0 ≤ x.seq ∧ x.seq ≤ 4611686018427387902
    · have hx : okI n x := ⟨hk, h2⟩
      have hk3 : x.c.kind = 0 ∨ x.c.kind = 1 ∨ x.c.kind = 2 := by omega
      rcases hk3 with e | e | e
      · exact add_noop h x hx hh e
      · exact add_homely h x hx hh e hf
      · exact add_global h x hx hh e
    · exact add_num h x hk h2
  · exact add_kind h x hk
def m1 (a b : Cm) : Bool := a.kind == 2 || b.kind == 2 || a.home == b.home
theorem metC_no {a b : Cm} (h : a.kind = 0 ∨ b.kind = 0) : metC a b = false := by
  unfold metC
  rcases h with h | h <;> rw [h] <;> simp
theorem metC_yes {a b : Cm} (h1 : a.kind ≠ 0) (h2 : b.kind ≠ 0) : metC a b = m1 a b := by
  unfold metC m1
  simp [h1, h2]
set_option maxRecDepth 100000 in
set_option maxHeartbeats 1000000 in
theorem meet_any (a b : Cm) (w : World) : Calls Try.prog 27 #[a.v, b.v] w fun e w' => e = .returned (.bool (metC a b)) ∧ Kept w w' := by
  have HK := Lib.hid (fun o o' => ((Kept.refl w).alloc o).alloc o')
  have HN := Lib.hid (@metC_no a b)
  have HY := Lib.hid (@metC_yes a b)
  unfold m1 at HY
  obtain ⟨ka, ha, ada, adn, adc⟩ := a
  obtain ⟨kb, hb, bda, bdn, bdc⟩ := b
  unfold Cm.v Cm.dv
  simp only at *
  by_cases h1 : ka = 0
  · subst h1
    rw [HN.out (.inl rfl)]
    go_enter Try.func27, Try.ntmps27
    go_wp2
    go_ret
    exact ⟨rfl, HK.out _ _⟩
  · by_cases h2 : kb = 0
    · subst h2
      rw [HN.out (.inr rfl)]
      go_enter Try.func27, Try.ntmps27
      go_wp2
      go_ret
      exact ⟨rfl, HK.out _ _⟩
    · rw [HY.out h1 h2]
      by_cases h3 : ka = 2
      · subst h3
        go_enter Try.func27, Try.ntmps27
        go_wp2
        go_ret
        exact ⟨rfl, HK.out _ _⟩
      · by_cases h4 : kb = 2
        · subst h4
          go_enter Try.func27, Try.ntmps27
          go_wp2
          go_ret
          exact ⟨by simp, HK.out _ _⟩
        · go_enter Try.func27, Try.ntmps27
          go_wp2
          all_goals
            go_ret
            trace_state
            refine ⟨?_, HK.out _ _⟩
            simp_all
end Go.Proofs.Ytgmpbalibdlhdaa
