/- step, whatever the call; the document's Check. -/
import Derived.Test.YtnpenabkmpoafaaGNSt12
import Derived.Test.YtnpenabkmpoafaaGNSt36
import Derived.Test.YtnpenabkmpoafaaQNRfC
set_option linter.unusedSimpArgs false
set_option linter.unusedVariables false
namespace Go.Proofs.Ytnpenabkmpoafaa
open Go.RowKit
theorem step_any (x : Op6) (A : Nat → Prop) (w0 w : World) (nb db : Nat) (s : NS) (d : RS) (lim : Nat) (h : Duo A w0 w nb db s d lim) (hl : lim + 2 < maxLen) (hx : x.Reads w0) (hf : x.Fits) (hn : -9223372036854775808 ≤ x.n ∧ x.n ≤ 9223372036854775807)
    (hfew : d.list.length + 4096 ≤ 5000000) (hsm : ∀ y ∈ d.list, y.2.2.length ≤ 140737488355328) (hcl : ∀ i, i < 32 → d.t i ≤ 1099511627776) :
    Calls Try.prog 8 #[.pointer (some ⟨nb, 0, none⟩), .pointer (some ⟨db, 0, none⟩), .agg #[.int .i64 x.kind, .int .i64 x.a, .int .i64 x.b, .int .i64 x.n, x.lv, x.nv]] w (StepTo A w0 w nb db s d lim x) := by
  by_cases k1 : x.kind = 1
  · exact step_send x A w0 w nb db s d lim h k1 hl hx hf hfew
  by_cases k2 : x.kind = 2
  · exact step_deliver x A w0 w nb db s d lim h k2 hl
  by_cases k3 : x.kind = 3
  · exact step_drop x A w0 w nb db s d lim h k3 hl
  by_cases k4 : x.kind = 4
  · exact step_repeat x A w0 w nb db s d lim h k4 hl hfew hsm
  by_cases k5 : x.kind = 5
  · exact step_cut x A w0 w nb db s d lim h k5 hl
  by_cases k6 : x.kind = 6
  · exact step_heal x A w0 w nb db s d lim h k6 hl
  by_cases k7 : x.kind = 7
  · exact step_lose x A w0 w nb db s d lim h k7 hl hx hf
  by_cases k8 : x.kind = 8
  · exact step_advance x A w0 w nb db s d lim h k8 hl hx hf hn hcl
  · exact step_other x A w0 w nb db s d lim h (by omega) hl
set_option maxRecDepth 100000 in
set_option maxHeartbeats 1000000 in
theorem check6_any (n r : Int) (w : World) : Calls Try.prog 6 #[.int .i64 n, .int .i64 r] w fun e w' => e = .returned (.int .i64 (newE n r)) ∧ w = w' := by
  unfold newE
  by_cases h1 : n < 1
  · have t1 : decide (n < 1) = true := by simpa using h1
    rw [if_pos (.inl h1)]
    go_enter Try.func6, Try.ntmps6
    go_wp2
    go_ret
    exact ⟨rfl, rfl⟩
  have t1 : decide (n < 1) = false := by simpa using h1
  by_cases h2 : 32 < n
  · have t2 : decide (32 < n) = true := by simpa using h2
    rw [if_pos (.inr h2)]
    go_enter Try.func6, Try.ntmps6
    go_wp2
    go_ret
    exact ⟨rfl, rfl⟩
  have t2 : decide (32 < n) = false := by simpa using h2
  rw [if_neg (by omega)]
  by_cases h3 : r < 1
  · have t3 : decide (r < 1) = true := by simpa using h3
    rw [if_pos (.inl h3)]
    go_enter Try.func6, Try.ntmps6
    go_wp2
    go_ret
    exact ⟨rfl, rfl⟩
  have t3 : decide (r < 1) = false := by simpa using h3
  by_cases h4 : 4096 < r
  · have t4 : decide (4096 < r) = true := by simpa using h4
    rw [if_pos (.inr h4)]
    go_enter Try.func6, Try.ntmps6
    go_wp2
    go_ret
    exact ⟨rfl, rfl⟩
  have t4 : decide (4096 < r) = false := by simpa using h4
  rw [if_neg (by omega)]
  go_enter Try.func6, Try.ntmps6
  go_wp2
  go_ret
  exact ⟨rfl, rfl⟩
theorem NK.facts {A : Nat → Prop} {w0 w : World} {nb : Nat} {s : NS} {lim : Nat} (h : NK A w0 w nb s lim) : s.t.length = s.n ∧ (∀ x ∈ s.t, x ≤ 1099511627776) ∧ (∀ a b, a < s.n → b < s.n → (s.q a b).length ≤ s.room) ∧ 1 ≤ s.n ∧ s.n ≤ 32 ∧ (∀ a b, a < s.n → b < s.n → ∀ l ∈ s.q a b, l.length ≤ 140737488355328) ∧ s.room ≤ 4096 := by
  obtain ⟨m, hm⟩ := h.get
  exact ⟨hm.tlen, hm.late, hm.full, hm.one, hm.small, hm.light, hm.roomy.2⟩
theorem Duo.nk {A : Nat → Prop} {w0 w : World} {nb db : Nat} {s : NS} {d : RS} {lim : Nat} (h : Duo A w0 w nb db s d lim) : NK A w0 w nb s lim := by
  obtain ⟨Z, lv, vs, G, h1, h2, h3, h4⟩ := h
  exact h2.widen fun g x => .inl (.inl x)
/-- Both networks, the document's new. -/
theorem duo_new {A : Nat → Prop} {w0 w : World} {nb : Nat} {s : NS} {lim : Nat} (h : NK A w0 w nb s lim) (hA : ∀ g, A g → w0.heap.size ≤ g ∧ g < w.heap.size) (n r : Nat) (hn : n ≤ 32) (hr : r ≤ 4096) : Duo A w0 (w.alloc (.cells (newZ n r) 35)) nb w.heap.size s (newRS n r) lim := by
  have hs := h.old.size
  refine ⟨_, _, _, _, newRef w n r hn hr, (h.widen (A' := fun g => A g ∨ g = w.heap.size) (fun g x => x.elim .inl (fun e => .inr (by omega)))).kept ((Kept.refl w).alloc _), fun g x => ?_, fun g x => ⟨(hA g x).1, by have := (hA g x).2; simp; omega⟩⟩
  subst x
  exact ⟨hs, by simp, fun y => by have := (hA _ y).2; omega⟩
end Go.Proofs.Ytnpenabkmpoafaa
