/- The walks of New, Count, Clock. -/
import Derived.Test.YtmoimldkagmkaaaQNWk1
set_option linter.unusedSimpArgs false
set_option linter.unusedVariables false
namespace Go.Proofs.Ytmoimldkagmkaaa
open Go.RowKit
theorem Ints.two (w : World) (a b : Int) (t : TypeId) : Ints (w.alloc (.cells #[.int .i64 a, .int .i64 b] t)) (.slice (some ⟨w.heap.size, 0, none⟩) 2 2) [a, b] := by
  refine ⟨_, 2, rfl, by simp, by decide, fun _ => ⟨_, 0, rfl, fun k x hx => ?_⟩⟩
  rw [Nat.zero_add, cell_at (heap_alloc_new w _)]
  match k, hx with
  | 0, hx => simp at hx; simp [hx]
  | 1, hx => simp at hx; simp [hx]
theorem Ints.one' (w : World) (a : Int) (t : TypeId) : Ints (w.alloc (.cells #[.int .i64 a] t)) (.slice (some ⟨w.heap.size, 0, none⟩) 1 1) [a] := by
  refine ⟨_, 1, rfl, by simp, by decide, fun _ => ⟨_, 0, rfl, fun k x hx => ?_⟩⟩
  rw [Nat.zero_add, cell_at (heap_alloc_new w _)]
  match k, hx with
  | 0, hx => simp at hx; simp [hx]
section
variable {w : World} {nb : Nat} {m : NM} {s : NS} {lim : Nat} {F : Nat → Prop}
theorem NetAt.c0 (h : NetAt w nb m s lim F) : w.cell? ⟨nb, 0, none⟩ = some (.slice (some ⟨m.tb, 0, none⟩) s.n s.n) := by rw [cell_at h.net]; rfl
theorem NetAt.c1 (h : NetAt w nb m s lim F) : w.cell? ⟨nb, 1, none⟩ = some (.int .i64 (s.room : Int)) := by rw [cell_at h.net]; rfl
theorem NetAt.c2 (h : NetAt w nb m s lim F) : w.cell? ⟨nb, 2, none⟩ = some (.map (some m.qb)) := by rw [cell_at h.net]; rfl
theorem NetAt.c3 (h : NetAt w nb m s lim F) : w.cell? ⟨nb, 3, none⟩ = some (.map (some m.cb)) := by rw [cell_at h.net]; rfl
/-- The check of two nodes, in an array of the call's own. -/
theorem NetAt.check2 (h : NetAt w nb m s lim F) (a b : Int) (t : TypeId) :
    Calls Try.prog 33 #[.pointer (some ⟨nb, 0, none⟩), .slice (some ⟨w.heap.size, 0, none⟩) 2 2] (w.alloc (.cells #[.int .i64 a, .int .i64 b] t)) fun e w' => e = .returned (.int .i64 (chk s.n [a, b])) ∧ w' = w.alloc (.cells #[.int .i64 a, .int .i64 b] t) :=
  check_any [a, b] _ nb s.n _ _ _ (Ints.two w a b t) (((Kept.refl w).alloc _).cell h.c0) h.small
theorem NetAt.check1 (h : NetAt w nb m s lim F) (a : Int) (t : TypeId) :
    Calls Try.prog 33 #[.pointer (some ⟨nb, 0, none⟩), .slice (some ⟨w.heap.size, 0, none⟩) 1 1] (w.alloc (.cells #[.int .i64 a] t)) fun e w' => e = .returned (.int .i64 (chk s.n [a])) ∧ w' = w.alloc (.cells #[.int .i64 a] t) :=
  check_any [a] _ nb s.n _ _ _ (Ints.one' w a t) (((Kept.refl w).alloc _).cell h.c0) h.small
end
theorem chk_two {n a b : Nat} (ha : a < n) (hb : b < n) : chk n [(a : Int), (b : Int)] = 0 := by
  unfold chk okI
  simp
  omega
theorem chk_two_inv {n : Nat} {a b : Int} (h : chk n [a, b] = 0) : ∃ a' b' : Nat, a = a' ∧ b = b' ∧ a' < n ∧ b' < n := by
  have h : [a, b].all (okI n) = true := by
    unfold chk at h
    split at h
    · assumption
    · cases h
  simp only [List.all_cons, List.all_nil, Bool.and_true, okI, Bool.and_eq_true, decide_eq_true_eq] at h
  exact ⟨a.toNat, b.toNat, by omega, by omega, by omega, by omega⟩
theorem chk_or (n : Nat) (l : List Int) : chk n l = 0 ∨ chk n l = 60 := by unfold chk; split <;> simp
theorem chk_one {n a : Nat} (ha : a < n) : chk n [(a : Int)] = 0 := by
  unfold chk okI
  simp
  omega
theorem chk_one_inv {n : Nat} {a : Int} (h : chk n [a] = 0) : ∃ a' : Nat, a = a' ∧ a' < n := by
  have h : [a].all (okI n) = true := by
    unfold chk at h
    split at h
    · assumption
    · cases h
  simp only [List.all_cons, List.all_nil, Bool.and_true, okI, Bool.and_eq_true, decide_eq_true_eq] at h
  exact ⟨a.toNat, by omega, by omega⟩
def countE (s : NS) (a b : Int) : Int := if chk s.n [a, b] = 0 then (s.q a.toNat b.toNat).length else 0
set_option maxRecDepth 100000 in
set_option maxHeartbeats 1000000 in
theorem count_any (w : World) (nb : Nat) (m : NM) (s : NS) (lim : Nat) (F : Nat → Prop) (h : NetAt w nb m s lim F) (a b : Int) :
    Calls Try.prog 12 #[.pointer (some ⟨nb, 0, none⟩), .int .i64 a, .int .i64 b] w fun e w' => e = .returned (.tuple #[.int .i64 (countE s a b), .int .i64 (chk s.n [a, b])]) ∧ Kept w w' := by
  have hc0 := h.c0
  have HCK := Lib.hid fun t => h.check2 a b t
  by_cases hk : chk s.n [a, b] = 0
  · obtain ⟨a, b, rfl, rfl, ha, hb⟩ := chk_two_inv hk
    have hco : countE s a b = (s.q a b).length := by unfold countE; rw [if_pos hk]; rfl
    rw [hk] at HCK ⊢
    rw [hco]
    obtain ⟨A, c, hq⟩ := own_form (h.rows a b ha hb)
    have hl := h.ulen ha hb
    have hsm := h.small
    rw [hl] at hq
    have hkk := (Kept.refl w).alloc (.cells #[.int .i64 (a : Int), .int .i64 (b : Int)] 3)
    have h2 := h.kept hkk
    have hc2 := h2.c2
    have hlk := h2.qs.look (a := a) (b := b) (by omega) (by omega)
    rw [hq] at hlk
    have hfl : (s.q a b).length ≤ 4096 := by have := h.full a b ha hb; have := h.roomy; omega
    generalize (s.q a b).length = len at *
    unfold pv at hlk
    clear h2 hk hco hl hq h
    go_enter Try.func12, Try.ntmps12
    go_wp2_with fail
    refine (HCK.out _).mono ?_
    rintro e w1 ⟨rfl, rfl⟩
    go_wp2
    go_ret2
    exact ⟨rfl, hkk⟩
  · have hco : countE s a b = 0 := by unfold countE; rw [if_neg hk]
    rcases chk_or s.n [a, b] with e | e
    · exact absurd e hk
    · rw [e] at HCK ⊢
      rw [hco]
      go_enter Try.func12, Try.ntmps12
      go_wp2_with fail
      refine (HCK.out _).mono ?_
      rintro e w1 ⟨rfl, rfl⟩
      go_wp2
      go_ret2
      exact ⟨rfl, (Kept.refl w).alloc _⟩
end Go.Proofs.Ytmoimldkagmkaaa
