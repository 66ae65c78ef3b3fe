/- A slice of vectors: as rows of the call's own, and as one reads it. -/
import Derived.Test.YtgmpbalibdlhdaaQVMem
import Derived.Test.YtgmpbalibdlhdaaQVPure
set_option linter.unusedSimpArgs false
set_option linter.unusedVariables false
namespace Go.Proofs.Ytgmpbalibdlhdaa
open Go.RowKit
abbrev iv (l : List Int) : List Value := l.map (Value.int .i64)
/-- The value is a slice of vectors that reads as ls. -/
def Vecs (w : World) (v : Value) (ls : List (List Int)) : Prop :=
  ∃ A c, v = .slice A ls.length c ∧ ls.length ≤ c ∧ c ≤ maxLen ∧ (0 < ls.length → ∃ b o, A = some ⟨b, o, none⟩ ∧ ∀ k l, ls[k]? = some l → ∃ u, w.cell? ⟨b, o + k, none⟩ = some u ∧ Ints w u l)
theorem Vecs.kept {w w' : World} {v : Value} {ls : List (List Int)} (h : Vecs w v ls) (k : Kept w w') : Vecs w' v ls := by
  obtain ⟨A, c, rfl, h1, h2, h3⟩ := h
  refine ⟨A, c, rfl, h1, h2, fun hl => ?_⟩
  obtain ⟨b, o, rfl, hc⟩ := h3 hl
  refine ⟨b, o, rfl, fun i x hx => ?_⟩
  obtain ⟨u, hu, hb⟩ := hc i x hx
  exact ⟨u, k.cell hu, hb.kept k⟩
theorem Vecs.at {w : World} {A : Option Addr} {n c : Nat} {ls : List (List Int)} (h : Vecs w (.slice A n c) ls) {k : Nat} (hk : k < ls.length) : ∃ b o u, A = some ⟨b, o, none⟩ ∧ w.cell? ⟨b, o + k, none⟩ = some u ∧ Ints w u ls[k] := by
  obtain ⟨A', c', hv, -, -, h3⟩ := h
  obtain ⟨rfl, -, -⟩ : A = A' ∧ n = ls.length ∧ c = c' := by simpa using hv
  obtain ⟨b, o, e, hc⟩ := h3 (by omega)
  obtain ⟨u, h1, h2⟩ := hc k ls[k] (by simp [hk])
  exact ⟨b, o, u, e, h1, h2⟩
theorem Ints.atI {w : World} {A : Option Addr} {n c : Nat} {ns : List Int} (h : Ints w (.slice A n c) ns) {k : Nat} (hk : k < ns.length) : ∃ b o, A = some ⟨b, o, none⟩ ∧ w.cell? ⟨b, o + k, none⟩ = some (.int .i64 ns[k]) := by
  obtain ⟨A', c', hv, -, -, h3⟩ := h
  obtain ⟨rfl, -, -⟩ : A = A' ∧ n = ns.length ∧ c = c' := by simpa using hv
  obtain ⟨b, o, e, hc⟩ := h3 (by omega)
  exact ⟨b, o, e, hc k ns[k] (by simp [hk])⟩
theorem Ints.form {w : World} {v : Value} {l : List Int} (h : Ints w v l) : ∃ A c, v = .slice A l.length c ∧ l.length ≤ c ∧ c ≤ maxLen := by
  obtain ⟨A, c, rfl, h1, h2, -⟩ := h
  exact ⟨A, c, rfl, h1, h2⟩
/-- The value is a row of vectors, each a row of ints of its own; all these blocks are no younger than base. -/
def VecsAt (base : Nat) (w : World) (rv : Value) (rs : List (List Int)) : Prop :=
  ∃ us : List Value, w.ownsRow base 36 1 rv rs.length us ∧
    ∀ k (hk : k < rs.length), ∃ u, us[k]? = some u ∧ w.ownsRow base 3 1 u rs[k].length (iv rs[k])
theorem VecsAt.nil (base : Nat) (w : World) : VecsAt base w (.slice none 0 0) [] := ⟨[], World.ownsRow_nil _ _ _ _, fun k hk => by simp at hk⟩
theorem VecsAt.kept {base : Nat} {w w' : World} {rv : Value} {rs : List (List Int)} (h : VecsAt base w rv rs) (k : Kept w w') : VecsAt base w' rv rs := by
  obtain ⟨us, h1, h3⟩ := h
  refine ⟨us, own_kept h1 k, fun i hi => ?_⟩
  obtain ⟨u, a, b⟩ := h3 i hi
  exact ⟨u, a, own_kept b k⟩
theorem VecsAt.form {base : Nat} {w : World} {rv : Value} {rs : List (List Int)} (h : VecsAt base w rv rs) : ∃ A c, rv = .slice A rs.length c ∧ rs.length ≤ c ∧ c ≤ maxLen := by
  obtain ⟨us, h1, -⟩ := h
  rcases h1.2 with ⟨rfl, h0⟩ | ⟨g, cap, cur, rfl, -, -, h1, h2, -⟩
  · exact ⟨none, 0, by rw [h0], by omega, by decide⟩
  · exact ⟨_, _, rfl, h1, h2⟩
theorem VecsAt.vecs {base : Nat} {w : World} {rv : Value} {rs : List (List Int)} (h : VecsAt base w rv rs) : Vecs w rv rs := by
  obtain ⟨A, c, rfl, h1, h2⟩ := h.form
  refine ⟨A, c, rfl, h1, h2, fun hp => ?_⟩
  obtain ⟨us, a1, a3⟩ := h
  rcases a1.2 with ⟨e, h0⟩ | ⟨g, cap', cur, e, -⟩
  · omega
  · obtain ⟨rfl, rfl⟩ : A = some ⟨g, 0, none⟩ ∧ c = cap' := by simpa using e
    refine ⟨g, 0, rfl, fun k l hl => ?_⟩
    obtain ⟨hk, rfl⟩ := List.getElem?_eq_some_iff.1 hl
    obtain ⟨u, a, b⟩ := a3 k hk
    have c1 := a1.cells (g := g) rfl _ _ a
    have ha : ∀ j, ((⟨g, 0, none⟩ : Addr).add j) = ⟨g, j, none⟩ := fun j => by unfold Addr.add; split <;> simp_all
    rw [ha] at c1
    exact ⟨u, by rw [Nat.zero_add]; exact c1, Ints.of_own b⟩
/-- One vector more behind a row of the call's own. -/
theorem VecsAt.more {base : Nat} {w w' : World} {v : Value} {rs : List (List Int)} {us : List Value} (hbase : base ≤ w.heap.size) (a1 : w.ownsRow base 36 1 v rs.length us) (a3 : ∀ k (hk : k < rs.length), ∃ u, us[k]? = some u ∧ w.ownsRow base 3 1 u rs[k].length (iv rs[k])) {o : Obj} {v' u : Value} {r : List Int} (hu : w.ownsRow base 3 1 u r.length (iv r)) (hg : (w.alloc o).grownBy w' v.ownBlock)
    (hr : w'.ownsRow base 36 1 v' (rs.length + 1) (us ++ [u])) :
    VecsAt base w' v' (rs ++ [r]) ∧ Chg (fun g => v.ownBlock = some g) w w' := by
  have hC : Chg (fun g => v.ownBlock = some g) w w' := (Chg.of_kept ((Kept.refl w).alloc o)).trans (Chg.of_grown hg (fun g hg _ => hg)) (fun g _ x => x)
  have hus : us.length = rs.length := by have := a1.1; omega
  have hb : ∀ {x : Value} {l : List Int}, w.ownsRow base 3 1 x l.length (iv l) → w'.ownsRow base 3 1 x l.length (iv l) := fun hx => own_chg hx hC (fun g hg e => by
    obtain ⟨cur, h1⟩ := own_type hx hg
    obtain ⟨cur', h2⟩ := own_type a1 e
    rw [h1] at h2
    injection h2 with h2
    injection h2 with _ h2
    exact absurd h2 (by decide))
  refine ⟨⟨us ++ [u], by rw [List.length_append]; exact hr, fun k hk => ?_⟩, hC⟩
  by_cases hkr : k < rs.length
  · obtain ⟨x, b1, b2⟩ := a3 k hkr
    refine ⟨x, by rw [List.getElem?_append_left (by omega)]; exact b1, ?_⟩
    rw [List.getElem_append_left hkr]
    exact hb b2
  · obtain rfl : k = rs.length := by simp at hk; omega
    have hrr : (rs ++ [r])[rs.length]'hk = r := by simp
    exact ⟨u, by rw [List.getElem?_append_right (by omega)]; simp [hus], by rw [hrr]; exact hb hu⟩
theorem Vecs.two {w : World} {u u' : Value} {l l' : List Int} {t : TypeId} (h : Ints w u l) (h' : Ints w u' l') : Vecs (w.alloc (.cells #[u, u'] t)) (.slice (some ⟨w.heap.size, 0, none⟩) 2 2) [l, l'] := by
  refine ⟨_, 2, rfl, Nat.le_refl _, by decide, fun _ => ⟨_, 0, rfl, fun k x hx => ?_⟩⟩
  match k, hx with
  | 0, hx =>
    obtain rfl : l = x := by simpa using hx
    exact ⟨u, by simp [go_sem], h.kept ((Kept.refl w).alloc _)⟩
  | 1, hx =>
    obtain rfl : l' = x := by simpa using hx
    exact ⟨u', by simp [go_sem], h'.kept ((Kept.refl w).alloc _)⟩
theorem Vecs.three {w : World} {u u' u'' : Value} {l l' l'' : List Int} {t : TypeId} (h : Ints w u l) (h' : Ints w u' l') (h'' : Ints w u'' l'') : Vecs (w.alloc (.cells #[u, u', u''] t)) (.slice (some ⟨w.heap.size, 0, none⟩) 3 3) [l, l', l''] := by
  refine ⟨_, 3, rfl, Nat.le_refl _, by decide, fun _ => ⟨_, 0, rfl, fun k x hx => ?_⟩⟩
  match k, hx with
  | 0, hx =>
    obtain rfl : l = x := by simpa using hx
    exact ⟨u, by simp [go_sem], h.kept ((Kept.refl w).alloc _)⟩
  | 1, hx =>
    obtain rfl : l' = x := by simpa using hx
    exact ⟨u', by simp [go_sem], h'.kept ((Kept.refl w).alloc _)⟩
  | 2, hx =>
    obtain rfl : l'' = x := by simpa using hx
    exact ⟨u'', by simp [go_sem], h''.kept ((Kept.refl w).alloc _)⟩
theorem Ints.two (w : World) (a b : Int) (t : TypeId) : Ints (w.alloc (.cells #[.int .i64 a, .int .i64 b] t)) (.slice (some ⟨w.heap.size, 0, none⟩) 2 2) [a, b] := by
  refine ⟨_, 2, rfl, Nat.le_refl _, by decide, fun _ => ⟨_, 0, rfl, fun k x hx => ?_⟩⟩
  match k, hx with
  | 0, hx => obtain rfl : a = x := by simpa using hx
             simp [go_sem]
  | 1, hx => obtain rfl : b = x := by simpa using hx
             simp [go_sem]
end Go.Proofs.Ytgmpbalibdlhdaa
