/- Words for memory: a slice of bytes that reads as a list, a slice of such slices; what keeps them. No program in it. -/
import Derived.WalkKit
import Derived.WalkSpells
import Derived.WalkLawsBesides
import Derived.Lib.UnsafeStr
import Derived.Lib.Hide
namespace Go.Proofs.Ytgmpbalibdlhdaa
open Go.RowKit

/-- The value is a slice of bytes that reads as l (nil too, where l is empty). -/
def Bts (w : World) (v : Value) (l : List UInt8) : Prop :=
  ∃ A c, v = .slice A l.length c ∧ l.length ≤ c ∧ c ≤ maxLen ∧ (0 < l.length → ∃ b o, A = some ⟨b, o, none⟩ ∧ ∀ k x, l[k]? = some x → w.cell? ⟨b, o + k, none⟩ = some (.int .u8 (x.toNat : Int)))
/-- The value is a slice of slices of bytes. -/
def Parts (w : World) (v : Value) (ls : List (List UInt8)) : Prop :=
  ∃ A c, v = .slice A ls.length c ∧ ls.length ≤ c ∧ c ≤ maxLen ∧ (0 < ls.length → ∃ b o, A = some ⟨b, o, none⟩ ∧ ∀ k l, ls[k]? = some l → ∃ u, w.cell? ⟨b, o + k, none⟩ = some u ∧ Bts w u l)
/-- The value is a slice of ints that reads as l. -/
def Ints (w : World) (v : Value) (l : List Int) : Prop :=
  ∃ A c, v = .slice A l.length c ∧ l.length ≤ c ∧ c ≤ maxLen ∧ (0 < l.length → ∃ b o, A = some ⟨b, o, none⟩ ∧ ∀ k x, l[k]? = some x → w.cell? ⟨b, o + k, none⟩ = some (.int .i64 x))

/-- All that was there reads as it did. -/
def Kept (w w' : World) : Prop := Below w.heap.size w w'

theorem Kept.refl (w : World) : Kept w w := Below.refl _ w
theorem Kept.trans {w w1 w2 : World} (h : Kept w w1) (k : Kept w1 w2) : Kept w w2 := Below.trans h (Below.mono k h.size)
theorem Kept.cell {w w' : World} (h : Kept w w') {a : Addr} {v : Value} (hc : w.cell? a = some v) : w'.cell? a = some v := by
  rw [Below.cell h (World.block_lt_of_cell? _ _ hc)]; exact hc
theorem Kept.alloc {w w' : World} (h : Kept w w') (o : Obj) : Kept w (w'.alloc o) := Below.alloc h h.size o
theorem Kept.drew {w w' : World} (h : Kept w w') : Kept w w'.drew := Below.trans h ⟨rfl, rfl, rfl, Nat.le_refl _, fun _ _ => rfl⟩
theorem Kept.drewN {w w' : World} (h : Kept w w') (n : Nat) : Kept w (w'.drewN n) := Below.trans h ⟨rfl, rfl, rfl, Nat.le_refl _, fun _ _ => rfl⟩

theorem Bts.kept {w w' : World} {v : Value} {l : List UInt8} (h : Bts w v l) (k : Kept w w') : Bts w' v l := by
  obtain ⟨A, c, rfl, h1, h2, h3⟩ := h
  refine ⟨A, c, rfl, h1, h2, fun hl => ?_⟩
  obtain ⟨b, o, rfl, hc⟩ := h3 hl
  exact ⟨b, o, rfl, fun i x hx => k.cell (hc i x hx)⟩
theorem Ints.kept {w w' : World} {v : Value} {l : List Int} (h : Ints w v l) (k : Kept w w') : Ints w' v l := by
  obtain ⟨A, c, rfl, h1, h2, h3⟩ := h
  refine ⟨A, c, rfl, h1, h2, fun hl => ?_⟩
  obtain ⟨b, o, rfl, hc⟩ := h3 hl
  exact ⟨b, o, rfl, fun i x hx => k.cell (hc i x hx)⟩
theorem Parts.kept {w w' : World} {v : Value} {ls : List (List UInt8)} (h : Parts w v ls) (k : Kept w w') : Parts w' v ls := by
  obtain ⟨A, c, rfl, h1, h2, h3⟩ := h
  refine ⟨A, c, rfl, h1, h2, fun hl => ?_⟩
  obtain ⟨b, o, rfl, hc⟩ := h3 hl
  refine ⟨b, o, rfl, fun i x hx => ?_⟩
  obtain ⟨u, hu, hb⟩ := hc i x hx
  exact ⟨u, k.cell hu, hb.kept k⟩
theorem Bts.len {w : World} {v : Value} {l : List UInt8} (h : Bts w v l) : l.length ≤ maxLen := by
  obtain ⟨A, c, rfl, h1, h2, h3⟩ := h; omega
theorem Bts.nil (w : World) : Bts w (.slice none 0 0) [] := ⟨none, 0, rfl, Nat.le_refl _, by decide, fun h => absurd h (by simp)⟩
theorem Bts.empty (w : World) (A : Option Addr) (c : Nat) (hc : c ≤ maxLen) : Bts w (.slice A 0 c) [] := ⟨A, c, rfl, Nat.zero_le _, hc, fun h => absurd h (by simp)⟩

/-- A row of the call's own reads as a slice of bytes. -/
theorem Bts.of_own {w : World} {base : Nat} {e : TypeId} {v : Value} {n : Nat} {l : List UInt8} (h : w.ownsRow base e 1 v n (Lib.byteCells l)) : Bts w v l := by
  have hn : l.length = n := by have := h.1; simpa [Lib.byteCells] using this
  rcases h.2 with ⟨rfl, h0⟩ | ⟨g, cap, cur, rfl, hB, hg, hc, hm, hs, ht⟩
  · obtain rfl : l = [] := List.eq_nil_of_length_eq_zero (by omega)
    exact Bts.nil w
  · subst hn
    refine ⟨_, cap, rfl, hc, hm, fun _ => ⟨g, 0, rfl, fun k x hx => ?_⟩⟩
    have := h.cells (g := g) rfl k (.int .u8 (x.toNat : Int)) (by simp [Lib.byteCells, hx])
    have e : ((⟨g, 0, none⟩ : Addr).add k) = ⟨g, 0 + k, none⟩ := by unfold Addr.add; split <;> simp_all
    rw [e] at this
    exact this
theorem byteCells_length (l : List UInt8) : (Lib.byteCells l).length = l.length := by simp [Lib.byteCells]
/-- One slice among a new array of slices. -/
theorem Parts.one {w : World} {u : Value} {l : List UInt8} {t : TypeId} (h : Bts w u l) : Parts (w.alloc (.cells #[u] t)) (.slice (some ⟨w.heap.size, 0, none⟩) 1 1) [l] := by
  refine ⟨_, 1, rfl, Nat.le_refl _, by decide, fun _ => ⟨_, 0, rfl, fun k x hx => ?_⟩⟩
  match k, hx with
  | 0, hx =>
    obtain rfl : l = x := by simpa using hx
    exact ⟨u, by simp [go_sem], h.kept ((Kept.refl w).alloc _)⟩
theorem Parts.two {w : World} {u u' : Value} {l l' : List UInt8} {t : TypeId} (h : Bts w u l) (h' : Bts w u' l') : Parts (w.alloc (.cells #[u, u'] t)) (.slice (some ⟨w.heap.size, 0, none⟩) 2 2) [l, l'] := by
  refine ⟨_, 2, rfl, Nat.le_refl _, by decide, fun _ => ⟨_, 0, rfl, fun k x hx => ?_⟩⟩
  match k, hx with
  | 0, hx =>
    obtain rfl : l = x := by simpa using hx
    exact ⟨u, by simp [go_sem], h.kept ((Kept.refl w).alloc _)⟩
  | 1, hx =>
    obtain rfl : l' = x := by simpa using hx
    exact ⟨u', by simp [go_sem], h'.kept ((Kept.refl w).alloc _)⟩
theorem Parts.three {w : World} {u u' u'' : Value} {l l' l'' : List UInt8} {t : TypeId} (h : Bts w u l) (h' : Bts w u' l') (h'' : Bts w u'' l'') : Parts (w.alloc (.cells #[u, u', u''] t)) (.slice (some ⟨w.heap.size, 0, none⟩) 3 3) [l, l', l''] := by
  refine ⟨_, 3, rfl, Nat.le_refl _, by decide, fun _ => ⟨_, 0, rfl, fun k x hx => ?_⟩⟩
  match k, hx with
  | 0, hx =>
    obtain rfl : l = x := by simpa using hx
    exact ⟨u, by simp [go_sem], h.kept ((Kept.refl w).alloc _)⟩
  | 1, hx =>
    obtain rfl : l' = x := by simpa using hx
    exact ⟨u', by simp [go_sem], h'.kept ((Kept.refl w).alloc _)⟩
  | 2, hx =>
    obtain rfl : l'' = x := by simpa using hx
    exact ⟨u'', by simp [go_sem], h''.kept ((Kept.refl w).alloc _)⟩
end Go.Proofs.Ytgmpbalibdlhdaa
