/- Words for memory: a slice of texts that reads as a list. No program in it. -/
import Derived.Test.YtmjlhgamhjfjlaaMem
namespace Go.Proofs.Ytmjlhgamhjfjlaa
open Go.RowKit
/-- The value is a slice of texts (nil too, where there is none). -/
def Txts (w : World) (v : Value) (ls : List (List UInt8)) : Prop :=
  ∃ A c, v = .slice A ls.length c ∧ ls.length ≤ c ∧ c ≤ maxLen ∧ (0 < ls.length → ∃ b o, A = some ⟨b, o, none⟩ ∧ ∀ k l, ls[k]? = some l → w.cell? ⟨b, o + k, none⟩ = some (.string ⟨l.toArray⟩))
theorem Txts.kept {w w' : World} {v : Value} {ls : List (List UInt8)} (h : Txts w v ls) (k : Kept w w') : Txts w' v ls := by
  obtain ⟨A, c, rfl, h1, h2, h3⟩ := h
  refine ⟨A, c, rfl, h1, h2, fun hl => ?_⟩
  obtain ⟨b, o, rfl, hc⟩ := h3 hl
  exact ⟨b, o, rfl, fun i x hx => k.cell (hc i x hx)⟩
theorem Txts.nil (w : World) : Txts w (.slice none 0 0) [] := ⟨none, 0, rfl, Nat.le_refl _, by decide, fun h => absurd h (by simp)⟩
theorem Txts.form {w : World} {v : Value} {ls : List (List UInt8)} (h : Txts w v ls) : ∃ A c, v = .slice A ls.length c ∧ ls.length ≤ c ∧ c ≤ maxLen := by
  obtain ⟨A, c, rfl, h1, h2, -⟩ := h
  exact ⟨A, c, rfl, h1, h2⟩
theorem Txts.at {w : World} {A : Option Addr} {n c : Nat} {ls : List (List UInt8)} (h : Txts w (.slice A n c) ls) {k : Nat} (hk : k < ls.length) : ∃ b o, A = some ⟨b, o, none⟩ ∧ w.cell? ⟨b, o + k, none⟩ = some (.string ⟨ls[k].toArray⟩) := by
  obtain ⟨A', c', hv, -, -, h3⟩ := h
  obtain ⟨rfl, -, -⟩ : A = A' ∧ n = ls.length ∧ c = c' := by simpa using hv
  obtain ⟨b, o, e, hc⟩ := h3 (by omega)
  exact ⟨b, o, e, hc k ls[k] (by simp [hk])⟩
/-- One text in a new array. -/
theorem Txts.one (w : World) (l : List UInt8) (t : TypeId) : Txts (w.alloc (.cells #[.string ⟨l.toArray⟩] t)) (.slice (some ⟨w.heap.size, 0, none⟩) 1 1) [l] := by
  refine ⟨_, 1, rfl, Nat.le_refl _, by decide, fun _ => ⟨_, 0, rfl, fun k x hx => ?_⟩⟩
  match k, hx with
  | 0, hx =>
    obtain rfl : l = x := by simpa using hx
    simp [go_sem]
/-- The beginning of a slice of texts. -/
theorem Txts.take {w : World} {A : Option Addr} {n c : Nat} {ls : List (List UInt8)} (h : Txts w (.slice A n c) ls) (m : Nat) (hm : m ≤ ls.length) : Txts w (.slice A m c) (ls.take m) := by
  obtain ⟨A', c', hv, h1, h2, h3⟩ := h
  obtain ⟨rfl, -, rfl⟩ : A = A' ∧ n = ls.length ∧ c = c' := by simpa using hv
  have hl : (ls.take m).length = m := by simp; omega
  refine ⟨A, c, by rw [hl], by omega, h2, fun hp => ?_⟩
  rw [hl] at hp
  obtain ⟨b, o, e, hc⟩ := h3 (by omega)
  refine ⟨b, o, e, fun k l hk => hc k l ?_⟩
  have hkm : k < m := by
    have := (List.getElem?_eq_some_iff.1 hk).1
    omega
  rw [List.getElem?_take_of_lt hkm] at hk
  exact hk
/-- The cells of texts. -/
def strCells (ls : List (List UInt8)) : List Value := ls.map fun l => .string ⟨l.toArray⟩
theorem strCells_length (ls : List (List UInt8)) : (strCells ls).length = ls.length := by simp [strCells]
theorem strCells_append (ls ms : List (List UInt8)) : strCells (ls ++ ms) = strCells ls ++ strCells ms := by simp [strCells]
/-- A row of the call's own reads as a slice of texts. -/
theorem Txts.of_own {w : World} {base : Nat} {e : TypeId} {v : Value} {n : Nat} {ls : List (List UInt8)} (h : w.ownsRow base e 1 v n (strCells ls)) : Txts w v ls := by
  have hn : ls.length = n := by have := h.1; simpa [strCells] using this
  rcases h.2 with ⟨rfl, h0⟩ | ⟨g, cap, cur, rfl, hB, hg, hc, hm, hs, ht⟩
  · obtain rfl : ls = [] := List.eq_nil_of_length_eq_zero (by omega)
    exact Txts.nil w
  · subst hn
    refine ⟨_, cap, rfl, hc, hm, fun _ => ⟨g, 0, rfl, fun k x hx => ?_⟩⟩
    have := h.cells (g := g) rfl k (.string ⟨x.toArray⟩) (by simp [strCells, hx])
    have e : ((⟨g, 0, none⟩ : Addr).add k) = ⟨g, 0 + k, none⟩ := by unfold Addr.add; split <;> simp_all
    rw [e] at this
    exact this
end Go.Proofs.Ytmjlhgamhjfjlaa
