/- More words for memory: pieces of a slice. No program in it. -/
import Derived.Test.YtmjlhgamhjfjlaaMem
namespace Go.Proofs.Ytmjlhgamhjfjlaa
open Go.RowKit
/-- A piece of a slice that holds bytes. -/
theorem Bts.cut {w : World} {l : List UInt8} {b o c : Nat} (h : Bts w (.slice (some ⟨b, o, none⟩) l.length c) l) (m n : Nat) (hn : m + n ≤ l.length) : Bts w (.slice (some ⟨b, o + m, none⟩) n (c - m)) ((l.drop m).take n) := by
  obtain ⟨A, c', hv, h1, h2, h3⟩ := h
  obtain ⟨rfl, -, rfl⟩ : some (⟨b, o, none⟩ : Addr) = A ∧ l.length = l.length ∧ c = c' := by simpa using hv
  have hlen : ((l.drop m).take n).length = n := by rw [List.length_take, List.length_drop]; omega
  refine ⟨_, c - m, by rw [hlen], by rw [hlen]; omega, by omega, fun hp => ⟨b, o + m, rfl, fun k x hx => ?_⟩⟩
  rw [hlen] at hp
  obtain ⟨b', o', e, hc⟩ := h3 (by omega)
  cases e
  rw [Nat.add_assoc]
  refine hc (m + k) x ?_
  have hk : k < n := by
    have := (List.getElem?_eq_some_iff.1 hx).1
    omega
  rw [List.getElem?_take_of_lt hk, List.getElem?_drop] at hx
  exact hx
/-- A slice that holds bytes has an address. -/
theorem Bts.addr {w : World} {A : Option Addr} {n c : Nat} {l : List UInt8} (h : Bts w (.slice A n c) l) (hp : 0 < l.length) : ∃ b o, A = some ⟨b, o, none⟩ := by
  obtain ⟨A', c', hv, -, -, h3⟩ := h
  obtain ⟨rfl, -, -⟩ : A = A' ∧ n = l.length ∧ c = c' := by simpa using hv
  obtain ⟨b, o, e, -⟩ := h3 hp
  exact ⟨b, o, e⟩
end Go.Proofs.Ytmjlhgamhjfjlaa
