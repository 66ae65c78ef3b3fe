/- The walk of the document's Name. The walk of the document's Parts. -/
import Derived.Test.YtennlckfmgfjbaaGreatDoorGPMath2
import Derived.Test.YtennlckfmgfjbaaGreatDoorGPCheck2
import Derived.Test.YtennlckfmgfjbaaGreatDoorGPStrs2
namespace Go.Proofs.YtennlckfmgfjbaaGreatDoor
open Go.RowKit
end Go.Proofs.YtennlckfmgfjbaaGreatDoor
namespace Go.Proofs.YtennlckfmgfjbaaGreatDoor
open Go.RowKit
theorem drop_slash {l : List UInt8} {f k : Nat} (hf : f ≤ k) (hk : k < l.length) (h : l[k] = 47) : l.drop f = (l.drop f).take (k - f) ++ 47 :: l.drop (k + 1) := by
  have h1 : l.drop f = (l.drop f).take (k - f) ++ (l.drop f).drop (k - f) := (List.take_append_drop _ _).symm
  rw [List.drop_drop, show f + (k - f) = k by omega, List.drop_eq_getElem_cons hk, h] at h1
  exact h1
theorem piece_snoc {l : List UInt8} {f k : Nat} (hf : f ≤ k) (hk : k < l.length) : (l.drop f).take (k + 1 - f) = (l.drop f).take (k - f) ++ [l[k]] := by
  rw [show k + 1 - f = (k - f) + 1 by omega, List.take_succ_eq_append_getElem (by rw [List.length_drop]; omega), List.getElem_drop]
  congr 2
  congr 1
  omega
/-- What is known as the loop goes on. -/
def PInv (l : List UInt8) (f k : Nat) (ds : List (List UInt8)) : Prop :=
  ds.all isName = true ∧ ((1 ≤ f ∧ f ≤ k ∧ k ≤ l.length ∧ sp (l.drop 1) = ds ++ sp (l.drop f) ∧ (47 : UInt8) ∉ (l.drop f).take (k - f)) ∨ (k = l.length + 1 ∧ sp (l.drop 1) = ds))
theorem PInv.len {l : List UInt8} {f k : Nat} {ds : List (List UInt8)} (h : PInv l f k ds) : ds.length ≤ l.length + 1 := by
  have hs : ∀ r : List UInt8, (sp r).length ≤ r.length + 1 := by
    intro r
    have := congrArg List.length (flat_sp r)
    have h2 : ∀ ls : List (List UInt8), ls.length ≤ (flat ls).length := by
      intro ls
      induction ls with
      | nil => simp
      | cons x t ih => rw [flat_cons]; simp; omega
    have := h2 (sp r)
    simp at *
    omega
  have h1 := hs (l.drop 1)
  rw [List.length_drop] at h1
  rcases h.2 with ⟨-, -, -, e, -⟩ | ⟨-, e⟩
  · rw [e, List.length_append] at h1; omega
  · rw [e] at h1; omega

theorem PInv.step {l : List UInt8} {f k : Nat} {ds : List (List UInt8)} (h : PInv l f k ds) (hk : k ≤ l.length) (hc : ∀ hlt : k < l.length, l[k] = 47) :
    f ≤ k ∧ (isName ((l.drop f).take (k - f)) = true → PInv l (k + 1) (k + 1) (ds ++ [(l.drop f).take (k - f)])) ∧ (l.drop f).take (k - f) ∈ sp (l.drop 1) := by
  obtain ⟨hall, ⟨h1, h2, h3, h4, h5⟩ | ⟨h1, -⟩⟩ := h
  · by_cases hlt : k < l.length
    · have e := drop_slash h2 hlt (hc hlt)
      have hs := sp_cut _ (l.drop (k + 1)) h5
      rw [← e] at hs
      rw [hs] at h4
      refine ⟨h2, fun hn => ⟨by simp [hall, hn], .inl ⟨by omega, by omega, by omega, by rw [h4]; simp, by simp⟩⟩, by rw [h4]; simp⟩
    · obtain rfl : k = l.length := by omega
      have e : (l.drop f).take (l.length - f) = l.drop f := List.take_of_length_le (by rw [List.length_drop]; omega)
      rw [e] at h5 ⊢
      rw [sp_free _ h5] at h4
      exact ⟨h2, fun hn => ⟨by simp [hall, hn], .inr ⟨rfl, h4⟩⟩, by rw [h4]; simp⟩
  · omega
theorem PInv.next {l : List UInt8} {f k : Nat} {ds : List (List UInt8)} (h : PInv l f k ds) (hk : k < l.length) (hc : l[k] ≠ 47) : PInv l f (k + 1) ds := by
  obtain ⟨hall, ⟨h1, h2, h3, h4, h5⟩ | ⟨h1, -⟩⟩ := h
  · refine ⟨hall, .inl ⟨h1, by omega, by omega, h4, ?_⟩⟩
    rw [piece_snoc h2 hk]
    intro hm
    rcases List.mem_append.1 hm with hm | hm
    · exact h5 hm
    · exact hc (List.mem_singleton.1 hm).symm
  · omega
theorem PInv.fin {l : List UInt8} {f k : Nat} {ds : List (List UInt8)} (h : PInv l f k ds) (hk : ¬ k ≤ l.length) : sp (l.drop 1) = ds ∧ ds.all isName = true := by
  obtain ⟨hall, ⟨h1, h2, h3, h4, h5⟩ | ⟨-, h1⟩⟩ := h
  · omega
  · exact ⟨h1, hall⟩
theorem Txts.oneX (w : World) (l : List UInt8) (f k : Nat) (t : TypeId) : Txts (w.alloc (.cells #[.string ((⟨l.toArray⟩ : ByteArray).extract f k)] t)) (.slice (some ⟨w.heap.size, 0, none⟩) 1 1) [(l.drop f).take (k - f)] := by
  rw [str_extract]
  exact Txts.one w _ t
theorem ret_parts {v : Value} {a b : Bool} (h : a = b) : Ending.returned (.tuple #[v, .bool a]) = .returned (.tuple #[v, .bool b]) := by rw [h]
/-- The walk's end. -/
def PDone (l : List UInt8) (w : World) (e : Ending) (w' : World) : Prop := ∃ v, e = .returned (.tuple #[v, .bool (names l).isSome]) ∧ Txts w' v ((names l).getD []) ∧ Kept w w'

theorem names_off (l : List UInt8) (h : l = [] ∨ 128 < l.length ∨ l.head? ≠ some 47) : names l = none := by
  cases hn : names l with
  | none => rfl
  | some ls =>
    have h1 := names_len hn
    obtain ⟨r, hr⟩ := names_head hn
    rcases h with rfl | h | h
    · cases hr
    · omega
    · exact absurd (by rw [hr]; rfl) h
end Go.Proofs.YtennlckfmgfjbaaGreatDoor
