/- How an argument that is a slice of texts is opened, with how long each is. -/
import Derived.Test.YtmjlhgamhjfjlaaDRow3
set_option linter.unusedVariables false
set_option linter.unusedSimpArgs false
namespace Go.Proofs.Ytmjlhgamhjfjlaa
open Go.ChangeShapes Go.WideShapes Go.ChangeAt Go.RowKit Go.Joins
theorem openTxtsZ {H : Type} {enc : TypeId × Value → H} {W : World} {a0 : Option Addr} {len cap : Nat} {d0 : DataW H} {p : List MemPlace} (h0 : DataW.Trod enc Try.prog W 0 (fun _ => true) true 33 (.slice a0 len cap) d0 p) :
    ∃ (ls : List (List UInt8)), Txts W (.slice a0 len cap) ls ∧ ((∀ m ∈ d0.weights Try.prog 33, m ≤ reachBytes) → ∀ l ∈ ls, l.length ≤ 140737488355328) := by
  obtain ⟨fuel, hf⟩ := h0
  rcases open_strings Try.underlying33 Try.underlying9 cellsStr hf with ⟨hcs, hx⟩ | ⟨a, len', cap', ss, hcs, -, hl, hm, hz, hx, hcell, hsz⟩
  · simp [Value.cells] at hcs
    obtain ⟨rfl, rfl, rfl⟩ := hcs
    exact ⟨[], ⟨none, 0, rfl, Nat.le_refl _, by decide, fun h => absurd h (by simp)⟩, fun _ l hl => by cases hl⟩
  · simp [Value.cells] at hcs
    obtain ⟨rfl, rfl, rfl⟩ := hcs
    simp only [Prod.mk.injEq] at hx
    obtain ⟨rfl, rfl⟩ := hx
    simp only [if_true] at hz
    have hlen : (ss.take len).length = len := by simp; omega
    refine ⟨(ss.take len).map fun s => s.data.toList, ⟨some a, cap, by rw [List.length_map, hlen], by rw [List.length_map, hlen]; exact hl, hm, fun hpos => ?_⟩, fun hw l hl' => ?_⟩
    · rw [List.length_map, hlen] at hpos
      obtain ⟨b, o, rfl⟩ := addr_plain (hcell 0 (by omega))
      refine ⟨b, o, rfl, fun k l hx => ?_⟩
      have hk : k < len := by
        have := (List.getElem?_eq_some_iff.1 hx).1
        rw [List.length_map] at this
        omega
      have hks : k < ss.length := by omega
      rw [List.getElem?_map, List.getElem?_take_of_lt hk, List.getElem?_eq_getElem hks] at hx
      simp only [Option.map_some, Option.some.injEq] at hx
      subst hx
      have := hcell k hks
      rw [Go.WideShapes.add_plain, List.getD_eq_getElem?_getD, List.getElem?_eq_getElem hks, Option.getD_some] at this
      rw [this]
    · obtain ⟨s, hs, rfl⟩ := List.mem_map.1 hl'
      have h1 := hw s.data.toList.length (by
        simp only [DataW.weights, Try.underlying33, List.mem_cons, List.mem_append]
        refine .inr (.inl (weigh_all (d := .lit (.string s.data.toList)) ?_ (by simp [DataW.weights])))
        unfold strs
        exact List.mem_map.2 ⟨s, hs, rfl⟩)
      have h2 := reachBytes_lt
      omega
end Go.Proofs.Ytmjlhgamhjfjlaa
