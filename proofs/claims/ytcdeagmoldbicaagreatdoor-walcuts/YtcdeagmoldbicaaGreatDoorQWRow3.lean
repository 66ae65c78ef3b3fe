/- Records that come in, opened with what the row says of their sizes. -/
import Derived.Test.YtcdeagmoldbicaaGreatDoorGDRow2
import Derived.SizedLaws
set_option linter.unusedSimpArgs false
set_option linter.unusedVariables false
namespace Go.Proofs.YtcdeagmoldbicaaGreatDoor
open Go.RowKit
theorem weights_mem_all {H : Type} {P : Program} {e : TypeId} : ∀ {l : List (DataW H)} {d : DataW H}, d ∈ l → ∀ n ∈ d.weights P e, n ∈ DataW.weightsAll P e l
  | x :: r, d, h, n, hn => by
    simp only [DataW.weightsAll, List.mem_append]
    rcases List.mem_cons.1 h with rfl | h
    · exact .inl hn
    · exact .inr (weights_mem_all h n hn)
theorem openRecsW {H : Type} {enc : TypeId × Value → H} {W : World} {fuel : Nat} {a0 : Option Addr} {len cap : Nat} {d0 : DataW H} {p : List MemPlace} (hf : DataW.trod enc Tryz.prog W 0 (fun _ => true) true fuel 41 [.slice a0 len cap] = some (d0, p)) :
    ∃ ls : List (List UInt8), Parts W (.slice a0 len cap) ls ∧ ((∀ n ∈ d0.weights Tryz.prog 41, n ≤ reachBytes) → ∀ l ∈ ls, l.length ≤ reachBytes) := by
  rcases Go.Deep.open_slice1 Tryz.underlying41 cellsBts hf with ⟨hcs, hx⟩ | ⟨a, len', cap', m, n, V, D, Pl, hcs, -, hl, hm, hmm, hx, hat⟩
  · simp [Value.cells] at hcs
    obtain ⟨rfl, rfl, rfl⟩ := hcs
    exact ⟨[], ⟨none, 0, rfl, Nat.le_refl _, by decide, fun h => absurd h (by simp)⟩, fun _ l hl => by simp at hl⟩
  · simp [Value.cells] at hcs
    obtain ⟨rfl, rfl, rfl⟩ := hcs
    simp only [Prod.mk.injEq] at hx
    obtain ⟨rfl, rfl⟩ := hx
    simp only [if_true] at hmm
    subst hmm
    obtain ⟨F, hF⟩ := Go.Deep.choose_lt (α := List UInt8) (n := len) (p := fun i l => Bts W (V i) l ∧ Long (D i) l.length) (fun i hi => by
      obtain ⟨-, h2⟩ := hat i (by omega)
      obtain ⟨l, b, g⟩ := openBtsAt h2
      exact ⟨l, b, g⟩)
    refine ⟨(List.range len).map F, ⟨some a, m, by simp, by simpa using hl, hm, fun hpos => ?_⟩, fun hw l hl => ?_⟩
    · have hp : 0 < len := by simpa using hpos
      obtain ⟨b, o, rfl⟩ := addr_plain (hat 0 (by omega)).1
      refine ⟨b, o, rfl, fun k l hx => ?_⟩
      have hk : k < len := by
        have := (List.getElem?_eq_some_iff.1 hx).1
        simpa using this
      simp only [List.getElem?_map, List.getElem?_range hk, Option.map_some, Option.some.injEq] at hx
      subst hx
      refine ⟨V k, ?_, (hF k hk).1⟩
      have := (hat k (by omega)).1
      have e : ((⟨b, o, none⟩ : Addr).add k) = ⟨b, o + k, none⟩ := by unfold Addr.add; split <;> simp_all
      rw [e] at this
      exact this
    · obtain ⟨i, hi, rfl⟩ := List.mem_map.1 hl
      have hi : i < len := by simpa using hi
      rcases (hF i hi).2 with h | ⟨elems, spare, h1, h2⟩
      · rw [h]
        exact Nat.zero_le _
      · have hm2 : D i ∈ (List.range len).map D := List.mem_map.2 ⟨i, by simpa using hi, rfl⟩
        have h3 : (elems.length + spare.length) * Tryz.prog.bytesOf 5 ∈ (D i).weights Tryz.prog 40 := by
          rw [h1]
          simp [DataW.weights, Tryz.underlying40]
        have h4 := weights_mem_all hm2 _ h3
        have h5 := hw ((elems.length + spare.length) * Tryz.prog.bytesOf 5) (by
          simp only [DataW.weights, Tryz.underlying41, List.mem_cons, List.mem_append]
          exact .inr (.inl h4))
        rw [bytesByte, Nat.mul_one] at h5
        omega
/-- An argument's weights are within reach. -/
theorem weights_arg {H : Type} {ts : List TypeId} {ds : List (DataW H)} (h : (DataW.weightsEach Tryz.prog ts ds).all (· ≤ reachBytes) = true) {j : Nat} {t : TypeId} {d : DataW H} (ht : ts[j]? = some t) (hd : ds[j]? = some d) : ∀ n ∈ d.weights Tryz.prog t, n ≤ reachBytes := fun n hn => by
  have := List.all_eq_true.1 h _ (DataW.weights_mem_each ht hd n hn)
  simpa using this
theorem reach_le : reachBytes ≤ 140737488355328 := by decide
end Go.Proofs.YtcdeagmoldbicaaGreatDoor
