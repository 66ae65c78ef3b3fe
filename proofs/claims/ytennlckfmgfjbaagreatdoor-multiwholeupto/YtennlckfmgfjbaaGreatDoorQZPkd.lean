/- What pick picks, as plain data; its order. -/
import Derived.Test.YtennlckfmgfjbaaGreatDoorGZNew3
import Derived.Test.YtennlckfmgfjbaaGreatDoorGDShelf4
import Derived.Test.YtennlckfmgfjbaaGreatDoorGPStrs2
import Derived.StringKeys
import Derived.Sort.KeysCollected
import Derived.Sort.OwnSorted
set_option linter.unusedSimpArgs false
set_option linter.unusedVariables false
namespace Go.Proofs.YtennlckfmgfjbaaGreatDoor
open Go.RowKit Go.Sort
/-- The paths of the nodes that are wanted. -/
def pickL (f : Pth → ZN → Bool) (t : ZT) : List Pth := (t.filter fun x => f x.1 x.2).map Prod.fst
def pkZ (st : ZSt) (f : Pth → ZN → Bool) : Pth → Bool := fun k => match getZ k st with | some e => f k e.nd | none => false
theorem pick_plain (f : Pth → ZN → Bool) {st : ZSt} (hs : SrtZ st) : (namesZ st).filter (pkZ st f) = pickL f (plainZ st) := by
  unfold namesZ pickL plainZ mapZ
  rw [List.filter_map, List.filter_map, List.map_map]
  have e : st.filter (pkZ st f ∘ Prod.fst) = st.filter ((fun x : Pth × ZN => f x.1 x.2) ∘ fun p : Pth × ZE => (p.1, p.2.nd)) := by
    refine List.filter_congr fun x hx => ?_
    have h2 : getZ x.1 st = some x.2 := get_of_memZ hs hx
    simp only [Function.comp, pkZ, h2]
  rw [e]
  rfl
theorem bbZ_lt {a b : Pth} (h : bytesBefore a b = true) : a < b := by
  induction a generalizing b with
  | nil =>
    cases b with
    | nil => simp [bytesBefore] at h
    | cons y s => exact List.nil_lt_cons _ _
  | cons x r ih =>
    cases b with
    | nil => simp [bytesBefore] at h
    | cons y s =>
      simp only [bytesBefore, Bool.or_eq_true, decide_eq_true_eq, Bool.and_eq_true, beq_iff_eq] at h
      rw [List.cons_lt_cons_iff]
      rcases h with h | ⟨h1, h2⟩
      · exact .inl h
      · exact .inr ⟨h1, ih h2⟩
theorem strKeys_toDZ (st : ZSt) : strKeys (toDZ st) = namesZ st := by
  unfold strKeys toDZ namesZ
  simp only [List.map_map]
  rfl
theorem sort_pick {st : ZSt} {pk : Pth → Bool} (hs : SrtZ st) {ss : List Pth} (hp : ss.Perm (strKeys (toDZ st))) : (ss.filter pk).mergeSort (fun x y => decide (x ≤ y)) = (namesZ st).filter pk := by
  rw [strKeys_toDZ] at hp
  have h0 : (namesZ st).Pairwise fun a b => leB a b = true := by
    unfold namesZ
    rw [List.pairwise_map]
    exact hs.imp fun h => by simp only [leB, decide_eq_true_eq]; exact List.le_of_lt (bbZ_lt h)
  have h1 : ((namesZ st).filter pk).Pairwise fun a b => leB a b = true := h0.filter _
  have := mergeSort_of_perm (hp.filter pk)
  rw [show (ss.filter pk).mergeSort (fun x y => decide (x ≤ y)) = (ss.filter pk).mergeSort leB from rfl, this]
  exact List.mergeSort_of_pairwise h1
theorem rdV_held {c : Value} {y : DataW Value × List MemPlace} (h : rdV c = some y) : y.1 = .held c := by
  unfold rdV at h
  injection h with h
  rw [← h]
theorem pick_elem {st : ZSt} {x : Pth} {c : Value} (hh : Maps.has (toDZ st) (.string x) = true) (ha : (toDZ st).atKey (.string x) (.held (.pointer none)) = .held c) : ∃ e, getZ x st = some e ∧ c = ptrZ e.nb := by
  rw [toDZ_has, hasZ_get] at hh
  obtain ⟨e, he⟩ := Option.isSome_iff_exists.1 hh
  rw [toDZ_at] at ha
  injection ha with ha
  refine ⟨e, he, ?_⟩
  rw [← ha]
  unfold valZ
  rw [he]
  rfl
end Go.Proofs.YtennlckfmgfjbaaGreatDoor
