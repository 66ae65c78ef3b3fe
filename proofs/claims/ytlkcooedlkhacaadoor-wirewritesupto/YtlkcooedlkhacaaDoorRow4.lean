/- How arguments with depth are opened: a slice of slices of bytes, a slice of texts. -/
import Derived.Test.YtlkcooedlkhacaaDoorRow3
import Derived.Test.YtlkcooedlkhacaaDoorWri2
import Derived.Deep.Slices
import Derived.SliceStrings
namespace Go.Proofs.YtlkcooedlkhacaaDoor
open Go.ChangeShapes Go.WideShapes Go.ChangeAt Go.RowKit Go.Joins
theorem cellsBts : Tryd.prog.cellsOf 23 = 1 := by kernel_rfl
theorem cellsStr : Tryd.prog.cellsOf 9 = 1 := by kernel_rfl
theorem blob_bulk {α H : Type} (l : List α) (F : α → List UInt8) (D : α → DataW H) (h : ∀ i ∈ l, (F i).length ≤ Rows.uptoBulk (D i)) : (blobAll (l.map F)).length ≤ 10 * Rows.uptoBulkAll (l.map D) := by
  induction l with
  | nil => exact Nat.zero_le _
  | cons i l ih =>
    have h1 := h i (by simp)
    have h2 := bulk_pos (D i)
    have h3 := ih (fun j hj => h j (by simp [hj]))
    have h4 : (put (F i).length).length ≤ 9 := putF_len 9 _
    rw [List.map_cons, List.map_cons]
    simp only [Rows.uptoBulkAll]
    rw [show blobAll (F i :: l.map F) = put (F i).length ++ F i ++ blobAll (l.map F) by simp [blobAll]]
    simp only [List.length_append]
    omega
theorem addr_plain {W : World} {a : Addr} {v : Value} (h : W.cell? (a.add 0) = some v) : ∃ b o, a = ⟨b, o, none⟩ := by
  obtain ⟨b, off, spot⟩ := a
  have hspot : spot = none := by simpa [Addr.add] using World.cell?_spot h
  subst hspot
  exact ⟨b, off, rfl⟩
theorem openParts {H : Type} {enc : TypeId × Value → H} {W : World} {a0 : Option Addr} {len cap : Nat} {d0 : DataW H} {p : List MemPlace} (h0 : DataW.Trod enc Tryd.prog W 0 (fun _ => true) true 74 (.slice a0 len cap) d0 p) :
    ∃ (us : List Value) (ls : List (List UInt8)), PartsU W (.slice a0 len cap) us ls ∧ (blobAll ls).length ≤ 10 * Rows.uptoBulk d0 := by
  obtain ⟨fuel, hf⟩ := h0
  rcases Go.Deep.open_slice1 Tryd.underlying74 cellsBts hf with ⟨hcs, hx⟩ | ⟨a, len', cap', m, n, V, D, Pl, hcs, -, hl, hm, hmm, hx, hat⟩
  · simp [Value.cells] at hcs
    obtain ⟨rfl, rfl, rfl⟩ := hcs
    exact ⟨[], [], ⟨rfl, none, 0, rfl, Nat.le_refl _, by decide, fun h => absurd h (by simp)⟩, Nat.zero_le _⟩
  · simp [Value.cells] at hcs
    obtain ⟨rfl, rfl, rfl⟩ := hcs
    simp only [Prod.mk.injEq] at hx
    obtain ⟨rfl, rfl⟩ := hx
    simp only [if_true] at hmm
    subst hmm
    obtain ⟨F, hF⟩ := Go.Deep.choose_lt (α := List UInt8) (n := len) (p := fun i l => Bts W (V i) l ∧ l.length ≤ Rows.uptoBulk (D i)) (fun i hi => by
      obtain ⟨-, h2⟩ := hat i (by omega)
      obtain ⟨l, b, g⟩ := openBtsAt h2
      exact ⟨l, b, g.bulk⟩)
    refine ⟨(List.range len).map V, (List.range len).map F, ⟨by simp, some a, m, by simp, by simpa using hl, hm, fun hpos => ?_⟩, ?_⟩
    · have hp : 0 < len := by simpa using hpos
      obtain ⟨b, o, rfl⟩ := addr_plain (hat 0 (by omega)).1
      refine ⟨b, o, rfl, fun k u l hu hx => ?_⟩
      have hk : k < len := by
        have := (List.getElem?_eq_some_iff.1 hu).1
        simpa using this
      simp only [List.getElem?_map, List.getElem?_range hk, Option.map_some, Option.some.injEq] at hu hx
      subst hu hx
      refine ⟨?_, (hF k hk).1⟩
      rw [← Go.WideShapes.add_plain]
      exact (hat k (by omega)).1
    · have := blob_bulk (List.range len) F D (fun i hi => (hF i (by simpa using hi)).2)
      simp only [Rows.uptoBulk]
      omega
theorem openStrs {H : Type} {enc : TypeId × Value → H} {W : World} {a0 : Option Addr} {len cap : Nat} {d0 : DataW H} {p : List MemPlace} (h0 : DataW.Trod enc Tryd.prog W 0 (fun _ => true) true 75 (.slice a0 len cap) d0 p) :
    ∃ (ls : List (List UInt8)), Strs W (.slice a0 len cap) ls ∧ (blobAll ls).length ≤ 10 * Rows.uptoBulk d0 := by
  obtain ⟨fuel, hf⟩ := h0
  rcases open_strings Tryd.underlying75 Tryd.underlying9 cellsStr hf with ⟨hcs, hx⟩ | ⟨a, len', cap', ss, hcs, -, hl, hm, hz, hx, hcell, hsz⟩
  · simp [Value.cells] at hcs
    obtain ⟨rfl, rfl, rfl⟩ := hcs
    exact ⟨[], ⟨none, 0, rfl, Nat.le_refl _, by decide, fun h => absurd h (by simp)⟩, Nat.zero_le _⟩
  · simp [Value.cells] at hcs
    obtain ⟨rfl, rfl, rfl⟩ := hcs
    simp only [Prod.mk.injEq] at hx
    obtain ⟨rfl, rfl⟩ := hx
    simp only [if_true] at hz
    have hlen : (ss.take len).length = len := by simp; omega
    refine ⟨(ss.take len).map fun s => s.data.toList, ⟨some a, cap, by rw [List.length_map, hlen], by rw [List.length_map, hlen]; exact hl, hm, fun hpos => ?_⟩, ?_⟩
    · rw [List.length_map, hlen] at hpos
      obtain ⟨b, o, rfl⟩ := addr_plain (hcell 0 (by omega))
      refine ⟨b, o, rfl, fun k l hx => ?_⟩
      have hk : k < len := by
        have := (List.getElem?_eq_some_iff.1 hx).1
        rw [List.length_map] at this
        omega
      have hks : k < ss.length := by omega
      rw [List.getElem?_map, List.getElem?_take_of_lt hk, List.getElem?_eq_getElem hks] at hx
      simp only [Option.map_some, Option.some.injEq] at hx
      subst hx
      have := hcell k hks
      rw [Go.WideShapes.add_plain, List.getD_eq_getElem?_getD, List.getElem?_eq_getElem hks, Option.getD_some] at this
      rw [this]
    · have := blob_bulk (ss.take len) (fun s => s.data.toList) (fun s => (.lit (.string s.data.toList) : DataW H)) (fun i hi => by simp only [Rows.uptoBulk]; omega)
      simp only [Rows.uptoBulk, strs]
      omega
end Go.Proofs.YtlkcooedlkhacaaDoor
