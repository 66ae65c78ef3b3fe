/- How an argument that is a slice of things to write is opened: three cells each. -/
import Derived.Test.YtlkcooedlkhacaaDoorRow4
import Derived.Test.YtlkcooedlkhacaaDoorLawWrites
namespace Go.Proofs.YtlkcooedlkhacaaDoor
open Go.ChangeShapes Go.WideShapes Go.ChangeAt Go.RowKit Go.Joins
theorem cellsItem : Tryd.prog.cellsOf 58 = 3 := by kernel_rfl
instance : Inhabited It := ⟨⟨0, 0, .bool false, []⟩⟩
theorem out_bulk {α H : Type} (l : List α) (F : α → It) (D : α → DataW H) (h : ∀ i ∈ l, (F i).l.length ≤ Rows.uptoBulk (D i)) : (itsOut (l.map F)).length ≤ 10 * Rows.uptoBulkAll (l.map D) := by
  induction l with
  | nil => exact Nat.zero_le _
  | cons i l ih =>
    have h1 := h i (by simp)
    have h2 := bulk_pos (D i)
    have h3 := ih (fun j hj => h j (by simp [hj]))
    have h4 : (put (F i).l.length).length ≤ 9 := putF_len 9 _
    have h5 : (put (F i).n.toNat).length ≤ 9 := putF_len 9 _
    have h6 : (itOut (F i)).length ≤ 9 + (F i).l.length := by
      unfold itOut
      split
      · split
        · omega
        · simp
      · split
        · rw [List.length_append]; omega
        · split
          · rw [List.length_append]; omega
          · simp
    rw [List.map_cons, List.map_cons]
    simp only [Rows.uptoBulkAll]
    rw [show itsOut (F i :: l.map F) = itOut (F i) ++ itsOut (l.map F) by simp [itsOut], List.length_append]
    omega
set_option maxRecDepth 100000 in
theorem openItem {H : Type} {enc : TypeId × Value → H} {W : World} {a : Addr} {n : Nat} {cs : List Value} {y : DataW H × List MemPlace} (hc : W.cells? 0 a 3 = some cs) (h : DataW.trod enc Tryd.prog W 0 (fun _ => true) true n 58 cs = some y) :
    ∃ x : It, W.cell? (a.add 0) = some (.int .i64 x.kind) ∧ W.cell? (a.add 1) = some (.int .i64 x.n) ∧ W.cell? (a.add 2) = some x.u ∧ Bts W x.u x.l ∧ x.l.length ≤ Rows.uptoBulk y.1 := by
  obtain ⟨-, hlen, hcell⟩ := World.cells?_some hc
  match cs, hlen with
  | [c0, c1, c2], _ =>
    have g0 := hcell 0 (by omega)
    have g1 := hcell 1 (by omega)
    have g2 := hcell 2 (by omega)
    obtain ⟨y0, y1, y2, m, hx, -, h0, h1, h2⟩ := Go.Deep.trod_struct3 Tryd.underlying58 h
    subst hx
    have h0' : DataW.trod enc Tryd.prog W 0 (fun _ => true) true m 3 [c0] = some y0 := by simpa [cellsInt] using h0
    have h1' : DataW.trod enc Tryd.prog W 0 (fun _ => true) true m 3 [c1] = some y1 := by simpa [cellsInt] using h1
    have h2' : DataW.trod enc Tryd.prog W 0 (fun _ => true) true m 23 [c2] = some y2 := by simpa [cellsBts] using h2
    obtain ⟨x0, e0, -, -⟩ := DataW.trod_int Tryd.underlying3 h0'
    obtain rfl : c0 = .int .i64 x0 := by simpa using e0
    obtain ⟨x1, e1, -, -⟩ := DataW.trod_int Tryd.underlying3 h1'
    obtain rfl : c1 = .int .i64 x1 := by simpa using e1
    obtain ⟨l, b, g⟩ := openBtsAt h2'
    have k := g.bulk
    refine ⟨⟨x0, x1, c2, l⟩, g0, g1, g2, b, ?_⟩
    simp only [Rows.uptoBulk, Rows.uptoBulkAll]
    omega
set_option maxRecDepth 100000 in
theorem openItems {H : Type} {enc : TypeId × Value → H} {W : World} {a0 : Option Addr} {len cap : Nat} {d0 : DataW H} {p : List MemPlace} (h0 : DataW.Trod enc Tryd.prog W 0 (fun _ => true) true 54 (.slice a0 len cap) d0 p) :
    ∃ (its : List It), Items W (.slice a0 len cap) its ∧ (itsOut its).length ≤ 10 * Rows.uptoBulk d0 := by
  obtain ⟨fuel, hf⟩ := h0
  rcases Go.Deep.open_slice Tryd.underlying54 hf with ⟨hcs, hx⟩ | ⟨a, len', cap', m, n, D, Pl, hcs, -, hl, hm, hmm, hx, hat⟩
  · simp [Value.cells] at hcs
    obtain ⟨rfl, rfl, rfl⟩ := hcs
    exact ⟨[], ⟨none, 0, rfl, Nat.le_refl _, by decide, fun h => absurd h (by simp)⟩, Nat.zero_le _⟩
  · simp [Value.cells] at hcs
    obtain ⟨rfl, rfl, rfl⟩ := hcs
    simp only [Prod.mk.injEq] at hx
    obtain ⟨rfl, rfl⟩ := hx
    simp only [if_true] at hmm
    subst hmm
    rw [cellsItem] at hat
    obtain ⟨F, hF⟩ := Go.Deep.choose_lt (α := It) (n := len) (p := fun i x => W.cell? ((a.add (i * 3)).add 0) = some (.int .i64 x.kind) ∧ W.cell? ((a.add (i * 3)).add 1) = some (.int .i64 x.n) ∧ W.cell? ((a.add (i * 3)).add 2) = some x.u ∧ Bts W x.u x.l ∧ x.l.length ≤ Rows.uptoBulk (D i)) (fun i hi => by
      obtain ⟨cs', h1, h2⟩ := hat i (by omega)
      exact openItem h1 h2)
    refine ⟨(List.range len).map F, ⟨some a, m, by simp, by simpa using hl, hm, fun hpos => ?_⟩, ?_⟩
    · have hp : 0 < len := by simpa using hpos
      have hz := (hF 0 hp).1
      rw [show a.add (0 * 3) = a by simp [Addr.add]] at hz
      obtain ⟨b, o, rfl⟩ := addr_plain hz
      refine ⟨b, o, rfl, fun k x hx => ?_⟩
      have hk : k < len := by
        have := (List.getElem?_eq_some_iff.1 hx).1
        simpa using this
      simp only [List.getElem?_map, List.getElem?_range hk, Option.map_some, Option.some.injEq] at hx
      subst hx
      have := hF k hk
      simp only [Go.WideShapes.add_plain] at this
      exact ⟨this.1, this.2.1, this.2.2.1, this.2.2.2.1⟩
    · have := out_bulk (List.range len) F D (fun i hi => (hF i (by simpa using hi)).2.2.2.2)
      simp only [Rows.uptoBulk]
      omega
end Go.Proofs.YtlkcooedlkhacaaDoor
