/- How a slice of instances is opened. -/
import Derived.Test.YteopgcbihekcjaaQVRow
import Derived.Test.YteopgcbihekcjaaQVCov
set_option linter.unusedVariables false
set_option linter.unusedSimpArgs false
namespace Go.Proofs.Yteopgcbihekcjaa
open Go.ChangeShapes Go.WideShapes Go.ChangeAt Go.RowKit Go.Joins
theorem cellsId : Try.prog.cellsOf 52 = 2 := by kernel_rfl
theorem openId {H : Type} {enc : TypeId × Value → H} {W : World} {a : Addr} {n : Nat} {cs : List Value} {y : DataW H × List MemPlace} (hc : W.cells? 0 a 2 = some cs) (h : DataW.trod enc Try.prog W 0 (fun _ => true) true n 52 cs = some y) :
    ∃ x : Int × Int, W.cell? (a.add 0) = some (.int .i64 x.1) ∧ W.cell? (a.add 1) = some (.int .i64 x.2) := by
  obtain ⟨-, hlen, hcell⟩ := World.cells?_some hc
  match cs, hlen with
  | [c0, c1], _ =>
    have g0 := hcell 0 (by omega)
    have g1 := hcell 1 (by omega)
    obtain ⟨xs, m, -, rfl, -, hl, hf⟩ := DataW.trod_struct Try.underlying52 h
    have hl2 : xs.length = 2 := hl
    match xs, hl2 with
    | [y0, y1], _ =>
      have h0 : DataW.trod enc Try.prog W 0 (fun _ => true) true m 3 [c0] = some y0 := by have := hf 0 _ rfl; simpa [cellsInt] using this
      have h1 : DataW.trod enc Try.prog W 0 (fun _ => true) true m 3 [c1] = some y1 := by have := hf 1 _ rfl; simpa [cellsInt] using this
      obtain ⟨x0, e0, -, -⟩ := DataW.trod_int Try.underlying3 h0
      obtain rfl : c0 = .int .i64 x0 := by simpa using e0
      obtain ⟨x1, e1, -, -⟩ := DataW.trod_int Try.underlying3 h1
      obtain rfl : c1 = .int .i64 x1 := by simpa using e1
      exact ⟨(x0, x1), g0, g1⟩
theorem openIds {H : Type} {enc : TypeId × Value → H} {W : World} {base : Nat} {v : Value} {d0 : DataW H} {p : List MemPlace} (hv : Value.okWide Try.prog W .any base 50 v) (h0 : DataW.Trod enc Try.prog W 0 (fun _ => true) true 50 v d0 p) :
    ∃ xs : List (Int × Int), Ids W v xs := by
  obtain ⟨a0, len, cap, rfl⟩ := okWide_slice Try.underlying50 hv
  obtain ⟨fuel, hf⟩ := h0
  rcases Go.Deep.open_slice Try.underlying50 hf with ⟨hcs, hx⟩ | ⟨a, len', cap', m, n, D, Pl, hcs, -, hl, hm, hmm, hx, hat⟩
  · simp [Value.cells] at hcs
    obtain ⟨rfl, rfl, rfl⟩ := hcs
    exact ⟨[], ⟨none, 0, rfl, Nat.le_refl _, by decide, fun h => absurd h (by simp)⟩⟩
  · simp [Value.cells] at hcs
    obtain ⟨rfl, rfl, rfl⟩ := hcs
    simp only [if_true] at hmm
    subst hmm
    rw [cellsId] at hat
    obtain ⟨F, hF⟩ := Go.Deep.choose_lt (α := Int × Int) (n := len) (p := fun i x => W.cell? ((a.add (i * 2)).add 0) = some (.int .i64 x.1) ∧ W.cell? ((a.add (i * 2)).add 1) = some (.int .i64 x.2)) (fun i hi => by
      obtain ⟨cs', h1, h2⟩ := hat i (by omega)
      exact openId h1 h2)
    refine ⟨(List.range len).map F, ⟨some a, m, by simp, by simpa using hl, hm, fun hpos => ?_⟩⟩
    have hp : 0 < len := by simpa using hpos
    have hz := (hF 0 hp).1
    rw [show a.add (0 * 2) = a by simp [Addr.add]] at hz
    obtain ⟨b, o, rfl⟩ := addr_plain hz
    refine ⟨b, o, rfl, fun k x hx => ?_⟩
    have hk : k < len := by
      have := (List.getElem?_eq_some_iff.1 hx).1
      simpa using this
    simp only [List.getElem?_map, List.getElem?_range hk, Option.map_some, Option.some.injEq] at hx
    subst hx
    have := hF k hk
    simp only [Go.WideShapes.add_plain] at this
    exact this
end Go.Proofs.Yteopgcbihekcjaa
