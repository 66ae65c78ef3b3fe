/- How the argument that is SnapPlays' script is opened: five cells each; the reach of what lies inside. -/
import Derived.Test.YtngbgngfdklnlaaGreatDoorQSRow
import Derived.Test.YtngbgngfdklnlaaGreatDoorQSLw1
set_option linter.unusedVariables false
set_option linter.unusedSimpArgs false
namespace Go.Proofs.YtngbgngfdklnlaaGreatDoor
open Go.ChangeShapes Go.WideShapes Go.ChangeAt Go.RowKit Go.Joins
theorem cellsOp : Tryz.prog.cellsOf 35 = 5 := by kernel_rfl
theorem bytesOp : Tryz.prog.bytesOf 35 = 80 := by kernel_rfl
instance : Inhabited Call5 := ⟨⟨0, 0, [], .bool false, [], .bool false, []⟩⟩
theorem weigh_all {H : Type} {P : Program} {e : TypeId} {l : List (DataW H)} {d : DataW H} (h : d ∈ l) {n : Nat} (hn : n ∈ d.weights P e) : n ∈ DataW.weightsAll P e l := by
  induction l with
  | nil => cases h
  | cons x r ih =>
    simp only [DataW.weightsAll, List.mem_append]
    rcases List.mem_cons.1 h with rfl | h
    · exact .inl hn
    · exact .inr (ih h)
theorem Long.weight {H : Type} {t e : TypeId} {d : DataW H} {n : Nat} (hu : Tryz.prog.underlying t = some (.slice e)) (hl : Long d n) : n = 0 ∨ ∃ m ∈ d.weights Tryz.prog t, n * Tryz.prog.bytesOf e ≤ m := by
  rcases hl with rfl | ⟨elems, spare, rfl, hn⟩
  · exact .inl rfl
  · refine .inr ⟨(elems.length + spare.length) * Tryz.prog.bytesOf e, by simp [DataW.weights, hu], Nat.mul_le_mul_right _ hn⟩
/-- A weight of one of the fields is a weight of the whole. -/
theorem weigh_field {H : Type} {P : Program} {t : TypeId} {fs : Array Field} {parts : List (DataW H)} (hu : P.underlying t = some (.struct fs)) {j : Nat} {f : Field} {d : DataW H} (hf : fs[j]? = some f) (hd : parts[j]? = some d) {n : Nat} (hn : n ∈ d.weights P f.type) : n ∈ (DataW.agg parts).weights P t := by
  simp only [DataW.weights, hu]
  exact DataW.weights_mem_each (j := j) (by simp [hf]) hd n hn
set_option maxRecDepth 100000 in
theorem openCall {H : Type} {enc : TypeId × Value → H} {W : World} {a : Addr} {n : Nat} {cs : List Value} {y : DataW H × List MemPlace} (hc : W.cells? 0 a 5 = some cs) (h : DataW.trod enc Tryz.prog W 0 (fun _ => true) true n 35 cs = some y) :
    ∃ x : Call5, W.cell? (a.add 0) = some (.int .i64 x.kind) ∧ W.cell? (a.add 1) = some (.int .i64 x.num) ∧ W.cell? (a.add 2) = some (.string ⟨x.a.toArray⟩) ∧ W.cell? (a.add 3) = some x.dv ∧ W.cell? (a.add 4) = some x.cv ∧ x.Reads W ∧
      ((∀ m ∈ y.1.weights Tryz.prog 35, m ≤ reachBytes) → x.data.length ≤ 140737488355328 ∧ x.cuts.length ≤ 17592186044416) := by
  obtain ⟨-, hlen, hcell⟩ := World.cells?_some hc
  match cs, hlen with
  | [c0, c1, c2, c3, c4], _ =>
    have g0 := hcell 0 (by omega)
    have g1 := hcell 1 (by omega)
    have g2 := hcell 2 (by omega)
    have g3 := hcell 3 (by omega)
    have g4 := hcell 4 (by omega)
    obtain ⟨xs, m, -, rfl, -, hl, hf⟩ := DataW.trod_struct Tryz.underlying35 h
    have hl6 : xs.length = 5 := hl
    match xs, hl6 with
    | [y0, y1, y2, y3, y4], _ =>
      have h0 : DataW.trod enc Tryz.prog W 0 (fun _ => true) true m 3 [c0] = some y0 := by have := hf 0 _ rfl; simpa [cellsInt] using this
      have h1 : DataW.trod enc Tryz.prog W 0 (fun _ => true) true m 3 [c1] = some y1 := by have := hf 1 _ rfl; simpa [cellsInt] using this
      have h2 : DataW.trod enc Tryz.prog W 0 (fun _ => true) true m 9 [c2] = some y2 := by have := hf 2 _ rfl; simpa [cellsStr] using this
      have h3 : DataW.trod enc Tryz.prog W 0 (fun _ => true) true m 32 [c3] = some y3 := by have := hf 3 _ rfl; simpa [cellsBts] using this
      have h4 : DataW.trod enc Tryz.prog W 0 (fun _ => true) true m 33 [c4] = some y4 := by have := hf 4 _ rfl; simpa [cellsInts] using this
      obtain ⟨x0, e0, -, -⟩ := DataW.trod_int Tryz.underlying3 h0
      obtain rfl : c0 = .int .i64 x0 := by simpa using e0
      obtain ⟨x1, e1, -, -⟩ := DataW.trod_int Tryz.underlying3 h1
      obtain rfl : c1 = .int .i64 x1 := by simpa using e1
      obtain ⟨⟨⟨s2⟩⟩, e2, -, -⟩ := DataW.trod_string Tryz.underlying9 h2
      obtain rfl : c2 = .string ⟨⟨s2⟩⟩ := by simpa using e2
      obtain ⟨ld, b3, r3⟩ := openBtsAt h3
      obtain ⟨lc, b4, r4⟩ := openIntsAt h4
      refine ⟨⟨x0, x1, s2, c3, ld, c4, lc⟩, g0, g1, g2, g3, g4, ⟨b3, b4⟩, fun hw => ⟨?_, ?_⟩⟩
      · rcases Long.weight Tryz.underlying32 r3 with e | ⟨m', hm', hle⟩
        · simp only at e ⊢; omega
        · have h1 := hw m' (weigh_field Tryz.underlying35 (j := 3) rfl rfl hm')
          have h2 := reachBytes_lt
          rw [bytesByte] at hle
          simp only
          omega
      · rcases Long.weight Tryz.underlying33 r4 with e | ⟨m', hm', hle⟩
        · simp only at e ⊢; omega
        · have h1 := hw m' (weigh_field Tryz.underlying35 (j := 4) rfl rfl hm')
          have h2 := reachBytes_lt
          rw [bytesInt] at hle
          simp only
          omega
set_option maxRecDepth 100000 in
theorem openSOps {H : Type} {enc : TypeId × Value → H} {W : World} {a0 : Option Addr} {len cap : Nat} {d0 : DataW H} {p : List MemPlace} (h0 : DataW.Trod enc Tryz.prog W 0 (fun _ => true) true 22 (.slice a0 len cap) d0 p) :
    ∃ xs : List Call5, Script5 W (.slice a0 len cap) xs ∧ ((∀ m ∈ d0.weights Tryz.prog 22, m ≤ reachBytes) → xs.length ≤ 1760000000000 ∧ ∀ x ∈ xs, x.data.length ≤ 140737488355328 ∧ x.cuts.length ≤ 17592186044416) := by
  obtain ⟨fuel, hf⟩ := h0
  rcases Go.Deep.open_slice Tryz.underlying22 hf with ⟨hcs, hx⟩ | ⟨a, len', cap', m, n, D, Pl, hcs, -, hl, hm, hmm, hx, hat⟩
  · simp [Value.cells] at hcs
    obtain ⟨rfl, rfl, rfl⟩ := hcs
    exact ⟨[], ⟨none, 0, rfl, Nat.le_refl _, by decide, fun h => absurd h (by simp)⟩, fun _ => ⟨by simp, fun x hx => by cases hx⟩⟩
  · simp [Value.cells] at hcs
    obtain ⟨rfl, rfl, rfl⟩ := hcs
    simp only [Prod.mk.injEq] at hx
    obtain ⟨rfl, rfl⟩ := hx
    simp only [if_true] at hmm
    subst hmm
    rw [cellsOp] at hat
    obtain ⟨F, hF⟩ := Go.Deep.choose_lt (α := Call5) (n := len) (p := fun i x => W.cell? ((a.add (i * 5)).add 0) = some (.int .i64 x.kind) ∧ W.cell? ((a.add (i * 5)).add 1) = some (.int .i64 x.num) ∧ W.cell? ((a.add (i * 5)).add 2) = some (.string ⟨x.a.toArray⟩) ∧ W.cell? ((a.add (i * 5)).add 3) = some x.dv ∧ W.cell? ((a.add (i * 5)).add 4) = some x.cv ∧ x.Reads W ∧
      ((∀ m ∈ (D i).weights Tryz.prog 35, m ≤ reachBytes) → x.data.length ≤ 140737488355328 ∧ x.cuts.length ≤ 17592186044416)) (fun i hi => by
      obtain ⟨cs', h1, h2⟩ := hat i (by omega)
      exact openCall h1 h2)
    refine ⟨(List.range len).map F, ⟨some a, m, by simp, by simpa using hl, hm, fun hpos => ?_⟩, fun hw => ⟨?_, fun x hx => ?_⟩⟩
    · have hp : 0 < len := by simpa using hpos
      have hz := (hF 0 hp).1
      rw [show a.add (0 * 5) = a by simp [Addr.add]] at hz
      obtain ⟨b, o, rfl⟩ := addr_plain hz
      refine ⟨b, o, rfl, fun k x hx => ?_⟩
      have hk : k < len := by
        have := (List.getElem?_eq_some_iff.1 hx).1
        simpa using this
      simp only [List.getElem?_map, List.getElem?_range hk, Option.map_some, Option.some.injEq] at hx
      subst hx
      have := hF k hk
      simp only [Go.WideShapes.add_plain] at this
      exact ⟨this.1, this.2.1, this.2.2.1, this.2.2.2.1, this.2.2.2.2.1, this.2.2.2.2.2.1⟩
    · have h1 := hw ((len + (m - len)) * Tryz.prog.bytesOf 35) (by simp [DataW.weights, Tryz.underlying22])
      rw [bytesOp] at h1
      have h2 := reachBytes_lt
      simp only [List.length_map, List.length_range]
      omega
    · obtain ⟨i, hi, rfl⟩ := List.mem_map.1 hx
      have hi' : i < len := by simpa using hi
      refine (hF i hi').2.2.2.2.2.2 (fun m' hm' => hw m' ?_)
      simp only [DataW.weights, Tryz.underlying22, List.mem_cons, List.mem_append]
      exact .inr (.inl (weigh_all (List.mem_map.2 ⟨i, hi, rfl⟩) hm'))
end Go.Proofs.YtngbgngfdklnlaaGreatDoor
