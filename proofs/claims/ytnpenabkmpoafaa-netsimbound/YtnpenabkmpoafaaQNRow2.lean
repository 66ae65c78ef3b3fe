/- How a script is opened: six cells each; the reach of what lies inside. -/
import Derived.Test.YtnpenabkmpoafaaQNRow
import Derived.Test.YtnpenabkmpoafaaQNOps
set_option linter.unusedVariables false
set_option linter.unusedSimpArgs false
namespace Go.Proofs.Ytnpenabkmpoafaa
open Go.ChangeShapes Go.WideShapes Go.ChangeAt Go.RowKit Go.Joins
theorem cellsOp : Try.prog.cellsOf 39 = 6 := by kernel_rfl
theorem bytesOp : Try.prog.bytesOf 39 = 80 := by kernel_rfl
theorem cellsParts : Try.prog.cellsOf 36 = 1 := by kernel_rfl
instance : Inhabited Op6 := ⟨⟨0, 0, 0, 0, .bool false, [], .bool false, []⟩⟩
theorem Long.weight {H : Type} {t e : TypeId} {d : DataW H} {n : Nat} (hu : Try.prog.underlying t = some (.slice e)) (hl : Long d n) : n = 0 ∨ ∃ m ∈ d.weights Try.prog t, n * Try.prog.bytesOf e ≤ m := by
  rcases hl with rfl | ⟨elems, spare, rfl, hn⟩
  · exact .inl rfl
  · refine .inr ⟨(elems.length + spare.length) * Try.prog.bytesOf e, by simp [DataW.weights, hu], Nat.mul_le_mul_right _ hn⟩
/-- A weight of one of the fields is a weight of the whole. -/
theorem weigh_field {H : Type} {P : Program} {t : TypeId} {fs : Array Field} {parts : List (DataW H)} (hu : P.underlying t = some (.struct fs)) {j : Nat} {f : Field} {d : DataW H} (hf : fs[j]? = some f) (hd : parts[j]? = some d) {n : Nat} (hn : n ∈ d.weights P f.type) : n ∈ (DataW.agg parts).weights P t := by
  simp only [DataW.weights, hu]
  exact DataW.weights_mem_each (j := j) (by simp [hf]) hd n hn
theorem i64_top {x : Int} (h : (Lit.int .i64 x).wf = true) : -9223372036854775808 ≤ x ∧ x ≤ 9223372036854775807 := by
  have h1 : IntKind.i64.min = -9223372036854775808 := rfl
  have h2 : IntKind.i64.max = 9223372036854775807 := rfl
  simp only [Lit.wf, Bool.and_eq_true, decide_eq_true_eq] at h
  omega
set_option maxRecDepth 100000 in
theorem openOp {H : Type} {enc : TypeId × Value → H} {W : World} {a : Addr} {n : Nat} {cs : List Value} {y : DataW H × List MemPlace} (hc : W.cells? 0 a 6 = some cs) (h : DataW.trod enc Try.prog W 0 (fun _ => true) true n 39 cs = some y) :
    ∃ x : Op6, W.cell? (a.add 0) = some (.int .i64 x.kind) ∧ W.cell? (a.add 1) = some (.int .i64 x.a) ∧ W.cell? (a.add 2) = some (.int .i64 x.b) ∧ W.cell? (a.add 3) = some (.int .i64 x.n) ∧ W.cell? (a.add 4) = some x.lv ∧ W.cell? (a.add 5) = some x.nv ∧ x.Reads W ∧
      ((∀ m ∈ y.1.weights Try.prog 39, m ≤ reachBytes) → x.Fits) ∧ (-9223372036854775808 ≤ x.n ∧ x.n ≤ 9223372036854775807) ∧ x.list.length ≤ Rows.uptoBulk y.1 := by
  obtain ⟨-, hlen, hcell⟩ := World.cells?_some hc
  match cs, hlen with
  | [c0, c1, c2, c3, c4, c5], _ =>
    have g0 := hcell 0 (by omega)
    have g1 := hcell 1 (by omega)
    have g2 := hcell 2 (by omega)
    have g3 := hcell 3 (by omega)
    have g4 := hcell 4 (by omega)
    have g5 := hcell 5 (by omega)
    obtain ⟨xs, m, -, rfl, -, hl, hf⟩ := DataW.trod_struct Try.underlying39 h
    have hl6 : xs.length = 6 := hl
    match xs, hl6 with
    | [y0, y1, y2, y3, y4, y5], _ =>
      have h0 : DataW.trod enc Try.prog W 0 (fun _ => true) true m 3 [c0] = some y0 := by have := hf 0 _ rfl; simpa [cellsInt] using this
      have h1 : DataW.trod enc Try.prog W 0 (fun _ => true) true m 3 [c1] = some y1 := by have := hf 1 _ rfl; simpa [cellsInt] using this
      have h2 : DataW.trod enc Try.prog W 0 (fun _ => true) true m 3 [c2] = some y2 := by have := hf 2 _ rfl; simpa [cellsInt] using this
      have h3 : DataW.trod enc Try.prog W 0 (fun _ => true) true m 3 [c3] = some y3 := by have := hf 3 _ rfl; simpa [cellsInt] using this
      have h4 : DataW.trod enc Try.prog W 0 (fun _ => true) true m 36 [c4] = some y4 := by have := hf 4 _ rfl; simpa [cellsParts] using this
      have h5 : DataW.trod enc Try.prog W 0 (fun _ => true) true m 37 [c5] = some y5 := by have := hf 5 _ rfl; simpa [cellsInts] using this
      obtain ⟨x0, e0, -, -⟩ := DataW.trod_int Try.underlying3 h0
      obtain rfl : c0 = .int .i64 x0 := by simpa using e0
      obtain ⟨x1, e1, -, -⟩ := DataW.trod_int Try.underlying3 h1
      obtain rfl : c1 = .int .i64 x1 := by simpa using e1
      obtain ⟨x2, e2, -, -⟩ := DataW.trod_int Try.underlying3 h2
      obtain rfl : c2 = .int .i64 x2 := by simpa using e2
      obtain ⟨x3, e3, -, wf3⟩ := DataW.trod_int Try.underlying3 h3
      obtain rfl : c3 = .int .i64 x3 := by simpa using e3
      obtain ⟨al, ll, cl, hl4⟩ := slice_form Try.underlying36 h4
      obtain rfl : c4 = .slice al ll cl := by simpa using hl4
      obtain ⟨ls, b4, k4, r4⟩ := openRecsN (p := y4.2) h4
      obtain ⟨lc, b5, r5⟩ := openIntsAt h5
      refine ⟨⟨x0, x1, x2, x3, .slice al ll cl, ls, c5, lc⟩, g0, g1, g2, g3, g4, g5, ⟨b4, b5⟩, fun hw => ?_, ?_, ?_⟩
      · have hr : reachBytes = 140737488351232 := by decide
        have q4 := r4 (fun n hn => hw n (weigh_field Try.underlying39 (j := 4) rfl rfl hn))
        refine ⟨by show ls.length ≤ _; have := q4.1; omega, fun l hl => by have := q4.2 l hl; omega, ?_⟩
        rcases Long.weight Try.underlying37 r5 with e | ⟨m', hm', hle⟩
        · simp only at e ⊢; omega
        · have h1 := hw m' (weigh_field Try.underlying39 (j := 5) rfl rfl hm')
          rw [bytesInt] at hle
          simp only
          omega
      · exact i64_top wf3
      · show ls.length ≤ Rows.uptoBulk (DataW.agg [y0.1, y1.1, y2.1, y3.1, y4.1, y5.1])
        simp only [Rows.uptoBulk, Rows.uptoBulkAll]
        omega
theorem total_bulk {H : Type} (F : Nat → Op6) (D : Nat → DataW H) : ∀ l : List Nat, (∀ i ∈ l, (F i).list.length ≤ Rows.uptoBulk (D i)) → total (l.map F) ≤ Rows.uptoBulkAll (l.map D)
  | [], _ => Nat.zero_le _
  | i :: r, h => by
    have h1 := h i (by simp)
    have h2 := total_bulk F D r (fun j hj => h j (by simp [hj]))
    unfold total at *
    simp only [List.map_cons, List.sum_cons, Rows.uptoBulkAll]
    omega
set_option maxRecDepth 100000 in
theorem openScript6 {H : Type} {enc : TypeId × Value → H} {W : World} {base : Nat} {v : Value} {d0 : DataW H} {p : List MemPlace} (hv : Value.okWide Try.prog W .any base 22 v) (h0 : DataW.Trod enc Try.prog W 0 (fun _ => true) true 22 v d0 p) :
    ∃ xs : List Op6, Script6 W v xs ∧ (∀ x ∈ xs, (-9223372036854775808 ≤ x.n ∧ x.n ≤ 9223372036854775807)) ∧ (total xs ≤ Rows.uptoBulk d0 ∧ xs.length ≤ Rows.uptoBulk d0) ∧ ((∀ m ∈ d0.weights Try.prog 22, m ≤ reachBytes) → xs.length ≤ 1759218604390 ∧ ∀ x ∈ xs, x.Fits) := by
  obtain ⟨a0, len, cap, rfl⟩ := okWide_slice Try.underlying22 hv
  obtain ⟨fuel, hf⟩ := h0
  rcases Go.Deep.open_slice Try.underlying22 hf with ⟨hcs, hx⟩ | ⟨a, len', cap', m, n, D, Pl, hcs, -, hl, hm, hmm, hx, hat⟩
  · simp [Value.cells] at hcs
    obtain ⟨rfl, rfl, rfl⟩ := hcs
    exact ⟨[], ⟨none, 0, rfl, Nat.le_refl _, by decide, fun h => absurd h (by simp)⟩, fun x hx => (by cases hx), ⟨Nat.zero_le _, Nat.zero_le _⟩, fun _ => ⟨by simp, fun x hx => by cases hx⟩⟩
  · simp [Value.cells] at hcs
    obtain ⟨rfl, rfl, rfl⟩ := hcs
    simp only [Prod.mk.injEq] at hx
    obtain ⟨rfl, rfl⟩ := hx
    simp only [if_true] at hmm
    subst hmm
    rw [cellsOp] at hat
    obtain ⟨F, hF⟩ := Go.Deep.choose_lt (α := Op6) (n := len) (p := fun i x => W.cell? ((a.add (i * 6)).add 0) = some (.int .i64 x.kind) ∧ W.cell? ((a.add (i * 6)).add 1) = some (.int .i64 x.a) ∧ W.cell? ((a.add (i * 6)).add 2) = some (.int .i64 x.b) ∧ W.cell? ((a.add (i * 6)).add 3) = some (.int .i64 x.n) ∧ W.cell? ((a.add (i * 6)).add 4) = some x.lv ∧ W.cell? ((a.add (i * 6)).add 5) = some x.nv ∧ x.Reads W ∧
      ((∀ m ∈ (D i).weights Try.prog 39, m ≤ reachBytes) → x.Fits) ∧ (-9223372036854775808 ≤ x.n ∧ x.n ≤ 9223372036854775807) ∧ x.list.length ≤ Rows.uptoBulk (D i)) (fun i hi => by
      obtain ⟨cs', h1, h2⟩ := hat i (by omega)
      exact openOp h1 h2)
    refine ⟨(List.range len).map F, ⟨some a, m, by simp, by simpa using hl, hm, fun hpos => ?_⟩, fun x hx => ?_, ⟨?_, ?_⟩, fun hw => ⟨?_, fun x hx => ?_⟩⟩
    · have hp : 0 < len := by simpa using hpos
      have hz := (hF 0 hp).1
      rw [show a.add (0 * 6) = a by simp [Addr.add]] at hz
      obtain ⟨b, o, rfl⟩ := addr_plain hz
      refine ⟨b, o, rfl, fun k x hx => ?_⟩
      have hk : k < len := by
        have := (List.getElem?_eq_some_iff.1 hx).1
        simpa using this
      simp only [List.getElem?_map, List.getElem?_range hk, Option.map_some, Option.some.injEq] at hx
      subst hx
      have := hF k hk
      simp only [Go.WideShapes.add_plain] at this
      exact ⟨this.1, this.2.1, this.2.2.1, this.2.2.2.1, this.2.2.2.2.1, this.2.2.2.2.2.1, this.2.2.2.2.2.2.1⟩
    · obtain ⟨i, hi, rfl⟩ := List.mem_map.1 hx
      exact (hF i (by simpa using hi)).2.2.2.2.2.2.2.2.1
    · have h2 := total_bulk F D (List.range len) (fun i hi => (hF i (by simpa using hi)).2.2.2.2.2.2.2.2.2)
      simp only [Rows.uptoBulk]
      omega
    · have h2 := bulk_len ((List.range len).map D)
      simp only [Rows.uptoBulk, List.length_map, List.length_range] at h2 ⊢
      omega
    · have h1 := hw ((len + (m - len)) * Try.prog.bytesOf 39) (by simp [DataW.weights, Try.underlying22])
      rw [bytesOp] at h1
      have h2 : reachBytes = 140737488351232 := by decide
      simp only [List.length_map, List.length_range]
      omega
    · obtain ⟨i, hi, rfl⟩ := List.mem_map.1 hx
      have hi' : i < len := by simpa using hi
      refine (hF i hi').2.2.2.2.2.2.2.1 (fun m' hm' => hw m' ?_)
      simp only [DataW.weights, Try.underlying22, List.mem_cons, List.mem_append]
      exact .inr (.inl (weights_mem_all (List.mem_map.2 ⟨i, hi, rfl⟩) m' hm'))
end Go.Proofs.Ytnpenabkmpoafaa
