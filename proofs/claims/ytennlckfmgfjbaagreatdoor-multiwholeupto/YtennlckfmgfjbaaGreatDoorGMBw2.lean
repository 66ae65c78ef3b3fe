/- The walk of MultiBounds. How a script of transactions, and a quota, are opened; their bulk. -/
import Derived.Test.YtennlckfmgfjbaaGreatDoorGMSa3
import Derived.Deep.CutBlock
import Derived.Deep.DeepCutAuto
import Derived.Test.YtennlckfmgfjbaaGreatDoorGZMd2
import Derived.Test.YtennlckfmgfjbaaGreatDoorGApp3
set_option linter.unusedSimpArgs false
set_option linter.unusedVariables false
namespace Go.Proofs.YtennlckfmgfjbaaGreatDoor
open Go.RowKit
end Go.Proofs.YtennlckfmgfjbaaGreatDoor
set_option linter.unusedVariables false
set_option linter.unusedSimpArgs false
namespace Go.Proofs.YtennlckfmgfjbaaGreatDoor
open Go.ChangeShapes Go.WideShapes Go.ChangeAt Go.RowKit Go.Joins
theorem cellsOpM : Tryz.prog.cellsOf 46 = 6 := by kernel_rfl
theorem cellsOpsM : Tryz.prog.cellsOf 26 = 1 := by kernel_rfl
theorem cellsQuo : Tryz.prog.cellsOf 25 = 2 := by kernel_rfl
theorem cellsTxn : Tryz.prog.cellsOf 28 = 6 := by kernel_rfl
instance : Inhabited OpM := ⟨⟨0, [], [], 0, false, false⟩⟩
instance : Inhabited OpX := ⟨⟨default, .bool false⟩⟩
instance : Inhabited TxnX := ⟨⟨[], 0, 0, 0, .bool false, [], false⟩⟩
set_option maxRecDepth 100000 in
theorem openOpM {H : Type} {enc : TypeId × Value → H} {W : World} {n : Nat} {c0 c1 c2 c3 c4 c5 : Value} {y : DataW H × List MemPlace} (h : DataW.trod enc Tryz.prog W 0 (fun _ => true) true n 46 [c0, c1, c2, c3, c4, c5] = some y) :
    ∃ x : OpX, c0 = .int .i64 x.o.kind ∧ c1 = .string ⟨x.o.path.toArray⟩ ∧ c2 = x.dv ∧ c3 = .int .i64 x.o.ver ∧ c4 = .bool x.o.eph ∧ c5 = .bool x.o.seq ∧ Bts W x.dv x.o.data ∧ x.o.data.length ≤ Rows.uptoBulk y.1 := by
  obtain ⟨xs, m, -, rfl, -, hl, hf⟩ := DataW.trod_struct Tryz.underlying46 h
  have hl6 : xs.length = 6 := hl
  match xs, hl6 with
  | [y0, y1, y2, y3, y4, y5], _ =>
    have h0 : DataW.trod enc Tryz.prog W 0 (fun _ => true) true m 3 [c0] = some y0 := by have := hf 0 _ rfl; simpa [cellsInt] using this
    have h1 : DataW.trod enc Tryz.prog W 0 (fun _ => true) true m 9 [c1] = some y1 := by have := hf 1 _ rfl; simpa [cellsStr] using this
    have h2 : DataW.trod enc Tryz.prog W 0 (fun _ => true) true m 39 [c2] = some y2 := by have := hf 2 _ rfl; simpa [cellsBts] using this
    have h3 : DataW.trod enc Tryz.prog W 0 (fun _ => true) true m 3 [c3] = some y3 := by have := hf 3 _ rfl; simpa [cellsInt] using this
    have h4 : DataW.trod enc Tryz.prog W 0 (fun _ => true) true m 4 [c4] = some y4 := by have := hf 4 _ rfl; simpa [cellsBool] using this
    have h5 : DataW.trod enc Tryz.prog W 0 (fun _ => true) true m 4 [c5] = some y5 := by have := hf 5 _ rfl; simpa [cellsBool] using this
    obtain ⟨x0, e0, -, -⟩ := DataW.trod_int Tryz.underlying3 h0
    obtain rfl : c0 = .int .i64 x0 := by simpa using e0
    obtain ⟨⟨⟨s1⟩⟩, e1, -, -⟩ := DataW.trod_string Tryz.underlying9 h1
    obtain rfl : c1 = .string ⟨⟨s1⟩⟩ := by simpa using e1
    obtain ⟨ld, b2, r2⟩ := openBtsAt h2
    obtain ⟨x3, e3, -, -⟩ := DataW.trod_int Tryz.underlying3 h3
    obtain rfl : c3 = .int .i64 x3 := by simpa using e3
    obtain ⟨x4, e4, -⟩ := DataW.trod_bool Tryz.underlying4 h4
    obtain rfl : c4 = .bool x4 := by simpa using e4
    obtain ⟨x5, e5, -⟩ := DataW.trod_bool Tryz.underlying4 h5
    obtain rfl : c5 = .bool x5 := by simpa using e5
    refine ⟨⟨⟨x0, s1, ld, x3, x4, x5⟩, c2⟩, rfl, rfl, rfl, rfl, rfl, rfl, b2, ?_⟩
    have k2 := r2.bulk
    simp only [List.map_cons, List.map_nil, Rows.uptoBulk, Rows.uptoBulkAll]
    omega
set_option maxRecDepth 100000 in
theorem openOpsM {H : Type} {enc : TypeId × Value → H} {W : World} {fuel : Nat} {v : Value} {y : DataW H × List MemPlace} (h0 : DataW.trod enc Tryz.prog W 0 (fun _ => true) true fuel 26 [v] = some y) :
    ∃ xs : List OpX, Ops8 W v xs ∧ xs.length ≤ Rows.uptoBulk y.1 ∧ ∀ x ∈ xs, x.o.data.length ≤ Rows.uptoBulk y.1 := by
  obtain ⟨a0, len, cap, hv⟩ := slice_form Tryz.underlying26 h0
  obtain rfl : v = .slice a0 len cap := by simpa using hv
  obtain ⟨d0, p⟩ := y
  rcases Go.Deep.open_slice Tryz.underlying26 h0 with ⟨hcs, hx⟩ | ⟨a, len', cap', m, n, D, Pl, hcs, -, hl, hm, hmm, hx, hat⟩
  · simp [Value.cells] at hcs
    obtain ⟨rfl, rfl, rfl⟩ := hcs
    exact ⟨[], ⟨none, 0, rfl, Nat.le_refl _, by decide, fun h => absurd h (by simp)⟩, Nat.zero_le _, fun x hx => by cases hx⟩
  · simp [Value.cells] at hcs
    obtain ⟨rfl, rfl, rfl⟩ := hcs
    simp only [Prod.mk.injEq] at hx
    obtain ⟨rfl, rfl⟩ := hx
    simp only [if_true] at hmm
    subst hmm
    rw [cellsOpM] at hat
    obtain ⟨F, hF⟩ := Go.Deep.choose_lt (α := OpX) (n := len) (p := fun i x => W.cell? ((a.add (i * 6)).add 0) = some (.int .i64 x.o.kind) ∧ W.cell? ((a.add (i * 6)).add 1) = some (.string ⟨x.o.path.toArray⟩) ∧ W.cell? ((a.add (i * 6)).add 2) = some x.dv ∧ W.cell? ((a.add (i * 6)).add 3) = some (.int .i64 x.o.ver) ∧ W.cell? ((a.add (i * 6)).add 4) = some (.bool x.o.eph) ∧ W.cell? ((a.add (i * 6)).add 5) = some (.bool x.o.seq) ∧ Bts W x.dv x.o.data ∧
      x.o.data.length ≤ Rows.uptoBulk (D i)) (fun i hi => by
      obtain ⟨cs', h1, h2⟩ := hat i (by omega)
      obtain ⟨-, hlen, hcell⟩ := World.cells?_some h1
      match cs', hlen with
      | [c0, c1, c2, c3, c4, c5], _ =>
        have g0 := hcell 0 (by omega)
        have g1 := hcell 1 (by omega)
        have g2 := hcell 2 (by omega)
        have g3 := hcell 3 (by omega)
        have g4 := hcell 4 (by omega)
        have g5 := hcell 5 (by omega)
        obtain ⟨x, rfl, rfl, rfl, rfl, rfl, rfl, b, z⟩ := openOpM h2
        exact ⟨x, g0, g1, g2, g3, g4, g5, b, z⟩)
    refine ⟨(List.range len).map F, ⟨some a, m, by simp, by simpa using hl, hm, fun hpos => ?_⟩, ?_, fun x hx => ?_⟩
    · have hp : 0 < len := by simpa using hpos
      have hz := (hF 0 hp).1
      rw [show a.add (0 * 6) = a by simp [Addr.add]] at hz
      obtain ⟨b, o, rfl⟩ := addr_plain hz
      refine ⟨b, o, rfl, fun k x hx => ?_⟩
      have hk : k < len := by
        have := (List.getElem?_eq_some_iff.1 hx).1
        simpa using this
      simp only [List.getElem?_map, List.getElem?_range hk, Option.map_some, Option.some.injEq] at hx
      subst hx
      have := hF k hk
      simp only [Go.WideShapes.add_plain] at this
      exact ⟨this.1, this.2.1, this.2.2.1, this.2.2.2.1, this.2.2.2.2.1, this.2.2.2.2.2.1, this.2.2.2.2.2.2.1⟩
    · have h2 := bulk_len ((List.range len).map D)
      simp only [List.length_map, List.length_range] at h2 ⊢
      simp only [Rows.uptoBulk]
      omega
    · obtain ⟨i, hi, rfl⟩ := List.mem_map.1 hx
      have hi' : i < len := by simpa using hi
      have h3 := (hF i hi').2.2.2.2.2.2.2
      have h4 := bulk_mem (l := (List.range len).map D) (List.mem_map.2 ⟨i, hi, rfl⟩)
      simp only [Rows.uptoBulk]
      omega
/-- What is known of one transaction's bulk. -/
def TxnB (x : TxnX) (n : Nat) : Prop := x.home.length ≤ n ∧ x.ops.length ≤ n ∧ ∀ o ∈ x.ops, o.o.data.length ≤ n
theorem TxnB.fits {x : TxnX} {n : Nat} (h : TxnB x n) (hn : n ≤ 1048576) : x.Fits := ⟨by have := h.1; omega, by have := h.2.1; omega, fun o ho => by have := h.2.2 o ho; omega⟩
theorem TxnB.more {x : TxnX} {n m : Nat} (h : TxnB x n) (hn : n ≤ m) : TxnB x m := ⟨by have := h.1; omega, by have := h.2.1; omega, fun o ho => by have := h.2.2 o ho; omega⟩
set_option maxRecDepth 100000 in
theorem openTxn {H : Type} {enc : TypeId × Value → H} {W : World} {n : Nat} {c0 c1 c2 c3 c4 c5 : Value} {y : DataW H × List MemPlace} (h : DataW.trod enc Tryz.prog W 0 (fun _ => true) true n 28 [c0, c1, c2, c3, c4, c5] = some y) :
    ∃ x : TxnX, c0 = .string ⟨x.home.toArray⟩ ∧ c1 = .int .i64 x.owner ∧ c2 = .int .i64 x.qn ∧ c3 = .int .i64 x.qb ∧ c4 = x.ov ∧ c5 = .bool x.sweep ∧ x.Reads W ∧ TxnB x (Rows.uptoBulk y.1) := by
  obtain ⟨xs, m, -, rfl, -, hl, hf⟩ := DataW.trod_struct Tryz.underlying28 h
  have hl6 : xs.length = 5 := hl
  match xs, hl6 with
  | [y0, y1, y2, y3, y4], _ =>
    have h0 : DataW.trod enc Tryz.prog W 0 (fun _ => true) true m 9 [c0] = some y0 := by have := hf 0 _ rfl; simpa [cellsStr] using this
    have h1 : DataW.trod enc Tryz.prog W 0 (fun _ => true) true m 3 [c1] = some y1 := by have := hf 1 _ rfl; simpa [cellsStr, cellsInt] using this
    have h2 : DataW.trod enc Tryz.prog W 0 (fun _ => true) true m 25 [c2, c3] = some y2 := by have := hf 2 _ rfl; simpa [cellsStr, cellsInt, cellsQuo] using this
    have h3 : DataW.trod enc Tryz.prog W 0 (fun _ => true) true m 26 [c4] = some y3 := by have := hf 3 _ rfl; simpa [cellsStr, cellsInt, cellsQuo, cellsOpsM] using this
    have h4 : DataW.trod enc Tryz.prog W 0 (fun _ => true) true m 4 [c5] = some y4 := by have := hf 4 _ rfl; simpa [cellsStr, cellsInt, cellsQuo, cellsOpsM, cellsBool] using this
    obtain ⟨⟨⟨s0⟩⟩, e0, hy0, -⟩ := DataW.trod_string Tryz.underlying9 h0
    obtain rfl : c0 = .string ⟨⟨s0⟩⟩ := by simpa using e0
    obtain ⟨x1, e1, -, -⟩ := DataW.trod_int Tryz.underlying3 h1
    obtain rfl : c1 = .int .i64 x1 := by simpa using e1
    obtain ⟨x2, x3, rfl, rfl⟩ : ∃ x2 x3, c2 = .int .i64 x2 ∧ c3 = .int .i64 x3 := by
      obtain ⟨zs, m2, -, rfl, -, hl2, hf2⟩ := DataW.trod_struct Tryz.underlying25 h2
      have hl3 : zs.length = 2 := hl2
      match zs, hl3 with
      | [z0, z1], _ =>
        have g0 : DataW.trod enc Tryz.prog W 0 (fun _ => true) true m2 3 [c2] = some z0 := by have := hf2 0 _ rfl; simpa [cellsInt] using this
        have g1 : DataW.trod enc Tryz.prog W 0 (fun _ => true) true m2 3 [c3] = some z1 := by have := hf2 1 _ rfl; simpa [cellsInt] using this
        obtain ⟨a2, e2, -, -⟩ := DataW.trod_int Tryz.underlying3 g0
        obtain ⟨a3, e3, -, -⟩ := DataW.trod_int Tryz.underlying3 g1
        exact ⟨a2, a3, by simpa using e2, by simpa using e3⟩
    obtain ⟨os, ho, hol, hod⟩ := openOpsM h3
    obtain ⟨x5, e5, -⟩ := DataW.trod_bool Tryz.underlying4 h4
    obtain rfl : c5 = .bool x5 := by simpa using e5
    refine ⟨⟨s0, x1, x2, x3, c4, os, x5⟩, rfl, rfl, rfl, rfl, rfl, rfl, ho, ?_, ?_, fun o ho => ?_⟩
    · rw [hy0]
      simp only [List.map_cons, List.map_nil, Rows.uptoBulk, Rows.uptoBulkAll]
      simp
      omega
    · simp only [List.map_cons, List.map_nil, Rows.uptoBulk, Rows.uptoBulkAll]
      omega
    · have := hod o ho
      simp only [List.map_cons, List.map_nil, Rows.uptoBulk, Rows.uptoBulkAll]
      omega
theorem sum_bulk {H : Type} (f : Nat → Nat) (D : Nat → DataW H) (l : List Nat) (h : ∀ i ∈ l, f i ≤ Rows.uptoBulk (D i)) : (l.map f).sum ≤ Rows.uptoBulkAll (l.map D) := by
  induction l with
  | nil => simp
  | cons i r ih =>
    have h1 := h i (.head _)
    have h2 := ih (fun j hj => h j (.tail _ hj))
    simp only [List.map_cons, List.sum_cons, Rows.uptoBulkAll]
    omega
set_option maxRecDepth 100000 in
theorem openTxns {H : Type} {enc : TypeId × Value → H} {W : World} {fuel : Nat} {v : Value} {y : DataW H × List MemPlace} (h0 : DataW.trod enc Tryz.prog W 0 (fun _ => true) true fuel 23 [v] = some y) :
    ∃ xs : List TxnX, Script8 W v xs ∧ xs.length ≤ Rows.uptoBulk y.1 ∧ opsUp xs xs.length ≤ Rows.uptoBulk y.1 ∧ ∀ x ∈ xs, TxnB x (Rows.uptoBulk y.1) := by
  obtain ⟨a0, len, cap, hv⟩ := slice_form Tryz.underlying23 h0
  obtain rfl : v = .slice a0 len cap := by simpa using hv
  obtain ⟨d0, p⟩ := y
  rcases Go.Deep.open_slice Tryz.underlying23 h0 with ⟨hcs, hx⟩ | ⟨a, len', cap', m, n, D, Pl, hcs, -, hl, hm, hmm, hx, hat⟩
  · simp [Value.cells] at hcs
    obtain ⟨rfl, rfl, rfl⟩ := hcs
    exact ⟨[], ⟨none, 0, rfl, Nat.le_refl _, by decide, fun h => absurd h (by simp)⟩, Nat.zero_le _, by simp [opsUp], fun x hx => by cases hx⟩
  · simp [Value.cells] at hcs
    obtain ⟨rfl, rfl, rfl⟩ := hcs
    simp only [Prod.mk.injEq] at hx
    obtain ⟨rfl, rfl⟩ := hx
    simp only [if_true] at hmm
    subst hmm
    rw [cellsTxn] at hat
    obtain ⟨F, hF⟩ := Go.Deep.choose_lt (α := TxnX) (n := len) (p := fun i x => W.cell? ((a.add (i * 6)).add 0) = some (.string ⟨x.home.toArray⟩) ∧ W.cell? ((a.add (i * 6)).add 1) = some (.int .i64 x.owner) ∧ W.cell? ((a.add (i * 6)).add 2) = some (.int .i64 x.qn) ∧ W.cell? ((a.add (i * 6)).add 3) = some (.int .i64 x.qb) ∧ W.cell? ((a.add (i * 6)).add 4) = some x.ov ∧ W.cell? ((a.add (i * 6)).add 5) = some (.bool x.sweep) ∧ x.Reads W ∧
      TxnB x (Rows.uptoBulk (D i))) (fun i hi => by
      obtain ⟨cs', h1, h2⟩ := hat i (by omega)
      obtain ⟨-, hlen, hcell⟩ := World.cells?_some h1
      match cs', hlen with
      | [c0, c1, c2, c3, c4, c5], _ =>
        have g0 := hcell 0 (by omega)
        have g1 := hcell 1 (by omega)
        have g2 := hcell 2 (by omega)
        have g3 := hcell 3 (by omega)
        have g4 := hcell 4 (by omega)
        have g5 := hcell 5 (by omega)
        obtain ⟨x, rfl, rfl, rfl, rfl, rfl, rfl, b, z⟩ := openTxn h2
        exact ⟨x, g0, g1, g2, g3, g4, g5, b, z⟩)
    refine ⟨(List.range len).map F, ⟨some a, m, by simp, by simpa using hl, hm, fun hpos => ?_⟩, ?_, ?_, fun x hx => ?_⟩
    · have hp : 0 < len := by simpa using hpos
      have hz := (hF 0 hp).1
      rw [show a.add (0 * 6) = a by simp [Addr.add]] at hz
      obtain ⟨b, o, rfl⟩ := addr_plain hz
      refine ⟨b, o, rfl, fun k x hx => ?_⟩
      have hk : k < len := by
        have := (List.getElem?_eq_some_iff.1 hx).1
        simpa using this
      simp only [List.getElem?_map, List.getElem?_range hk, Option.map_some, Option.some.injEq] at hx
      subst hx
      have := hF k hk
      simp only [Go.WideShapes.add_plain] at this
      exact ⟨this.1, this.2.1, this.2.2.1, this.2.2.2.1, this.2.2.2.2.1, this.2.2.2.2.2.1, this.2.2.2.2.2.2.1⟩
    · have h2 := bulk_len ((List.range len).map D)
      simp only [List.length_map, List.length_range] at h2 ⊢
      simp only [Rows.uptoBulk]
      omega
    · have h2 := sum_bulk (fun i => (F i).ops.length) D (List.range len) (fun i hi => (hF i (by simpa using hi)).2.2.2.2.2.2.2.2.1)
      unfold opsUp
      rw [List.take_length, List.map_map]
      simp only [Function.comp_def, Rows.uptoBulk]
      omega
    · obtain ⟨i, hi, rfl⟩ := List.mem_map.1 hx
      have hi' : i < len := by simpa using hi
      have h3 := (hF i hi').2.2.2.2.2.2.2
      have h4 := bulk_mem (l := (List.range len).map D) (List.mem_map.2 ⟨i, hi, rfl⟩)
      exact h3.more (by simp only [Rows.uptoBulk]; omega)
theorem openScript8 {H : Type} {enc : TypeId × Value → H} {W : World} {a0 : Option Addr} {len cap : Nat} {d : DataW H} {p : List MemPlace} (h : DataW.Trod enc Tryz.prog W 0 (fun _ => true) true 23 (.slice a0 len cap) d p) :
    ∃ xs : List TxnX, Script8 W (.slice a0 len cap) xs ∧ xs.length ≤ Rows.uptoBulk d ∧ opsUp xs xs.length ≤ Rows.uptoBulk d ∧ ∀ x ∈ xs, TxnB x (Rows.uptoBulk d) := by
  obtain ⟨fuel, hf⟩ := h
  exact openTxns (y := (d, p)) (by simpa [Value.cells] using hf)
set_option maxRecDepth 100000 in
theorem openQuota {H : Type} {enc : TypeId × Value → H} {W : World} {base : Nat} {v : Value} {d : DataW H} {p : List MemPlace} (hv : Value.okWide Tryz.prog W .any base 25 v) (h : DataW.Trod enc Tryz.prog W 0 (fun _ => true) true 25 v d p) :
    ∃ qn qb, v = .agg #[.int .i64 qn, .int .i64 qb] := by
  obtain ⟨cs, rfl, hsz⟩ := okWide_struct Tryz.underlying25 hv
  rw [cellsQuo] at hsz
  obtain ⟨cs⟩ := cs
  obtain ⟨fuel, hf⟩ := h
  match cs, hsz with
  | [c2, c3], _ =>
    obtain ⟨zs, m2, -, hd, -, hl2, hf2⟩ := DataW.trod_struct Tryz.underlying25 (show DataW.trod enc Tryz.prog W 0 (fun _ => true) true fuel 25 [c2, c3] = some (d, p) by simpa [Value.cells] using hf)
    have hl3 : zs.length = 2 := hl2
    match zs, hl3 with
    | [z0, z1], _ =>
      have g0 : DataW.trod enc Tryz.prog W 0 (fun _ => true) true m2 3 [c2] = some z0 := by have := hf2 0 _ rfl; simpa [cellsInt] using this
      have g1 : DataW.trod enc Tryz.prog W 0 (fun _ => true) true m2 3 [c3] = some z1 := by have := hf2 1 _ rfl; simpa [cellsInt] using this
      obtain ⟨a2, e2, -, -⟩ := DataW.trod_int Tryz.underlying3 g0
      obtain ⟨a3, e3, -, -⟩ := DataW.trod_int Tryz.underlying3 g1
      obtain rfl : c2 = .int .i64 a2 := by simpa using e2
      obtain rfl : c3 = .int .i64 a3 := by simpa using e3
      exact ⟨a2, a3, rfl⟩
theorem text_bulk {H : Type} {l : Pth} {d : DataW H} (h : d = .lit (.string l)) : l.length ≤ Rows.uptoBulk d := by
  rw [h]
  simp [Rows.uptoBulk]
end Go.Proofs.YtennlckfmgfjbaaGreatDoor
