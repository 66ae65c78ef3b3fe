/- How arguments are opened in stage 10's rows: a number, a command, a slice of commands, a slice of items; the bounds. -/
import Derived.Test.YtgmpbalibdlhdaaRows
import Derived.Test.YtgmpbalibdlhdaaQIMem
import Derived.ProofKit
import Derived.OpenShut
import Derived.ShutString
import Derived.ChangeOld
import Derived.Below
import Derived.SizedLaws
import Derived.Deep.CondSized
import Derived.SliceStrings
import Derived.Deep.Slices
import Derived.Lib.SmallJoins
set_option linter.unusedSimpArgs false
set_option linter.unusedVariables false
namespace Go.Proofs.Ytgmpbalibdlhdaa
open Go.ChangeShapes Go.WideShapes Go.ChangeAt Go.RowKit Go.Joins
theorem own : ownKnob Try.prog.godebug = none := by kernel_rfl
theorem laidOut : laidOutB Try.prog = true := by kernel_rfl
theorem cellsInt : Try.prog.cellsOf 3 = 1 := by kernel_rfl
theorem cellsStr : Try.prog.cellsOf 9 = 1 := by kernel_rfl
theorem cellsBts : Try.prog.cellsOf 32 = 1 := by kernel_rfl
theorem cellsCmd : Try.prog.cellsOf 34 = 3 := by kernel_rfl
theorem szId : Try.prog.cellsOf 47 = 2 := by kernel_rfl
theorem cellsItem : Try.prog.cellsOf 49 = 6 := by kernel_rfl
theorem bytesItem : Try.prog.bytesOf 49 = 72 := by kernel_rfl
theorem bytesCmd : Try.prog.bytesOf 34 = 48 := by kernel_rfl
instance : Inhabited Cm := ⟨⟨0, [], none, 0, 0⟩⟩
instance : Inhabited It := ⟨⟨default, 0, 0, 0⟩⟩
theorem arr_of {args : Array Value} {l : List Value} (h : args.toList = l) : args = l.toArray := by rw [← h]
theorem addr_plain {W : World} {a : Addr} {v : Value} (h : W.cell? (a.add 0) = some v) : ∃ b o, a = ⟨b, o, none⟩ := by
  obtain ⟨b, off, spot⟩ := a
  have hspot : spot = none := by simpa [Addr.add] using World.cell?_spot h
  subst hspot
  exact ⟨b, off, rfl⟩
theorem weigh_all {H : Type} {P : Program} {e : TypeId} {l : List (DataW H)} {d : DataW H} (h : d ∈ l) {n : Nat} (hn : n ∈ d.weights P e) : n ∈ DataW.weightsAll P e l := by
  induction l with
  | nil => cases h
  | cons x r ih =>
    simp only [DataW.weightsAll, List.mem_append]
    rcases List.mem_cons.1 h with rfl | h
    · exact .inl hn
    · exact .inr (ih h)
/-- A weight of one of the fields is a weight of the whole. -/
theorem weigh_field {H : Type} {P : Program} {t : TypeId} {fs : Array Field} {parts : List (DataW H)} (hu : P.underlying t = some (.struct fs)) {j : Nat} {f : Field} {d : DataW H} (hf : fs[j]? = some f) (hd : parts[j]? = some d) {n : Nat} (hn : n ∈ d.weights P f.type) : n ∈ (DataW.agg parts).weights P t := by
  simp only [DataW.weights, hu]
  exact DataW.weights_mem_each (j := j) (by simp [hf]) hd n hn
theorem weights_arg {H : Type} {ts : List TypeId} {ds : List (DataW H)} (h : (DataW.weightsEach Try.prog ts ds).all (· ≤ reachBytes) = true) {j : Nat} {t : TypeId} {d : DataW H} (ht : ts[j]? = some t) (hd : ds[j]? = some d) : ∀ n ∈ d.weights Try.prog t, n ≤ reachBytes := fun n hn => by
  have := List.all_eq_true.1 h _ (DataW.weights_mem_each ht hd n hn)
  simpa using this
theorem reach_le : reachBytes ≤ 140737488355328 := by decide
set_option maxRecDepth 100000 in
/-- A command's cells. -/
theorem openCm {H : Type} {enc : TypeId × Value → H} {W : World} {n : Nat} {cs : List Value} {y : DataW H × List MemPlace} (hl : cs.length = 3) (h : DataW.trod enc Try.prog W 0 (fun _ => true) true n 34 cs = some y) :
    ∃ c : Cm, cs = [.int .i64 c.kind, .string ⟨c.home.toArray⟩, c.dv] ∧ ((∀ m ∈ y.1.weights Try.prog 34, m ≤ reachBytes) → c.home.length ≤ 140737488355328) := by
  match cs, hl with
  | [c0, c1, c2], _ =>
    obtain ⟨xs, m, -, rfl, -, hl, hf⟩ := DataW.trod_struct Try.underlying34 h
    have hl3 : xs.length = 3 := hl
    match xs, hl3 with
    | [y0, y1, y2], _ =>
      have h0 : DataW.trod enc Try.prog W 0 (fun _ => true) true m 3 [c0] = some y0 := by have := hf 0 _ rfl; simpa [cellsInt] using this
      have h1 : DataW.trod enc Try.prog W 0 (fun _ => true) true m 9 [c1] = some y1 := by have := hf 1 _ rfl; simpa [cellsStr] using this
      have h2 : DataW.trod enc Try.prog W 0 (fun _ => true) true m 32 [c2] = some y2 := by have := hf 2 _ rfl; simpa [cellsBts] using this
      obtain ⟨x0, e0, -, -⟩ := DataW.trod_int Try.underlying3 h0
      obtain rfl : c0 = .int .i64 x0 := by simpa using e0
      obtain ⟨⟨⟨s1⟩⟩, e1, hy1, -⟩ := DataW.trod_string Try.underlying9 h1
      obtain rfl : c1 = .string ⟨⟨s1⟩⟩ := by simpa using e1
      obtain ⟨a, len, cap, hv⟩ := slice_form Try.underlying32 h2
      obtain rfl : c2 = .slice a len cap := by simpa using hv
      refine ⟨⟨x0, s1, a, len, cap⟩, rfl, fun hw => ?_⟩
      have h3 := hw s1.length (weigh_field Try.underlying34 (j := 1) rfl rfl (by
        subst hy1
        simp [DataW.weights]))
      have h4 := reach_le
      simp only
      omega
set_option maxRecDepth 100000 in
/-- An argument that is a command. -/
theorem openCmArg {H : Type} {enc : TypeId × Value → H} {W : World} {base : Nat} {v : Value} {d : DataW H} {p : List MemPlace} (hv : Value.okWide Try.prog W .any base 34 v) (h : DataW.Trod enc Try.prog W 0 (fun _ => true) true 34 v d p) :
    ∃ c : Cm, v = c.v ∧ ((∀ m ∈ d.weights Try.prog 34, m ≤ reachBytes) → c.home.length ≤ 140737488355328) := by
  obtain ⟨cs, rfl, hsz⟩ := okWide_struct Try.underlying34 hv
  rw [cellsCmd] at hsz
  obtain ⟨fuel, hf⟩ := h
  obtain ⟨c, h1, h2⟩ := openCm (cs := cs.toList) (by simpa using hsz) hf
  exact ⟨c, by rw [show cs = #[.int .i64 c.kind, .string ⟨c.home.toArray⟩, c.dv] from by rw [← Array.toArray_toList (xs := cs), h1]]; rfl, h2⟩
set_option maxRecDepth 100000 in
/-- An item's cells. -/
theorem openIt {H : Type} {enc : TypeId × Value → H} {W : World} {n : Nat} {cs : List Value} {y : DataW H × List MemPlace} (hl : cs.length = 6) (h : DataW.trod enc Try.prog W 0 (fun _ => true) true n 49 cs = some y) :
    ∃ x : It, cs = x.cs ∧ ((∀ m ∈ y.1.weights Try.prog 49, m ≤ reachBytes) → x.c.home.length ≤ 140737488355328) := by
  match cs, hl with
  | [c0, c1, c2, c3, c4, c5], _ =>
    obtain ⟨xs, m, -, rfl, -, hl, hf⟩ := DataW.trod_struct Try.underlying49 h
    have hl3 : xs.length = 3 := hl
    match xs, hl3 with
    | [y0, y1, y2], _ =>
      have h0 : DataW.trod enc Try.prog W 0 (fun _ => true) true m 34 [c0, c1, c2] = some y0 := by have := hf 0 _ rfl; simpa [cellsCmd] using this
      have h1 : DataW.trod enc Try.prog W 0 (fun _ => true) true m 47 [c3, c4] = some y1 := by have := hf 1 _ rfl; simpa [szId] using this
      have h2 : DataW.trod enc Try.prog W 0 (fun _ => true) true m 3 [c5] = some y2 := by have := hf 2 _ rfl; simpa [cellsInt] using this
      obtain ⟨c, e0, w0⟩ := openCm rfl h0
      obtain ⟨rfl, rfl, rfl⟩ : c0 = .int .i64 c.kind ∧ c1 = .string ⟨c.home.toArray⟩ ∧ c2 = c.dv := by simpa using e0
      obtain ⟨ys, m', -, rfl, -, hl', hf'⟩ := DataW.trod_struct Try.underlying47 h1
      have hl2 : ys.length = 2 := hl'
      match ys, hl2 with
      | [z0, z1], _ =>
        have g0 : DataW.trod enc Try.prog W 0 (fun _ => true) true m' 3 [c3] = some z0 := by have := hf' 0 _ rfl; simpa [cellsInt] using this
        have g1 : DataW.trod enc Try.prog W 0 (fun _ => true) true m' 3 [c4] = some z1 := by have := hf' 1 _ rfl; simpa [cellsInt] using this
        obtain ⟨x3, e3, -, -⟩ := DataW.trod_int Try.underlying3 g0
        obtain rfl : c3 = .int .i64 x3 := by simpa using e3
        obtain ⟨x4, e4, -, -⟩ := DataW.trod_int Try.underlying3 g1
        obtain rfl : c4 = .int .i64 x4 := by simpa using e4
        obtain ⟨x5, e5, -, -⟩ := DataW.trod_int Try.underlying3 h2
        obtain rfl : c5 = .int .i64 x5 := by simpa using e5
        exact ⟨⟨c, x3, x4, x5⟩, rfl, fun hw => w0 (fun n hn => hw n (weigh_field Try.underlying49 (j := 0) rfl rfl hn))⟩
theorem it_cells {W : World} {a : Addr} {x : It} (h : W.cells? 0 a 6 = some x.cs) : W.cell? (a.add 0) = some (.int .i64 x.c.kind) ∧ W.cell? (a.add 1) = some (.string ⟨x.c.home.toArray⟩) ∧ W.cell? (a.add 2) = some x.c.dv ∧ W.cell? (a.add 3) = some (.int .i64 x.rep) ∧ W.cell? (a.add 4) = some (.int .i64 x.num) ∧ W.cell? (a.add 5) = some (.int .i64 x.seq) := by
  obtain ⟨-, hlen, hcell⟩ := World.cells?_some h
  exact ⟨hcell 0 (by omega), hcell 1 (by omega), hcell 2 (by omega), hcell 3 (by omega), hcell 4 (by omega), hcell 5 (by omega)⟩
theorem cm_cells {W : World} {a : Addr} {c : Cm} (h : W.cells? 0 a 3 = some [.int .i64 c.kind, .string ⟨c.home.toArray⟩, c.dv]) : W.cell? (a.add 0) = some (.int .i64 c.kind) ∧ W.cell? (a.add 1) = some (.string ⟨c.home.toArray⟩) ∧ W.cell? (a.add 2) = some c.dv := by
  obtain ⟨-, hlen, hcell⟩ := World.cells?_some h
  exact ⟨hcell 0 (by omega), hcell 1 (by omega), hcell 2 (by omega)⟩
set_option maxRecDepth 100000 in
/-- An argument that is a slice of items. -/
theorem openIts {H : Type} {enc : TypeId × Value → H} {W : World} {a0 : Option Addr} {len cap : Nat} {d0 : DataW H} {p : List MemPlace} (h0 : DataW.Trod enc Try.prog W 0 (fun _ => true) true 22 (.slice a0 len cap) d0 p) :
    ∃ xs : List It, Its W (.slice a0 len cap) xs ∧ ((∀ m ∈ d0.weights Try.prog 22, m ≤ reachBytes) → xs.length * 72 ≤ 140737488355328 ∧ ∀ x ∈ xs, x.c.home.length ≤ 140737488355328) := by
  obtain ⟨fuel, hf⟩ := h0
  rcases Go.Deep.open_slice Try.underlying22 hf with ⟨hcs, hx⟩ | ⟨a, len', cap', m, n, D, Pl, hcs, -, hl, hm, hmm, hx, hat⟩
  · simp [Value.cells] at hcs
    obtain ⟨rfl, rfl, rfl⟩ := hcs
    exact ⟨[], ⟨none, 0, rfl, Nat.le_refl _, by decide, fun h => absurd h (by simp)⟩, fun _ => ⟨by simp, fun x hx => by cases hx⟩⟩
  · simp [Value.cells] at hcs
    obtain ⟨rfl, rfl, rfl⟩ := hcs
    simp only [Prod.mk.injEq] at hx
    obtain ⟨rfl, rfl⟩ := hx
    simp only [if_true] at hmm
    subst hmm
    rw [cellsItem] at hat
    obtain ⟨F, hF⟩ := Go.Deep.choose_lt (α := It) (n := len) (p := fun i x => W.cells? 0 (a.add (i * 6)) 6 = some x.cs ∧
      ((∀ m ∈ (D i).weights Try.prog 49, m ≤ reachBytes) → x.c.home.length ≤ 140737488355328)) (fun i hi => by
      obtain ⟨cs', h1, h2⟩ := hat i (by omega)
      obtain ⟨x, rfl, hw⟩ := openIt (World.cells?_some h1).2.1 h2
      exact ⟨x, h1, hw⟩)
    refine ⟨(List.range len).map F, ⟨some a, m, by simp, by simpa using hl, hm, fun hpos => ?_⟩, fun hw => ⟨?_, fun x hx => ?_⟩⟩
    · have hp : 0 < len := by simpa using hpos
      have hz := (it_cells (hF 0 hp).1).1
      rw [show a.add (0 * 6) = a by simp [Addr.add]] at hz
      obtain ⟨b, o, rfl⟩ := addr_plain hz
      refine ⟨b, o, rfl, fun k x hx => ?_⟩
      have hk : k < len := by
        have := (List.getElem?_eq_some_iff.1 hx).1
        simpa using this
      simp only [List.getElem?_map, List.getElem?_range hk, Option.map_some, Option.some.injEq] at hx
      subst hx
      have := it_cells (hF k hk).1
      simp only [Go.WideShapes.add_plain] at this
      exact this
    · have h1 := hw ((len + (m - len)) * Try.prog.bytesOf 49) (by simp [DataW.weights, Try.underlying22])
      rw [bytesItem] at h1
      have h2 := reach_le
      simp only [List.length_map, List.length_range]
      omega
    · obtain ⟨i, hi, rfl⟩ := List.mem_map.1 hx
      have hi' : i < len := by simpa using hi
      refine (hF i hi').2 (fun m' hm' => hw m' ?_)
      simp only [DataW.weights, Try.underlying22, List.mem_cons, List.mem_append]
      exact .inr (.inl (weigh_all (List.mem_map.2 ⟨i, hi, rfl⟩) hm'))
set_option maxRecDepth 100000 in
/-- An argument that is a slice of commands. -/
theorem openCms {H : Type} {enc : TypeId × Value → H} {W : World} {a0 : Option Addr} {len cap : Nat} {d0 : DataW H} {p : List MemPlace} (h0 : DataW.Trod enc Try.prog W 0 (fun _ => true) true 23 (.slice a0 len cap) d0 p) :
    ∃ xs : List Cm, Cms W (.slice a0 len cap) xs ∧ ((∀ m ∈ d0.weights Try.prog 23, m ≤ reachBytes) → xs.length * 48 ≤ 140737488355328 ∧ ∀ x ∈ xs, x.home.length ≤ 140737488355328) := by
  obtain ⟨fuel, hf⟩ := h0
  rcases Go.Deep.open_slice Try.underlying23 hf with ⟨hcs, hx⟩ | ⟨a, len', cap', m, n, D, Pl, hcs, -, hl, hm, hmm, hx, hat⟩
  · simp [Value.cells] at hcs
    obtain ⟨rfl, rfl, rfl⟩ := hcs
    exact ⟨[], ⟨none, 0, rfl, Nat.le_refl _, by decide, fun h => absurd h (by simp)⟩, fun _ => ⟨by simp, fun x hx => by cases hx⟩⟩
  · simp [Value.cells] at hcs
    obtain ⟨rfl, rfl, rfl⟩ := hcs
    simp only [Prod.mk.injEq] at hx
    obtain ⟨rfl, rfl⟩ := hx
    simp only [if_true] at hmm
    subst hmm
    rw [cellsCmd] at hat
    obtain ⟨F, hF⟩ := Go.Deep.choose_lt (α := Cm) (n := len) (p := fun i x => W.cells? 0 (a.add (i * 3)) 3 = some [.int .i64 x.kind, .string ⟨x.home.toArray⟩, x.dv] ∧
      ((∀ m ∈ (D i).weights Try.prog 34, m ≤ reachBytes) → x.home.length ≤ 140737488355328)) (fun i hi => by
      obtain ⟨cs', h1, h2⟩ := hat i (by omega)
      obtain ⟨x, rfl, hw⟩ := openCm (World.cells?_some h1).2.1 h2
      exact ⟨x, h1, hw⟩)
    refine ⟨(List.range len).map F, ⟨some a, m, by simp, by simpa using hl, hm, fun hpos => ?_⟩, fun hw => ⟨?_, fun x hx => ?_⟩⟩
    · have hp : 0 < len := by simpa using hpos
      have hz := (cm_cells (hF 0 hp).1).1
      rw [show a.add (0 * 3) = a by simp [Addr.add]] at hz
      obtain ⟨b, o, rfl⟩ := addr_plain hz
      refine ⟨b, o, rfl, fun k x hx => ?_⟩
      have hk : k < len := by
        have := (List.getElem?_eq_some_iff.1 hx).1
        simpa using this
      simp only [List.getElem?_map, List.getElem?_range hk, Option.map_some, Option.some.injEq] at hx
      subst hx
      have := cm_cells (hF k hk).1
      simp only [Go.WideShapes.add_plain] at this
      exact this
    · have h1 := hw ((len + (m - len)) * Try.prog.bytesOf 34) (by simp [DataW.weights, Try.underlying23])
      rw [bytesCmd] at h1
      have h2 := reach_le
      simp only [List.length_map, List.length_range]
      omega
    · obtain ⟨i, hi, rfl⟩ := List.mem_map.1 hx
      have hi' : i < len := by simpa using hi
      refine (hF i hi').2 (fun m' hm' => hw m' ?_)
      simp only [DataW.weights, Try.underlying23, List.mem_cons, List.mem_append]
      exact .inr (.inl (weigh_all (List.mem_map.2 ⟨i, hi, rfl⟩) hm'))
end Go.Proofs.Ytgmpbalibdlhdaa
