/- The walk of made: a tree behind a script. How a script of calls of a tree, and one call, are opened; their bulk. -/
import Derived.Test.YtennlckfmgfjbaaGreatDoorGZWf2
import Derived.Test.YtennlckfmgfjbaaGreatDoorGApp3
import Derived.Deep.CutBlock
import Derived.Deep.DeepCutAuto
import Derived.Test.YtennlckfmgfjbaaGreatDoorQPRow
import Derived.Test.YtennlckfmgfjbaaGreatDoorRows
import Derived.Deep.Grids
import Derived.SizedLaws
import Derived.Deep.CondSized
import Derived.Lib.SmallJoins
set_option linter.unusedSimpArgs false
set_option linter.unusedVariables false
namespace Go.Proofs.YtennlckfmgfjbaaGreatDoor
open Go.RowKit
/-- One call, as it lies in memory. -/
structure Op7 where
  kind : Int
  n : Int
  path : Pth
  dv : Value
  data : List UInt8
  seq : Bool
def Op7.Reads (w : World) (x : Op7) : Prop := Bts w x.dv x.data
def Op7.Fits (x : Op7) : Prop := x.data.length ≤ 140737488355328
def Script7 (w : World) (v : Value) (xs : List Op7) : Prop :=
  ∃ A c, v = .slice A xs.length c ∧ xs.length ≤ c ∧ c ≤ maxLen ∧ (0 < xs.length → ∃ b o, A = some ⟨b, o, none⟩ ∧ ∀ k x, xs[k]? = some x →
    w.cell? ⟨b, o + k * 5, none⟩ = some (.int .i64 x.kind) ∧ w.cell? ⟨b, o + k * 5 + 1, none⟩ = some (.int .i64 x.n) ∧ w.cell? ⟨b, o + k * 5 + 2, none⟩ = some (.string ⟨x.path.toArray⟩) ∧
    w.cell? ⟨b, o + k * 5 + 3, none⟩ = some x.dv ∧ w.cell? ⟨b, o + k * 5 + 4, none⟩ = some (.bool x.seq) ∧ x.Reads w)
theorem Script7.form {w : World} {v : Value} {xs : List Op7} (h : Script7 w v xs) : ∃ A c, v = .slice A xs.length c ∧ xs.length ≤ c ∧ c ≤ maxLen := by
  obtain ⟨A, c, h1, h2, h3, -⟩ := h
  exact ⟨A, c, h1, h2, h3⟩
theorem Script7.at {w : World} {A : Option Addr} {n c : Nat} {xs : List Op7} (h : Script7 w (.slice A n c) xs) {k : Nat} (hk : k < xs.length) : ∃ b o, A = some ⟨b, o, none⟩ ∧
    w.cell? ⟨b, o + k * 5, none⟩ = some (.int .i64 xs[k].kind) ∧ w.cell? ⟨b, o + k * 5 + 1, none⟩ = some (.int .i64 xs[k].n) ∧ w.cell? ⟨b, o + k * 5 + 2, none⟩ = some (.string ⟨xs[k].path.toArray⟩) ∧
    w.cell? ⟨b, o + k * 5 + 3, none⟩ = some xs[k].dv ∧ w.cell? ⟨b, o + k * 5 + 4, none⟩ = some (.bool xs[k].seq) ∧ xs[k].Reads w := by
  obtain ⟨A', c', hv, -, -, h3⟩ := h
  obtain ⟨rfl, -, -⟩ : A = A' ∧ n = xs.length ∧ c = c' := by simpa using hv
  obtain ⟨b, o, e, hc⟩ := h3 (by omega)
  exact ⟨b, o, e, hc k xs[k] (by simp [hk])⟩
theorem Script7.kept {w w' : World} {v : Value} {xs : List Op7} (h : Script7 w v xs) (k : Kept w w') : Script7 w' v xs := by
  obtain ⟨A, c, h1, h2, h3, h4⟩ := h
  refine ⟨A, c, h1, h2, h3, fun hp => ?_⟩
  obtain ⟨b, o, e, hc⟩ := h4 hp
  refine ⟨b, o, e, fun i x hx => ?_⟩
  obtain ⟨a0, a1, a2, a3, a4, a5⟩ := hc i x hx
  exact ⟨k.cell a0, k.cell a1, k.cell a2, k.cell a3, k.cell a4, Bts.kept a5 k⟩
section
variable {w0 w : World} {tb mb : Nat} {st : ZSt} {lim : Nat} {F : Nat → Prop}
theorem create_any (h : TreeAt w tb mb st lim F) (p : Pth) (data : List UInt8) (v : Value) (owner : Int) (seq : Bool) (hv : Bts w v data) (htab : TbZ w) (hlim : lim + 2 < 4611686018427387903) :
    Calls Tryz.prog 18 #[.pointer (some ⟨tb, 0, none⟩), .string ⟨p.toArray⟩, v, .int .i64 owner, .bool seq] w fun e w' => e = .returned (.tuple #[.string ⟨(createP (plainZ st) p data.length owner seq).toArray⟩, .int .i64 (createE (plainZ st) p data.length owner seq)]) ∧ (∃ st', TreeAt w' tb mb st' (lim + 1) (ext F w w') ∧ plainZ st' = createS (plainZ st) p data owner seq) ∧ Chg F w w' := by
  by_cases hE : createE (plainZ st) p data.length owner seq = 0
  · refine (create_ok h p data v owner seq hv htab hE hlim).mono ?_
    rintro e w' ⟨rfl, h5, h7⟩
    exact ⟨by rw [hE], h5, h7⟩
  · refine (create_bad h p data v owner seq hv htab hE).mono ?_
    rintro e w' ⟨rfl, hk⟩
    refine ⟨by rw [createP_bad hE], ⟨st, ((h.kept hk).more (Nat.le_succ _)).mono (fun g x => .inl x), ?_⟩, Chg.of_kept hk⟩
    unfold createS
    rw [if_neg hE]
/-- A tree behind a call, beside w0. -/
theorem KT.back {w1 w' : World} {st' : ZSt} {lim' : Nat} {t : ZT} (k0 : Kept w0 w) (hF : ∀ g, F g → w0.heap.size ≤ g ∧ g < w.heap.size) (k : Kept w w1) (h : TreeAt w' tb mb st' lim' (ext F w1 w')) (hp : plainZ st' = t) (c : Chg F w1 w') : KT w0 w' tb t lim' := by
  have hs := c.size
  have hs1 := k.size
  have hs0 := k0.size
  refine ⟨mb, st', _, h, hp, fun g x => ?_, c.kept (k0.trans k) (fun g x => (hF g x).1)⟩
  rcases x with x | x
  · exact ⟨(hF g x).1, by have := (hF g x).2; omega⟩
  · exact ⟨by omega, x.2⟩
end
def MadeTo (w : World) (n : Nat) (e : Ending) (w' : World) : Prop := ∃ tb t, e = .returned (.pointer (some ⟨tb, 0, none⟩)) ∧ KT w w' tb t n ∧ WF t ∧ WB n t
end Go.Proofs.YtennlckfmgfjbaaGreatDoor
set_option linter.unusedVariables false
set_option linter.unusedSimpArgs false
namespace Go.Proofs.YtennlckfmgfjbaaGreatDoor
open Go.ChangeShapes Go.WideShapes Go.ChangeAt Go.RowKit Go.Joins
theorem cellsBool : Tryz.prog.cellsOf 4 = 1 := by kernel_rfl
theorem cellsByte : Tryz.prog.cellsOf 5 = 1 := by kernel_rfl
theorem cellsInt : Tryz.prog.cellsOf 3 = 1 := by kernel_rfl
theorem cellsBts : Tryz.prog.cellsOf 39 = 1 := by kernel_rfl
theorem bytesByte : Tryz.prog.bytesOf 5 = 1 := by kernel_rfl
/-- How long a datum says that a slice is: its elements and its spare room. -/
def Long {H : Type} (d : DataW H) (n : Nat) : Prop := n = 0 ∨ ∃ elems spare, d = .slice elems spare ∧ n ≤ elems.length + spare.length
theorem byte_wf {x : Int} (h : (Lit.int .u8 x).wf = true) : 0 ≤ x ∧ x < 256 := by
  have h1 : IntKind.u8.min = 0 := rfl
  have h2 : IntKind.u8.max = 255 := rfl
  simp only [Lit.wf, Bool.and_eq_true, decide_eq_true_eq] at h
  omega
/-- An argument of bytes, opened. -/
theorem openBts {H : Type} {enc : TypeId × Value → H} {W : World} {a0 : Option Addr} {len cap : Nat} {d0 : DataW H} {p : List MemPlace} (h0 : DataW.Trod enc Tryz.prog W 0 (fun _ => true) true 39 (.slice a0 len cap) d0 p) :
    ∃ l : List UInt8, Bts W (.slice a0 len cap) l ∧ Long d0 l.length := by
  obtain ⟨fuel, hf⟩ := h0
  rcases open_ints Tryz.underlying39 Tryz.underlying5 cellsByte hf with ⟨hcs, hx⟩ | ⟨a, len', cap', zs, hcs, _, hl, hm, hz, hx, hcell, hwz⟩
  · simp [Value.cells] at hcs
    obtain ⟨rfl, rfl, rfl⟩ := hcs
    exact ⟨[], Bts.nil W, .inl rfl⟩
  · simp [Value.cells] at hcs
    obtain ⟨rfl, rfl, rfl⟩ := hcs
    simp only [Prod.mk.injEq] at hx
    obtain ⟨rfl, rfl⟩ := hx
    simp only [if_true] at hz
    have hlen : ((zs.take len).map fun n => UInt8.ofNat n.toNat).length = len := by simp; omega
    refine ⟨(zs.take len).map fun n => UInt8.ofNat n.toNat, ⟨some a, cap, by rw [hlen], by omega, hm, fun hpos => ?_⟩, .inr ⟨_, _, rfl, by simp [lits]⟩⟩
    rw [hlen] at hpos
    obtain ⟨b, off, rfl, hc⟩ := ints_at hcell (by omega)
    refine ⟨b, off, rfl, fun k x hx => ?_⟩
    have hk : k < len := by
      have := (List.getElem?_eq_some_iff.1 hx).1
      omega
    have hkz : k < zs.length := by omega
    rw [hc k hkz]
    have hw := byte_wf (hwz zs[k] (List.getElem_mem hkz))
    simp [hk, hkz] at hx
    subst hx
    simp only [Option.some.injEq, Value.int.injEq, true_and]
    rw [List.getD_eq_getElem?_getD, List.getElem?_eq_getElem hkz, Option.getD_some, UInt8.toNat_ofNat']
    omega
theorem openBtsAt {H : Type} {enc : TypeId × Value → H} {W : World} {fuel : Nat} {v : Value} {y : DataW H × List MemPlace} (h : DataW.trod enc Tryz.prog W 0 (fun _ => true) true fuel 39 [v] = some y) :
    ∃ l : List UInt8, Bts W v l ∧ Long y.1 l.length := by
  obtain ⟨a, len, cap, hv⟩ := slice_form Tryz.underlying39 h
  obtain rfl : v = .slice a len cap := by simpa using hv
  exact openBts (p := y.2) ⟨fuel, h⟩
theorem weigh_all {H : Type} {P : Program} {e : TypeId} {l : List (DataW H)} {d : DataW H} (h : d ∈ l) {n : Nat} (hn : n ∈ d.weights P e) : n ∈ DataW.weightsAll P e l := by
  induction l with
  | nil => cases h
  | cons x r ih =>
    simp only [DataW.weightsAll, List.mem_append]
    rcases List.mem_cons.1 h with rfl | h
    · exact .inl hn
    · exact .inr (ih h)
theorem Long.weight {H : Type} {t e : TypeId} {d : DataW H} {n : Nat} (hu : Tryz.prog.underlying t = some (.slice e)) (hl : Long d n) : n = 0 ∨ ∃ m ∈ d.weights Tryz.prog t, n * Tryz.prog.bytesOf e ≤ m := by
  rcases hl with rfl | ⟨elems, spare, rfl, hn⟩
  · exact .inl rfl
  · refine .inr ⟨(elems.length + spare.length) * Tryz.prog.bytesOf e, by simp [DataW.weights, hu], Nat.mul_le_mul_right _ hn⟩
/-- A weight of one of the fields is a weight of the whole. -/
theorem weigh_field {H : Type} {P : Program} {t : TypeId} {fs : Array Field} {parts : List (DataW H)} (hu : P.underlying t = some (.struct fs)) {j : Nat} {f : Field} {d : DataW H} (hf : fs[j]? = some f) (hd : parts[j]? = some d) {n : Nat} (hn : n ∈ d.weights P f.type) : n ∈ (DataW.agg parts).weights P t := by
  simp only [DataW.weights, hu]
  exact DataW.weights_mem_each (j := j) (by simp [hf]) hd n hn
theorem weights_arg {H : Type} {ts : List TypeId} {ds : List (DataW H)} (h : (DataW.weightsEach Tryz.prog ts ds).all (· ≤ reachBytes) = true) {j : Nat} {t : TypeId} {d : DataW H} (ht : ts[j]? = some t) (hd : ds[j]? = some d) : ∀ n ∈ d.weights Tryz.prog t, n ≤ reachBytes := fun n hn => by
  have := List.all_eq_true.1 h _ (DataW.weights_mem_each ht hd n hn)
  simpa using this
/-! ### the bulk of what is read -/
theorem bulk_pos {H : Type} (d : DataW H) : 1 ≤ Rows.uptoBulk d := by
  cases d with
  | lit v => cases v <;> simp [Rows.uptoBulk]
  | _ => simp [Rows.uptoBulk]
theorem bulk_len {H : Type} (l : List (DataW H)) : l.length ≤ Rows.uptoBulkAll l := by
  induction l with
  | nil => simp
  | cons d l ih => have := bulk_pos d; simp only [Rows.uptoBulkAll, List.length_cons]; omega
theorem bulk_mem {H : Type} {l : List (DataW H)} {d : DataW H} (h : d ∈ l) : Rows.uptoBulk d ≤ Rows.uptoBulkAll l := by
  induction l with
  | nil => cases h
  | cons e l ih =>
    simp only [Rows.uptoBulkAll]
    rcases List.mem_cons.1 h with rfl | h
    · omega
    · have := ih h; omega
theorem Long.bulk {H : Type} {d : DataW H} {n : Nat} (hl : Long d n) : n ≤ Rows.uptoBulk d := by
  rcases hl with rfl | ⟨elems, spare, rfl, hn⟩
  · exact Nat.zero_le _
  · have h2 := bulk_len elems
    have h3 := bulk_len spare
    simp only [Rows.uptoBulk]
    omega
end Go.Proofs.YtennlckfmgfjbaaGreatDoor
