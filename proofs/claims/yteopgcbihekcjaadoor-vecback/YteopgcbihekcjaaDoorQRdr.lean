/- The program's reader: its block, what a read may change, and the walks of its methods. -/
import Derived.Test.YteopgcbihekcjaaDoorQNumWalk
import Derived.Test.YteopgcbihekcjaaDoorGFrSpec4
import Derived.Test.YteopgcbihekcjaaDoorQNum
import Derived.Test.YteopgcbihekcjaaDoorGCrc3
import Derived.Test.YteopgcbihekcjaaDoorQApp
namespace Go.Proofs.YteopgcbihekcjaaDoor
open Go.RowKit

/-- Block b is a reader at the bytes s, with the error er. -/
def IsR (w : World) (b : Nat) (s : List UInt8) (er : Int) : Prop :=
  ∃ v, w.heap[b]? = some (.cells #[v, .int .i64 er] 73 (0, 0)) ∧ Bts w v s
/-- Only the reader's block and new blocks have changed. -/
structure RFr (b : Nat) (w w' : World) : Prop where
  os : w'.os = w.os
  tape : w'.tape = w.tape
  output : w'.output = w.output
  size : w.heap.size ≤ w'.heap.size
  block : ∀ k, k < w.heap.size → k ≠ b → w'.heap[k]? = w.heap[k]?
theorem RFr.refl (b : Nat) (w : World) : RFr b w w := ⟨rfl, rfl, rfl, Nat.le_refl _, fun _ _ _ => rfl⟩
theorem RFr.trans {b : Nat} {w w1 w2 : World} (h : RFr b w w1) (k : RFr b w1 w2) : RFr b w w2 :=
  ⟨k.os.trans h.os, k.tape.trans h.tape, k.output.trans h.output, Nat.le_trans h.size k.size, fun i hi hb => (k.block i (Nat.lt_of_lt_of_le hi h.size) hb).trans (h.block i hi hb)⟩
theorem RFr.of_kept {b : Nat} {w w' : World} (h : Kept w w') : RFr b w w' := ⟨h.os, h.tape, h.output, h.size, fun k hk _ => h.block k hk⟩
theorem RFr.of_grown {b : Nat} {w w' : World} (h : w.grownBy w' (some b)) : RFr b w w' := ⟨h.os, h.tape, h.output, h.size, fun k hk hb => h.block k hk (fun e => hb (Option.some.inj e))⟩
/-- A reader that this call has made: all that was there ahead of it is kept. -/
theorem RFr.kept {b : Nat} {w0 w w' : World} (h : RFr b w w') (k : Kept w0 w) (hb : w0.heap.size ≤ b) : Kept w0 w' :=
  ⟨h.os.trans k.os, h.tape.trans k.tape, h.output.trans k.output, Nat.le_trans k.size h.size, fun i hi => (h.block i (Nat.lt_of_lt_of_le hi k.size) (by omega)).trans (k.block i hi)⟩
theorem IsR.lt {w : World} {b : Nat} {s : List UInt8} {er : Int} (h : IsR w b s er) : b < w.heap.size := by
  obtain ⟨v, h, -⟩ := h
  exact (Array.getElem?_eq_some_iff.1 h).1
theorem IsR.kept {w w' : World} {b : Nat} {s : List UInt8} {er : Int} (h : IsR w b s er) (k : Kept w w') : IsR w' b s er := by
  have hl := h.lt
  obtain ⟨v, h, hb⟩ := h
  exact ⟨v, (k.block b hl).trans h, hb.kept k⟩
/-- A write to the reader's block leaves bytes that lie elsewhere. -/
theorem Bts.set {w : World} {b i : Nat} {x v : Value} {s : List UInt8} (h : Bts w v s) (hb : ∀ o y, w.cell? ⟨b, o, none⟩ ≠ some (.int .u8 y)) : Bts (w.setCell ⟨b, i, none⟩ x) v s := by
  obtain ⟨A, c, rfl, h1, h2, h3⟩ := h
  refine ⟨A, c, rfl, h1, h2, fun hl => ?_⟩
  obtain ⟨b', o, rfl, hc⟩ := h3 hl
  refine ⟨b', o, rfl, fun k y hy => ?_⟩
  have hcell := hc k y hy
  rw [World.cell?_setCell_other w _ _ _ (fun e => ?_)]
  · exact hcell
  · have e' : b = b' := congrArg Addr.block e
    subst e'
    exact hb _ _ hcell
theorem IsR.not8 {w : World} {b : Nat} {s : List UInt8} {er : Int} (h : IsR w b s er) (o : Nat) (y : Int) : w.cell? ⟨b, o, none⟩ ≠ some (.int .u8 y) := by
  obtain ⟨v, h, A, c, rfl, -⟩ := h
  have := cell_of_row w b o #[.slice A s.length c, .int .i64 er] _ _ h
  rw [this]
  match o with
  | 0 => simp
  | 1 => simp
  | o + 2 => simp
theorem IsR.setErr {w : World} {b : Nat} {s : List UInt8} {er : Int} (h : IsR w b s er) (er' : Int) : IsR (w.setCell ⟨b, 1, none⟩ (.int .i64 er')) b s er' ∧ RFr b w (w.setCell ⟨b, 1, none⟩ (.int .i64 er')) := by
  have h8 := h.not8
  obtain ⟨v, h, hb⟩ := h
  exact ⟨⟨v, Lib.heap_setCell_same (i := 1) h _, hb.set h8⟩, RFr.of_grown (Lib.grownBy_setCell w b 1 _)⟩
theorem IsR.setRest {w : World} {b : Nat} {s s' : List UInt8} {er : Int} {v' : Value} (h : IsR w b s er) (h' : Bts w v' s') : IsR (w.setCell ⟨b, 0, none⟩ v') b s' er ∧ RFr b w (w.setCell ⟨b, 0, none⟩ v') := by
  have h8 := h.not8
  obtain ⟨v, h, hb⟩ := h
  exact ⟨⟨v', Lib.heap_setCell_same (i := 0) h _, h'.set h8⟩, RFr.of_grown (Lib.grownBy_setCell w b 0 _)⟩
theorem IsR.cells {w : World} {b : Nat} {s : List UInt8} {er : Int} (h : IsR w b s er) : ∃ v, w.cell? ⟨b, 0, none⟩ = some v ∧ Bts w v s ∧ w.cell? ⟨b, 1, none⟩ = some (.int .i64 er) ∧ w.frozen? ⟨b, 0, none⟩ = false ∧ w.frozen? ⟨b, 1, none⟩ = false := by
  obtain ⟨v, h, hb⟩ := h
  refine ⟨v, ?_, hb, ?_, ?_, ?_⟩
  · rw [cell_of_row w b 0 _ _ _ h]; rfl
  · rw [cell_of_row w b 1 _ _ _ h]; rfl
  · simp [World.frozen?, h]
  · simp [World.frozen?, h]

/-- What number tells: the number, where it ends, the error. -/
def rn (s : List UInt8) (er : Int) : Nat × Nat × Int := if er = 0 then ((numOf s).1, (numOf s).2.1, (((numOf s).2.2 : Nat) : Int)) else (0, 0, er)
theorem numOf_cases (s : List UInt8) : (∃ e, numOf s = (0, 0, e) ∧ e ≠ 0 ∧ e ≤ 13) ∨ ∃ n c, numOf s = (n, c, 0) ∧ c ≤ s.length ∧ put n = s.take c ∧ n ≤ 4611686018427387903 := by
  cases hn : numOf s with
  | mk n r =>
    obtain ⟨c, e⟩ := r
    match e, hn with
    | 0, hn => exact .inr ⟨n, c, rfl, numOf_ok hn⟩
    | e + 1, hn =>
      refine .inl ⟨e + 1, ?_, by omega, ?_⟩ <;> (unfold numOf at hn; split at hn <;> split at hn <;> simp only [Prod.mk.injEq] at hn <;> first | omega | (obtain ⟨rfl, rfl, -⟩ := hn; rfl))
theorem numAt_zero (s : List UInt8) : numAt s 0 = ((((numOf s).1 : Nat) : Int), (((numOf s).2.1 : Nat) : Int), (((numOf s).2.2 : Nat) : Int)) := by
  have h := numAt_good (l := s) (a := 0) (Nat.zero_le _)
  rw [List.drop_zero] at h
  rw [show (0 : Int) = ((0 : Nat) : Int) from rfl, h]
  rcases numOf_cases s with ⟨e, h, he, -⟩ | ⟨n, c, h, -⟩
  · rw [h]
    match e, he with
    | e + 1, _ => rfl
  · rw [h]; simp
theorem rn_cases (s : List UInt8) (er : Int) : (∃ e, rn s er = (0, 0, e) ∧ e ≠ 0) ∨ (er = 0 ∧ ∃ n c, rn s er = (n, c, 0) ∧ c ≤ s.length ∧ put n = s.take c ∧ n ≤ 4611686018427387903) := by
  unfold rn
  by_cases h : er = 0
  · rw [if_pos h]
    rcases numOf_cases s with ⟨e, h1, he, -⟩ | ⟨n, c, h1, h2⟩
    · rw [h1]; exact .inl ⟨_, rfl, by simpa using he⟩
    · rw [h1]; exact .inr ⟨h, n, c, rfl, h2⟩
  · rw [if_neg h]; exact .inl ⟨er, rfl, h⟩

set_option maxRecDepth 100000 in
set_option maxHeartbeats 400000 in
theorem rnumber (b : Nat) (s : List UInt8) (er : Int) (w : World) (h : IsR w b s er) (hlim : s.length ≤ 140737488355328) :
    Calls Tryd.prog 35 #[.pointer (some ⟨b, 0, none⟩)] w fun e w' => e = .returned (.tuple #[.int .i64 ((rn s er).1 : Nat), .int .i64 ((rn s er).2.1 : Nat)]) ∧ IsR w' b s (rn s er).2.2 ∧ RFr b w w' := by
  have H := Lib.hid h
  obtain ⟨v, c0, hb, c1, f0, f1⟩ := h.cells
  clear h
  have HB := Lib.hid hb
  clear hb
  by_cases he : er = 0
  · subst he
    have hr : rn s 0 = ((numOf s).1, (numOf s).2.1, (((numOf s).2.2 : Nat) : Int)) := by unfold rn; rw [if_pos rfl]
    rw [hr]
    have HS := Lib.hid (H.out.setErr ((numOf s).2.2 : Nat))
    go_enter Tryd.func35, Tryd.ntmps35
    go_wp2_with fail
    refine (number_read s 0 v _ HB.out hlim).mono ?_
    rintro e w1 ⟨rfl, rfl⟩
    rw [numAt_zero]
    go_wp2
    go_ret2
    exact ⟨rfl, HS.out⟩
  · have hr : rn s er = (0, 0, er) := by unfold rn; rw [if_neg he]
    rw [hr]
    have t : (er == 0) = false := beq_eq_false_iff_ne.2 he
    go_enter Tryd.func35, Tryd.ntmps35
    go_wp2
    go_ret2
    exact ⟨rfl, H.out, RFr.refl _ _⟩
end Go.Proofs.YteopgcbihekcjaaDoor
