/- A writer and a row of bytes beside it, each of which grows: what keeps the two apart. -/
import Derived.Test.YtlkcooedlkhacaaDoorWri2
import Derived.Test.YtlkcooedlkhacaaDoorRefNum
namespace Go.Proofs.YtlkcooedlkhacaaDoor
open Go.RowKit
/-- The writer lies at the first block that is not w's and holds o; the row u is the caller's own, from block n on, and holds p; what was there in w is kept. -/
structure Wr (w : World) (n : Nat) (W : World) (u : Value) (bad : Bool) (o p : List UInt8) : Prop where
  isW : IsW W w.heap.size bad o
  own : W.ownsRow n 5 1 u p.length (Lib.byteCells p)
  kept : Kept w W
  rows : ∀ i, rowOf W w.heap.size = some i → w.heap.size ≤ i
  apart : ∀ g, u.ownBlock = some g → rowOf W w.heap.size ≠ some g
  big : n ≤ W.heap.size
  less : w.heap.size < n
theorem Wr.ofKept {w W W' : World} {n : Nat} {u : Value} {bad : Bool} {o p : List UInt8} (h : Wr w n W u bad o p) (k : Kept W W') : Wr w n W' u bad o p := by
  have hr := h.isW.rowAfter k
  exact ⟨h.isW.after k, own_kept h.own k, h.kept.trans k, fun i hi => h.rows i (hr ▸ hi), fun g hg e => h.apart g hg (hr ▸ e), Nat.le_trans h.big k.size, h.less⟩
theorem Wr.ofWrite {w W W' : World} {n : Nat} {u : Value} {bad bad' : Bool} {o o' p : List UInt8} (h : Wr w n W u bad o p) (hF : WFr w.heap.size W W') (hI : IsW W' w.heap.size bad' o') : Wr w n W' u bad' o' p := by
  have hlt := h.own.lt
  refine ⟨hI, ?_, hF.kept h.kept (Nat.le_refl _) h.rows, hF.rowKept h.kept.size h.rows, fun g hg e => ?_, Nat.le_trans h.big hF.size, h.less⟩
  · refine ⟨h.own.1, ?_⟩
    rcases h.own.2 with h2 | ⟨g, cap, cur, a1, a2, a3, a4⟩
    · exact .inl h2
    · have hg : u.ownBlock = some g := by rw [a1]; rfl
      have hle := h.less
      exact .inr ⟨g, cap, cur, a1, a2, (hF.block g (hlt g hg).2 (by omega) (h.apart g hg)).trans a3, a4⟩
  · rcases hF.row g e with e | e
    · exact h.apart g hg e
    · have := (hlt g hg).2; omega
theorem Wr.ofAppend {w W W' : World} {n : Nat} {u u' : Value} {bad : Bool} {o p p' : List UInt8} (h : Wr w n W u bad o p) (h1 : W'.ownsRow n 5 1 u' p'.length (Lib.byteCells p')) (h2 : W.grownBy W' u.ownBlock) (h3 : u'.ownBlock = u.ownBlock ∨ u'.ownBlock = some W.heap.size) : Wr w n W' u' bad o p' := by
  have hlt := h.own.lt
  have hle := h.less
  have hI := h.isW
  have hbl : ∀ k, k < W.heap.size → (∀ g, u.ownBlock = some g → k ≠ g) → W'.heap[k]? = W.heap[k]? := fun k hk hg => h2.block k hk (fun e => hg k e.symm rfl)
  have hwb : ∀ g, u.ownBlock = some g → w.heap.size ≠ g := fun g hg e => by have := (hlt g hg).1; omega
  obtain ⟨⟨hB, v, lr, ⟨cs, hb, e0, e1, e2, er⟩, hown, hne⟩, hrow⟩ := id hI
  have hbs : w.heap.size < W.heap.size := (Array.getElem?_eq_some_iff.1 hb).1
  have hb' := (hbl _ hbs hwb).trans hb
  have hc0 : W'.cell? ⟨w.heap.size, 0, none⟩ = W.cell? ⟨w.heap.size, 0, none⟩ := World.cell?_of_block (hbl _ hbs hwb)
  have hr : rowOf W' w.heap.size = rowOf W w.heap.size := by unfold rowOf; rw [hc0]
  have hrv : rowOf W w.heap.size = v.ownBlock := by unfold rowOf; rw [cell_of_row W _ 0 _ _ _ hb]; rw [show cs[0]? = some v from e0]
  have hown' : v.ownBlock = none ∨ v.ownBlock ≠ u.ownBlock := by
    cases hu : u.ownBlock with
    | none => cases hv : v.ownBlock with
      | none => exact .inl rfl
      | some x => exact .inr (by simp)
    | some g => exact .inr (fun e => h.apart g hu (hrv.trans e))
  refine ⟨⟨⟨hB, v, lr, ⟨cs, hb', e0, e1, e2, er⟩, hown.kept h2 hown', hne⟩, fun e => hr.trans (hrow e)⟩, h1, h.kept.grown h2 (own_ge (own_base h.own (Nat.le_of_lt hle))), fun i hi => h.rows i (hr ▸ hi), fun g hg e => ?_, Nat.le_trans h.big h2.size, hle⟩
  rw [hr] at e
  rcases h3 with h3 | h3
  · exact h.apart g (h3 ▸ hg) e
  · obtain rfl : W.heap.size = g := Option.some.inj (h3.symm.trans hg)
    have := hI.rowLt e
    omega
theorem Wr.fresh {w W W2 : World} {n : Nat} {u : Value} {bad : Bool} {o p : List UInt8} (h : Wr w n W u bad o p) (k : Kept W W2) (m : Nat) (hm : W.heap.size ≤ m) : m ≠ w.heap.size ∧ rowOf W2 w.heap.size ≠ some m := by
  have h1 := h.less
  have h2 := h.big
  refine ⟨by omega, fun e => ?_⟩
  rw [h.isW.rowAfter k] at e
  have := h.isW.rowLt e
  omega
theorem Wr.form {w W : World} {n : Nat} {u : Value} {bad : Bool} {o p : List UInt8} (h : Wr w n W u bad o p) : ∃ A c, u = .slice A p.length c := by
  rcases h.own.2 with ⟨rfl, h0⟩ | ⟨g, cap, cur, rfl, -⟩
  · exact ⟨none, 0, by rw [h0]⟩
  · exact ⟨_, _, rfl⟩
theorem Ints.one' {w : World} {a : Int} {t : TypeId} {m : Nat} (hm : m = w.heap.size) : Ints (w.alloc (.cells #[.int .i64 a] t)) (.slice (some ⟨m, 0, none⟩) 1 1) [a] := by
  subst hm
  refine ⟨_, 1, rfl, Nat.le_refl _, by decide, fun _ => ⟨_, 0, rfl, fun k x hx => ?_⟩⟩
  match k, hx with
  | 0, hx => obtain rfl : a = x := by simpa using hx
             simp [go_sem]
theorem Bts.framed {w W : World} {b : Nat} {v : Value} {l : List UInt8} (h : Bts w v l) (hF : WFr b w W) (ha : ∀ bi, v.ownBlock = some bi → bi ≠ b ∧ rowOf w b ≠ some bi) : Bts W v l := by
  obtain ⟨A, c, rfl, h1, h2, h3⟩ := h
  refine ⟨A, c, rfl, h1, h2, fun hl => ?_⟩
  obtain ⟨bi, o, rfl, hc⟩ := h3 hl
  obtain ⟨a1, a2⟩ := ha bi rfl
  exact ⟨bi, o, rfl, fun i x hx => hF.cell (hc i x hx) a1 a2⟩
theorem PartsU.oneFramed {w W : World} {b m : Nat} {u : Value} {l : List UInt8} (hc : w.cell? ⟨m, 0, none⟩ = some u) (hm : m ≠ b ∧ rowOf w b ≠ some m) (hb : Bts W u l) (hF : WFr b w W) : PartsU W (.slice (some ⟨m, 0, none⟩) 1 1) [u] [l] := by
  refine ⟨rfl, _, 1, rfl, Nat.le_refl _, by decide, fun _ => ⟨m, 0, rfl, fun k u' l' hu hl => ?_⟩⟩
  match k, hu, hl with
  | 0, hu, hl =>
    obtain rfl : u = u' := by simpa using hu
    obtain rfl : l = l' := by simpa using hl
    exact ⟨hF.cell hc hm.1 hm.2, hb⟩
theorem Strs.oneFramed {w W : World} {b m : Nat} {l : List UInt8} (hc : w.cell? ⟨m, 0, none⟩ = some (.string ⟨l.toArray⟩)) (hm : m ≠ b ∧ rowOf w b ≠ some m) (hF : WFr b w W) : Strs W (.slice (some ⟨m, 0, none⟩) 1 1) [l] := by
  refine ⟨_, 1, rfl, Nat.le_refl _, by decide, fun _ => ⟨m, 0, rfl, fun k l' hl => ?_⟩⟩
  match k, hl with
  | 0, hl =>
    obtain rfl : l = l' := by simpa using hl
    exact hF.cell hc hm.1 hm.2
end Go.Proofs.YtlkcooedlkhacaaDoor
