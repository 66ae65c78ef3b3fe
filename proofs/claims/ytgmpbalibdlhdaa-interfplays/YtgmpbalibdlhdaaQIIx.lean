/- An index of commands in memory, and what it knows. -/
import Derived.Test.YtgmpbalibdlhdaaQIJn
set_option linter.unusedSimpArgs false
set_option linter.unusedVariables false
namespace Go.Proofs.Ytgmpbalibdlhdaa
open Go.RowKit
def xcs (n mb : Nat) (G A : Nat → Int) : Array Value := #[.int .i64 (n : Int), .map (some mb), .int .i64 (G 0), .int .i64 (G 1), .int .i64 (G 2), .int .i64 (G 3), .int .i64 (G 4), .int .i64 (G 5), .int .i64 (G 6), .int .i64 (G 7),
  .int .i64 (A 0), .int .i64 (A 1), .int .i64 (A 2), .int .i64 (A 3), .int .i64 (A 4), .int .i64 (A 5), .int .i64 (A 6), .int .i64 (A 7)]
/-- An index of commands lies at xb, its map at mb; it knows those of L. -/
structure IxAt (w : World) (xb mb n : Nat) (st : TSt) (L : List It) : Prop where
  blk : w.heap[xb]? = some (.cells (xcs n mb (tp pG L) (tp pA L)) 61 (0, 0))
  owns : OwnsT w mb st
  srt : SrtZ st
  vals : ∀ h, valT h st = tp (pH h) L
  keys : ∀ h, hasZ h st = L.any (pH h)
  few : st.length ≤ L.length
  good : ∀ x ∈ L, okI n x
  size : 1 ≤ n ∧ n ≤ 7
  home : ∀ x ∈ L, x.c.home.length ≤ 140737488355328
section
variable {w w' : World} {xb mb n : Nat} {st : TSt} {L : List It} {F : Nat → Prop}
theorem IxAt.chg (h : IxAt w xb mb n st L) (c : Chg F w w') (hx : ¬ F xb) (hm : ¬ F mb) : IxAt w' xb mb n st L :=
  ⟨c.block' h.blk hx, map_chg h.owns c hm, h.srt, h.vals, h.keys, h.few, h.good, h.size, h.home⟩
theorem IxAt.kept (h : IxAt w xb mb n st L) (k : Kept w w') : IxAt w' xb mb n st L := h.chg (Chg.of_kept (F := no) k) (fun x => x) (fun x => x)
theorem IxAt.ne (h : IxAt w xb mb n st L) : xb ≠ mb := fun e => by
  obtain ⟨es, clock, hb, -⟩ := h.owns
  have := h.blk
  rw [e, hb] at this
  simp at this
theorem IxAt.lt (h : IxAt w xb mb n st L) : xb < w.heap.size ∧ mb < w.heap.size := ⟨(Array.getElem?_eq_some_iff.1 h.blk).1, World.ownsMap.lt h.owns⟩
theorem IxAt.c0 (h : IxAt w xb mb n st L) : w.cell? ⟨xb, 0, none⟩ = some (.int .i64 (n : Int)) := by rw [cell_at h.blk]; rfl
theorem IxAt.c1 (h : IxAt w xb mb n st L) : w.cell? ⟨xb, 1, none⟩ = some (.map (some mb)) := by rw [cell_at h.blk]; rfl
theorem IxAt.cG (h : IxAt w xb mb n st L) : w.rangeAt xb 2 (tcs (tp pG L)).toList := fun j v hj => by
  rw [cell_at h.blk]
  match j, hj with
  | 0, hj | 1, hj | 2, hj | 3, hj | 4, hj | 5, hj | 6, hj | 7, hj => exact hj
theorem IxAt.cA (h : IxAt w xb mb n st L) : w.rangeAt xb 10 (tcs (tp pA L)).toList := fun j v hj => by
  rw [cell_at h.blk]
  match j, hj with
  | 0, hj | 1, hj | 2, hj | 3, hj | 4, hj | 5, hj | 6, hj | 7, hj => exact hj
theorem any_snoc {p : It → Bool} {x : It} : (L ++ [x]).any p = (L.any p || p x) := by rw [List.any_append]; simp
theorem IxAt.more (h : IxAt w xb mb n st L) {x : It} (hx : okI n x) : ∀ y ∈ L ++ [x], okI n y := fun y hy => by
  rcases List.mem_append.1 hy with hy | hy
  · exact h.good y hy
  · rw [List.mem_singleton.1 hy]; exact hx
theorem IxAt.homes (h : IxAt w xb mb n st L) {x : It} (hx : x.c.home.length ≤ 140737488355328) : ∀ y ∈ L ++ [x], y.c.home.length ≤ 140737488355328 := fun y hy => by
  rcases List.mem_append.1 hy with hy | hy
  · exact h.home y hy
  · rw [List.mem_singleton.1 hy]; exact hx
/-- A Noop is known: nothing is kept of it. -/
theorem IxAt.noop (h : IxAt w xb mb n st L) {x : It} (hx : okI n x) (hh : x.c.home.length ≤ 140737488355328) (hk : x.c.kind = 0) : IxAt w xb mb n st (L ++ [x]) := by
  have pg : pG x = false := by unfold pG; rw [hk]; rfl
  have pa : pA x = false := by unfold pA; rw [hk]; rfl
  have ph : ∀ g, pH g x = false := fun g => by unfold pH; rw [hk]; rfl
  refine ⟨?_, h.owns, h.srt, fun g => by rw [h.vals, tp_pass (ph g)], fun g => by rw [h.keys, any_snoc, ph g, Bool.or_false], by have := h.few; simp; omega, h.more hx, h.size, h.homes hh⟩
  rw [tp_pass pg, tp_pass pa]
  exact h.blk
/-- A Global is known. -/
theorem IxAt.global (h : IxAt w xb mb n st L) {x : It} (hx : okI n x) (hh : x.c.home.length ≤ 140737488355328) (hk : x.c.kind = 2) (c : Chg (fun g => g = xb) w w')
    (hb : w'.heap[xb]? = some (.cells (xcs n mb (wiT (tp pG L) x.rep x.num x.seq) (wiT (tp pA L) x.rep x.num x.seq)) 61 (0, 0))) : IxAt w' xb mb n st (L ++ [x]) := by
  have pg : pG x = true := by unfold pG; rw [hk]; rfl
  have pa : pA x = true := by unfold pA; rw [hk]; rfl
  have ph : ∀ g, pH g x = false := fun g => by unfold pH; rw [hk]; rfl
  refine ⟨?_, map_chg h.owns c (fun e => h.ne e.symm), h.srt, fun g => by rw [h.vals, tp_pass (ph g)], fun g => by rw [h.keys, any_snoc, ph g, Bool.or_false], by have := h.few; simp; omega, h.more hx, h.size, h.homes hh⟩
  rw [tp_add hx pg, tp_add hx pa]
  exact hb
theorem valT_put (k g : Pth) (e : Nat → Int) (st : TSt) (hs : SrtZ st) : valT g (putZ k e st) = if g = k then e else valT g st := by
  unfold valT
  by_cases he : g = k
  · subst he
    rw [if_pos rfl, getZ_put_same _ _ _ hs]; rfl
  · rw [if_neg he, getZ_put_other he]
theorem hasZ_put (k g : Pth) (e : Nat → Int) (st : TSt) (hs : SrtZ st) : hasZ g (putZ k e st) = (hasZ g st || g == k) := by
  rw [hasZ_get, hasZ_get]
  by_cases he : g = k
  · subst he
    rw [getZ_put_same _ _ _ hs]; simp
  · rw [getZ_put_other he, show (g == k) = false from beq_eq_false_iff_ne.2 he, Bool.or_false]
/-- A Homely one is known. -/
theorem IxAt.homely (h : IxAt w xb mb n st L) {x : It} (hx : okI n x) (hh : x.c.home.length ≤ 140737488355328) (hk : x.c.kind = 1) (ho : OwnsT w' mb (putZ x.c.home (wiT (valT x.c.home st) x.rep x.num x.seq) st))
    (hb : w'.heap[xb]? = some (.cells (xcs n mb (tp pG L) (wiT (tp pA L) x.rep x.num x.seq)) 61 (0, 0))) : IxAt w' xb mb n (putZ x.c.home (wiT (valT x.c.home st) x.rep x.num x.seq) st) (L ++ [x]) := by
  have pg : pG x = false := by unfold pG; rw [hk]; rfl
  have pa : pA x = true := by unfold pA; rw [hk]; rfl
  refine ⟨?_, ho, srt_putZ h.srt, fun g => ?_, fun g => ?_, by have := h.few; have := length_putZ x.c.home (wiT (valT x.c.home st) x.rep x.num x.seq) st; simp; omega, h.more hx, h.size, h.homes hh⟩
  · rw [tp_pass pg, tp_add hx pa]
    exact hb
  · rw [valT_put _ _ _ _ h.srt]
    by_cases e : g = x.c.home
    · have ph : pH g x = true := by unfold pH; rw [hk, e]; simp
      rw [if_pos e, tp_add hx ph, h.vals, e]
    · have ph : pH g x = false := by unfold pH; rw [show (x.c.home == g) = false from beq_eq_false_iff_ne.2 (fun y => e y.symm)]; simp
      rw [if_neg e, tp_pass ph, h.vals]
  · rw [hasZ_put _ _ _ _ h.srt, any_snoc, h.keys]
    congr 1
    unfold pH
    rw [hk]
    simp only [BEq.rfl, Bool.true_and]
    exact BEq.comm
end
end Go.Proofs.Ytgmpbalibdlhdaa
