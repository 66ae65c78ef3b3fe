/- InterfChains: what it says, as plain data; what it keeps in memory. -/
import Derived.Test.YtgmpbalibdlhdaaQILc
set_option linter.unusedSimpArgs false
set_option linter.unusedVariables false
namespace Go.Proofs.Ytgmpbalibdlhdaa
open Go.RowKit
def cellsId (l : List It) : List Value := l.flatMap fun x => [.int .i64 x.rep, .int .i64 x.num]
def cellsCm (l : List It) : List Value := l.flatMap fun x => [.int .i64 x.c.kind, .string ⟨x.c.home.toArray⟩, x.c.dv]
theorem cellsId_snoc (l : List It) (x : It) : cellsId (l ++ [x]) = cellsId l ++ [.int .i64 x.rep, .int .i64 x.num] := by unfold cellsId; simp [List.flatMap_append]
theorem cellsCm_snoc (l : List It) (x : It) : cellsCm (l ++ [x]) = cellsCm l ++ [.int .i64 x.c.kind, .string ⟨x.c.home.toArray⟩, x.c.dv] := by unfold cellsCm; simp [List.flatMap_append]
theorem elemId : Elem 53 47 2 16 := elem_of (z := .agg #[.int .i64 0, .int .i64 0]) Try.underlying53 (by kernel_rfl) rfl (by decide)
theorem elemCm : Elem 23 34 3 48 := elem_of (z := .agg #[.int .i64 0, .string ⟨#[]⟩, .slice none 0 0]) Try.underlying23 (by kernel_rfl) rfl (by decide)
theorem cell_newI (w : World) (a b : Value) (t : TypeId) : ∀ j x, ([a, b] : List Value)[j]? = some x → (w.alloc (.cells #[a, b] t)).cell? ⟨w.heap.size, j, none⟩ = some x := by
  intro j x hx
  rw [cell_at (heap_alloc_new w _)]
  match j, hx with
  | 0, hx | 1, hx => simpa using hx
theorem cell_newC (w : World) (a b c : Value) (t : TypeId) : ∀ j x, ([a, b, c] : List Value)[j]? = some x → (w.alloc (.cells #[a, b, c] t)).cell? ⟨w.heap.size, j, none⟩ = some x := by
  intro j x hx
  rw [cell_at (heap_alloc_new w _)]
  match j, hx with
  | 0, hx | 1, hx | 2, hx => simpa using hx
/-- An element of a row whose elements have several cells. -/
theorem flat_at {β : Type} {f : β → List Value} {m : Nat} (hm : ∀ x, (f x).length = m) {l : List β} {k : Nat} (hk : k < l.length) {j : Nat} (hj : j < m) : (l.flatMap f)[k * m + j]? = (f l[k])[j]? := by
  have e : l = l.take k ++ l[k] :: l.drop (k + 1) := by rw [← List.drop_eq_getElem_cons hk, List.take_append_drop]
  have hl : ((l.take k).flatMap f).length = k * m := by
    rw [List.length_flatMap]
    have : ((l.take k).map fun x => (f x).length) = List.replicate k m := by
      rw [List.eq_replicate_iff]
      refine ⟨by rw [List.length_map, List.length_take]; omega, fun b hb => ?_⟩
      obtain ⟨x, -, rfl⟩ := List.mem_map.1 hb
      exact hm x
    rw [this, List.sum_replicate_nat]
  have e2 : (l.flatMap f)[k * m + j]? = ((l.take k ++ l[k] :: l.drop (k + 1)).flatMap f)[k * m + j]? := congrArg (fun z => (z.flatMap f)[k * m + j]?) e
  rw [e2, List.flatMap_append, List.flatMap_cons, List.getElem?_append_right (by omega), hl, Nat.add_sub_cancel_left, List.getElem?_append_left (by rw [hm]; exact hj)]
theorem own_cell {w : World} {base : Nat} {e : TypeId} {s n : Nat} {g c : Nat} {xs : List Value} (h : w.ownsRow base e s (.slice (some ⟨g, 0, none⟩) n c) n xs) {j : Nat} {u : Value} (hu : xs[j]? = some u) : w.cell? ⟨g, j, none⟩ = some u := by
  have h1 := h.cells (g := g) rfl j u hu
  have e : ((⟨g, 0, none⟩ : Addr).add j) = ⟨g, j, none⟩ := by unfold Addr.add; split <;> simp_all
  rw [e] at h1
  exact h1
theorem own_some {w : World} {base : Nat} {e : TypeId} {s n : Nat} {v : Value} {xs : List Value} (h : w.ownsRow base e s v n xs) (hn : 0 < n) : ∃ g c, v = .slice (some ⟨g, 0, none⟩) n c ∧ n ≤ c ∧ c ≤ maxLen := by
  rcases h.2 with ⟨rfl, h0⟩ | ⟨g, cap, cur, rfl, h1, h2, h3, h4, -⟩
  · omega
  · exact ⟨g, cap, rfl, h3, h4⟩
theorem keptSize {w w' : World} (h : Kept w w') : w.heap.size ≤ w'.heap.size := h.size
theorem al1 (w : World) (o : Obj) : (w.alloc o).heap[w.heap.size]? = some o := heap_alloc_new w o
theorem al2a (w : World) (o p : Obj) : ((w.alloc o).alloc p).heap[w.heap.size]? = some o := ((Kept.refl _).alloc p).block' (heap_alloc_new w o)
theorem al2b (w : World) (o p : Obj) : ((w.alloc o).alloc p).heap[w.heap.size + 1]? = some p := by
  have := heap_alloc_new (w.alloc o) p
  simpa using this
theorem al3a (w : World) (o p q : Obj) : (((w.alloc o).alloc p).alloc q).heap[w.heap.size]? = some o := ((Kept.refl _).alloc q).block' (al2a w o p)
theorem al3b (w : World) (o p q : Obj) : (((w.alloc o).alloc p).alloc q).heap[w.heap.size + 1]? = some p := ((Kept.refl _).alloc q).block' (al2b w o p)
theorem al3c (w : World) (o p q : Obj) : (((w.alloc o).alloc p).alloc q).heap[w.heap.size + 1 + 1]? = some q := by
  have := heap_alloc_new ((w.alloc o).alloc p) q
  simpa using this
/-- A block that an append leaves. -/
theorem carry {X w5 : World} {row : Option Nat} {B : Nat} {o : Obj} (p2 : X.grownBy w5 row) (h : X.heap[B]? = some o) (hne : row ≠ some B) : w5.heap[B]? = some o :=
  (p2.block B (Array.getElem?_eq_some_iff.1 h).1 (fun e => hne e.symm)).trans h
theorem src_cells {X : World} {B : Nat} {l : List Value} {t : TypeId} (h : X.heap[B]? = some (.cells l.toArray t (0, 0))) : ∀ j x, l[j]? = some x → X.cell? ⟨B, j, none⟩ = some x := fun j x hx => by
  rw [cell_at h]
  simpa using hx
/-- What InterfChains keeps: the index, the next numbers, and of commands that were added the instances, the sequence numbers, themselves. -/
structure ChAt (w0 W : World) (xb mb n : Nat) (st : TSt) (LX : List It) (nb : Nat) (NX : List Int) (dv : Value) (L1 : List It) (sv : Value) (L2 : List It) (av : Value) (L3 : List It) : Prop where
  ix : IxAt W xb mb n st LX
  nx : W.ownsRow w0.heap.size 3 1 (.slice (some ⟨nb, 0, none⟩) n n) n (iv NX)
  ids : W.ownsRow w0.heap.size 47 2 dv L1.length (cellsId L1)
  sq : W.ownsRow w0.heap.size 3 1 sv L2.length (iv (L2.map It.seq))
  al : W.ownsRow w0.heap.size 34 3 av L3.length (cellsCm L3)
  ne : sv.ownBlock ≠ some nb
  gx : w0.heap.size ≤ xb
  gm : w0.heap.size ≤ mb
  old : Kept w0 W
theorem rows_ne {w : World} {b1 b2 : Nat} {e1 e2 : TypeId} {s1 s2 n1 n2 : Nat} {v1 v2 : Value} {x1 x2 : List Value} (h1 : w.ownsRow b1 e1 s1 v1 n1 x1) (h2 : w.ownsRow b2 e2 s2 v2 n2 x2) (hne : e1 ≠ e2) {g : Nat} (hg : v1.ownBlock = some g) : v2.ownBlock ≠ some g := fun e => by
  obtain ⟨c1, q1⟩ := own_type h1 hg
  obtain ⟨c2, q2⟩ := own_type h2 e
  rw [q1] at q2
  simp only [Option.some.injEq, Obj.cells.injEq] at q2
  exact hne q2.2.1
theorem IxAt.row_x {w : World} {xb mb n : Nat} {st : TSt} {L : List It} (h : IxAt w xb mb n st L) {b e s m : Nat} {v : Value} {xs : List Value} (h2 : w.ownsRow b e s v m xs) (hne : e ≠ 61) : v.ownBlock ≠ some xb := fun x => by
  obtain ⟨c, q⟩ := own_type h2 x
  have := h.blk
  rw [q] at this
  simp only [Option.some.injEq, Obj.cells.injEq] at this
  exact hne this.2.1
theorem IxAt.row_m {w : World} {xb mb n : Nat} {st : TSt} {L : List It} (h : IxAt w xb mb n st L) {b e s m : Nat} {v : Value} {xs : List Value} (h2 : w.ownsRow b e s v m xs) : v.ownBlock ≠ some mb := fun x => by
  obtain ⟨c, q⟩ := own_type h2 x
  obtain ⟨es, clock, hb, -⟩ := h.owns
  rw [q] at hb
  simp at hb
/-- What is true of the numbers. -/
structure ChOk (n k : Nat) (NX : List Int) (L : List It) : Prop where
  few : L.length ≤ k
  len : NX.length = n
  nums : ∀ y ∈ NX, 0 ≤ y ∧ y ≤ k
  seqs : ∀ x ∈ L, x.seq ≤ k
section
variable {w0 W W' : World} {xb mb n nb k : Nat} {st st' : TSt} {NX : List Int} {dv sv av : Value} {L LX LX' L1 L2 L3 : List It} {x : It}
theorem ChAt.kept (h : ChAt w0 W xb mb n st LX nb NX dv L1 sv L2 av L3) (k : Kept W W') : ChAt w0 W' xb mb n st LX nb NX dv L1 sv L2 av L3 :=
  ⟨h.ix.kept k, own_kept h.nx k, own_kept h.ids k, own_kept h.sq k, own_kept h.al k, h.ne, h.gx, h.gm, h.old.trans k⟩
theorem ChAt.nlt (h : ChAt w0 W xb mb n st LX nb NX dv L1 sv L2 av L3) : w0.heap.size ≤ nb ∧ nb < W.heap.size := h.nx.lt nb rfl
/-- A next number is set. -/
theorem ChAt.poke (h : ChAt w0 W xb mb n st LX nb NX dv L1 sv L2 av L3) (r : Nat) (z : Int) : ChAt w0 (W.setCell ⟨nb, r, none⟩ (.int .i64 z)) xb mb n st LX nb (NX.set r z) dv L1 sv L2 av L3 ∧ Chg (fun g => g = nb) W (W.setCell ⟨nb, r, none⟩ (.int .i64 z)) := by
  have c : Chg (fun g => g = nb) W (W.setCell ⟨nb, r, none⟩ (.int .i64 z)) := (Chg.refl (fun g => g = nb) W).setCell _ (fun _ => rfl)
  have hx := h.ix.row_x h.nx (by decide)
  have hm := h.ix.row_m h.nx
  refine ⟨⟨h.ix.chg c (fun e => hx (by rw [e]; rfl)) (fun e => hm (by rw [e]; rfl)), row_set h.nx r z, own_chg h.ids c (fun g hg e => ?_), own_chg h.sq c (fun g hg e => h.ne (by rw [hg, e])), own_chg h.al c (fun g hg e => ?_), h.ne, h.gx, h.gm, c.kept h.old (fun g e => by rw [e]; exact h.nlt.1)⟩, c⟩
  · subst e
    exact rows_ne h.ids h.nx (by decide) hg rfl
  · subst e
    exact rows_ne h.al h.nx (by decide) hg rfl
/-- The index is told one more. -/
theorem ChAt.told (h : ChAt w0 W xb mb n st LX nb NX dv L1 sv L2 av L3) (hi : IxAt W' xb mb n st' LX') (c : Chg (fun g => g = xb ∨ g = mb) W W') : ChAt w0 W' xb mb n st' LX' nb NX dv L1 sv L2 av L3 := by
  have go : ∀ {e s m : Nat} {v : Value} {xs : List Value}, W.ownsRow w0.heap.size e s v m xs → e ≠ 61 → W'.ownsRow w0.heap.size e s v m xs := fun hr hne => own_chg hr c (fun g hg x => by
    rcases x with x | x
    · exact h.ix.row_x hr hne (by rw [hg, x])
    · exact h.ix.row_m hr (by rw [hg, x]))
  exact ⟨hi, go h.nx (by decide), go h.ids (by decide), go h.sq (by decide), go h.al (by decide), h.ne, h.gx, h.gm, c.kept h.old (fun g e => by
    have := h.gx
    have := h.gm
    rcases e with rfl | rfl <;> omega)⟩
/-- An instance more. -/
theorem ChAt.pushD (h : ChAt w0 W xb mb n st LX nb NX dv L1 sv L2 av L3) {w5 : World} {v5 : Value} (p1 : w5.ownsRow w0.heap.size 47 2 v5 (L1.length + 1) (cellsId L1 ++ [.int .i64 x.rep, .int .i64 x.num])) (p2 : W.grownBy w5 dv.ownBlock) :
    ChAt w0 w5 xb mb n st LX nb NX v5 (L1 ++ [x]) sv L2 av L3 := by
  have c : Chg (fun g => dv.ownBlock = some g) W w5 := Chg.of_grown p2 (fun g hg _ => hg)
  have hx := h.ix.row_x h.ids (by decide)
  have hm := h.ix.row_m h.ids
  refine ⟨h.ix.chg c hx hm, own_chg h.nx c (fun g hg e => rows_ne h.ids h.nx (by decide) e hg), ?_, own_chg h.sq c (fun g hg e => rows_ne h.ids h.sq (by decide) e hg), own_chg h.al c (fun g hg e => rows_ne h.ids h.al (by decide) e hg), h.ne, h.gx, h.gm, c.kept h.old (fun g e => (h.ids.lt g e).1)⟩
  rw [List.length_append, cellsId_snoc]
  exact p1
/-- A sequence number more. -/
theorem ChAt.pushS (h : ChAt w0 W xb mb n st LX nb NX dv L1 sv L2 av L3) {w5 : World} {v5 : Value} (p1 : w5.ownsRow w0.heap.size 3 1 v5 (L2.length + 1) (iv (L2.map It.seq) ++ [.int .i64 x.seq])) (p2 : W.grownBy w5 sv.ownBlock) (p3 : v5.ownBlock = sv.ownBlock ∨ v5.ownBlock = some W.heap.size) :
    ChAt w0 w5 xb mb n st LX nb NX dv L1 v5 (L2 ++ [x]) av L3 := by
  have c : Chg (fun g => sv.ownBlock = some g) W w5 := Chg.of_grown p2 (fun g hg _ => hg)
  have hx := h.ix.row_x h.sq (by decide)
  have hm := h.ix.row_m h.sq
  refine ⟨h.ix.chg c hx hm, own_chg h.nx c (fun g hg e => ?_), own_chg h.ids c (fun g hg e => rows_ne h.sq h.ids (by decide) e hg), ?_, own_chg h.al c (fun g hg e => rows_ne h.sq h.al (by decide) e hg), fun e => ?_, h.gx, h.gm, c.kept h.old (fun g e => (h.sq.lt g e).1)⟩
  · have hgn : nb = g := by simpa [Value.ownBlock] using hg
    exact h.ne (by rw [hgn]; exact e)
  · rw [List.length_append, List.map_append, show iv (L2.map It.seq ++ [x].map It.seq) = iv (L2.map It.seq) ++ [.int .i64 x.seq] by simp [iv]]
    exact p1
  · rcases p3 with q | q
    · exact h.ne (by rw [← q]; exact e)
    · rw [e] at q
      have h1 : nb = W.heap.size := Option.some.inj q
      have := h.nlt.2
      omega
/-- A command more. -/
theorem ChAt.pushA (h : ChAt w0 W xb mb n st LX nb NX dv L1 sv L2 av L3) {w5 : World} {v5 : Value} (p1 : w5.ownsRow w0.heap.size 34 3 v5 (L3.length + 1) (cellsCm L3 ++ [.int .i64 x.c.kind, .string ⟨x.c.home.toArray⟩, x.c.dv])) (p2 : W.grownBy w5 av.ownBlock) :
    ChAt w0 w5 xb mb n st LX nb NX dv L1 sv L2 v5 (L3 ++ [x]) := by
  have c : Chg (fun g => av.ownBlock = some g) W w5 := Chg.of_grown p2 (fun g hg _ => hg)
  have hx := h.ix.row_x h.al (by decide)
  have hm := h.ix.row_m h.al
  refine ⟨h.ix.chg c hx hm, own_chg h.nx c (fun g hg e => rows_ne h.al h.nx (by decide) e hg), own_chg h.ids c (fun g hg e => rows_ne h.al h.ids (by decide) e hg), own_chg h.sq c (fun g hg e => rows_ne h.al h.sq (by decide) e hg), ?_, h.ne, h.gx, h.gm, c.kept h.old (fun g e => (h.al.lt g e).1)⟩
  rw [List.length_append, cellsCm_snoc]
  exact p1
theorem ChOk.more (h : ChOk n k NX L) : ChOk n (k + 1) NX L := ⟨by have := h.few; omega, h.len, fun y hy => by have := h.nums y hy; omega, fun x hx => by have := h.seqs x hx; omega⟩
/-- One more is added. -/
theorem ChOk.add (h : ChOk n k NX L) {r : Nat} {y s : Int} (hy : NX[r]? = some y) (hs : s ≤ k + 1) (c : Cm) : ChOk n (k + 1) (NX.set r (y + 1)) (L ++ [⟨c, r, y + 1, s⟩]) := by
  refine ⟨by have := h.few; simp; omega, by rw [List.length_set]; exact h.len, fun z hz => ?_, fun x hx => ?_⟩
  · have h1 := h.nums y (List.mem_of_getElem? hy)
    rcases List.mem_or_eq_of_mem_set hz with q | q
    · have := h.nums z q; omega
    · omega
  · rcases List.mem_append.1 hx with q | q
    · have := h.seqs x q; omega
    · rw [List.mem_singleton.1 q]; simp only; omega
/-- A sequence number that is told is small. -/
theorem ChOk.seq (h : ChOk n k NX L) (hg : ∀ x ∈ L, okI n x) (c : Cm) : 1 ≤ seqT c L ∧ seqT c L ≤ k + 1 := by
  have h1 := tp_pos (pC c) L 0
  have h2 : ahT c L 0 ≤ k := mx_le.2 ⟨by omega, fun x hx => by
    have := h.seqs x (List.mem_filter.1 hx).1
    unfold un
    simpa using this⟩
  unfold seqT
  change 0 ≤ ahT c L 0 at h1
  omega
/-- One that interferes and was added is covered, and has a lesser sequence number. -/
theorem chain_cov (hg : ∀ x ∈ L, okI n x) (hn : 1 ≤ n ∧ n ≤ 7) {c : Cm} (hc : okK c.kind = true) {x : It} (hx : x ∈ L) (hi : itf c x.c = true) :
    covT (depT n c L) [(x.rep, x.num)] = true ∧ x.seq < seqT c L := by
  have hm : metC c x.c = true := by rw [← itf_met hc (hg x hx)]; exact hi
  constructor
  · refine covT_yes (dep_vok hg hn) fun d hd => ?_
    rw [List.mem_singleton.1 hd]
    obtain ⟨-, ⟨h1, h2⟩, ⟨h3, h4⟩, -⟩ := hg x hx
    refine cov1_iff.2 ⟨⟨h1, by rw [depT_len]; exact h2⟩, h3, ?_⟩
    have h5 := ah_ge (n := n) hx hm (x.rep.toNat + 1)
    rw [depT_at (by omega)]
    unfold un at h5
    rw [if_neg (by omega), if_pos (by omega)] at h5
    exact h5
  · have h5 := ah_ge (n := n) hx hm 0
    unfold un at h5
    rw [if_pos rfl] at h5
    unfold seqT
    omega
end
end Go.Proofs.Ytgmpbalibdlhdaa
