/- The network in memory. -/
import Derived.Test.YtnpenabkmpoafaaQNMap
set_option linter.unusedSimpArgs false
set_option linter.unusedVariables false
namespace Go.Proofs.Ytnpenabkmpoafaa
open Go.RowKit
/-- A network: how many nodes, how much room, what waits, who is cut, the clocks. -/
structure NS where
  n : Nat
  room : Nat
  q : Nat → Nat → List (List UInt8)
  cut : Nat → Nat → Bool
  t : List Nat
/-- Where it lies: the blocks, what the two maps hold, the messages' values. -/
structure NM where
  tb : Nat
  qb : Nat
  cb : Nat
  D : DataW Value
  C : DataW Value
  us : Nat → Nat → List (Value × List UInt8)
def Iv (x : Nat) : Value := .int .i64 (x : Int)
def upd {α : Type} (f : Nat → Nat → α) (a b : Nat) (x : α) : Nat → Nat → α := fun a' b' => if a' = a ∧ b' = b then x else f a' b'
theorem upd_same {α : Type} (f : Nat → Nat → α) (a b : Nat) (x : α) : upd f a b x a b = x := by simp [upd]
theorem upd_other {α : Type} (f : Nat → Nat → α) {a b a' b' : Nat} (x : α) (h : ¬ (a' = a ∧ b' = b)) : upd f a b x a' b' = f a' b' := by unfold upd; rw [if_neg h]
structure NetAt (w : World) (nb : Nat) (m : NM) (s : NS) (lim : Nat) (F : Nat → Prop) : Prop where
  net : w.heap[nb]? = some (.cells #[.slice (some ⟨m.tb, 0, none⟩) s.n s.n, .int .i64 (s.room : Int), .map (some m.qb), .map (some m.cb)] 51 (0, 0))
  tms : w.heap[m.tb]? = some (.cells (s.t.map Iv).toArray 3 (0, 0))
  tlen : s.t.length = s.n
  qs : OwnsP w m.qb lim m.D
  cs : OwnsU w m.cb lim m.C
  apart : m.qb ≠ m.cb
  rows : ∀ a b, a < s.n → b < s.n → w.ownsRow 0 54 1 (qv m.D a b) (m.us a b).length ((m.us a b).map Prod.fst)
  msgs : ∀ a b, a < s.n → b < s.n → ∀ x ∈ m.us a b, w.ownsRow 0 5 1 x.1 x.2.length (Lib.byteCells x.2)
  same : ∀ a b, a < s.n → b < s.n → (m.us a b).map Prod.snd = s.q a b
  cuts : ∀ a b, a < s.n → b < s.n → Maps.has m.C (kl a b) = s.cut a b
  rowAp : ∀ a b a' b' g, a < s.n → b < s.n → a' < s.n → b' < s.n → (qv m.D a b).ownBlock = some g → (qv m.D a' b').ownBlock = some g → a' = a ∧ b' = b
  msgAp : ∀ (a b i : Nat) (x : Value × List UInt8) (a' b' i' : Nat) (x' : Value × List UInt8) (g : Nat), a < s.n → b < s.n → a' < s.n → b' < s.n → (m.us a b)[i]? = some x → (m.us a' b')[i']? = some x' → x.1.ownBlock = some g → x'.1.ownBlock = some g → a' = a ∧ b' = b ∧ i' = i
  one : 1 ≤ s.n
  small : s.n ≤ 32
  roomy : 1 ≤ s.room ∧ s.room ≤ 4096
  full : ∀ a b, a < s.n → b < s.n → (s.q a b).length ≤ s.room
  late : ∀ x ∈ s.t, x ≤ 1099511627776
  light : ∀ a b, a < s.n → b < s.n → ∀ l ∈ s.q a b, l.length ≤ 140737488355328
  inN : F nb
  inT : F m.tb
  inQ : F m.qb
  inC : F m.cb
  inR : ∀ a b g, a < s.n → b < s.n → (qv m.D a b).ownBlock = some g → F g
  inM : ∀ (a b : Nat) (x : Value × List UInt8) (g : Nat), a < s.n → b < s.n → x ∈ m.us a b → x.1.ownBlock = some g → F g
section
variable {w w' : World} {nb : Nat} {m : NM} {s : NS} {lim : Nat} {F G : Nat → Prop}
theorem NetAt.chg (h : NetAt w nb m s lim F) (c : Chg G w w') (hG : ∀ g, F g → ¬ G g) : NetAt w' nb m s lim F :=
  ⟨c.block' h.net (hG _ h.inN), c.block' h.tms (hG _ h.inT), h.tlen, map_chg h.qs c (hG _ h.inQ), map_chg h.cs c (hG _ h.inC), h.apart, fun a b ha hb => own_chg (h.rows a b ha hb) c (fun g hg => hG _ (h.inR a b g ha hb hg)),
    fun a b ha hb x hx => own_chg (h.msgs a b ha hb x hx) c (fun g hg => hG _ (h.inM a b x g ha hb hx hg)), h.same, h.cuts, h.rowAp, h.msgAp, h.one, h.small, h.roomy, h.full, h.late, h.light, h.inN, h.inT, h.inQ, h.inC, h.inR, h.inM⟩
theorem NetAt.kept (h : NetAt w nb m s lim F) (c : Kept w w') : NetAt w' nb m s lim F := h.chg (Chg.of_kept (F := no) c) (fun _ _ x => x)
theorem NetAt.mono (h : NetAt w nb m s lim F) (hg : ∀ g, F g → G g) : NetAt w nb m s lim G :=
  ⟨h.net, h.tms, h.tlen, h.qs, h.cs, h.apart, h.rows, h.msgs, h.same, h.cuts, h.rowAp, h.msgAp, h.one, h.small, h.roomy, h.full, h.late, h.light, hg _ h.inN, hg _ h.inT, hg _ h.inQ, hg _ h.inC, fun a b g ha hb x => hg _ (h.inR a b g ha hb x), fun a b x g ha hb hx e => hg _ (h.inM a b x g ha hb hx e)⟩
theorem NetAt.more (h : NetAt w nb m s lim F) {lim' : Nat} (hl : lim ≤ lim') : NetAt w nb m s lim' F :=
  ⟨h.net, h.tms, h.tlen, h.qs.mono hl, h.cs.mono hl, h.apart, h.rows, h.msgs, h.same, h.cuts, h.rowAp, h.msgAp, h.one, h.small, h.roomy, h.full, h.late, h.light, h.inN, h.inT, h.inQ, h.inC, h.inR, h.inM⟩
theorem map_ne_cells {R : Value → Option (DataW Value × List MemPlace)} {w : World} {mb n g : Nat} {D : DataW Value} {cur : Array Value} {t : TypeId} {r : Nat × Nat} (h : w.ownsMap Try.prog 71 R mb n D) (hc : w.heap[g]? = some (.cells cur t r)) : g ≠ mb := by
  obtain ⟨es, clock, hb, -⟩ := h
  rintro rfl
  rw [hb] at hc
  cases hc
theorem NetAt.lt (h : NetAt w nb m s lim F) : nb < w.heap.size := (Array.getElem?_eq_some_iff.1 h.net).1
/-- A block of cells that is no row of slices of bytes is neither the queues' map nor a queue. -/
theorem NetAt.aside (h : NetAt w nb m s lim F) {a b g : Nat} (ha : a < s.n) (hb : b < s.n) {cur : Array Value} {t : TypeId} (hc : w.heap[g]? = some (.cells cur t (0, 0))) (ht : t ≠ 54) : ¬ (g = m.qb ∨ (qv m.D a b).ownBlock = some g) := by
  rintro (e | e)
  · exact map_ne_cells h.qs hc e
  · obtain ⟨cur', h1⟩ := own_type (h.rows a b ha hb) e
    rw [h1] at hc
    simp only [Option.some.injEq, Obj.cells.injEq] at hc
    exact ht hc.2.1.symm
def NM.turn (m : NM) (a b : Nat) (D : DataW Value) (us : List (Value × List UInt8)) : NM := { m with D := D, us := upd m.us a b us }
def NS.turn (s : NS) (a b : Nat) (l : List (List UInt8)) : NS := { s with q := upd s.q a b l }
/-- One queue is another. -/
theorem NetAt.turn (h : NetAt w nb m s lim F) {a b : Nat} (ha : a < s.n) (hb : b < s.n) {D' : DataW Value} {us' : List (Value × List UInt8)} {lim' : Nat} (hl : lim ≤ lim')
    (hq : OwnsP w' m.qb lim' D') (hD : ∀ a' b', a' < s.n → b' < s.n → ¬ (a' = a ∧ b' = b) → qv D' a' b' = qv m.D a' b')
    (c : Chg (fun g => g = m.qb ∨ (qv m.D a b).ownBlock = some g) w w')
    (hr : w'.ownsRow 0 54 1 (qv D' a b) us'.length (us'.map Prod.fst)) (hm : ∀ x ∈ us', w'.ownsRow 0 5 1 x.1 x.2.length (Lib.byteCells x.2))
    (hv : ∀ g, (qv D' a b).ownBlock = some g → (qv m.D a b).ownBlock = some g ∨ (w.heap.size ≤ g ∧ g < w'.heap.size))
    (hn : ∀ x ∈ us', x ∈ m.us a b ∨ ∀ g, x.1.ownBlock = some g → w.heap.size ≤ g ∧ g < w'.heap.size)
    (hi : ∀ (i i' : Nat) x x' g, us'[i]? = some x → us'[i']? = some x' → x.1.ownBlock = some g → x'.1.ownBlock = some g → i' = i)
    (hf : us'.length ≤ s.room) (hlt : ∀ x ∈ us', x.2.length ≤ 140737488355328) : NetAt w' nb (m.turn a b D' us') (s.turn a b (us'.map Prod.snd)) lim' (ext F w w') := by
  have hrow : ∀ a' b', a' < s.n → b' < s.n → ¬ (a' = a ∧ b' = b) → ∀ g, (qv m.D a' b').ownBlock = some g → ¬ (g = m.qb ∨ (qv m.D a b).ownBlock = some g) := by
    intro a' b' ha' hb' hne g hg
    rintro (e | e)
    · obtain ⟨cur, h1⟩ := own_type (h.rows a' b' ha' hb') hg
      exact map_ne_cells h.qs h1 e
    · exact hne (h.rowAp a b a' b' g ha hb ha' hb' e hg)
  have hmsg : ∀ a' b' x, a' < s.n → b' < s.n → x ∈ m.us a' b' → ∀ g, x.1.ownBlock = some g → ¬ (g = m.qb ∨ (qv m.D a b).ownBlock = some g) := by
    intro a' b' x ha' hb' hx g hg
    obtain ⟨cur, h1⟩ := own_type (h.msgs a' b' ha' hb' x hx) hg
    exact h.aside ha hb h1 (by decide)
  have hlow : ∀ a' b', a' < s.n → b' < s.n → ∀ g, (qv m.D a' b').ownBlock = some g → g < w.heap.size := fun a' b' ha' hb' g hg => ((h.rows a' b' ha' hb').lt g hg).2
  have hmlow : ∀ a' b' x, a' < s.n → b' < s.n → x ∈ m.us a' b' → ∀ g, x.1.ownBlock = some g → g < w.heap.size := fun a' b' x ha' hb' hx g hg => ((h.msgs a' b' ha' hb' x hx).lt g hg).2
  refine ⟨c.block' h.net (h.aside ha hb h.net (by decide)), c.block' h.tms (h.aside ha hb h.tms (by decide)), h.tlen, hq, (map_chg h.cs c ?_).mono hl, h.apart, ?_, ?_, ?_, h.cuts, ?_, ?_, h.one, h.small, h.roomy, ?_, h.late, ?_, .inl h.inN, .inl h.inT, .inl h.inQ, .inl h.inC, ?_, ?_⟩
  · rintro (e | e)
    · exact h.apart e.symm
    · obtain ⟨cur, h1⟩ := own_type (h.rows a b ha hb) e
      exact map_ne_cells h.cs h1 rfl
  · intro a' b' ha' hb'
    show w'.ownsRow 0 _ 1 (qv D' a' b') (upd m.us a b us' a' b').length ((upd m.us a b us' a' b').map Prod.fst)
    by_cases e : a' = a ∧ b' = b
    · obtain ⟨rfl, rfl⟩ := e
      rw [upd_same]
      exact hr
    · rw [upd_other _ _ e, hD a' b' ha' hb' e]
      exact own_chg (h.rows a' b' ha' hb') c (hrow a' b' ha' hb' e)
  · intro a' b' ha' hb' x hx
    by_cases e : a' = a ∧ b' = b
    · obtain ⟨rfl, rfl⟩ := e
      exact hm x (by simpa [NM.turn, upd_same] using hx)
    · have hx : x ∈ m.us a' b' := by simpa [NM.turn, upd_other _ _ e] using hx
      exact own_chg (h.msgs a' b' ha' hb' x hx) c (hmsg a' b' x ha' hb' hx)
  · intro a' b' ha' hb'
    by_cases e : a' = a ∧ b' = b
    · obtain ⟨rfl, rfl⟩ := e
      simp [NM.turn, NS.turn, upd_same]
    · simp only [NM.turn, NS.turn, upd_other _ _ e]
      exact h.same a' b' ha' hb'
  · intro a1 b1 a2 b2 g h1 h2 h3 h4 e1 e2
    change (qv D' a1 b1).ownBlock = some g at e1
    change (qv D' a2 b2).ownBlock = some g at e2
    by_cases p1 : a1 = a ∧ b1 = b
    · obtain ⟨rfl, rfl⟩ := p1
      by_cases p2 : a2 = a1 ∧ b2 = b1
      · exact p2
      · rw [hD a2 b2 h3 h4 p2] at e2
        rcases hv g e1 with x | x
        · exact h.rowAp _ _ _ _ g h1 h2 h3 h4 x e2
        · have := hlow a2 b2 h3 h4 g e2
          omega
    · rw [hD a1 b1 h1 h2 p1] at e1
      by_cases p2 : a2 = a ∧ b2 = b
      · obtain ⟨rfl, rfl⟩ := p2
        rcases hv g e2 with x | x
        · exact h.rowAp _ _ _ _ g h1 h2 h3 h4 e1 x
        · have := hlow a1 b1 h1 h2 g e1
          omega
      · rw [hD a2 b2 h3 h4 p2] at e2
        exact h.rowAp _ _ _ _ g h1 h2 h3 h4 e1 e2
  · intro a1 b1 i1 x1 a2 b2 i2 x2 g h1 h2 h3 h4 m1 m2 e1 e2
    change (upd m.us a b us' a1 b1)[i1]? = some x1 at m1
    change (upd m.us a b us' a2 b2)[i2]? = some x2 at m2
    by_cases p1 : a1 = a ∧ b1 = b
    · obtain ⟨rfl, rfl⟩ := p1
      rw [upd_same] at m1
      by_cases p2 : a2 = a1 ∧ b2 = b1
      · obtain ⟨rfl, rfl⟩ := p2
        rw [upd_same] at m2
        exact ⟨rfl, rfl, hi _ _ _ _ g m1 m2 e1 e2⟩
      · rw [upd_other _ _ p2] at m2
        rcases hn x1 (List.mem_of_getElem? m1) with x | x
        · obtain ⟨j, hj⟩ := List.mem_iff_getElem?.1 x
          obtain ⟨q1, q2, -⟩ := h.msgAp _ _ _ _ _ _ _ _ g h1 h2 h3 h4 hj m2 e1 e2
          exact absurd ⟨q1, q2⟩ p2
        · have := hmlow a2 b2 x2 h3 h4 (List.mem_of_getElem? m2) g e2
          have := x g e1
          omega
    · rw [upd_other _ _ p1] at m1
      by_cases p2 : a2 = a ∧ b2 = b
      · obtain ⟨rfl, rfl⟩ := p2
        rw [upd_same] at m2
        rcases hn x2 (List.mem_of_getElem? m2) with x | x
        · obtain ⟨j, hj⟩ := List.mem_iff_getElem?.1 x
          obtain ⟨q1, q2, -⟩ := h.msgAp _ _ _ _ _ _ _ _ g h1 h2 h3 h4 m1 hj e1 e2
          exact absurd ⟨q1.symm, q2.symm⟩ p1
        · have := hmlow a1 b1 x1 h1 h2 (List.mem_of_getElem? m1) g e1
          have := x g e2
          omega
      · rw [upd_other _ _ p2] at m2
        exact h.msgAp _ _ _ _ _ _ _ _ g h1 h2 h3 h4 m1 m2 e1 e2
  · intro a' b' ha' hb'
    by_cases e : a' = a ∧ b' = b
    · obtain ⟨rfl, rfl⟩ := e
      simpa [NS.turn, upd_same] using hf
    · simp only [NS.turn, upd_other _ _ e]
      exact h.full a' b' ha' hb'
  · intro a' b' ha' hb' l hl
    by_cases e : a' = a ∧ b' = b
    · obtain ⟨rfl, rfl⟩ := e
      have hl : l ∈ us'.map Prod.snd := by simpa [NS.turn, upd_same] using hl
      obtain ⟨x, hx, rfl⟩ := List.mem_map.1 hl
      exact hlt x hx
    · have hl : l ∈ s.q a' b' := by simpa [NS.turn, upd_other _ _ e] using hl
      exact h.light a' b' ha' hb' l hl
  · intro a' b' g ha' hb' hg
    change (qv D' a' b').ownBlock = some g at hg
    by_cases e : a' = a ∧ b' = b
    · obtain ⟨rfl, rfl⟩ := e
      rcases hv g hg with x | x
      · exact .inl (h.inR _ _ g ha hb x)
      · exact .inr x
    · rw [hD a' b' ha' hb' e] at hg
      exact .inl (h.inR _ _ g ha' hb' hg)
  · intro a' b' x g ha' hb' hx hg
    change x ∈ upd m.us a b us' a' b' at hx
    by_cases e : a' = a ∧ b' = b
    · obtain ⟨rfl, rfl⟩ := e
      rw [upd_same] at hx
      rcases hn x hx with y | y
      · exact .inl (h.inM _ _ x g ha hb y hg)
      · exact .inr (y g hg)
    · rw [upd_other _ _ e] at hx
      exact .inl (h.inM _ _ x g ha' hb' hx hg)
/-- A block of bytes that no message lies in may be left out of F. -/
theorem NetAt.avoid (h : NetAt w nb m s lim F) {g : Nat} {cur : Array Value} (hc : w.heap[g]? = some (.cells cur 5 (0, 0))) (hx : ∀ a b x, a < s.n → b < s.n → x ∈ m.us a b → x.1.ownBlock ≠ some g) : NetAt w nb m s lim (fun k => F k ∧ k ≠ g) := by
  have ty : ∀ {k : Nat} {cur' : Array Value} {t : TypeId}, w.heap[k]? = some (.cells cur' t (0, 0)) → t ≠ 5 → k ≠ g := by
    rintro k cur' t hk ht rfl
    rw [hc] at hk
    simp only [Option.some.injEq, Obj.cells.injEq] at hk
    exact ht hk.2.1.symm
  refine ⟨h.net, h.tms, h.tlen, h.qs, h.cs, h.apart, h.rows, h.msgs, h.same, h.cuts, h.rowAp, h.msgAp, h.one, h.small, h.roomy, h.full, h.late, h.light, ⟨h.inN, ty h.net (by decide)⟩, ⟨h.inT, ty h.tms (by decide)⟩, ⟨h.inQ, fun e => map_ne_cells h.qs hc e.symm⟩, ⟨h.inC, fun e => map_ne_cells h.cs hc e.symm⟩, fun a b k ha hb hk => ⟨h.inR a b k ha hb hk, ?_⟩, fun a b x k ha hb hx' hk => ⟨h.inM a b x k ha hb hx' hk, ?_⟩⟩
  · obtain ⟨cur', h1⟩ := own_type (h.rows a b ha hb) hk
    exact ty h1 (by decide)
  · rintro rfl
    exact hx a b x ha hb hx' hk
/-- Who is cut has changed. -/
theorem NetAt.cutting (h : NetAt w nb m s lim F) {C' : DataW Value} {cut' : Nat → Nat → Bool} {lim' : Nat} (hl : lim ≤ lim') (hc : OwnsU w' m.cb lim' C') (hC : ∀ a b, a < s.n → b < s.n → Maps.has C' (kl a b) = cut' a b) (c : Chg (fun g => g = m.cb) w w') : NetAt w' nb { m with C := C' } { s with cut := cut' } lim' F := by
  have hne : ∀ {g : Nat} {cur : Array Value} {t : TypeId}, w.heap[g]? = some (.cells cur t (0, 0)) → ¬ (g = m.cb) := fun h1 => map_ne_cells h.cs h1
  exact ⟨c.block' h.net (hne h.net), c.block' h.tms (hne h.tms), h.tlen, (map_chg h.qs c h.apart).mono hl, hc, h.apart, fun a b ha hb => own_chg (h.rows a b ha hb) c (fun g hg => by obtain ⟨cur, h1⟩ := own_type (h.rows a b ha hb) hg; exact hne h1),
    fun a b ha hb x hx => own_chg (h.msgs a b ha hb x hx) c (fun g hg => by obtain ⟨cur, h1⟩ := own_type (h.msgs a b ha hb x hx) hg; exact hne h1), h.same, hC, h.rowAp, h.msgAp, h.one, h.small, h.roomy, h.full, h.late, h.light, h.inN, h.inT, h.inQ, h.inC, h.inR, h.inM⟩
/-- The clocks have gone on. -/
theorem NetAt.tick (h : NetAt w nb m s lim F) {t' : List Nat} (ht : w'.heap[m.tb]? = some (.cells (t'.map Iv).toArray 3 (0, 0))) (hlen : t'.length = s.n) (hlate : ∀ x ∈ t', x ≤ 1099511627776) (c : Chg (fun g => g = m.tb) w w') : NetAt w' nb m { s with t := t' } lim F := by
  have hne : ∀ {g : Nat} {cur : Array Value} {t : TypeId}, w.heap[g]? = some (.cells cur t (0, 0)) → t ≠ 3 → ¬ (g = m.tb) := by
    rintro g cur t h1 h2 rfl
    rw [h.tms] at h1
    simp only [Option.some.injEq, Obj.cells.injEq] at h1
    exact h2 h1.2.1.symm
  exact ⟨c.block' h.net (hne h.net (by decide)), ht, hlen, map_chg h.qs c (fun e => map_ne_cells h.qs h.tms e.symm), map_chg h.cs c (fun e => map_ne_cells h.cs h.tms e.symm), h.apart, fun a b ha hb => own_chg (h.rows a b ha hb) c (fun g hg => by obtain ⟨cur, h1⟩ := own_type (h.rows a b ha hb) hg; exact hne h1 (by decide)),
    fun a b ha hb x hx => own_chg (h.msgs a b ha hb x hx) c (fun g hg => by obtain ⟨cur, h1⟩ := own_type (h.msgs a b ha hb x hx) hg; exact hne h1 (by decide)), h.same, h.cuts, h.rowAp, h.msgAp, h.one, h.small, h.roomy, h.full, hlate, h.light, h.inN, h.inT, h.inQ, h.inC, h.inR, h.inM⟩
theorem NetAt.ulen (h : NetAt w nb m s lim F) {a b : Nat} (ha : a < s.n) (hb : b < s.n) : (m.us a b).length = (s.q a b).length := by rw [← h.same a b ha hb, List.length_map]
end
end Go.Proofs.Ytnpenabkmpoafaa
