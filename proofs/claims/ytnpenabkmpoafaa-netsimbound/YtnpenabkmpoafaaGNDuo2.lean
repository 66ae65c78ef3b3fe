/- Both networks side by side. The calls, with both networks side by side. -/
import Derived.Test.YtnpenabkmpoafaaQNRel
set_option linter.unusedSimpArgs false
set_option linter.unusedVariables false
namespace Go.Proofs.Ytnpenabkmpoafaa
open Go.RowKit
/-- The program's network and the document's, apart from each other and from the blocks of A; all that was in w0 reads as it did. -/
def Duo (A : Nat → Prop) (w0 w : World) (nb db : Nat) (s : NS) (d : RS) (lim : Nat) : Prop :=
  ∃ Z lv vs, ∃ G : Nat → Prop, RefAt w db Z lv vs d G ∧ NK (fun g => A g ∨ G g) w0 w nb s lim ∧ (∀ g, G g → w0.heap.size ≤ g ∧ g < w.heap.size ∧ ¬ A g) ∧ (∀ g, A g → w0.heap.size ≤ g ∧ g < w.heap.size)
/-- What a call on either may change. -/
def offA (A : Nat → Prop) (w0 : World) : Nat → Prop := fun g => w0.heap.size ≤ g ∧ ¬ A g
section
variable {A : Nat → Prop} {w0 w w' : World} {nb db : Nat} {s : NS} {d : RS} {lim : Nat}
theorem Duo.old (h : Duo A w0 w nb db s d lim) : Kept w0 w := by
  obtain ⟨Z, lv, vs, G, h1, h2, h3, h4⟩ := h
  exact h2.old
theorem Duo.inA (h : Duo A w0 w nb db s d lim) : ∀ g, A g → w0.heap.size ≤ g ∧ g < w.heap.size := by
  obtain ⟨Z, lv, vs, G, h1, h2, h3, h4⟩ := h
  exact h4
theorem Duo.grow (h : Duo A w0 w nb db s d lim) (k : Kept w w') {A' : Nat → Prop} (hA : ∀ g, A' g → A g ∨ (w.heap.size ≤ g ∧ g < w'.heap.size)) : Duo A' w0 w' nb db s d lim := by
  obtain ⟨Z, lv, vs, G, h1, h2, h3, h4⟩ := h
  have hs := k.size
  have hs0 := h2.old.size
  refine ⟨Z, lv, vs, G, h1.kept k, (h2.widen (A' := fun g => A' g ∨ G g) (fun g x => ?_)).kept k, fun g x => ⟨(h3 g x).1, by have := (h3 g x).2.1; omega, fun y => ?_⟩, fun g x => ?_⟩
  · rcases x with x | x
    · rcases hA g x with y | y
      · exact .inl (.inl y)
      · exact .inr y.1
    · exact .inl (.inr x)
  · rcases hA g y with z | z
    · exact (h3 g x).2.2 z
    · have := (h3 g x).2.1; omega
  · rcases hA g x with y | y
    · have := h4 g y; omega
    · omega
theorem Duo.kept (h : Duo A w0 w nb db s d lim) (k : Kept w w') : Duo A w0 w' nb db s d lim := h.grow k fun g x => .inl x
theorem Duo.more (h : Duo A w0 w nb db s d lim) {lim' : Nat} (hl : lim ≤ lim') : Duo A w0 w nb db s d lim' := by
  obtain ⟨Z, lv, vs, G, h1, h2, h3, h4⟩ := h
  exact ⟨Z, lv, vs, G, h1, h2.more hl, h3, h4⟩
/-- What is kept apart may change. -/
theorem Duo.chg (h : Duo A w0 w nb db s d lim) (c : Chg A w w') : Duo A w0 w' nb db s d lim := by
  obtain ⟨Z, lv, vs, G, h1, h2, h3, h4⟩ := h
  have hs := c.size
  refine ⟨Z, lv, vs, G, h1.chg c (fun g x y => (h3 g x).2.2 y), h2.chg (c.mono fun g _ x => .inl x) (fun g x => ?_), fun g x => ⟨(h3 g x).1, by have := (h3 g x).2.1; omega, (h3 g x).2.2⟩, fun g x => ⟨(h4 g x).1, by have := (h4 g x).2; omega⟩⟩
  rcases x with x | x
  · exact (h4 g x).1
  · exact (h3 g x).1
/-- A call on the document's. -/
theorem Duo.ref (h : Duo A w0 w nb db s d lim) : ∃ Z lv vs, ∃ G : Nat → Prop, RefAt w db Z lv vs d G ∧ vs.length = d.list.length ∧ (∀ W, Chg G w W → Kept w0 W) ∧ ∀ w' d', RefTo w w' db d' G → Duo A w0 w' nb db s d' lim ∧ Chg (offA A w0) w w' := by
  obtain ⟨Z, lv, vs, G, h1, h2, h3, h4⟩ := h
  refine ⟨Z, lv, vs, G, h1, h1.len, fun W c => c.kept h2.old (fun g x => (h3 g x).1), fun w' d' ⟨⟨Z', lv', vs', q1, _⟩, q2⟩ => ⟨⟨Z', lv', vs', ext G w w', q1, ?_, fun g x => ?_, fun g x => ⟨(h4 g x).1, by have := (h4 g x).2; have := q2.size; omega⟩⟩, q2.mono fun g _ x => ⟨(h3 g x).1, (h3 g x).2.2⟩⟩⟩
  · have hs0 := h2.old.size
    have hw := h2.widen (A' := fun g => (A g ∨ G g) ∨ w.heap.size ≤ g) (fun g x => x)
    obtain ⟨m, F, n1, n2, n3⟩ := hw
    have hs := q2.size
    refine ⟨m, F, n1.chg q2 (fun g x y => (n2 g x).2.2 (.inl (.inr y))), fun g x => ⟨(n2 g x).1, by have := (n2 g x).2.1; omega, fun y => ?_⟩, q2.kept n3 (fun g x => (h3 g x).1)⟩
    rcases y with y | y | y
    · exact (n2 g x).2.2 (.inl (.inl y))
    · exact (n2 g x).2.2 (.inl (.inr y))
    · exact (n2 g x).2.2 (.inr y.1)
  · have hs := q2.size
    have hs0 := h2.old.size
    rcases x with x | x
    · exact ⟨(h3 g x).1, by have := (h3 g x).2.1; omega, (h3 g x).2.2⟩
    · exact ⟨by omega, x.2, fun y => by have := (h4 g y).2; omega⟩
/-- A call on the program's: the message that was told, if there is one, is kept apart from now on. -/
theorem Duo.net (h : Duo A w0 w nb db s d lim) : ∃ B : Nat → Prop, NK B w0 w nb s lim ∧ (∀ g, B g → g < w.heap.size) ∧ (∀ g, A g → B g) ∧
    ∀ w' s' lim', ∀ E : Nat → Prop, NK (fun g => B g ∨ E g) w0 w' nb s' lim' → Chg (fun g => w0.heap.size ≤ g ∧ g < w.heap.size ∧ ¬ B g) w w' → (∀ g, E g → w0.heap.size ≤ g ∧ g < w.heap.size ∧ ¬ B g) → Duo (fun g => A g ∨ E g) w0 w' nb db s' d lim' ∧ Chg (offA A w0) w w' := by
  obtain ⟨Z, lv, vs, G, h1, h2, h3, h4⟩ := h
  refine ⟨_, h2, fun g x => ?_, fun g x => .inl x, fun w' s' lim' E n c hE => ⟨⟨Z, lv, vs, G, h1.chg c (fun g x y => y.2.2 (.inr x)), n.widen (fun g x => ?_), fun g x => ⟨(h3 g x).1, by have := (h3 g x).2.1; have := c.size; omega, fun y => ?_⟩, fun g x => ?_⟩, c.mono fun g _ x => ⟨x.1, fun y => x.2.2 (.inl y)⟩⟩⟩
  · rcases x with x | x
    · exact (h4 g x).2
    · exact (h3 g x).2.1
  · rcases x with (x | x) | x
    · exact .inl (.inl (.inl x))
    · exact .inl (.inr x)
    · exact .inl (.inl (.inr x))
  · rcases y with y | y
    · exact (h3 g x).2.2 y
    · exact (hE g y).2.2 (.inr x)
  · have hs := c.size
    rcases x with x | x
    · have := h4 g x; omega
    · have := hE g x; omega
theorem Duo.net0 (h : Duo A w0 w nb db s d lim) : ∃ B : Nat → Prop, NK B w0 w nb s lim ∧ (∀ g, B g → g < w.heap.size) ∧ (∀ g, A g → B g) ∧
    ∀ w' s' lim', NK B w0 w' nb s' lim' → Chg (fun g => w0.heap.size ≤ g ∧ g < w.heap.size ∧ ¬ B g) w w' → Duo A w0 w' nb db s' d lim' ∧ Chg (offA A w0) w w' := by
  obtain ⟨B, h1, h2, h3, h4⟩ := h.net
  refine ⟨B, h1, h2, h3, fun w' s' lim' n c => ?_⟩
  obtain ⟨q1, q2⟩ := h4 w' s' lim' no (n.widen fun g x => x.elim .inl (fun y => y.elim)) c (fun g x => x.elim)
  exact ⟨q1.grow (Kept.refl _) fun g x => .inl (.inl x), q2⟩
end
theorem box_cell {A' : Nat → Prop} {w0 W W' : World} {b o : Nat} {v : Value} (hA : A' b) (hc : W.cell? ⟨b, o, none⟩ = some v) (c : Chg (offA A' w0) W W') : W'.cell? ⟨b, o, none⟩ = some v := chg_cellS c hc (fun y => y.2 hA)
/-- What step leaves. -/
def StepTo (A : Nat → Prop) (w0 w : World) (nb db : Nat) (s : NS) (d : RS) (lim : Nat) (x : Op6) (e : Ending) (w' : World) : Prop :=
  ∃ b : Bool, e = .returned (.bool b) ∧ (Rel s d → b = true) ∧ Duo A w0 w' nb db (stepS s x) (rStepS d x) (lim + 2) ∧ Chg (offA A w0) w w'
/-- The call, as its cells stand in a box. -/
def opCells (x : Op6) : Array Value := #[.int .i64 x.kind, .int .i64 x.a, .int .i64 x.b, .int .i64 x.n, x.lv, x.nv]
end Go.Proofs.Ytnpenabkmpoafaa
set_option linter.unusedSimpArgs false
set_option linter.unusedVariables false
namespace Go.Proofs.Ytnpenabkmpoafaa
open Go.RowKit
section
variable {A : Nat → Prop} {w0 w : World} {nb db : Nat} {s : NS} {d : RS} {lim : Nat}
theorem count_duo (h : Duo A w0 w nb db s d lim) (a b : Int) :
    Calls Try.prog 9 #[.pointer (some ⟨nb, 0, none⟩), .int .i64 a, .int .i64 b] w fun e w' => e = .returned (.tuple #[.int .i64 (countE s a b), .int .i64 (chk s.n [a, b])]) ∧ Duo A w0 w' nb db s d lim ∧ Kept w w' := by
  obtain ⟨B, n1, n2, n3, n4⟩ := h.net0
  refine (count_nk n1 a b).mono ?_
  rintro e w' ⟨h1, -, h3⟩
  exact ⟨h1, h.kept h3, h3⟩
theorem clock_duo (h : Duo A w0 w nb db s d lim) (i : Int) :
    Calls Try.prog 11 #[.pointer (some ⟨nb, 0, none⟩), .int .i64 i] w fun e w' => e = .returned (.tuple #[.int .i64 (clockE s i), .int .i64 (chk s.n [i])]) ∧ Duo A w0 w' nb db s d lim ∧ Kept w w' := by
  obtain ⟨B, n1, n2, n3, n4⟩ := h.net0
  refine (clock_nk n1 i).mono ?_
  rintro e w' ⟨h1, -, h3⟩
  exact ⟨h1, h.kept h3, h3⟩
theorem refCount_duo (h : Duo A w0 w nb db s d lim) (a b : Int) :
    Calls Try.prog 10 #[.pointer (some ⟨db, 0, none⟩), .int .i64 a, .int .i64 b] w fun e w' => e = .returned (.tuple #[.int .i64 (cntE d a b), .int .i64 (errE d a b)]) ∧ w' = w := by
  obtain ⟨Z, lv, vs, G, r1, -⟩ := h.ref
  exact refCount_any a b w db Z lv vs d G r1
/-- Send: the messages lie in blocks that are kept apart. -/
theorem send_duo (h : Duo A w0 w nb db s d lim) (a b : Int) (ms : List (List UInt8)) (v : Value) (hv : RecsAt w v ms A) (hms : ∀ x ∈ ms, x.length ≤ 140737488355328) (hl : lim + 2 < maxLen) :
    Calls Try.prog 12 #[.pointer (some ⟨nb, 0, none⟩), .int .i64 a, .int .i64 b, v] w fun e w' => e = .returned (.int .i64 (sendE s a b ms.length)) ∧ Duo A w0 w' nb db (sendS s a b ms) d (lim + 2) ∧ Chg (offA A w0) w w' ∧ RecsAt w' v ms A := by
  obtain ⟨B, n1, n2, n3, n4⟩ := h.net0
  refine (send_nk n1 (Kept.refl w) n2 a b ms v A hv (fun g x => .inr (n3 g x)) hms (by omega)).mono ?_
  rintro e w' ⟨h1, h2, h3, h4⟩
  obtain ⟨q1, q2⟩ := n4 _ _ _ h2 h3
  exact ⟨h1, q1.more (by omega), q2, h4⟩
theorem refSend_duo (h : Duo A w0 w nb db s d lim) (a b : Int) (ms : List (List UInt8)) (v : Value) (hv : ∀ W, Kept w0 W → Parts W v ms) (hms : ∀ x ∈ ms, x.length ≤ 140737488355328) (hml : ms.length ≤ 140737488355328) (hfew : d.list.length + 4096 ≤ 5000000) :
    Calls Try.prog 15 #[.pointer (some ⟨db, 0, none⟩), .int .i64 a, .int .i64 b, v] w fun e w' => e = .returned (.int .i64 (rSendE d a b ms.length)) ∧ Duo A w0 w' nb db s (rSendS d a b ms) lim ∧ Chg (offA A w0) w w' := by
  obtain ⟨Z, lv, vs, G, r1, r2, r3, r4⟩ := h.ref
  refine (refSend_any a b ms v w db Z lv vs d G r1 (fun W c => hv W (r3 W c)) hms hml (by omega)).mono ?_
  rintro e w' ⟨h1, h2⟩
  obtain ⟨q1, q2⟩ := r4 _ _ h2
  exact ⟨h1, q1, q2⟩
/-- Deliver: what is told is kept apart. -/
theorem deliver_duo (h : Duo A w0 w nb db s d lim) (a b i : Int) (hl : lim + 2 < maxLen) :
    Calls Try.prog 13 #[.pointer (some ⟨nb, 0, none⟩), .int .i64 a, .int .i64 b, .int .i64 i] w fun e w' => ∃ v, e = .returned (.tuple #[v, .int .i64 (waitE s a b i)]) ∧ w'.ownsRow 0 5 1 v (msgS s a b i).length (Lib.byteCells (msgS s a b i)) ∧ (∀ g, v.ownBlock = some g → w0.heap.size ≤ g ∧ ¬ A g) ∧ Duo (fun g => A g ∨ v.ownBlock = some g) w0 w' nb db (delS s a b i) d (lim + 2) ∧ Chg (offA A w0) w w' := by
  obtain ⟨B, n1, n2, n3, n4⟩ := h.net
  refine (deliver_nk n1 n2 a b i (by omega)).mono ?_
  rintro e w' ⟨v, h1, h2, h3, h4, h5⟩
  obtain ⟨q1, q2⟩ := n4 _ _ _ _ h4 h5 h3
  exact ⟨v, h1, h2, fun g x => ⟨(h3 g x).1, fun y => (h3 g x).2.2 (n3 g y)⟩, q1.more (by omega), q2⟩
theorem refDeliver_duo (h : Duo A w0 w nb db s d lim) (a b i : Int) :
    Calls Try.prog 16 #[.pointer (some ⟨db, 0, none⟩), .int .i64 a, .int .i64 b, .int .i64 i] w fun e w' => (∃ mv, e = .returned (.tuple #[mv, .int .i64 (rWait d a b i)]) ∧ Bts w' mv (if rWait d a b i = 0 then rPick d a b i else [])) ∧ Duo A w0 w' nb db s (rDelS d a b i) lim ∧ Chg (offA A w0) w w' := by
  obtain ⟨Z, lv, vs, G, r1, r2, r3, r4⟩ := h.ref
  refine (refDeliver_any a b i w db Z lv vs d G r1).mono ?_
  rintro e w' ⟨⟨mv, h1, h2⟩, h3⟩
  obtain ⟨q1, q2⟩ := r4 _ _ h3
  refine ⟨⟨mv, h1, ?_⟩, q1, q2⟩
  by_cases e : rWait d a b i = 0
  · rw [if_pos e] at h2 ⊢
    exact h2
  · rw [if_neg e] at h2 ⊢
    rw [h2]
    exact Bts.nil w'
theorem drop_duo (h : Duo A w0 w nb db s d lim) (a b i : Int) (hl : lim + 2 < maxLen) :
    Calls Try.prog 18 #[.pointer (some ⟨nb, 0, none⟩), .int .i64 a, .int .i64 b, .int .i64 i] w fun e w' => e = .returned (.int .i64 (waitE s a b i)) ∧ Duo A w0 w' nb db (delS s a b i) d (lim + 2) ∧ Chg (offA A w0) w w' := by
  obtain ⟨B, n1, n2, n3, n4⟩ := h.net0
  refine (drop_nk n1 n2 a b i (by omega)).mono ?_
  rintro e w' ⟨h1, h2, h3⟩
  obtain ⟨q1, q2⟩ := n4 _ _ _ h2 h3
  exact ⟨h1, q1.more (by omega), q2⟩
theorem repeat_duo (h : Duo A w0 w nb db s d lim) (a b i : Int) (hl : lim + 2 < maxLen) :
    Calls Try.prog 19 #[.pointer (some ⟨nb, 0, none⟩), .int .i64 a, .int .i64 b, .int .i64 i] w fun e w' => e = .returned (.int .i64 (repE s a b i)) ∧ Duo A w0 w' nb db (repS s a b i) d (lim + 2) ∧ Chg (offA A w0) w w' := by
  obtain ⟨B, n1, n2, n3, n4⟩ := h.net0
  refine (repeat_nk n1 n2 a b i (by omega)).mono ?_
  rintro e w' ⟨h1, h2, h3⟩
  obtain ⟨q1, q2⟩ := n4 _ _ _ h2 h3
  exact ⟨h1, q1.more (by omega), q2⟩
theorem refRepeat_duo (h : Duo A w0 w nb db s d lim) (a b i : Int) (hfew : d.list.length + 4096 ≤ 5000000) (hsm : ∀ y ∈ d.list, y.2.2.length ≤ 140737488355328) :
    Calls Try.prog 20 #[.pointer (some ⟨db, 0, none⟩), .int .i64 a, .int .i64 b, .int .i64 i] w fun e w' => e = .returned (.int .i64 (rRepE d a b i)) ∧ Duo A w0 w' nb db s (rRepS d a b i) lim ∧ Chg (offA A w0) w w' := by
  obtain ⟨Z, lv, vs, G, r1, r2, r3, r4⟩ := h.ref
  refine (refRepeat_any a b i w db Z lv vs d G r1 (by omega) hsm).mono ?_
  rintro e w' ⟨h1, h2⟩
  obtain ⟨q1, q2⟩ := r4 _ _ h2
  exact ⟨h1, q1, q2⟩
theorem cut_duo (h : Duo A w0 w nb db s d lim) (a b : Int) (hl : lim + 2 < maxLen) :
    Calls Try.prog 21 #[.pointer (some ⟨nb, 0, none⟩), .int .i64 a, .int .i64 b] w fun e w' => e = .returned (.int .i64 (chk s.n [a, b])) ∧ Duo A w0 w' nb db (cutS s a b) d (lim + 2) ∧ Chg (offA A w0) w w' := by
  obtain ⟨B, n1, n2, n3, n4⟩ := h.net0
  refine (cut_nk n1 n2 a b hl).mono ?_
  rintro e w' ⟨h1, h2, h3⟩
  obtain ⟨q1, q2⟩ := n4 _ _ _ h2 h3
  exact ⟨h1, q1, q2⟩
theorem refCut_duo (h : Duo A w0 w nb db s d lim) (a b : Int) :
    Calls Try.prog 22 #[.pointer (some ⟨db, 0, none⟩), .int .i64 a, .int .i64 b] w fun e w' => e = .returned (.int .i64 (rCutE d a b)) ∧ Duo A w0 w' nb db s (rCutS d a b) lim ∧ Chg (offA A w0) w w' := by
  obtain ⟨Z, lv, vs, G, r1, r2, r3, r4⟩ := h.ref
  refine (refCut_any a b w db Z lv vs d G r1).mono ?_
  rintro e w' ⟨h1, h2⟩
  obtain ⟨q1, q2⟩ := r4 _ _ h2
  exact ⟨h1, q1, q2⟩
theorem heal_duo (h : Duo A w0 w nb db s d lim) :
    Calls Try.prog 23 #[.pointer (some ⟨nb, 0, none⟩)] w fun e w' => e = .returned (.tuple #[]) ∧ Duo A w0 w' nb db (healS s) d lim ∧ Chg (offA A w0) w w' := by
  obtain ⟨B, n1, n2, n3, n4⟩ := h.net0
  refine (heal_nk n1 n2).mono ?_
  rintro e w' ⟨h1, h2, h3⟩
  obtain ⟨q1, q2⟩ := n4 _ _ _ h2 h3
  exact ⟨h1, q1, q2⟩
theorem refHeal_duo (h : Duo A w0 w nb db s d lim) :
    Calls Try.prog 24 #[.pointer (some ⟨db, 0, none⟩)] w fun e w' => e = .returned (.tuple #[]) ∧ Duo A w0 w' nb db s (rHealS d) lim ∧ Chg (offA A w0) w w' := by
  obtain ⟨Z, lv, vs, G, r1, r2, r3, r4⟩ := h.ref
  refine (refHeal_any w db Z lv vs d G r1).mono ?_
  rintro e w' ⟨h1, h2⟩
  obtain ⟨q1, q2⟩ := r4 _ _ h2
  exact ⟨h1, q1, q2⟩
theorem lose_duo (h : Duo A w0 w nb db s d lim) (l : List Int) (v : Value) (hv : w.ownsRow 0 3 1 v l.length (l.map (Value.int .i64))) (hA : ∀ g, v.ownBlock = some g → A g) :
    Calls Try.prog 25 #[.pointer (some ⟨nb, 0, none⟩), v] w fun e w' => e = .returned (.int .i64 (chk s.n l)) ∧ Duo A w0 w' nb db (loseS s l) d lim ∧ Chg (offA A w0) w w' := by
  obtain ⟨B, n1, n2, n3, n4⟩ := h.net0
  refine (lose_nk n1 n2 l v (fun W c => Ints.of_own (own_chg hv c (fun g hg x => x.2.2 (n3 g (hA g hg)))))).mono ?_
  rintro e w' ⟨h1, h2, h3⟩
  obtain ⟨q1, q2⟩ := n4 _ _ _ h2 h3
  exact ⟨h1, q1, q2⟩
theorem refLose_duo (h : Duo A w0 w nb db s d lim) (l : List Int) (v : Value) (hv : Ints w v l) :
    Calls Try.prog 27 #[.pointer (some ⟨db, 0, none⟩), v] w fun e w' => e = .returned (.int .i64 (rLoseE d l)) ∧ Duo A w0 w' nb db s (rLoseS d l) lim ∧ Chg (offA A w0) w w' := by
  obtain ⟨Z, lv, vs, G, r1, r2, r3, r4⟩ := h.ref
  refine (refLose_any l v w db Z lv vs d G r1 hv).mono ?_
  rintro e w' ⟨h1, h2⟩
  obtain ⟨q1, q2⟩ := r4 _ _ h2
  exact ⟨h1, q1, q2⟩
theorem advance_duo (h : Duo A w0 w nb db s d lim) (ticks : Int) (l : List Int) (v : Value) (hv : Ints w v l) (ht : ticks ≤ 9223372036854775807) :
    Calls Try.prog 28 #[.pointer (some ⟨nb, 0, none⟩), .int .i64 ticks, v] w fun e w' => e = .returned (.int .i64 (advE s ticks l)) ∧ Duo A w0 w' nb db (advS s ticks l) d lim ∧ Chg (offA A w0) w w' := by
  obtain ⟨B, n1, n2, n3, n4⟩ := h.net0
  refine (advance_nk n1 n2 ticks l v hv ht).mono ?_
  rintro e w' ⟨h1, h2, h3⟩
  obtain ⟨q1, q2⟩ := n4 _ _ _ h2 h3
  exact ⟨h1, q1, q2⟩
theorem refAdvance_duo (h : Duo A w0 w nb db s d lim) (ticks : Int) (l : List Int) (v : Value) (hv : Ints w v l) (htk : -9223372036854775808 ≤ ticks ∧ ticks ≤ 9223372036854775807) (hcl : ∀ i, i < 32 → d.t i ≤ 1099511627776) :
    Calls Try.prog 29 #[.pointer (some ⟨db, 0, none⟩), .int .i64 ticks, v] w fun e w' => e = .returned (.int .i64 (rAdvE d ticks l)) ∧ Duo A w0 w' nb db s (rAdvS d ticks l) lim ∧ Chg (offA A w0) w w' := by
  obtain ⟨Z, lv, vs, G, r1, r2, r3, r4⟩ := h.ref
  refine (refAdvance_any ticks l v w db Z lv vs d G r1 hv htk hcl).mono ?_
  rintro e w' ⟨h1, h2⟩
  obtain ⟨q1, q2⟩ := r4 _ _ h2
  exact ⟨h1, q1, q2⟩
end
end Go.Proofs.Ytnpenabkmpoafaa
