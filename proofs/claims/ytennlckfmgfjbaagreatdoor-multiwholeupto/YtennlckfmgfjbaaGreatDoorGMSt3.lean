/- Work beside its tree; what the tree's calls do to both. Get, whatever is asked. The walks of create, remove, set and check. -/
import Derived.Test.YtennlckfmgfjbaaGreatDoorGMDw2
import Derived.Test.YtennlckfmgfjbaaGreatDoorGPUnder3
import Derived.Test.YtennlckfmgfjbaaGreatDoorGZGet2
import Derived.Test.YtennlckfmgfjbaaGreatDoorGMPl2
set_option linter.unusedSimpArgs false
set_option linter.unusedVariables false
namespace Go.Proofs.YtennlckfmgfjbaaGreatDoor
open Go.RowKit
/-- Work beside its tree, each with blocks of its own, all younger than w0; the blocks of A are none of theirs. -/
def Work (A : Nat → Prop) (w0 W : World) (wb tb : Nat) (h : Pth) (owner qn qb bad : Int) (m : WkM) (lim : Nat) : Prop := ∃ mb st, ∃ F G : Nat → Prop, ∃ rv ev,
  WkAt W wb tb h owner qn qb m.un m.ub bad m.res m.eff rv ev F ∧ TreeAt W tb mb st lim G ∧ plainZ st = m.t ∧ (∀ g, F g → w0.heap.size ≤ g ∧ g < W.heap.size) ∧ (∀ g, G g → w0.heap.size ≤ g ∧ g < W.heap.size) ∧ (∀ g, F g → ¬ G g) ∧ Kept w0 W ∧ (∀ g, A g → g < W.heap.size ∧ ¬ F g ∧ ¬ G g)
/-- What a call may change: no block that is kept apart. -/
def Apart (A : Nat → Prop) (w w' : World) : Prop := Chg (fun g => ¬ A g) w w'
theorem Apart.of_kept {A : Nat → Prop} {w w' : World} (k : Kept w w') : Apart A w w' := Chg.of_kept k
theorem Apart.trans {A : Nat → Prop} {w w1 w2 : World} (h : Apart A w w1) (k : Apart A w1 w2) : Apart A w w2 := Chg.trans h k (fun _ _ x => x)
theorem Apart.less {A B : Nat → Prop} {w w' : World} (h : Apart A w w') (hb : ∀ g, B g → A g) : Apart B w w' := Chg.mono h (fun g _ x y => x (hb g y))
theorem Apart.cell {A : Nat → Prop} {w w' : World} (h : Apart A w w') {b o : Nat} {v : Value} (hc : w.cell? ⟨b, o, none⟩ = some v) (hb : A b) : w'.cell? ⟨b, o, none⟩ = some v := chg_cellS h hc (fun x => x hb)
section
variable {A B : Nat → Prop} {w0 w W W' : World} {wb tb : Nat} {h : Pth} {owner qn qb bad : Int} {m : WkM} {lim : Nat}
theorem Work.old (k : Work A w0 W wb tb h owner qn qb bad m lim) : Kept w0 W := by
  obtain ⟨mb, st, F, G, rv, ev, a1, a2, a3, a4, a5, a6, a7, a8⟩ := k
  exact a7
theorem Work.kept (k : Work A w0 W wb tb h owner qn qb bad m lim) (c : Kept W W') : Work A w0 W' wb tb h owner qn qb bad m lim := by
  obtain ⟨mb, st, F, G, rv, ev, a1, a2, a3, a4, a5, a6, a7, a8⟩ := k
  have := c.size
  exact ⟨mb, st, F, G, rv, ev, a1.kept c, a2.kept c, a3, fun g x => ⟨(a4 g x).1, by have := (a4 g x).2; omega⟩, fun g x => ⟨(a5 g x).1, by have := (a5 g x).2; omega⟩, a6, a7.trans c, fun g x => ⟨by have := (a8 g x).1; omega, (a8 g x).2⟩⟩
theorem Work.more (k : Work A w0 W wb tb h owner qn qb bad m lim) {lim' : Nat} (hl : lim ≤ lim') : Work A w0 W wb tb h owner qn qb bad m lim' := by
  obtain ⟨mb, st, F, G, rv, ev, a1, a2, a⟩ := k
  exact ⟨mb, st, F, G, rv, ev, a1, a2.more hl, a⟩
theorem Work.less (k : Work A w0 W wb tb h owner qn qb bad m lim) (hb : ∀ g, B g → A g) : Work B w0 W wb tb h owner qn qb bad m lim := by
  obtain ⟨mb, st, F, G, rv, ev, a1, a2, a3, a4, a5, a6, a7, a8⟩ := k
  exact ⟨mb, st, F, G, rv, ev, a1, a2, a3, a4, a5, a6, a7, fun g x => a8 g (hb g x)⟩
/-- A new block is none of theirs. -/
theorem Work.away (k : Work A w0 W wb tb h owner qn qb bad m lim) (c : Kept W W') {b : Nat} (hb : W.heap.size ≤ b ∧ b < W'.heap.size) : Work (fun g => A g ∨ g = b) w0 W' wb tb h owner qn qb bad m lim := by
  obtain ⟨mb, st, F, G, rv, ev, a1, a2, a3, a4, a5, a6, a7, a8⟩ := k
  have := c.size
  refine ⟨mb, st, F, G, rv, ev, a1.kept c, a2.kept c, a3, fun g x => ⟨(a4 g x).1, by have := (a4 g x).2; omega⟩, fun g x => ⟨(a5 g x).1, by have := (a5 g x).2; omega⟩, a6, a7.trans c, fun g x => ?_⟩
  rcases x with x | x
  · exact ⟨by have := (a8 g x).1; omega, (a8 g x).2⟩
  · subst x
    exact ⟨hb.2, fun y => by have := (a4 g y).2; omega, fun y => by have := (a5 g y).2; omega⟩
theorem Work.blk (k : Work A w0 W wb tb h owner qn qb bad m lim) : ∃ rv ev, W.heap[wb]? = some (.cells #[rv, ev, .int .i64 bad, .pointer (some ⟨tb, 0, none⟩), .string ⟨h.toArray⟩, .int .i64 owner, .int .i64 m.un, .int .i64 m.ub, .int .i64 qn, .int .i64 qb] 72 (0, 0)) ∧ ¬ A wb := by
  obtain ⟨mb, st, F, G, rv, ev, a1, a2, a3, a4, a5, a6, a7, a8⟩ := k
  exact ⟨rv, ev, a1.blk, fun x => (a8 wb x).2.1 a1.inW⟩
theorem Work.srt (k : Work A w0 W wb tb h owner qn qb bad m lim) : SrtZ m.t := by
  obtain ⟨mb, st, F, G, rv, ev, a1, a2, a3, a⟩ := k
  rw [← a3]
  exact srt_mapZ.2 a2.srt
/-- The work's change alone. -/
theorem Work.ofWk {un' ub' : Int} {res' : List (Pth × Int)} {eff' : List (Int × Pth)} {bad' : Int} (k : Work A w0 W wb tb h owner qn qb bad m lim)
    (hs : ∀ F rv ev, WkAt W wb tb h owner qn qb m.un m.ub bad m.res m.eff rv ev F → (∃ rv' ev', WkAt W' wb tb h owner qn qb un' ub' bad' res' eff' rv' ev' (ext F W W')) ∧ Chg F W W') :
    Work A w0 W' wb tb h owner qn qb bad' ⟨m.t, un', ub', res', eff'⟩ lim ∧ Apart A W W' := by
  obtain ⟨mb, st, F, G, rv, ev, a1, a2, a3, a4, a5, a6, a7, a8⟩ := k
  obtain ⟨⟨rv', ev', b1⟩, c⟩ := hs F rv ev a1
  have s1 := c.size
  refine ⟨⟨mb, st, _, G, rv', ev', b1, a2.chg c (fun g x y => a6 g y x), a3, fun g x => ?_, fun g x => ⟨(a5 g x).1, by have := (a5 g x).2; omega⟩, fun g x y => ?_, c.kept a7 (fun g x => (a4 g x).1), fun g x => ⟨by have := (a8 g x).1; omega, fun y => ?_, (a8 g x).2.2⟩⟩, c.mono fun g _ x y => (a8 g y).2.1 x⟩
  · rcases x with x | x
    · exact ⟨(a4 g x).1, by have := (a4 g x).2; omega⟩
    · exact ⟨by have := a7.size; omega, x.2⟩
  · rcases x with x | x
    · exact a6 g x y
    · have := (a5 g y).2
      omega
  · rcases y with y | y
    · exact (a8 g x).2.1 y
    · have := (a8 g x).1
      omega
/-- The tree's change alone. -/
theorem Work.ofTree {t' : ZT} (k : Work A w0 W wb tb h owner qn qb bad m lim) {lim' : Nat}
    (hs : ∀ mb st G, TreeAt W tb mb st lim G → plainZ st = m.t → (∃ st', TreeAt W' tb mb st' lim' (ext G W W') ∧ plainZ st' = t') ∧ Chg G W W') :
    Work A w0 W' wb tb h owner qn qb bad { m with t := t' } lim' ∧ Apart A W W' := by
  obtain ⟨mb, st, F, G, rv, ev, a1, a2, a3, a4, a5, a6, a7, a8⟩ := k
  obtain ⟨⟨st', b1, b2⟩, c⟩ := hs mb st G a2 a3
  have s1 := c.size
  refine ⟨⟨mb, st', F, _, rv, ev, a1.chg c (fun g x y => a6 g x y), b1, b2, fun g x => ⟨(a4 g x).1, by have := (a4 g x).2; omega⟩, fun g x => ?_, fun g x y => ?_, c.kept a7 (fun g x => (a5 g x).1), fun g x => ⟨by have := (a8 g x).1; omega, (a8 g x).2.1, fun y => ?_⟩⟩, c.mono fun g _ x y => (a8 g y).2.2 x⟩
  · rcases x with x | x
    · exact ⟨(a5 g x).1, by have := (a5 g x).2; omega⟩
    · exact ⟨by have := a7.size; omega, x.2⟩
  · rcases y with y | y
    · exact a6 g x y
    · have := (a4 g x).2
      omega
  · rcases y with y | y
    · exact (a8 g x).2.2 y
    · have := (a8 g x).1
      omega
theorem Work.create (k : Work A w0 W wb tb h owner qn qb bad m lim) (p : Pth) (data : List UInt8) (v : Value) (own : Int) (seq : Bool) (hv : Bts W v data) (htab : TbZ W) (hlim : lim + 2 < 4611686018427387903) :
    Calls Tryz.prog 18 #[.pointer (some ⟨tb, 0, none⟩), .string ⟨p.toArray⟩, v, .int .i64 own, .bool seq] W fun e w' => e = .returned (.tuple #[.string ⟨(createP m.t p data.length own seq).toArray⟩, .int .i64 (createE m.t p data.length own seq)]) ∧ Work A w0 w' wb tb h owner qn qb bad { m with t := createS m.t p data own seq } (lim + 1) ∧ Apart A W w' := by
  obtain ⟨mb, st, F, G, rv, ev, a1, a2, a3, a⟩ := id k
  refine (create_any a2 p data v own seq hv htab hlim).mono ?_
  rintro e w' ⟨rfl, h1, h2⟩
  rw [a3] at h1 ⊢
  refine ⟨rfl, ?_⟩
  obtain ⟨a4, a5, a6, a7, a8⟩ := a
  obtain ⟨st', b1, b2⟩ := h1
  have s1 := h2.size
  refine ⟨⟨mb, st', F, _, rv, ev, a1.chg h2 (fun g x y => a6 g x y), b1, b2, fun g x => ⟨(a4 g x).1, by have := (a4 g x).2; omega⟩, fun g x => ?_, fun g x y => ?_, h2.kept a7 (fun g x => (a5 g x).1), fun g x => ⟨by have := (a8 g x).1; omega, (a8 g x).2.1, fun y => ?_⟩⟩, h2.mono fun g _ x y => (a8 g y).2.2 x⟩
  · rcases x with x | x
    · exact ⟨(a5 g x).1, by have := (a5 g x).2; omega⟩
    · exact ⟨by have := a7.size; omega, x.2⟩
  · rcases y with y | y
    · exact a6 g x y
    · have := (a4 g x).2
      omega
  · rcases y with y | y
    · exact (a8 g x).2.2 y
    · have := (a8 g x).1
      omega
theorem Work.delete (k : Work A w0 W wb tb h owner qn qb bad m lim) (p : Pth) (v : Int) (hlim : lim + 2 < 4611686018427387903) :
    Calls Tryz.prog 43 #[.pointer (some ⟨tb, 0, none⟩), .string ⟨p.toArray⟩, .int .i64 v] W fun e w' => e = .returned (.int .i64 (deleteE m.t p v)) ∧ Work A w0 w' wb tb h owner qn qb bad { m with t := deleteS m.t p v } (lim + 1) ∧ Apart A W w' := by
  obtain ⟨mb, st, F, G, rv, ev, a1, a2, a3, a⟩ := id k
  refine (delete_any a2 p v hlim).mono ?_
  rintro e w' ⟨rfl, h1, h2⟩
  rw [a3] at h1 ⊢
  refine ⟨rfl, ?_⟩
  obtain ⟨a4, a5, a6, a7, a8⟩ := a
  obtain ⟨st', b1, b2⟩ := h1
  have s1 := h2.size
  refine ⟨⟨mb, st', F, _, rv, ev, a1.chg h2 (fun g x y => a6 g x y), b1, b2, fun g x => ⟨(a4 g x).1, by have := (a4 g x).2; omega⟩, fun g x => ?_, fun g x y => ?_, h2.kept a7 (fun g x => (a5 g x).1), fun g x => ⟨by have := (a8 g x).1; omega, (a8 g x).2.1, fun y => ?_⟩⟩, h2.mono fun g _ x y => (a8 g y).2.2 x⟩
  · rcases x with x | x
    · exact ⟨(a5 g x).1, by have := (a5 g x).2; omega⟩
    · exact ⟨by have := a7.size; omega, x.2⟩
  · rcases y with y | y
    · exact a6 g x y
    · have := (a4 g x).2
      omega
  · rcases y with y | y
    · exact (a8 g x).2.2 y
    · have := (a8 g x).1
      omega
theorem Work.setting (k : Work A w0 W wb tb h owner qn qb bad m lim) (p : Pth) (data : List UInt8) (dv : Value) (v : Int) (hv : Bts W dv data) (hlim : lim + 2 < 4611686018427387903) :
    Calls Tryz.prog 73 #[.pointer (some ⟨tb, 0, none⟩), .string ⟨p.toArray⟩, dv, .int .i64 v] W fun e w' => e = .returned (.tuple #[.int .i64 (setV m.t p data.length v), .int .i64 (setE m.t p data.length v)]) ∧ Work A w0 w' wb tb h owner qn qb bad { m with t := setS m.t p data v } (lim + 1) ∧ Apart A W w' := by
  obtain ⟨mb, st, F, G, rv, ev, a1, a2, a3, a⟩ := id k
  refine (set_any a2 p data dv v hv hlim).mono ?_
  rintro e w' ⟨rfl, h1, h2⟩
  rw [a3] at h1 ⊢
  refine ⟨rfl, ?_⟩
  obtain ⟨a4, a5, a6, a7, a8⟩ := a
  obtain ⟨st', b1, b2⟩ := h1
  have s1 := h2.size
  refine ⟨⟨mb, st', F, _, rv, ev, a1.chg h2 (fun g x y => a6 g x y), b1, b2, fun g x => ⟨(a4 g x).1, by have := (a4 g x).2; omega⟩, fun g x => ?_, fun g x y => ?_, h2.kept a7 (fun g x => (a5 g x).1), fun g x => ⟨by have := (a8 g x).1; omega, (a8 g x).2.1, fun y => ?_⟩⟩, h2.mono fun g _ x y => (a8 g y).2.2 x⟩
  · rcases x with x | x
    · exact ⟨(a5 g x).1, by have := (a5 g x).2; omega⟩
    · exact ⟨by have := a7.size; omega, x.2⟩
  · rcases y with y | y
    · exact a6 g x y
    · have := (a4 g x).2
      omega
  · rcases y with y | y
    · exact (a8 g x).2.2 y
    · have := (a8 g x).1
      omega
theorem Work.tell (k : Work A w0 W wb tb h owner qn qb bad m lim) (p : Pth) (v kind : Int) (q : Pth) (hr : m.res.length ≤ 1000) (he : m.eff.length ≤ 1000) (hq : q.length ≤ 140737488355328) :
    Calls Tryz.prog 94 #[.pointer (some ⟨wb, 0, none⟩), .agg #[.string ⟨p.toArray⟩, .int .i64 v], .int .i64 kind, .string ⟨q.toArray⟩] W fun e w' => e = .returned (.tuple #[]) ∧ Work A w0 w' wb tb h owner qn qb bad ⟨m.t, m.un, m.ub, m.res ++ [(p, v)], m.eff ++ [(kind, q)]⟩ lim ∧ Apart A W w' := by
  obtain ⟨mb, st, F, G, rv, ev, a1, a2, a3, a⟩ := id k
  refine (tell_any a1 p v kind q hr he hq).mono ?_
  rintro e w' ⟨rfl, h1, h2⟩
  obtain ⟨a4, a5, a6, a7, a8⟩ := a
  obtain ⟨rv', ev', b1⟩ := h1
  have s1 := h2.size
  refine ⟨rfl, ⟨mb, st, _, G, rv', ev', b1, a2.chg h2 (fun g x y => a6 g y x), a3, fun g x => ?_, fun g x => ⟨(a5 g x).1, by have := (a5 g x).2; omega⟩, fun g x y => ?_, h2.kept a7 (fun g x => (a4 g x).1), fun g x => ⟨by have := (a8 g x).1; omega, fun y => ?_, (a8 g x).2.2⟩⟩, h2.mono fun g _ x y => (a8 g y).2.1 x⟩
  · rcases x with x | x
    · exact ⟨(a4 g x).1, by have := (a4 g x).2; omega⟩
    · exact ⟨by have := a7.size; omega, x.2⟩
  · rcases x with x | x
    · exact a6 g x y
    · have := (a5 g y).2
      omega
  · rcases y with y | y
    · exact (a8 g x).2.1 y
    · have := (a8 g x).1
      omega
theorem Work.room (k : Work A w0 W wb tb h owner qn qb bad m lim) :
    Calls Tryz.prog 95 #[.pointer (some ⟨wb, 0, none⟩)] W fun e w' => e = .returned (.int .i64 (roomE qn qb m.un m.ub)) ∧ Kept W w' := by
  obtain ⟨mb, st, F, G, rv, ev, a1, a⟩ := k
  exact room_any a1
/-- A number of the work is set. -/
theorem Work.setUn (k : Work A w0 W wb tb h owner qn qb bad m lim) (x : Int) : Work A w0 (W.setCell ⟨wb, 6, none⟩ (.int .i64 x)) wb tb h owner qn qb bad { m with un := x } lim ∧ Apart A W (W.setCell ⟨wb, 6, none⟩ (.int .i64 x)) := by
  refine k.ofWk (un' := x) (ub' := m.ub) (res' := m.res) (eff' := m.eff) fun F rv ev a => ?_
  have c : Chg (fun g => g = wb) W (W.setCell ⟨wb, 6, none⟩ (.int .i64 x)) := (Chg.refl _ W).setCell _ (fun _ => rfl)
  have h6 := Lib.heap_setCell_same (i := 6) a.blk (.int .i64 x)
  exact ⟨⟨rv, ev, ⟨by simpa using h6, own_chg a.rr c (fun g hg e => a.rne (by rw [hg, e])), own_chg a.er c (fun g hg e => a.ene (by rw [hg, e])), .inl a.inW, fun g y => .inl (a.inR g y), fun g y => .inl (a.inE g y)⟩⟩, c.mono fun g _ y => by rw [y]; exact a.inW⟩
theorem Work.setUb (k : Work A w0 W wb tb h owner qn qb bad m lim) (x : Int) : Work A w0 (W.setCell ⟨wb, 7, none⟩ (.int .i64 x)) wb tb h owner qn qb bad { m with ub := x } lim ∧ Apart A W (W.setCell ⟨wb, 7, none⟩ (.int .i64 x)) := by
  refine k.ofWk (un' := m.un) (ub' := x) (res' := m.res) (eff' := m.eff) fun F rv ev a => ?_
  have c : Chg (fun g => g = wb) W (W.setCell ⟨wb, 7, none⟩ (.int .i64 x)) := (Chg.refl _ W).setCell _ (fun _ => rfl)
  have h6 := Lib.heap_setCell_same (i := 7) a.blk (.int .i64 x)
  exact ⟨⟨rv, ev, ⟨by simpa using h6, own_chg a.rr c (fun g hg e => a.rne (by rw [hg, e])), own_chg a.er c (fun g hg e => a.ene (by rw [hg, e])), .inl a.inW, fun g y => .inl (a.inR g y), fun g y => .inl (a.inE g y)⟩⟩, c.mono fun g _ y => by rw [y]; exact a.inW⟩
theorem Work.setBad (k : Work A w0 W wb tb h owner qn qb bad m lim) (x : Int) : Work A w0 (W.setCell ⟨wb, 2, none⟩ (.int .i64 x)) wb tb h owner qn qb x m lim ∧ Apart A W (W.setCell ⟨wb, 2, none⟩ (.int .i64 x)) := by
  refine k.ofWk (un' := m.un) (ub' := m.ub) (res' := m.res) (eff' := m.eff) fun F rv ev a => ?_
  have c : Chg (fun g => g = wb) W (W.setCell ⟨wb, 2, none⟩ (.int .i64 x)) := (Chg.refl _ W).setCell _ (fun _ => rfl)
  have h6 := Lib.heap_setCell_same (i := 2) a.blk (.int .i64 x)
  exact ⟨⟨rv, ev, ⟨by simpa using h6, own_chg a.rr c (fun g hg e => a.rne (by rw [hg, e])), own_chg a.er c (fun g hg e => a.ene (by rw [hg, e])), .inl a.inW, fun g y => .inl (a.inR g y), fun g y => .inl (a.inE g y)⟩⟩, c.mono fun g _ y => by rw [y]; exact a.inW⟩
end
end Go.Proofs.YtennlckfmgfjbaaGreatDoor
set_option linter.unusedSimpArgs false
set_option linter.unusedVariables false
namespace Go.Proofs.YtennlckfmgfjbaaGreatDoor
open Go.RowKit
set_option maxRecDepth 100000 in
set_option maxHeartbeats 2000000 in
theorem get_no {w : World} {tb mb : Nat} {st : ZSt} {lim : Nat} {F : Nat → Prop} (h : TreeAt w tb mb st lim F) (p : Pth) (hE : findE st p ≠ 0) :
    Calls Tryz.prog 16 #[.pointer (some ⟨tb, 0, none⟩), .string ⟨p.toArray⟩] w fun x w' => x = .returned (.tuple #[.slice none 0 0, .agg #[.int .i64 0, .int .i64 0, .int .i64 0, .int .i64 0], .int .i64 (findE st p)]) ∧ Kept w w' := by
  have hka := (Kept.refl w).alloc (.cells #[.int .i64 0, .int .i64 0, .int .i64 0, .int .i64 0] 60)
  have hna := heap_alloc_new w (.cells #[.int .i64 0, .int .i64 0, .int .i64 0, .int .i64 0] 60)
  have hfi := zfind_any (h.kept hka) p
  have hfv : findV st p = .pointer none := by unfold findV; rw [if_neg hE]
  rw [hfv] at hfi
  have HFI := Lib.hid hfi
  have HKA := Lib.hid hka
  clear h hfi hfv
  generalize findE st p = fe at *
  have t1 : (fe != 0) = true := by rw [bne_iff_ne]; exact hE
  go_enter Tryz.func16, Tryz.ntmps16
  go_upto_region 1 with (fail)
  generalize w.alloc (.cells #[.int .i64 0, .int .i64 0, .int .i64 0, .int .i64 0] 60) = wa at *
  go_wp2_with fail
  refine HFI.out.mono ?_
  rintro x w1 ⟨rfl, hk⟩
  have hb1 := hk.block' hna
  have HB1 := Lib.hid hb1
  have HK1 := Lib.hid (HKA.out.trans hk)
  have c0 := cell_at hb1 0
  have c1 := cell_at hb1 1
  have c2 := cell_at hb1 2
  have c3 := cell_at hb1 3
  simp only [List.getElem?_toArray, List.getElem?_cons_zero, List.getElem?_cons_succ] at c0 c1 c2 c3
  have f0 := frozen_at hb1 0
  have f1 := frozen_at hb1 1
  have f2 := frozen_at hb1 2
  have f3 := frozen_at hb1 3
  clear hk hb1 hna hka
  have hwl : w.heap.size < w1.heap.size := (Array.getElem?_eq_some_iff.1 HB1.out).1
  have h51 := Lib.heap_setCell_same (i := 0) HB1.out (.int .i64 0)
  have h52 := Lib.heap_setCell_same (i := 1) h51 (.int .i64 0)
  have h53 := Lib.heap_setCell_same (i := 2) h52 (.int .i64 0)
  have h54 := Lib.heap_setCell_same (i := 3) h53 (.int .i64 0)
  have hcs : Chg (fun g => g = w.heap.size) w1 ((((w1.setCell ⟨w.heap.size, 0, none⟩ (.int .i64 0)).setCell ⟨w.heap.size, 1, none⟩ (.int .i64 0)).setCell ⟨w.heap.size, 2, none⟩ (.int .i64 0)).setCell ⟨w.heap.size, 3, none⟩ (.int .i64 0)) := ((((Chg.refl (fun g => g = w.heap.size) w1).setCell _ (fun _ => rfl)).setCell _ (fun _ => rfl)).setCell _ (fun _ => rfl)).setCell _ (fun _ => rfl)
  have HCS := Lib.hid hcs
  have hkf := Chg.kept HK1.out hcs (fun g x => by omega)
  have H54 := Lib.hid h54
  have HKF := Lib.hid hkf
  clear h51 h52 h53 h54 hcs hkf
  go_wp2
  generalize (((w1.setCell ⟨w.heap.size, 0, none⟩ (.int .i64 0)).setCell ⟨w.heap.size, 1, none⟩ (.int .i64 0)).setCell ⟨w.heap.size, 2, none⟩ (.int .i64 0)).setCell ⟨w.heap.size, 3, none⟩ (.int .i64 0) = w5 at *
  have hb5 : w5.heap[w.heap.size]? = some (.cells #[.int .i64 0, .int .i64 0, .int .i64 0, .int .i64 0] 60 (0, 0)) := by simpa using H54.out
  have d0 := cell_at hb5 0
  have d1 := cell_at hb5 1
  have d2 := cell_at hb5 2
  have d3 := cell_at hb5 3
  simp only [List.getElem?_toArray, List.getElem?_cons_zero, List.getElem?_cons_succ] at d0 d1 d2 d3
  (try simp only [Exit.inBlock, Exit.then])
  refine bodyPost_ret (v := .tuple #[.slice none 0 0, .agg #[.int .i64 0, .int .i64 0, .int .i64 0, .int .i64 0], .int .i64 fe]) (by simp [results, Tryz.results16, go_sem, d0, d1, d2, d3]) rfl ?_
  exact ⟨rfl, HKF.out⟩
def getE (t : ZT) (p : Pth) : Int := if (names p).isSome then (if (getZ p t).isSome then 0 else 70) else 20
def GetTo (t : ZT) (p : Pth) (w : World) (e : Ending) (w' : World) : Prop :=
  ∃ A c a b d k, e = .returned (.tuple #[.slice A (dataOf t p).length c, .agg #[.int .i64 a, .int .i64 b, .int .i64 d, .int .i64 k], .int .i64 (getE t p)]) ∧ (∀ n, getZ p t = some n → a = (n.ver : Int)) ∧ Kept w w'
theorem get_any {w : World} {tb mb : Nat} {st : ZSt} {lim : Nat} {F : Nat → Prop} (h : TreeAt w tb mb st lim F) (p : Pth) :
    Calls Tryz.prog 16 #[.pointer (some ⟨tb, 0, none⟩), .string ⟨p.toArray⟩] w (GetTo (plainZ st) p w) := by
  have hno : getZ p st = none → ∀ e w', e = .returned (.tuple #[.slice none 0 0, .agg #[.int .i64 0, .int .i64 0, .int .i64 0, .int .i64 0], .int .i64 (getE (plainZ st) p)]) → Kept w w' → GetTo (plainZ st) p w e w' := fun hg e w' he k => by
    have hp : getZ p (plainZ st) = none := by unfold plainZ; rw [getZ_mapZ, hg]; rfl
    refine ⟨none, 0, 0, 0, 0, 0, ?_, fun n hn => ?_, k⟩
    · rw [he]
      unfold dataOf
      rw [hp]
      rfl
    · rw [hp] at hn; cases hn
  by_cases hn : (names p).isSome = true
  · cases hg : getZ p st with
    | none =>
      obtain ⟨h1, -⟩ := findE_no (st := st) hn hg
      refine (get_no h p (by rw [h1]; decide)).mono ?_
      rintro e w' ⟨rfl, k⟩
      refine hno hg _ _ ?_ k
      rw [h1]
      unfold getE plainZ
      rw [if_pos hn, getZ_mapZ, hg]
      rfl
    | some e =>
      have hp : getZ p (plainZ st) = some e.nd := by unfold plainZ; rw [getZ_mapZ, hg]; rfl
      refine (get_ok w tb mb st lim F h p e hn hg).mono ?_
      rintro x w' ⟨v, rfl, ho, k⟩
      obtain ⟨A, c, rfl⟩ := own_form ho
      refine ⟨A, c, (e.nd.ver : Int), (e.nd.ctr : Int), (e.nd.own : Int), e.nd.kids, ?_, fun n hn2 => ?_, k⟩
      · unfold dataOf getE statV
        rw [hp, if_pos hn]
        rfl
      · rw [hp] at hn2
        obtain rfl := Option.some.inj hn2
        rfl
  · have hg : getZ p st = none := by
      cases hg : getZ p st with
      | none => rfl
      | some e => exact absurd (h.good _ (getZ_mem hg)).path hn
    obtain ⟨h1, -⟩ := findE_bad (st := st) hn
    refine (get_no h p (by rw [h1]; decide)).mono ?_
    rintro e w' ⟨rfl, k⟩
    refine hno hg _ _ ?_ k
    rw [h1]
    unfold getE
    rw [if_neg hn]
end Go.Proofs.YtennlckfmgfjbaaGreatDoor
set_option linter.unusedSimpArgs false
set_option linter.unusedVariables false
namespace Go.Proofs.YtennlckfmgfjbaaGreatDoor
open Go.RowKit
/-- An op as a value. -/
def opV (o : OpM) (dv : Value) : Value := .agg #[.int .i64 o.kind, .string ⟨o.path.toArray⟩, dv, .int .i64 o.ver, .bool o.eph, .bool o.seq]
abbrev opO (o : OpM) (dv : Value) : Obj := .cells #[.int .i64 o.kind, .string ⟨o.path.toArray⟩, dv, .int .i64 o.ver, .bool o.eph, .bool o.seq] 46
/-- What numbers work may hold. -/
structure Mild (m : WkM) : Prop where
  unL : -1000000000000000 ≤ m.un
  unH : m.un ≤ 1000000000000000
  ubL : -1000000000000000000 ≤ m.ub
  ubH : m.ub ≤ 1000000000000000000
  res : m.res.length ≤ 900
  eff : m.eff.length ≤ 900
def createM (owner qn qb : Int) (w : WkM) (o : OpM) : Int × WkM :=
  if createE w.t o.path o.data.length (ownerOf owner o) o.seq ≠ 0 then (createE w.t o.path o.data.length (ownerOf owner o) o.seq, w)
  else (roomE qn qb (w.un + 1) (w.ub + ((createP w.t o.path o.data.length (ownerOf owner o) o.seq).length + o.data.length)),
      ⟨createS w.t o.path o.data (ownerOf owner o) o.seq, w.un + 1, w.ub + ((createP w.t o.path o.data.length (ownerOf owner o) o.seq).length + o.data.length),
        w.res ++ [(createP w.t o.path o.data.length (ownerOf owner o) o.seq, 0)], w.eff ++ [(1, createP w.t o.path o.data.length (ownerOf owner o) o.seq)]⟩)
def deleteM (w : WkM) (o : OpM) : Int × WkM :=
  if deleteE w.t o.path o.ver ≠ 0 then (deleteE w.t o.path o.ver, w)
  else (0, ⟨deleteS w.t o.path o.ver, w.un - 1, w.ub - (o.path.length + (dataOf w.t o.path).length), w.res ++ [([], 0)], w.eff ++ [(2, o.path)]⟩)
def setM (qn qb : Int) (w : WkM) (o : OpM) : Int × WkM :=
  if setE w.t o.path o.data.length o.ver ≠ 0 then (setE w.t o.path o.data.length o.ver, w)
  else (roomE qn qb w.un (w.ub + (o.data.length - (dataOf w.t o.path).length)),
      ⟨setS w.t o.path o.data o.ver, w.un, w.ub + (o.data.length - (dataOf w.t o.path).length), w.res ++ [([], setV w.t o.path o.data.length o.ver)], w.eff ++ [(3, o.path)]⟩)
def checkM (w : WkM) (o : OpM) : Int × WkM :=
  match getZ o.path w.t with
  | none => (70, w)
  | some n => if verOK o.ver n = false then (72, w) else (0, { w with res := w.res ++ [([], 0)] })
theorem oneM_eq (h : Pth) (owner qn qb : Int) (w : WkM) (o : OpM) : oneM h owner qn qb w o =
    if withinE h o ≠ 0 then (withinE h o, w) else if o.kind = 1 then createM owner qn qb w o else if o.kind = 2 then deleteM w o else if o.kind = 3 then setM qn qb w o else checkM w o := rfl
def OpTo (A : Nat → Prop) (w0 : World) (wb tb : Nat) (h : Pth) (owner qn qb bad : Int) (r : Int × WkM) (lim : Nat) (W : World) (e : Ending) (w' : World) : Prop :=
  e = .returned (.int .i64 r.1) ∧ Work A w0 w' wb tb h owner qn qb bad r.2 (lim + 1) ∧ Apart A W w'
theorem created_path {t : ZT} {p : Pth} {dl : Nat} {own : Int} {seq : Bool} (h : createE t p dl own seq = 0) : (createP t p dl own seq).length ≤ 128 ∧ dl ≤ 256 := by
  obtain ⟨up, n, hp, hd, ho, hg, h3, hh, hQ⟩ := createE_zero h
  rw [hQ]
  exact ⟨names_lenZ (placeQ_len (parent_names hp).1 h3).1, hd⟩
theorem createS_same {t : ZT} {p : Pth} {data : List UInt8} {own : Int} {seq : Bool} (h : createE t p data.length own seq ≠ 0) : createS t p data own seq = t := by unfold createS; rw [if_neg h]
section
variable {A : Nat → Prop} {w0 W : World} {wb tb : Nat} {h : Pth} {owner qn qb bad : Int} {m : WkM} {lim : Nat}
set_option maxRecDepth 100000 in
set_option maxHeartbeats 8000000 in
theorem mcreate_any (k : Work A w0 W wb tb h owner qn qb bad m lim) (hm : Mild m) (o : OpM) (dv : Value) (hv : Bts W dv o.data) (htab : TbZ w0) (hlim : lim + 2 < 4611686018427387903) :
    Calls Tryz.prog 75 #[.pointer (some ⟨wb, 0, none⟩), opV o dv] W (OpTo A w0 wb tb h owner qn qb bad (createM owner qn qb m o) lim W) := by
  obtain ⟨Ad, cd, rfl⟩ := hv.form
  have hka := (Kept.refl W).alloc (opO o (.slice Ad o.data.length cd))
  have hba := heap_alloc_new W (opO o (.slice Ad o.data.length cd))
  have hsa : W.heap.size < (W.alloc (opO o (.slice Ad o.data.length cd))).heap.size := by simp
  have HKW := Lib.hid (k.away hka ⟨Nat.le_refl _, hsa⟩)
  have HKA := Lib.hid hka
  have HMI := Lib.hid hm
  have HCR := Lib.hid (fun (ow : Int) W' (k' : Work (fun g => A g ∨ g = W.heap.size) w0 W' wb tb h owner qn qb bad m lim) (kk : Kept W W') => k'.create o.path o.data (.slice Ad o.data.length cd) ow o.seq (hv.kept kk) (htab.kept k'.old) hlim)
  obtain ⟨r, hr⟩ : ∃ r, createM owner qn qb m o = r := ⟨_, rfl⟩
  have HR := Lib.hid hr
  rw [hr]
  have HQ := Lib.hid (show ∀ x W', Work (fun g => A g ∨ g = W.heap.size) w0 W' wb tb h owner qn qb bad r.2 (lim + 1) → Apart (fun g => A g ∨ g = W.heap.size) (W.alloc (opO o (.slice Ad o.data.length cd))) W' → x = r.1 → OpTo A w0 wb tb h owner qn qb bad r lim W (.returned (.int .i64 x)) W' from fun x W' h1 h2 h3 => ⟨by rw [h3], h1.less (fun g y => .inl y), (Apart.of_kept hka).trans (h2.less (fun g y => .inl y))⟩)
  unfold opV
  clear k hka hm hr hv
  generalize OpTo A w0 wb tb h owner qn qb bad r lim W = Q at *
  have hopo : opO o (.slice Ad o.data.length cd) = .cells #[.int .i64 o.kind, .string ⟨o.path.toArray⟩, .slice Ad o.data.length cd, .int .i64 o.ver, .bool o.eph, .bool o.seq] 46 := rfl
  rw [hopo] at *
  go_enter Tryz.func75, Tryz.ntmps75
  go_upto_region 1 with (fail)
  generalize W.alloc (.cells #[.int .i64 o.kind, .string ⟨o.path.toArray⟩, .slice Ad o.data.length cd, .int .i64 o.ver, .bool o.eph, .bool o.seq] 46) = wa at *
  obtain ⟨kind, path, data, ver, eph, seq⟩ := o
  simp only at *
  have x1 := cell_at hba 1
  have x2 := cell_at hba 2
  have x4 := cell_at hba 4
  have x5 := cell_at hba 5
  obtain ⟨rv, ev, hblk, hnA⟩ := HKW.out.blk
  have y3 := cell_at hblk 3
  have y5 := cell_at hblk 5
  simp only [List.getElem?_toArray, List.getElem?_cons_zero, List.getElem?_cons_succ] at x1 x2 x4 x5 y3 y5
  have hkd := (Kept.refl wa).drew
  have HKD := Lib.hid hkd
  have HWD := Lib.hid (HKW.out.kept hkd)
  clear hblk hba
  obtain ⟨ow, how⟩ : ∃ ow, ownerOf owner ⟨kind, path, data, ver, eph, seq⟩ = ow := ⟨_, rfl⟩
  have HOW := Lib.hid how
  have hcr := HCR.out ow wa.drew HWD.out (HKA.out.trans hkd)
  have hr := HR.out
  unfold createM at hr
  simp only [how] at hr
  have hcp := created_path (t := m.t) (p := path) (dl := data.length) (own := ow) (seq := seq)
  have hcs := createS_same (t := m.t) (p := path) (data := data) (own := ow) (seq := seq)
  generalize createS m.t path data ow seq = ts at *
  generalize createE m.t path data.length ow seq = ce at *
  generalize createP m.t path data.length ow seq = cp at *
  have HC := Lib.hid hcr
  have HRR := Lib.hid hr
  have HCP := Lib.hid hcp
  have HCS := Lib.hid hcs
  clear hcr hr hcp hcs HR HCR

  cases eph
  all_goals
    simp only [ownerOf, Bool.false_eq_true, if_false, if_true] at how
    subst how
    go_wp2_with fail
    go_region_held3 (fun X => X.cell? ⟨wb, 3, none⟩ = some (.pointer (some ⟨tb, 0, none⟩)) ∧ X.cell? ⟨W.heap.size, 1, none⟩ = some (.string ⟨path.toArray⟩) ∧ X.cell? ⟨W.heap.size, 2, none⟩ = some (.slice Ad data.length cd) ∧ X.cell? ⟨W.heap.size, 5, none⟩ = some (.bool seq))
      (first | exact ⟨y3, x1, x2, x5⟩ | exact ⟨hkd.cell y3, hkd.cell x1, hkd.cell x2, hkd.cell x5⟩ | exact ⟨z3, z1, z2, z5⟩)
      (first
        | (go_at_call 18; refine HC.out.mono ?_; rintro e w4 ⟨rfl, k4, ap4⟩; obtain ⟨rv4, ev4, hb4, -⟩ := k4.blk; have z3 := cell_at hb4 3; have z6 := cell_at hb4 6; have z7 := cell_at hb4 7; have fz6 := frozen_at hb4 6; simp only [List.getElem?_toArray, List.getElem?_cons_zero, List.getElem?_cons_succ] at z3 z6 z7; have z1 := ap4.cell (hkd.cell x1) (.inr rfl); have z2 := ap4.cell (hkd.cell x2) (.inr rfl); have z5 := ap4.cell (hkd.cell x5) (.inr rfl); have HK4 := Lib.hid k4; have HA4 := Lib.hid ((Apart.of_kept HKD.out).trans ap4); clear k4 ap4 hb4))
    clear y3 y5 x1 x2 x4 x5 hkd
    by_cases hce : ce = 0
    · subst hce
      have t1 : ((0 : Int) != 0) = false := by decide
      obtain ⟨hcl, hdl⟩ := HCP.out rfl
      have hrr := HRR.out
      rw [if_neg (by simp)] at hrr
      obtain ⟨k5, ap5⟩ := HK4.out.setUn (m.un + 1)
      have b1 := HMI.out.unL
      have b2 := HMI.out.unH
      have b3 := HMI.out.ubL
      have b4 := HMI.out.ubH
      have x2 := ap5.cell z2 (.inr rfl)
      clear z1 z3 z5 z7
      go_upto_region 8 with (fail)
      generalize w4.setCell ⟨wb, 6, none⟩ (.int .i64 (m.un + 1)) = w5 at *
      clear z6 fz6 z2
      obtain ⟨rv5, ev5, hb5, -⟩ := k5.blk
      have v7 := cell_at hb5 7
      have f7 := frozen_at hb5 7
      simp only [List.getElem?_toArray, List.getElem?_cons_zero, List.getElem?_cons_succ] at v7
      have hkd := (Kept.refl w5).drew
      have d7 := hkd.cell v7
      have d2 := hkd.cell x2
      have g7 : w5.drew.frozen? ⟨wb, 7, none⟩ = false := f7
      obtain ⟨k6, ap6⟩ := k5.setUb (m.ub + ((cp.length : Int) + (data.length : Int)))
      have HK6 := Lib.hid (k6.kept (Kept.refl _).drew)
      have HA6 := Lib.hid (((HA4.out.trans ap5).trans ap6).trans (Apart.of_kept (Kept.refl _).drew))
      clear k5 ap5 hb5 k6 ap6 hkd
      go_region
      all_goals
        generalize (w5.setCell ⟨wb, 7, none⟩ (.int .i64 (m.ub + ((cp.length : Int) + (data.length : Int))))).drew = w6 at *
        clear v7 f7 d7 d2 g7 x2
        have HTL := Lib.hid (HK6.out.tell cp 0 1 cp (by have := HMI.out.res; simp only; omega) (by have := HMI.out.eff; simp only; omega) (by omega))
        go_wp2_with fail
        refine HTL.out.mono ?_
        rintro e w7 ⟨rfl, k7, ap7⟩
        have HK7 := Lib.hid k7
        have HA7 := Lib.hid (HA6.out.trans ap7)
        have HRM := Lib.hid k7.room
        clear k7 ap7
        go_wp2_with fail
        refine HRM.out.mono ?_
        rintro e w8 ⟨rfl, k8⟩
        have HG := Lib.hid (HQ.out _ w8 (by rw [← hrr]; exact HK7.out.kept k8) (HA7.out.trans (Apart.of_kept k8)) (by rw [← hrr]))
        clear k8
        go_wp2
        exact HG.out
    · have t1 : (ce != 0) = true := by rw [bne_iff_ne]; exact hce
      have hrr := HRR.out
      rw [if_pos hce] at hrr
      have hk4 := HK4.out
      rw [HCS.out hce] at hk4
      have HG := Lib.hid (HQ.out ce w4 (by rw [← hrr]; exact hk4) HA4.out (by rw [← hrr]))
      clear hrr hk4 z1 z2 z3 z5 z6 z7
      go_wp2
      exact HG.out
end
end Go.Proofs.YtennlckfmgfjbaaGreatDoor
