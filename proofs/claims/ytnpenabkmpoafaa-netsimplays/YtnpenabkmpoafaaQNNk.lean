/- The network beside other blocks. -/
import Derived.Test.YtnpenabkmpoafaaQNAwk
import Derived.Test.YtnpenabkmpoafaaQNCpd
import Derived.Test.YtnpenabkmpoafaaQNWk5
import Derived.Test.YtnpenabkmpoafaaQNWk7
set_option linter.unusedSimpArgs false
set_option linter.unusedVariables false
namespace Go.Proofs.Ytnpenabkmpoafaa
open Go.RowKit
/-- The network lies in blocks younger than w0, apart from those of A; all that was in w0 reads as it did. -/
def NK (A : Nat → Prop) (w0 w : World) (nb : Nat) (s : NS) (lim : Nat) : Prop := ∃ m, ∃ F : Nat → Prop, NetAt w nb m s lim F ∧ (∀ g, F g → w0.heap.size ≤ g ∧ g < w.heap.size ∧ ¬ A g) ∧ Kept w0 w
theorem NK.kept {A : Nat → Prop} {w0 w w' : World} {nb : Nat} {s : NS} {lim : Nat} (h : NK A w0 w nb s lim) (k : Kept w w') : NK A w0 w' nb s lim := by
  obtain ⟨m, F, h1, h2, h3⟩ := h
  have := k.size
  exact ⟨m, F, h1.kept k, fun g x => ⟨(h2 g x).1, by have := (h2 g x).2.1; omega, (h2 g x).2.2⟩, h3.trans k⟩
theorem NK.more {A : Nat → Prop} {w0 w : World} {nb : Nat} {s : NS} {lim lim' : Nat} (h : NK A w0 w nb s lim) (hl : lim ≤ lim') : NK A w0 w nb s lim' := by
  obtain ⟨m, F, h1, h2, h3⟩ := h
  exact ⟨m, F, h1.more hl, h2, h3⟩
theorem NK.get {A : Nat → Prop} {w0 w : World} {nb : Nat} {s : NS} {lim : Nat} (h : NK A w0 w nb s lim) : ∃ m, NetAt w nb m s lim (fun g => w0.heap.size ≤ g ∧ g < w.heap.size ∧ ¬ A g) := by
  obtain ⟨m, F, h1, h2, h3⟩ := h
  exact ⟨m, h1.mono h2⟩
theorem NK.old {A : Nat → Prop} {w0 w : World} {nb : Nat} {s : NS} {lim : Nat} (h : NK A w0 w nb s lim) : Kept w0 w := by
  obtain ⟨m, F, h1, h2, h3⟩ := h
  exact h3
/-- What a call makes of it. -/
theorem NK.out {A : Nat → Prop} {w0 w w' : World} {nb : Nat} {s s' : NS} {lim lim' : Nat} (h : NK A w0 w nb s lim) {m' : NM} (hn : NetAt w' nb m' s' lim' (ext (fun g => w0.heap.size ≤ g ∧ g < w.heap.size ∧ ¬ A g) w w')) (hA : ∀ g, A g → g < w.heap.size) (c : Chg (fun g => w0.heap.size ≤ g ∧ g < w.heap.size ∧ ¬ A g) w w') : NK A w0 w' nb s' lim' := by
  have h1 := c.size
  have h2 := h.old.size
  refine ⟨m', _, hn, fun g x => ?_, c.kept h.old (fun g x => x.1)⟩
  rcases x with x | x
  · exact ⟨x.1, by omega, x.2.2⟩
  · exact ⟨by omega, x.2, fun y => by have := hA g y; omega⟩
theorem NK.ptr {A : Nat → Prop} {w0 w : World} {nb : Nat} {s : NS} {lim : Nat} (h : NK A w0 w nb s lim) : nb < w.heap.size := by
  obtain ⟨m, F, h1, -⟩ := h
  exact h1.lt
/-- What is kept apart may change. -/
theorem NK.chg {A : Nat → Prop} {w0 w w' : World} {nb : Nat} {s : NS} {lim : Nat} (h : NK A w0 w nb s lim) (c : Chg A w w') (hA : ∀ g, A g → w0.heap.size ≤ g) : NK A w0 w' nb s lim := by
  obtain ⟨m, F, h1, h2, h3⟩ := h
  have := c.size
  exact ⟨m, F, h1.chg c (fun g hg ha => (h2 g hg).2.2 ha), fun g x => ⟨(h2 g x).1, by have := (h2 g x).2.1; omega, (h2 g x).2.2⟩, c.kept h3 hA⟩
def none0 : Nat → Prop := fun _ => False
theorem new_nk (n r : Nat) (w : World) (hn : 1 ≤ n ∧ n ≤ 32) (hr : 1 ≤ r ∧ r ≤ 4096) :
    Calls Try.prog 5 #[.int .i64 (n : Int), .int .i64 (r : Int)] w fun e w' => ∃ nb, e = .returned (.tuple #[.pointer (some ⟨nb, 0, none⟩), .int .i64 0]) ∧ NK none0 w w' nb (NS.new n r) 0 := by
  refine (new_good n r w hn hr).mono ?_
  rintro e w' ⟨nb, m, h1, h2, h3⟩
  exact ⟨nb, h1, m, _, h2, fun g x => by
    rcases x with x | x
    · exact x.elim
    · exact ⟨x.1, x.2, fun y => y⟩, h3⟩
/-- Send: the messages are none of the network's blocks. -/
theorem send_nk {A : Nat → Prop} {w0 w w1 : World} {nb : Nat} {s : NS} {lim : Nat} (h : NK A w0 w nb s lim) (k : Kept w w1) (hA : ∀ g, A g → g < w1.heap.size) (a b : Int) (ms : List (List UInt8)) (v : Value) (G : Nat → Prop)
    (hv : RecsAt w1 v ms G) (hG : ∀ g, G g → w.heap.size ≤ g ∨ A g) (hms : ∀ x ∈ ms, x.length ≤ 140737488355328) (hl : lim < maxLen) :
    Calls Try.prog 12 #[.pointer (some ⟨nb, 0, none⟩), .int .i64 a, .int .i64 b, v] w1 fun e w' => e = .returned (.int .i64 (sendE s a b ms.length)) ∧ NK A w0 w' nb (sendS s a b ms) (lim + 1) ∧ Chg (fun g => w0.heap.size ≤ g ∧ g < w.heap.size ∧ ¬ A g) w1 w' ∧ RecsAt w' v ms G := by
  obtain ⟨m, F, h1, h2, h3⟩ := h
  have hs := k.size
  have hrec : ∀ W, Chg F w1 W → RecsAt W v ms G := fun W c => hv.chg c (fun g hg hf => by
    have := h2 g hf
    rcases hG g hg with x | x
    · omega
    · exact this.2.2 x)
  refine (send_F w1 nb m s lim F (h1.kept k) a b ms v (fun W c => (hrec W c).parts) hms hl).mono ?_
  rintro e w' ⟨q1, ⟨m', q2⟩, q3⟩
  have h4 := q3.size
  have h5 := h3.size
  refine ⟨q1, ⟨m', _, q2, fun g x => ?_, q3.kept (h3.trans k) (fun g x => (h2 g x).1)⟩, q3.mono fun g _ x => h2 g x, hrec w' q3⟩
  rcases x with x | x
  · have := h2 g x
    exact ⟨this.1, by omega, this.2.2⟩
  · exact ⟨by omega, x.2, fun y => by have := hA g y; omega⟩
theorem NK.widen {A A' : Nat → Prop} {w0 w : World} {nb : Nat} {s : NS} {lim : Nat} (h : NK A w0 w nb s lim) (hA : ∀ g, A' g → A g ∨ w.heap.size ≤ g) : NK A' w0 w nb s lim := by
  obtain ⟨m, F, h1, h2, h3⟩ := h
  exact ⟨m, F, h1, fun g x => ⟨(h2 g x).1, (h2 g x).2.1, fun y => by
    rcases hA g y with z | z
    · exact (h2 g x).2.2 z
    · have := (h2 g x).2.1; omega⟩, h3⟩
section
variable {A : Nat → Prop} {w0 w : World} {nb : Nat} {s : NS} {lim : Nat}
theorem count_nk (h : NK A w0 w nb s lim) (a b : Int) :
    Calls Try.prog 9 #[.pointer (some ⟨nb, 0, none⟩), .int .i64 a, .int .i64 b] w fun e w' => e = .returned (.tuple #[.int .i64 (countE s a b), .int .i64 (chk s.n [a, b])]) ∧ NK A w0 w' nb s lim ∧ Kept w w' := by
  obtain ⟨m, hm⟩ := h.get
  refine (count_any w nb m s lim _ hm a b).mono ?_
  rintro e w' ⟨h1, h2⟩
  exact ⟨h1, h.kept h2, h2⟩
theorem clock_nk (h : NK A w0 w nb s lim) (i : Int) :
    Calls Try.prog 11 #[.pointer (some ⟨nb, 0, none⟩), .int .i64 i] w fun e w' => e = .returned (.tuple #[.int .i64 (clockE s i), .int .i64 (chk s.n [i])]) ∧ NK A w0 w' nb s lim ∧ Kept w w' := by
  obtain ⟨m, hm⟩ := h.get
  refine (clock_any w nb m s lim _ hm i).mono ?_
  rintro e w' ⟨h1, h2⟩
  exact ⟨h1, h.kept h2, h2⟩
theorem deliver_nk (h : NK A w0 w nb s lim) (hA : ∀ g, A g → g < w.heap.size) (a b i : Int) (hl : lim < maxLen) :
    Calls Try.prog 13 #[.pointer (some ⟨nb, 0, none⟩), .int .i64 a, .int .i64 b, .int .i64 i] w fun e w' => ∃ v, e = .returned (.tuple #[v, .int .i64 (waitE s a b i)]) ∧ w'.ownsRow 0 5 1 v (msgS s a b i).length (Lib.byteCells (msgS s a b i)) ∧ (∀ g, v.ownBlock = some g → w0.heap.size ≤ g ∧ g < w.heap.size ∧ ¬ A g) ∧ NK (fun g => A g ∨ v.ownBlock = some g) w0 w' nb (delS s a b i) (lim + 1) ∧ Chg (fun g => w0.heap.size ≤ g ∧ g < w.heap.size ∧ ¬ A g) w w' := by
  obtain ⟨m, hm⟩ := h.get
  refine (deliver_any w nb m s lim _ hm a b i hl).mono ?_
  rintro e w' ⟨v, h1, h2, h3, ⟨m', h4⟩, h5⟩
  have h6 := h5.size
  have h7 := h.old.size
  refine ⟨v, h1, h2, h3, ⟨m', _, h4, fun g x => ?_, h5.kept h.old (fun g x => x.1)⟩, h5⟩
  obtain ⟨x, xb⟩ := x
  rcases x with x | x
  · exact ⟨x.1, by omega, fun y => by
      rcases y with y | y
      · exact x.2.2 y
      · exact xb y⟩
  · exact ⟨by omega, x.2, fun y => by
      rcases y with y | y
      · have := hA g y; omega
      · exact xb y⟩
theorem drop_nk (h : NK A w0 w nb s lim) (hA : ∀ g, A g → g < w.heap.size) (a b i : Int) (hl : lim < maxLen) :
    Calls Try.prog 18 #[.pointer (some ⟨nb, 0, none⟩), .int .i64 a, .int .i64 b, .int .i64 i] w fun e w' => e = .returned (.int .i64 (waitE s a b i)) ∧ NK A w0 w' nb (delS s a b i) (lim + 1) ∧ Chg (fun g => w0.heap.size ≤ g ∧ g < w.heap.size ∧ ¬ A g) w w' := by
  obtain ⟨m, hm⟩ := h.get
  refine (drop_any w nb m s lim _ hm a b i hl).mono ?_
  rintro e w' ⟨h1, ⟨m', h4⟩, h5⟩
  exact ⟨h1, h.out h4 hA h5, h5⟩
theorem repeat_nk (h : NK A w0 w nb s lim) (hA : ∀ g, A g → g < w.heap.size) (a b i : Int) (hl : lim < maxLen) :
    Calls Try.prog 19 #[.pointer (some ⟨nb, 0, none⟩), .int .i64 a, .int .i64 b, .int .i64 i] w fun e w' => e = .returned (.int .i64 (repE s a b i)) ∧ NK A w0 w' nb (repS s a b i) (lim + 1) ∧ Chg (fun g => w0.heap.size ≤ g ∧ g < w.heap.size ∧ ¬ A g) w w' := by
  obtain ⟨m, hm⟩ := h.get
  refine (repeat_any w nb m s lim _ hm a b i hl).mono ?_
  rintro e w' ⟨h1, ⟨m', h4⟩, h5⟩
  exact ⟨h1, h.out h4 hA h5, h5⟩
theorem cut_nk (h : NK A w0 w nb s lim) (hA : ∀ g, A g → g < w.heap.size) (a b : Int) (hl : lim + 2 < maxLen) :
    Calls Try.prog 21 #[.pointer (some ⟨nb, 0, none⟩), .int .i64 a, .int .i64 b] w fun e w' => e = .returned (.int .i64 (chk s.n [a, b])) ∧ NK A w0 w' nb (cutS s a b) (lim + 2) ∧ Chg (fun g => w0.heap.size ≤ g ∧ g < w.heap.size ∧ ¬ A g) w w' := by
  obtain ⟨m, hm⟩ := h.get
  refine (cut_any w nb m s lim _ hm a b hl).mono ?_
  rintro e w' ⟨h1, ⟨m', h4⟩, h5⟩
  exact ⟨h1, h.out h4 hA h5, h5⟩
theorem heal_nk (h : NK A w0 w nb s lim) (hA : ∀ g, A g → g < w.heap.size) :
    Calls Try.prog 23 #[.pointer (some ⟨nb, 0, none⟩)] w fun e w' => e = .returned (.tuple #[]) ∧ NK A w0 w' nb (healS s) lim ∧ Chg (fun g => w0.heap.size ≤ g ∧ g < w.heap.size ∧ ¬ A g) w w' := by
  obtain ⟨m, hm⟩ := h.get
  refine (heal_any w nb m s lim _ hm).mono ?_
  rintro e w' ⟨h1, ⟨m', h4⟩, h5⟩
  exact ⟨h1, h.out (h4.mono fun g x => .inl x) hA h5, h5⟩
theorem lose_nk (h : NK A w0 w nb s lim) (hA : ∀ g, A g → g < w.heap.size) (l : List Int) (v : Value) (hv : ∀ W, Chg (fun g => w0.heap.size ≤ g ∧ g < w.heap.size ∧ ¬ A g) w W → Ints W v l) :
    Calls Try.prog 25 #[.pointer (some ⟨nb, 0, none⟩), v] w fun e w' => e = .returned (.int .i64 (chk s.n l)) ∧ NK A w0 w' nb (loseS s l) lim ∧ Chg (fun g => w0.heap.size ≤ g ∧ g < w.heap.size ∧ ¬ A g) w w' := by
  obtain ⟨m, hm⟩ := h.get
  refine (losen_any w nb m s lim _ hm l v (fun W c => hv W (c.mono fun g _ x => by rw [x]; exact hm.inQ))).mono ?_
  rintro e w' ⟨h1, ⟨m', h4⟩, h5⟩
  exact ⟨h1, h.out h4 hA h5, h5⟩
theorem advance_nk (h : NK A w0 w nb s lim) (hA : ∀ g, A g → g < w.heap.size) (ticks : Int) (l : List Int) (v : Value) (hv : Ints w v l) (ht : ticks ≤ 9223372036854775807) :
    Calls Try.prog 28 #[.pointer (some ⟨nb, 0, none⟩), .int .i64 ticks, v] w fun e w' => e = .returned (.int .i64 (advE s ticks l)) ∧ NK A w0 w' nb (advS s ticks l) lim ∧ Chg (fun g => w0.heap.size ≤ g ∧ g < w.heap.size ∧ ¬ A g) w w' := by
  obtain ⟨m, hm⟩ := h.get
  refine (advance_any w nb m s lim _ hm ticks l v hv ht).mono ?_
  rintro e w' ⟨h1, h4, h5⟩
  exact ⟨h1, h.out (h4.mono fun g x => .inl x) hA h5, h5⟩
end
theorem upd_upd {α : Type} (f : Nat → Nat → α) (a b : Nat) (x y : α) : upd (upd f a b x) a b y = upd f a b y := by
  funext i j
  unfold upd
  split <;> rfl
theorem turn_turn (s : NS) (a b : Nat) (x y : List (List UInt8)) : (s.turn a b x).turn a b y = s.turn a b y := by
  unfold NS.turn
  simp only [upd_upd]
end Go.Proofs.Ytnpenabkmpoafaa
