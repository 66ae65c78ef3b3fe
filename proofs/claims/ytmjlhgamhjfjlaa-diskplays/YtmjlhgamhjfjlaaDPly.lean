/- Both disks beside other rows; three disks. -/
import Derived.Test.YtmjlhgamhjfjlaaDAlk
import Derived.Test.YtmjlhgamhjfjlaaDCpi
set_option linter.unusedSimpArgs false
set_option linter.unusedVariables false
namespace Go.Proofs.Ytmjlhgamhjfjlaa
open Go.RowKit
/-- Both disks, and they keep clear of the blocks of A. -/
def JKA (A : Nat → Prop) (w0 w : World) (d x : Value) (cap : Nat) (fs fr : Fls) : Prop := ∃ F G : Nat → Prop, Disk w d cap fs F ∧ Ref w x cap fr G ∧ (∀ g, F g → w0.heap.size ≤ g ∧ g < w.heap.size) ∧ (∀ g, G g → w0.heap.size ≤ g ∧ g < w.heap.size) ∧ (∀ g, F g → ¬ G g) ∧ Kept w0 w ∧ ∀ g, A g → ¬ F g ∧ ¬ G g ∧ g < w.heap.size ∧ w0.heap.size ≤ g
theorem JK.avoid {A : Nat → Prop} {w0 w w1 : World} {d x : Value} {cap : Nat} {fs fr : Fls} (h : JK w0 w d x cap fs fr) (k : Kept w w1) (hA : ∀ g, A g → w.heap.size ≤ g ∧ g < w1.heap.size) : JKA A w0 w1 d x cap fs fr := by
  obtain ⟨F, G, h1, h2, h3, h4, h5, h6⟩ := h
  have hs := k.size
  have hs0 := h6.size
  refine ⟨F, G, h1.kept k, h2.kept k, fun g x => ⟨(h3 g x).1, by have := (h3 g x).2; omega⟩, fun g x => ⟨(h4 g x).1, by have := (h4 g x).2; omega⟩, h5, h6.trans k, fun g hg => ⟨fun x => ?_, fun x => ?_, (hA g hg).2, by have := (hA g hg).1; omega⟩⟩
  · have := (h3 g x).2; have := (hA g hg).1; omega
  · have := (h4 g x).2; have := (hA g hg).1; omega
theorem JKA.kept {A : Nat → Prop} {w0 w w' : World} {d x : Value} {cap : Nat} {fs fr : Fls} (h : JKA A w0 w d x cap fs fr) (k : Kept w w') : JKA A w0 w' d x cap fs fr := by
  obtain ⟨F, G, h1, h2, h3, h4, h5, h6, h7⟩ := h
  have hs := k.size
  exact ⟨F, G, h1.kept k, h2.kept k, fun g x => ⟨(h3 g x).1, by have := (h3 g x).2; omega⟩, fun g x => ⟨(h4 g x).1, by have := (h4 g x).2; omega⟩, h5, h6.trans k, fun g hg => ⟨(h7 g hg).1, (h7 g hg).2.1, by have := (h7 g hg).2.2.1; omega, (h7 g hg).2.2.2⟩⟩
theorem JKA.onDisk {A : Nat → Prop} {w0 w : World} {d x : Value} {cap : Nat} {fs fr : Fls} (h : JKA A w0 w d x cap fs fr) : ∃ F : Nat → Prop, Disk w d cap fs F ∧ (∀ g, F g → w0.heap.size ≤ g ∧ g < w.heap.size ∧ ¬ A g) ∧ Kept w0 w ∧ ∀ w' fs', Disk w' d cap fs' (ext F w w') → Chg F w w' → JKA A w0 w' d x cap fs' fr := by
  obtain ⟨F, G, h1, h2, h3, h4, h5, h6, h7⟩ := h
  have hs0 := h6.size
  refine ⟨F, h1, fun g x => ⟨(h3 g x).1, (h3 g x).2, fun ha => (h7 g ha).1 x⟩, h6, fun w' fs' hd hc => ?_⟩
  have hs' := hc.size
  refine ⟨ext F w w', G, hd, h2.chg hc (fun g hg hf => h5 g hf hg), fun g x => ?_, fun g x => ⟨(h4 g x).1, by have := (h4 g x).2; omega⟩, fun g x hg => ?_, hc.kept h6 (fun g x => (h3 g x).1), fun g hg => ⟨fun x => ?_, (h7 g hg).2.1, by have := (h7 g hg).2.2.1; omega, (h7 g hg).2.2.2⟩⟩
  · rcases x with x | x
    · exact ⟨(h3 g x).1, by have := (h3 g x).2; omega⟩
    · exact ⟨by omega, x.2⟩
  · rcases x with x | x
    · exact h5 g x hg
    · have := (h4 g hg).2
      omega
  · rcases x with x | x
    · exact (h7 g hg).1 x
    · have := (h7 g hg).2.2.1
      omega
theorem JKA.onRef {A : Nat → Prop} {w0 w : World} {d x : Value} {cap : Nat} {fs fr : Fls} (h : JKA A w0 w d x cap fs fr) : ∃ G : Nat → Prop, Ref w x cap fr G ∧ (∀ g, G g → w0.heap.size ≤ g ∧ g < w.heap.size ∧ ¬ A g) ∧ Kept w0 w ∧ ∀ w' fr', Ref w' x cap fr' (ext G w w') → Chg G w w' → JKA A w0 w' d x cap fs fr' := by
  obtain ⟨F, G, h1, h2, h3, h4, h5, h6, h7⟩ := h
  have hs0 := h6.size
  refine ⟨G, h2, fun g x => ⟨(h4 g x).1, (h4 g x).2, fun ha => (h7 g ha).2.1 x⟩, h6, fun w' fr' hd hc => ?_⟩
  have hs' := hc.size
  refine ⟨F, ext G w w', h1.chg hc (fun g hf hg => h5 g hf hg), hd, fun g x => ⟨(h3 g x).1, by have := (h3 g x).2; omega⟩, fun g x => ?_, fun g hf x => ?_, hc.kept h6 (fun g x => (h4 g x).1), fun g hg => ⟨(h7 g hg).1, fun x => ?_, by have := (h7 g hg).2.2.1; omega, (h7 g hg).2.2.2⟩⟩
  · rcases x with x | x
    · exact ⟨(h4 g x).1, by have := (h4 g x).2; omega⟩
    · exact ⟨by omega, x.2⟩
  · rcases x with x | x
    · exact h5 g hf x
    · have := (h3 g hf).2
      omega
  · rcases x with x | x
    · exact (h7 g hg).2.1 x
    · have := (h7 g hg).2.2.1
      omega
/-- What happens to the blocks of A changes neither. -/
theorem JKA.chg {A : Nat → Prop} {w0 w w' : World} {d x : Value} {cap : Nat} {fs fr : Fls} (h : JKA A w0 w d x cap fs fr) (c : Chg A w w') : JKA A w0 w' d x cap fs fr := by
  obtain ⟨F, G, h1, h2, h3, h4, h5, h6, h7⟩ := h
  have hs := c.size
  exact ⟨F, G, h1.chg c (fun g hf ha => (h7 g ha).1 hf), h2.chg c (fun g hg ha => (h7 g ha).2.1 hg), fun g x => ⟨(h3 g x).1, by have := (h3 g x).2; omega⟩, fun g x => ⟨(h4 g x).1, by have := (h4 g x).2; omega⟩, h5, c.kept h6 (fun g ha => (h7 g ha).2.2.2), fun g hg => ⟨(h7 g hg).1, (h7 g hg).2.1, by have := (h7 g hg).2.2.1; omega, (h7 g hg).2.2.2⟩⟩
theorem JKA.jk {A : Nat → Prop} {w0 w : World} {d x : Value} {cap : Nat} {fs fr : Fls} (h : JKA A w0 w d x cap fs fr) : JK w0 w d x cap fs fr := by
  obtain ⟨F, G, h1, h2, h3, h4, h5, h6, h7⟩ := h
  exact ⟨F, G, h1, h2, h3, h4, h5, h6⟩
theorem JKA.old {A : Nat → Prop} {w0 w : World} {d x : Value} {cap : Nat} {fs fr : Fls} (h : JKA A w0 w d x cap fs fr) : Kept w0 w := h.jk.old
/-- Three disks: c, which was cloned, beside d and x. -/
def TK (w0 w : World) (c d x : Value) (cap : Nat) (fc fs fr : Fls) : Prop := ∃ E : Nat → Prop, Disk w c cap fc E ∧ JKA E w0 w d x cap fs fr
theorem TK.onOld {w0 w w1 : World} {c d x : Value} {cap : Nat} {fc fs fr : Fls} (h : TK w0 w c d x cap fc fs fr) (k : Kept w w1) : ∃ E : Nat → Prop, Disk w1 c cap fc E ∧ (∀ g, E g → w0.heap.size ≤ g ∧ g < w.heap.size) ∧ ∀ w' fc', Disk w' c cap fc' (ext E w1 w') → Chg E w1 w' → TK w0 w' c d x cap fc' fs fr := by
  obtain ⟨E, h1, h2⟩ := h
  have hb : ∀ g, E g → w0.heap.size ≤ g ∧ g < w.heap.size := by
    obtain ⟨F, G, -, -, -, -, -, -, h7⟩ := h2
    exact fun g hg => ⟨(h7 g hg).2.2.2, (h7 g hg).2.2.1⟩
  refine ⟨E, h1.kept k, hb, fun w' fc' hd hc => ⟨ext E w1 w', hd, ?_⟩⟩
  have h3 := (h2.kept k).chg hc
  obtain ⟨F, G, a1, a2, a3, a4, a5, a6, a7⟩ := h2
  have hs := k.size
  have hs' := hc.size
  have hs0 := a6.size
  refine ⟨F, G, (a1.kept k).chg hc (fun g hf he => (a7 g he).1 hf), (a2.kept k).chg hc (fun g hg he => (a7 g he).2.1 hg), fun g x => ⟨(a3 g x).1, by have := (a3 g x).2; omega⟩, fun g x => ⟨(a4 g x).1, by have := (a4 g x).2; omega⟩, a5, hc.kept (a6.trans k) (fun g he => (hb g he).1), fun g hg => ?_⟩
  rcases hg with hg | hg
  · exact ⟨(a7 g hg).1, (a7 g hg).2.1, by have := (a7 g hg).2.2.1; omega, (a7 g hg).2.2.2⟩
  · refine ⟨fun x => ?_, fun x => ?_, hg.2, by omega⟩
    · have := (a3 g x).2; omega
    · have := (a4 g x).2; omega
theorem TK.jk {w0 w : World} {c d x : Value} {cap : Nat} {fc fs fr : Fls} (h : TK w0 w c d x cap fc fs fr) : JK w0 w d x cap fs fr := by
  obtain ⟨E, h1, h2⟩ := h
  exact h2.jk
theorem clone_tk (d x : Value) (cap : Nat) (fs fr : Fls) (w0 w w1 : World) (h : JK w0 w d x cap fs fr) (k : Kept w w1) :
    Calls Try.prog 22 #[d] w1 fun e w' => ∃ db, e = .returned (.pointer (some ⟨db, 0, none⟩)) ∧ TK w0 w' d (.pointer (some ⟨db, 0, none⟩)) x cap fs fs fr := by
  have h1 := h.kept k
  obtain ⟨F, G, a1, a2, a3, a4, a5, a6⟩ := h1
  refine (clone_any d cap fs F w1 a1).mono ?_
  rintro e w' ⟨⟨d', e1, -, h3⟩, hk⟩
  obtain ⟨db, rfl⟩ := h3.form
  have hs := hk.size
  have hs0 := a6.size
  refine ⟨db, e1, F, a1.kept hk, ext no w1 w', G, h3, a2.kept hk, fun g x => ?_, fun g x => ⟨(a4 g x).1, by have := (a4 g x).2; omega⟩, fun g x hg => ?_, a6.trans hk, fun g hg => ⟨fun x => ?_, a5 g hg, by have := (a3 g hg).2; omega, (a3 g hg).1⟩⟩
  · rcases x with x | x
    · exact x.elim
    · exact ⟨by omega, x.2⟩
  · rcases x with x | x
    · exact x.elim
    · have := (a4 g hg).2; omega
  · rcases x with x | x
    · exact x.elim
    · have := (a3 g hg).2; omega
end Go.Proofs.Ytmjlhgamhjfjlaa
