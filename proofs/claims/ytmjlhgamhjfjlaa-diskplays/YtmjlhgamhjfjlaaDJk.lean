/- Both disks side by side: what a call on one does to the other. -/
import Derived.Test.YtmjlhgamhjfjlaaDRops
import Derived.Lib.ConvBytes
set_option linter.unusedSimpArgs false
set_option linter.unusedVariables false
namespace Go.Proofs.Ytmjlhgamhjfjlaa
open Go.RowKit
/-- The program's disk and the document's, apart from each other, both younger than w0. -/
def JK (w0 w : World) (d x : Value) (cap : Nat) (fs fr : Fls) : Prop := ∃ F G : Nat → Prop, Disk w d cap fs F ∧ Ref w x cap fr G ∧ (∀ g, F g → w0.heap.size ≤ g ∧ g < w.heap.size) ∧ (∀ g, G g → w0.heap.size ≤ g ∧ g < w.heap.size) ∧ (∀ g, F g → ¬ G g) ∧ Kept w0 w
theorem JK.kept {w0 w w' : World} {d x : Value} {cap : Nat} {fs fr : Fls} (h : JK w0 w d x cap fs fr) (k : Kept w w') : JK w0 w' d x cap fs fr := by
  obtain ⟨F, G, h1, h2, h3, h4, h5, h6⟩ := h
  have hs := k.size
  exact ⟨F, G, h1.kept k, h2.kept k, fun g x => ⟨(h3 g x).1, by have := (h3 g x).2; omega⟩, fun g x => ⟨(h4 g x).1, by have := (h4 g x).2; omega⟩, h5, h6.trans k⟩
theorem JK.old {w0 w : World} {d x : Value} {cap : Nat} {fs fr : Fls} (h : JK w0 w d x cap fs fr) : Kept w0 w := by
  obtain ⟨F, G, -, -, -, -, -, h6⟩ := h
  exact h6
theorem JK.form {w0 w : World} {d x : Value} {cap : Nat} {fs fr : Fls} (h : JK w0 w d x cap fs fr) : (∃ db, d = .pointer (some ⟨db, 0, none⟩)) ∧ (∃ rb, x = .pointer (some ⟨rb, 0, none⟩)) := by
  obtain ⟨F, G, h1, h2, -⟩ := h
  obtain ⟨rb, vL, rs, e, -⟩ := h2
  exact ⟨h1.form, rb, e⟩
theorem JK.good {w0 w : World} {d x : Value} {cap : Nat} {fs fr : Fls} (h : JK w0 w d x cap fs fr) : Good fs ∧ used fs ≤ cap ∧ cap ≤ 1073741824 ∧ fs.length ≤ 2000000000000 := by
  obtain ⟨F, G, h1, -⟩ := h
  exact h1.good
theorem JK.disk {w0 w : World} {d x : Value} {cap : Nat} {fs fr : Fls} (h : JK w0 w d x cap fs fr) : ∃ F, Disk w d cap fs F := by
  obtain ⟨F, G, h1, -⟩ := h
  exact ⟨F, h1⟩
theorem JK.ref {w0 w : World} {d x : Value} {cap : Nat} {fs fr : Fls} (h : JK w0 w d x cap fs fr) : ∃ G, Ref w x cap fr G := by
  obtain ⟨F, G, -, h2, -⟩ := h
  exact ⟨G, h2⟩
/-- A call on the program's disk. -/
theorem JK.onDisk {w0 w w1 : World} {d x : Value} {cap : Nat} {fs fr : Fls} (h : JK w0 w d x cap fs fr) (k : Kept w w1) : ∃ F : Nat → Prop, Disk w1 d cap fs F ∧ (∀ g, F g → w0.heap.size ≤ g ∧ g < w.heap.size) ∧ Kept w0 w1 ∧ ∀ w' fs', Disk w' d cap fs' (ext F w1 w') → Chg F w1 w' → JK w0 w' d x cap fs' fr := by
  obtain ⟨F, G, h1, h2, h3, h4, h5, h6⟩ := h
  have hs := k.size
  have hs0 := h6.size
  refine ⟨F, h1.kept k, h3, h6.trans k, fun w' fs' hd hc => ?_⟩
  have hs' := hc.size
  refine ⟨ext F w1 w', G, hd, (h2.kept k).chg hc (fun g hg hf => h5 g hf hg), fun g x => ?_, fun g x => ⟨(h4 g x).1, by have := (h4 g x).2; omega⟩, fun g x hg => ?_, hc.kept (h6.trans k) (fun g x => (h3 g x).1)⟩
  · rcases x with x | x
    · exact ⟨(h3 g x).1, by have := (h3 g x).2; omega⟩
    · exact ⟨by omega, x.2⟩
  · rcases x with x | x
    · exact h5 g x hg
    · have := (h4 g hg).2
      omega
/-- A call on the document's disk. -/
theorem JK.onRef {w0 w w1 : World} {d x : Value} {cap : Nat} {fs fr : Fls} (h : JK w0 w d x cap fs fr) (k : Kept w w1) : ∃ G : Nat → Prop, Ref w1 x cap fr G ∧ (∀ g, G g → w0.heap.size ≤ g ∧ g < w.heap.size) ∧ Kept w0 w1 ∧ ∀ w' fr', Ref w' x cap fr' (ext G w1 w') → Chg G w1 w' → JK w0 w' d x cap fs fr' := by
  obtain ⟨F, G, h1, h2, h3, h4, h5, h6⟩ := h
  have hs := k.size
  have hs0 := h6.size
  refine ⟨G, h2.kept k, h4, h6.trans k, fun w' fr' hd hc => ?_⟩
  have hs' := hc.size
  refine ⟨F, ext G w1 w', (h1.kept k).chg hc (fun g hf hg => h5 g hf hg), hd, fun g x => ⟨(h3 g x).1, by have := (h3 g x).2; omega⟩, fun g x => ?_, fun g hf x => ?_, hc.kept (h6.trans k) (fun g x => (h4 g x).1)⟩
  · rcases x with x | x
    · exact ⟨(h4 g x).1, by have := (h4 g x).2; omega⟩
    · exact ⟨by omega, x.2⟩
  · rcases x with x | x
    · exact h5 g hf x
    · have := (h3 g hf).2
      omega
/-- The document's disk, new. -/
theorem ref_new (w : World) (cap : Nat) (hc : cap ≤ 1073741824) : Ref (w.alloc (.cells #[.int .i64 (cap : Int), .slice none 0 0] 31)) (.pointer (some ⟨w.heap.size, 0, none⟩)) cap [] (fun g => g = w.heap.size) :=
  ⟨w.heap.size, .slice none 0 0, [], rfl, rfl, heap_alloc_new w _, by simpa [rcs] using World.ownsRow_nil _ 0 _ _, fun p hp => (by cases hp), rfl, fun g hg => (by cases hg), fun p hp => (by cases hp), ⟨List.Pairwise.nil, fun p hp => (by cases hp)⟩, Nat.zero_le _, hc, by decide⟩
/-- Both, new: the program's first. -/
theorem jk_new {w0 w : World} {d : Value} {cap : Nat} (h : DK w0 w d cap []) (hc : cap ≤ 1073741824) : JK w0 (w.alloc (.cells #[.int .i64 (cap : Int), .slice none 0 0] 31)) d (.pointer (some ⟨w.heap.size, 0, none⟩)) cap [] [] := by
  have hs := h.2.size
  refine ⟨fun g => w0.heap.size ≤ g ∧ g < w.heap.size, fun g => g = w.heap.size, h.1.tight.kept ((Kept.refl w).alloc _), ref_new w cap hc, fun g x => ⟨x.1, by have := x.2; simp; omega⟩, fun g x => by subst x; exact ⟨hs, by simp⟩, fun g x e => by have := x.2; omega, h.2.alloc _⟩
/-- []byte(s). -/
theorem conv_sb (w : World) (l : List UInt8) (hl : l.length ≤ maxLen) : ∃ A c w', (convert 9 32 (.string ⟨l.toArray⟩)).run Try.prog w = .ok (.slice A l.length c) w' ∧ Bts w' (.slice A l.length c) l ∧ Kept w w' := by
  have hrun := Lib.run_convert_string_bytes (P := Try.prog) w 9 32 5 ⟨l.toArray⟩ Try.underlying9 Try.underlying32 Try.underlying5
  rw [str_size] at hrun
  refine ⟨_, _, _, hrun, ⟨_, _, rfl, grownCap_ge _ _ _ _, grownCap_le_maxLen _ _ _ _ hl, fun hp => ⟨_, 0, rfl, fun k x hx => ?_⟩⟩, ⟨rfl, rfl, rfl, ?_, fun j hj => Lib.bytesWorld_at_old w _ _ j hj⟩⟩
  · have hk : k < l.length := (List.getElem?_eq_some_iff.1 hx).1
    rw [Nat.zero_add, Lib.bytesWorld_cell w _ _ k (by rw [str_size]; exact hk)]
    simp [List.getD, hx]
  · have := Lib.bytesWorld_size w 5 ⟨l.toArray⟩
    rw [this]
    omega
end Go.Proofs.Ytmjlhgamhjfjlaa
