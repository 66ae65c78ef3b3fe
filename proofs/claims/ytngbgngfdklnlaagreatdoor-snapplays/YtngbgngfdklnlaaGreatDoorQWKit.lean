/- A disk that is younger than a world, what the calls make of it, and small facts on its files. -/
import Derived.Test.YtngbgngfdklnlaaGreatDoorQDCrs
set_option linter.unusedSimpArgs false
set_option linter.unusedVariables false
namespace Go.Proofs.YtngbgngfdklnlaaGreatDoor
open Go.RowKit
/-- The disk lies in blocks that are younger than w0, and all that was in w0 reads as it did. -/
def DK (w0 w : World) (d : Value) (cap : Nat) (fs : Fls) : Prop := Disk w d cap fs (fun g => w0.heap.size ≤ g) ∧ Kept w0 w
theorem Disk.form {w : World} {d : Value} {cap : Nat} {fs : Fls} {F : Nat → Prop} (h : Disk w d cap fs F) : ∃ db, d = .pointer (some ⟨db, 0, none⟩) := by
  obtain ⟨db, mb, st, rfl, -, -⟩ := h
  exact ⟨db, rfl⟩
theorem Disk.tight {w : World} {d : Value} {cap : Nat} {fs : Fls} {F : Nat → Prop} (h : Disk w d cap fs F) : Disk w d cap fs (fun g => F g ∧ g < w.heap.size) := by
  obtain ⟨db, mb, st, rfl, rfl, h⟩ := h
  exact ⟨db, mb, st, rfl, rfl, h.tight⟩
theorem Disk.good {w : World} {d : Value} {cap : Nat} {fs : Fls} {F : Nat → Prop} (h : Disk w d cap fs F) : Good fs ∧ used fs ≤ cap ∧ cap ≤ 1073741824 ∧ fs.length ≤ 2000000000000 := by
  obtain ⟨db, mb, st, rfl, rfl, h⟩ := h
  exact ⟨h.good, h.fits, h.capLe, by rw [length_mapV]; exact h.tbl.small⟩
theorem DK.form {w0 w : World} {d : Value} {cap : Nat} {fs : Fls} (h : DK w0 w d cap fs) : ∃ db, d = .pointer (some ⟨db, 0, none⟩) := h.1.form
theorem DK.good {w0 w : World} {d : Value} {cap : Nat} {fs : Fls} (h : DK w0 w d cap fs) : Good fs ∧ used fs ≤ cap ∧ cap ≤ 1073741824 ∧ fs.length ≤ 2000000000000 := h.1.good
theorem DK.kept {w0 w w' : World} {d : Value} {cap : Nat} {fs : Fls} (h : DK w0 w d cap fs) (k : Kept w w') : DK w0 w' d cap fs := ⟨h.1.kept k, h.2.trans k⟩
/-- The blocks of a disk, between two worlds. -/
def mid (w0 w : World) : Nat → Prop := fun g => w0.heap.size ≤ g ∧ g < w.heap.size
theorem DK.out {w0 w w1 w' : World} {d : Value} {cap : Nat} {fs fs' : Fls} (h : DK w0 w d cap fs) (k : Kept w w1) (hd : Disk w' d cap fs' (ext (mid w0 w) w1 w')) (c : Chg (mid w0 w) w1 w') : DK w0 w' d cap fs' := by
  have h1 := h.2.size
  have h2 := k.size
  refine ⟨hd.mono (fun g x => ?_), c.kept (h.2.trans k) (fun g x => x.1)⟩
  rcases x with x | x
  · exact x.1
  · have := x.1
    show w0.heap.size ≤ g
    omega
theorem new_dk (c : Nat) (w0 w : World) (hk : Kept w0 w) (h : c ≤ 1073741824) : Calls Tryz.prog 7 #[.int .i64 (c : Int)] w fun e w' => ∃ db, e = .returned (.tuple #[.pointer (some ⟨db, 0, none⟩), .int .i64 0]) ∧ DK w0 w' (.pointer (some ⟨db, 0, none⟩)) c [] := by
  refine (new_good c w h).mono ?_
  rintro e w' ⟨d, h1, h2, -, h4⟩
  obtain ⟨db, rfl⟩ := h2.form
  refine ⟨db, h1, h2.mono (fun g x => ?_), hk.trans h4⟩
  rcases x with x | x
  · exact x.elim
  · have := hk.size
    have := x.1
    show w0.heap.size ≤ g
    omega
theorem append_dk (k : Nm) (b : List UInt8) (vb d : Value) (cap : Nat) (fs : Fls) (w0 w w1 : World) (h : DK w0 w d cap fs) (hk : Kept w w1) (hb : Bts w1 vb b) (hn : fs.length < 2000000000000) :
    Calls Tryz.prog 15 #[d, .string ⟨k.toArray⟩, vb] w1 fun e w' => e = .returned (.int .i64 (okA cap k b fs)) ∧ DK w0 w' d cap (if okA cap k b fs = 0 then appS k b fs else fs) ∧ Chg (mid w0 w) w1 w' :=
  (append_any k b vb d cap fs (mid w0 w) w1 (h.1.tight.kept hk) hb hn).mono fun _ _ ⟨h1, h2, h3⟩ => ⟨h1, h.out hk h2 h3, h3⟩
theorem sync_dk (ls : List Nm) (v d : Value) (cap : Nat) (fs : Fls) (w0 w w1 : World) (h : DK w0 w d cap fs) (hk : Kept w w1) (hv : ∀ W, Chg (mid w0 w) w1 W → Txts W v ls) :
    Calls Tryz.prog 90 #[d, v] w1 fun e w' => e = .returned (.int .i64 (allS ls fs)) ∧ DK w0 w' d cap (if allS ls fs = 0 then syncS ls fs else fs) ∧ Chg (mid w0 w) w1 w' :=
  (sync_any ls v d cap fs (mid w0 w) w1 (h.1.tight.kept hk) hv).mono fun _ _ ⟨h1, h2, h3⟩ => ⟨h1, h.out hk h2 h3, h3⟩
theorem remove_dk (ls : List Nm) (v d : Value) (cap : Nat) (fs : Fls) (w0 w w1 : World) (h : DK w0 w d cap fs) (hk : Kept w w1) (hv : ∀ W, Chg (mid w0 w) w1 W → Txts W v ls) :
    Calls Tryz.prog 17 #[d, v] w1 fun e w' => e = .returned (.int .i64 (allS ls fs)) ∧ DK w0 w' d cap (if allS ls fs = 0 then remS ls fs else fs) ∧ Chg (mid w0 w) w1 w' :=
  (remove_any ls v d cap fs (mid w0 w) w1 (h.1.tight.kept hk) hv).mono fun _ _ ⟨h1, h2, h3⟩ => ⟨h1, h.out hk h2 h3, h3⟩
theorem rename_dk (a b : Nm) (d : Value) (cap : Nat) (fs : Fls) (w0 w w1 : World) (h : DK w0 w d cap fs) (hk : Kept w w1) :
    Calls Tryz.prog 91 #[d, .string ⟨a.toArray⟩, .string ⟨b.toArray⟩] w1 fun e w' => e = .returned (.int .i64 (renE a b fs)) ∧ DK w0 w' d cap (if renE a b fs = 0 then renS a b fs else fs) ∧ Chg (mid w0 w) w1 w' :=
  (rename_any a b d cap fs (mid w0 w) w1 (h.1.tight.kept hk)).mono fun _ _ ⟨h1, h2, h3⟩ => ⟨h1, h.out hk h2 h3, h3⟩
theorem crash_dk (cuts : List Int) (v d : Value) (cap : Nat) (fs : Fls) (w0 w w1 : World) (h : DK w0 w d cap fs) (hk : Kept w w1) (hv : ∀ W, Chg (mid w0 w) w1 W → Ints W v cuts) :
    Calls Tryz.prog 12 #[d, v] w1 fun e w' => e = .returned (.tuple #[]) ∧ DK w0 w' d cap (crashS cuts fs) ∧ Chg (mid w0 w) w1 w' :=
  (crash_any cuts v d cap fs (mid w0 w) w1 (h.1.tight.kept hk) hv).mono fun _ _ ⟨h1, h2, h3⟩ => ⟨h1, h.out hk h2 h3, h3⟩
/-- What reads in the old world reads in each later one. -/
theorem Txts.old {w0 w w1 : World} {v : Value} {ls : List Nm} (h : Txts w0 v ls) (k : Kept w0 w1) : ∀ W, Chg (mid w0 w) w1 W → Txts W v ls := fun _ c => h.kept (c.kept k (fun _ x => x.1))
theorem Ints.old {w0 w w1 : World} {v : Value} {ls : List Int} (h : Ints w0 v ls) (k : Kept w0 w1) : ∀ W, Chg (mid w0 w) w1 W → Ints W v ls := fun _ c => h.kept (c.kept k (fun _ x => x.1))
theorem mid_kept {w0 w W : World} {o : Obj} (c : Chg (mid w0 w) (w.alloc o) W) : W.heap[w.heap.size]? = some o := c.block' (heap_alloc_new w o) (fun x => by have := x.2; omega)
/-- One name, in an array of the call's own. -/
theorem Txts.fresh (w0 w : World) (l : Nm) (t : TypeId) : ∀ W, Chg (mid w0 w) (w.alloc (.cells #[.string ⟨l.toArray⟩] t)) W → Txts W (.slice (some ⟨w.heap.size, 0, none⟩) 1 1) [l] := by
  intro W c
  refine ⟨_, 1, rfl, Nat.le_refl _, by decide, fun _ => ⟨_, 0, rfl, fun k x hx => ?_⟩⟩
  have hb := mid_kept c
  match k, hx with
  | 0, hx =>
    obtain rfl : l = x := by simpa using hx
    rw [cell_at hb]
    simp
theorem Ints.lit' (w0 w : World) (l : List Int) (t : TypeId) (hl : l.length ≤ maxLen) : ∀ W, Chg (mid w0 w) (w.alloc (.cells (l.map (Value.int .i64)).toArray t)) W → Ints W (.slice (some ⟨w.heap.size, 0, none⟩) l.length l.length) l := by
  intro W c
  refine ⟨_, l.length, rfl, Nat.le_refl _, hl, fun _ => ⟨_, 0, rfl, fun k x hx => ?_⟩⟩
  rw [cell_at (mid_kept c)]
  simp [hx]
theorem ints_none (W : World) : Ints W (.slice none 0 0) [] := ⟨none, 0, rfl, Nat.le_refl _, by decide, fun h => absurd h (by simp)⟩
theorem Bts.lit (w : World) (l : List UInt8) (t : TypeId) (m : Nat × Nat) (hl : l.length ≤ maxLen) : Bts (w.alloc (.cells (Lib.byteCells l).toArray t m)) (.slice (some ⟨w.heap.size, 0, none⟩) l.length l.length) l := by
  refine ⟨_, l.length, rfl, Nat.le_refl _, hl, fun _ => ⟨_, 0, rfl, fun k x hx => ?_⟩⟩
  rw [cell_at (heap_alloc_new w _)]
  simp [Lib.byteCells, hx]
/-! ### files, one by one -/
theorem appS_nil (k : Nm) (b : List UInt8) : appS k b [] = [(k, (b, 0))] := rfl
theorem appS_one (k : Nm) (a b : List UInt8) (s : Nat) : appS k b [(k, (a, s))] = [(k, (a ++ b, s))] := by simp [appS, putA, cutA, ins, getA]
theorem syncS_one (k : Nm) (a : List UInt8) (s : Nat) : syncS [k] [(k, (a, s))] = [(k, (a, a.length))] := by simp [syncS, sync1, putA, cutA, ins, getA]
theorem allS_one (k : Nm) (f : Fl) (hk : okN k = true) : allS [k] [(k, f)] = 0 := by simp [allS, hk, hasA]
theorem keptN_full (a : List UInt8) (c : Int) : keptN (a, a.length) c = a.length := by unfold keptN; simp
theorem crashS_head (c : Int) (cs : List Int) (k : Nm) (a : List UInt8) (s : Nat) : crashS (c :: cs) [(k, (a, s))] = [(k, (a.take (keptN (a, s) c), keptN (a, s) c))] := by
  simp only [crashS]
  split
  · rename_i h
    have h : s = a.length := h
    subst h
    rw [keptN_full, List.take_length]
  · rfl
theorem okA_zero {cap : Nat} {k : Nm} {b : List UInt8} {fs : Fls} (hk : okN k = true) (h : used fs + b.length ≤ cap) : okA cap k b fs = 0 := by
  unfold okA
  rw [if_neg (by simp [hk]), if_neg (by omega)]
theorem getA_one (k : Nm) (f : Fl) : getA k [(k, f)] = some f := by simp [getA]
end Go.Proofs.YtngbgngfdklnlaaGreatDoor
