/- Words for memory: the program's table of files, its disk, and what keeps them. The walks of checkNames, check, strings.Clone, put and bytes.Clone. -/
import Derived.Test.YtngbgngfdklnlaaGreatDoorQApp
import Derived.Test.YtngbgngfdklnlaaGreatDoorQDName
import Derived.Test.YtngbgngfdklnlaaGreatDoorGDShelf2
import Derived.StringKeys
import Derived.Sort.KeysCollected
import Derived.Sort.OwnSorted
import Derived.StillTailTactics
import Derived.Deep.RegionHeld3
import Derived.Lib.BufferMore
import Derived.Deep.RegionWith
set_option linter.unusedSimpArgs false
set_option linter.unusedVariables false
namespace Go.Proofs.YtngbgngfdklnlaaGreatDoor
open Go.RowKit

/-! ### what has changed -/
/-- Of what was there only blocks that F names have changed. -/
structure Chg (F : Nat → Prop) (w w' : World) : Prop where
  os : w'.os = w.os
  tape : w'.tape = w.tape
  output : w'.output = w.output
  size : w.heap.size ≤ w'.heap.size
  block : ∀ k, k < w.heap.size → ¬ F k → w'.heap[k]? = w.heap[k]?
/-- F, and what is new. -/
def ext (F : Nat → Prop) (w w' : World) : Nat → Prop := fun g => F g ∨ (w.heap.size ≤ g ∧ g < w'.heap.size)
def no : Nat → Prop := fun _ => False
theorem Chg.refl (F : Nat → Prop) (w : World) : Chg F w w := ⟨rfl, rfl, rfl, Nat.le_refl _, fun _ _ _ => rfl⟩
theorem Chg.of_kept {F : Nat → Prop} {w w' : World} (h : Kept w w') : Chg F w w' := ⟨h.os, h.tape, h.output, h.size, fun k hk _ => h.block k hk⟩
theorem Chg.to_kept {w w' : World} (h : Chg no w w') : Kept w w' := ⟨h.os, h.tape, h.output, h.size, fun k hk => h.block k hk (fun x => x)⟩
theorem Chg.of_grown {F : Nat → Prop} {w w' : World} {row : Option Nat} (h : w.grownBy w' row) (hr : ∀ g, row = some g → g < w.heap.size → F g) : Chg F w w' :=
  ⟨h.os, h.tape, h.output, h.size, fun k hk hF => h.block k hk (fun e => hF (hr k e.symm hk))⟩
theorem Chg.trans {F G : Nat → Prop} {w w1 w2 : World} (h : Chg F w w1) (k : Chg G w1 w2) (hg : ∀ g, g < w.heap.size → G g → F g) : Chg F w w2 :=
  ⟨k.os.trans h.os, k.tape.trans h.tape, k.output.trans h.output, Nat.le_trans h.size k.size, fun i hi hF =>
    (k.block i (Nat.lt_of_lt_of_le hi h.size) (fun x => hF (hg i hi x))).trans (h.block i hi hF)⟩
theorem Chg.then_kept {F : Nat → Prop} {w w1 w2 : World} (h : Chg F w w1) (k : Kept w1 w2) : Chg F w w2 := h.trans (Chg.of_kept (F := no) k) (fun _ _ x => x.elim)
theorem Chg.mono {F G : Nat → Prop} {w w' : World} (h : Chg F w w') (hg : ∀ g, g < w.heap.size → F g → G g) : Chg G w w' := ⟨h.os, h.tape, h.output, h.size, fun k hk hF => h.block k hk (fun x => hF (hg k hk x))⟩
theorem Chg.kept {F : Nat → Prop} {w0 w w' : World} (h : Kept w0 w) (k : Chg F w w') (hF : ∀ g, F g → w0.heap.size ≤ g) : Kept w0 w' :=
  ⟨k.os.trans h.os, k.tape.trans h.tape, k.output.trans h.output, Nat.le_trans h.size k.size, fun i hi =>
    (k.block i (Nat.lt_of_lt_of_le hi h.size) (fun x => by have := hF i x; omega)).trans (h.block i hi)⟩
theorem Chg.drew {F : Nat → Prop} {w w' : World} (h : Chg F w w') : Chg F w w'.drew := ⟨h.os, h.tape, h.output, h.size, h.block⟩
theorem Chg.drewN {F : Nat → Prop} {w w' : World} (h : Chg F w w') (n : Nat) : Chg F w (w'.drewN n) := ⟨h.os, h.tape, h.output, h.size, h.block⟩
theorem Chg.alloc {F : Nat → Prop} {w w' : World} (h : Chg F w w') (o : Obj) : Chg F w (w'.alloc o) := h.then_kept ((Kept.refl _).alloc o)
theorem Chg.setCell {F : Nat → Prop} {w w' : World} (h : Chg F w w') {b o : Nat} (v : Value) (hb : b < w.heap.size → F b) : Chg F w (w'.setCell ⟨b, o, none⟩ v) :=
  ⟨h.os, h.tape, h.output, by simpa [World.setCell] using h.size, fun k hk hF => by
    rw [Below.heap_setCell w' ⟨b, o, none⟩ v k (fun e => by subst e; exact hF (hb hk))]
    exact h.block k hk hF⟩
theorem own_chg {F : Nat → Prop} {w w' : World} {b : Nat} {e : TypeId} {s n : Nat} {v : Value} {xs : List Value} (h : w.ownsRow b e s v n xs) (k : Chg F w w') (hF : ∀ g, v.ownBlock = some g → ¬ F g) : w'.ownsRow b e s v n xs := by
  obtain ⟨h1, h2⟩ := h
  refine ⟨h1, ?_⟩
  rcases h2 with h2 | ⟨g, cap, cur, rfl, a2, a3, a4⟩
  · exact .inl h2
  · have hg : g < w.heap.size := (Array.getElem?_eq_some_iff.1 a3).1
    exact .inr ⟨g, cap, cur, rfl, a2, (k.block g hg (hF g rfl)).trans a3, a4⟩
theorem own_kept {w w' : World} {b : Nat} {e : TypeId} {s n : Nat} {v : Value} {xs : List Value} (h : w.ownsRow b e s v n xs) (k : Kept w w') : w'.ownsRow b e s v n xs := own_chg h (Chg.of_kept (F := no) k) (fun _ _ x => x)
theorem map_chg {F : Nat → Prop} {w w' : World} {H : Type} {P : Program} {k : TypeId} {R : Value → Option (DataW H × List MemPlace)} {b n : Nat} {D : DataW H} (h : w.ownsMap P k R b n D) (c : Chg F w w') (hF : ¬ F b) : w'.ownsMap P k R b n D := by
  have hlt := h.lt
  obtain ⟨es, clock, hb, r⟩ := h
  exact ⟨es, clock, (c.block b hlt hF).trans hb, r⟩
theorem Kept.block' {w w' : World} (h : Kept w w') {b : Nat} {o : Obj} (hb : w.heap[b]? = some o) : w'.heap[b]? = some o := (h.block b (Array.getElem?_eq_some_iff.1 hb).1).trans hb
theorem Chg.block' {F : Nat → Prop} {w w' : World} (h : Chg F w w') {b : Nat} {o : Obj} (hb : w.heap[b]? = some o) (hF : ¬ F b) : w'.heap[b]? = some o := (h.block b (Array.getElem?_eq_some_iff.1 hb).1 hF).trans hb

/-! ### the table, as the library's words have it -/
/-- An element of the table reads as itself. -/
def rdV : Value → Option (DataW Value × List MemPlace) := fun v => some (.held v, [])
/-- The table's files: a name, the value that lies there, and the file that it is. -/
abbrev St := List (Nm × (Value × Fl))
def toD (st : St) : DataW Value := .map (st.map fun p => (.string p.1, .held p.2.1))
def zeroF : Value := .agg #[.slice none 0 0, .int .i64 0]
def valA (k : Nm) (st : St) : Value := ((getA k st).map Prod.fst).getD zeroF
def filA (k : Nm) (st : St) : Fl := ((getA k st).map Prod.snd).getD ([], 0)
theorem keyLaw : Maps.Keyed Tryz.prog 9 := Maps.string_keyed Tryz.underlying9
theorem keyS (k : Nm) (h : k.length ≤ maxLen) : keyOf Tryz.prog 9 (.string ⟨k.toArray⟩) = some (.string k) := by
  have := WideMaps.keyOf_string_mk (P := Tryz.prog) (k := 9) Tryz.underlying9 (s := ⟨k.toArray⟩) (by rw [str_size]; exact h)
  simpa using this
theorem zeroFile (w : World) : (zeroValue 112).run Tryz.prog w = .ok zeroF w := by kernel_rfl
theorem toD_at (k : Nm) (st : St) : (toD st).atKey (.string k) (.held zeroF) = .held (valA k st) := by
  unfold toD DataW.atKey valA getA
  simp only [List.find?_map]
  have e : ((fun p : Lit × DataW Value => p.1.sameKey (.string k)) ∘ fun p : Nm × (Value × Fl) => ((.string p.1 : Lit), (.held p.2.1 : DataW Value))) = fun p => p.1 == k := by funext p; rfl
  rw [e]
  cases st.find? (fun p => p.1 == k) with
  | none => rfl
  | some p => rfl
theorem toD_has (k : Nm) (st : St) : Maps.has (toD st) (.string k) = hasA k st := by
  unfold toD hasA
  rw [Maps.has_eq, List.any_map]
  rfl
theorem toD_size (st : St) : Maps.size (toD st) = st.length := by
  unfold toD
  rw [Maps.size_eq, List.length_map]
theorem toD_del (k : Nm) (st : St) : (toD st).del (.string k) = toD (cutA k st) := by
  unfold toD DataW.del cutA
  simp only [List.filter_map]
  rfl
theorem toD_ins (x : Nm × (Value × Fl)) (st : St) : DataW.insert ((.string x.1 : Lit), (.held x.2.1 : DataW Value)) (st.map fun p => ((.string p.1 : Lit), (.held p.2.1 : DataW Value))) = (ins x st).map fun p => (.string p.1, .held p.2.1) := by
  induction st with
  | nil => rfl
  | cons y r ih =>
    rw [List.map_cons]
    unfold DataW.insert ins
    by_cases hb : bytesBefore x.1 y.1 = true
    · rw [if_pos hb, if_pos (show (Lit.string x.1).before (Lit.string y.1) = true from hb)]; rfl
    · rw [if_neg hb, if_neg (show ¬ (Lit.string x.1).before (Lit.string y.1) = true from hb), List.map_cons, ih]
theorem toD_put (k : Nm) (v : Value) (f : Fl) (st : St) : (toD st).put (.string k) (.held v) = toD (putA k (v, f) st) := by
  have h := toD_del k st
  unfold toD DataW.del at h
  simp only at h
  unfold DataW.put toD
  simp only
  rw [show (st.map fun p => ((.string p.1 : Lit), (.held p.2.1 : DataW Value))).filter (fun p => !p.1.sameKey (.string k)) = (cutA k st).map fun p => ((.string p.1 : Lit), (.held p.2.1 : DataW Value)) from by injection h]
  rw [toD_ins (k, (v, f))]
  rfl
def Owns (w : World) (mb : Nat) (st : St) : Prop := w.ownsMap Tryz.prog 9 rdV mb st.length (toD st)
theorem Owns.tight {w : World} {mb n : Nat} {st : St} (h : w.ownsMap Tryz.prog 9 rdV mb n (toD st)) : Owns w mb st := by
  obtain ⟨es, clock, hb, F, hs, hD⟩ := h
  refine ⟨es, clock, hb, F, ?_, hD⟩
  have : Maps.size (toD st) = es.size := by rw [hD]; simp [Maps.size, length_sorted]
  rw [toD_size] at this
  omega
theorem Owns.look {w : World} {mb : Nat} {st : St} (h : Owns w mb st) (k : Nm) (hk : k.length ≤ maxLen) : (Instr.lookup 83 (.map (some mb)) (.string ⟨k.toArray⟩) false).run Tryz.prog w = .ok (valA k st) w := by
  obtain ⟨v, ps, hrun, hv⟩ := World.ownsMap.lookup h keyLaw Tryz.underlying83 (zeroFile w) (zd := .held zeroF) (zp := []) rfl (keyS k hk)
  rw [toD_at] at hv
  have : v = valA k st := by simpa [rdV] using congrArg (Option.map Prod.fst) hv
  rw [hrun, this]
theorem Owns.look_ok {w : World} {mb : Nat} {st : St} (h : Owns w mb st) (k : Nm) (hk : k.length ≤ maxLen) : (Instr.lookup 83 (.map (some mb)) (.string ⟨k.toArray⟩) true).run Tryz.prog w = .ok (.tuple #[valA k st, .bool (hasA k st)]) w := by
  obtain ⟨v, ps, hrun, hv⟩ := World.ownsMap.look_ok h keyLaw Tryz.underlying83 (zeroFile w) (zd := .held zeroF) (zp := []) rfl (keyS k hk)
  rw [toD_at] at hv
  have : v = valA k st := by simpa [rdV] using congrArg (Option.map Prod.fst) hv
  rw [hrun, this, toD_has]
theorem Owns.store {w : World} {mb : Nat} {st : St} (h : Owns w mb st) (hn : st.length < maxLen) (k : Nm) (hk : k.length ≤ maxLen) (v : Value) (f : Fl) :
    ∃ w', (Instr.mapUpdate 83 (.map (some mb)) (.string ⟨k.toArray⟩) v).run Tryz.prog w = .ok () w' ∧ Owns w' mb (putA k (v, f) st) ∧ w.grownBy w' (some mb) := by
  obtain ⟨w', hrun, h1, h2⟩ := World.ownsMap.update h keyLaw Tryz.underlying83 hn (keyS k hk) (val := v) (d := .held v) (ps := []) rfl
  rw [toD_put k v f] at h1
  exact ⟨w', hrun, Owns.tight h1, h2⟩
theorem Owns.drop {w : World} {mb : Nat} {st : St} (h : Owns w mb st) (k : Nm) (hk : k.length ≤ maxLen) (ty : TypeId) :
    ∃ w', (Builtin.delete_ #[83, 9] ty #[.map (some mb), .string ⟨k.toArray⟩]).run Tryz.prog w = .ok (.tuple #[]) w' ∧ Owns w' mb (cutA k st) ∧ w.grownBy w' (some mb) := by
  obtain ⟨w', hrun, h1, h2⟩ := World.ownsMap.drop h keyLaw Tryz.underlying83 (keyS k hk) ty
  rw [toD_del] at h1
  exact ⟨w', hrun, Owns.tight h1, h2.grown⟩
theorem Owns.chg {F : Nat → Prop} {w w' : World} {mb : Nat} {st : St} (h : Owns w mb st) (c : Chg F w w') (hF : ¬ F mb) : Owns w' mb st := map_chg h c hF

/-! ### a file in memory, the table, the disk -/
/-- The value is a file: its bytes in a row of its own. -/
def FileAt (w : World) (v : Value) (f : Fl) : Prop := ∃ sl, v = .agg #[sl, .int .i64 (f.2 : Int)] ∧ w.ownsRow 0 5 1 sl f.1.length (Lib.byteCells f.1)
def rowD : Value → Option Nat
  | .agg ⟨sl :: _⟩ => sl.ownBlock
  | _ => none
def Apart (st : St) : Prop := st.Pairwise fun p q => ∀ g, rowD p.2.1 = some g → rowD q.2.1 ≠ some g
theorem FileAt.zero (w : World) : FileAt w zeroF ([], 0) := ⟨_, rfl, World.ownsRow_nil _ _ _ _⟩
theorem FileAt.chg {F : Nat → Prop} {w w' : World} {v : Value} {f : Fl} (h : FileAt w v f) (c : Chg F w w') (hF : ∀ g, rowD v = some g → ¬ F g) : FileAt w' v f := by
  obtain ⟨sl, rfl, h1⟩ := h
  exact ⟨sl, rfl, own_chg h1 c (fun g hg => hF g hg)⟩
theorem FileAt.kept {w w' : World} {v : Value} {f : Fl} (h : FileAt w v f) (c : Kept w w') : FileAt w' v f := h.chg (Chg.of_kept (F := no) c) (fun _ _ x => x)
theorem FileAt.row {w : World} {v : Value} {f : Fl} (h : FileAt w v f) {g : Nat} (hg : rowD v = some g) : ∃ cur, w.heap[g]? = some (.cells cur 5 (0, 0)) := by
  obtain ⟨sl, rfl, h1⟩ := h
  rcases h1.2 with ⟨rfl, -⟩ | ⟨g', cap, cur, rfl, -, h3, -⟩
  · cases hg
  · obtain rfl : g' = g := by simpa [rowD, Value.ownBlock] using hg
    exact ⟨cur, h3⟩
structure Tbl (w : World) (mb : Nat) (st : St) (F : Nat → Prop) : Prop where
  owns : Owns w mb st
  srt : Srt st
  files : ∀ p ∈ st, FileAt w p.2.1 p.2.2
  apart : Apart st
  small : st.length ≤ 2000000000000
  inF : F mb
  rows : ∀ p ∈ st, ∀ g, rowD p.2.1 = some g → F g
theorem Tbl.mono {w : World} {mb : Nat} {st : St} {F G : Nat → Prop} (h : Tbl w mb st F) (hg : ∀ g, F g → G g) : Tbl w mb st G :=
  ⟨h.owns, h.srt, h.files, h.apart, h.small, hg _ h.inF, fun p hp g hr => hg _ (h.rows p hp g hr)⟩
theorem Tbl.chg {w w' : World} {mb : Nat} {st : St} {F G : Nat → Prop} (h : Tbl w mb st F) (c : Chg G w w') (hG : ∀ g, F g → ¬ G g) : Tbl w' mb st F :=
  ⟨h.owns.chg c (hG _ h.inF), h.srt, fun p hp => (h.files p hp).chg c (fun g hg => hG _ (h.rows p hp g hg)), h.apart, h.small, h.inF, h.rows⟩
theorem Tbl.kept {w w' : World} {mb : Nat} {st : St} {F : Nat → Prop} (h : Tbl w mb st F) (c : Kept w w') : Tbl w' mb st F := h.chg (Chg.of_kept (F := no) c) (fun _ _ x => x)
theorem Tbl.file {w : World} {mb : Nat} {st : St} {F : Nat → Prop} (h : Tbl w mb st F) (k : Nm) : FileAt w (valA k st) (filA k st) := by
  unfold valA filA
  cases hg : getA k st with
  | none => exact FileAt.zero w
  | some v => exact h.files _ (getA_mem hg)
theorem Tbl.row_lt {w : World} {mb : Nat} {st : St} {F : Nat → Prop} (h : Tbl w mb st F) {p : Nm × (Value × Fl)} (hp : p ∈ st) {g : Nat} (hg : rowD p.2.1 = some g) : g < w.heap.size := by
  obtain ⟨cur, hc⟩ := (h.files p hp).row hg
  exact (Array.getElem?_eq_some_iff.1 hc).1
theorem Tbl.row_ne {w : World} {mb : Nat} {st : St} {F : Nat → Prop} (h : Tbl w mb st F) {p : Nm × (Value × Fl)} (hp : p ∈ st) {g : Nat} (hg : rowD p.2.1 = some g) : g ≠ mb := by
  obtain ⟨cur, hc⟩ := (h.files p hp).row hg
  obtain ⟨es, clock, hb, -⟩ := h.owns
  rintro rfl
  rw [hb] at hc
  cases hc
theorem filA_mapV (k : Nm) (st : St) : filA k st = (getA k (mapV Prod.snd st)).getD ([], 0) := by
  unfold filA
  rw [getA_mapV]
/-- A file is laid into the table: its row is its own, the others' are theirs. -/
theorem Tbl.put {w w' : World} {mb : Nat} {st : St} {F : Nat → Prop} (h : Tbl w mb st F) {k : Nm} {v : Value} {f : Fl} (ho : Owns w' mb (putA k (v, f) st)) (hs : (putA k (v, f) st).length ≤ 2000000000000) (hv : FileAt w' v f) (hrest : ∀ p ∈ st, p.1 ≠ k → FileAt w' p.2.1 p.2.2)
    (hap : ∀ p ∈ st, p.1 ≠ k → ∀ g, rowD v = some g → rowD p.2.1 ≠ some g) (hr : ∀ g, rowD v = some g → F g) : Tbl w' mb (putA k (v, f) st) F := by
  refine ⟨ho, srt_put h.srt, fun p hp => ?_, ?_, ?_, h.inF, fun p hp g hg => ?_⟩
  · rcases mem_put hp with rfl | ⟨hp, hne⟩
    · exact hv
    · exact hrest p hp hne
  · have hsym : ∀ {p q : Nm × (Value × Fl)}, (∀ g, rowD p.2.1 = some g → rowD q.2.1 ≠ some g) → (∀ g, rowD q.2.1 = some g → rowD p.2.1 ≠ some g) := fun h g hg hp => h g hp hg
    refine ((put_perm k (v, f) st).pairwise_iff (fun h => hsym h)).2 (List.pairwise_cons.2 ⟨fun p hp => ?_, h.apart.filter _⟩)
    obtain ⟨hp, hne⟩ := mem_cut hp
    exact hap p hp hne
  · exact hs
  · rcases mem_put hp with rfl | ⟨hp, -⟩
    · exact hr g hg
    · exact h.rows p hp g hg
theorem Tbl.cut {w w' : World} {mb : Nat} {st : St} {F : Nat → Prop} (h : Tbl w mb st F) {k : Nm} (ho : Owns w' mb (cutA k st)) (c : Chg (fun g => g = mb) w w') : Tbl w' mb (cutA k st) F :=
  ⟨ho, srt_cut h.srt, fun p hp => (h.files p (mem_cut hp).1).chg c (fun _ hg => h.row_ne (mem_cut hp).1 hg), h.apart.filter _, by have := length_cut k st; have := h.small; omega, h.inF, fun p hp => h.rows p (mem_cut hp).1⟩
/-- The pointer leads to a disk of that capacity that holds these files; its blocks are among F. -/
structure Dsk (w : World) (db mb : Nat) (st : St) (cap : Nat) (F : Nat → Prop) : Prop where
  cells : w.heap[db]? = some (.cells #[.map (some mb), .int .i64 (cap : Int), .int .i64 (used (mapV Prod.snd st) : Int)] 85 (0, 0))
  tbl : Tbl w mb st F
  inF : F db
  good : Good (mapV Prod.snd st)
  fits : used (mapV Prod.snd st) ≤ cap
  capLe : cap ≤ 1073741824
def Disk (w : World) (d : Value) (cap : Nat) (fs : Fls) (F : Nat → Prop) : Prop := ∃ db mb st, d = .pointer (some ⟨db, 0, none⟩) ∧ mapV Prod.snd st = fs ∧ Dsk w db mb st cap F
theorem Dsk.mono {w : World} {db mb : Nat} {st : St} {cap : Nat} {F G : Nat → Prop} (h : Dsk w db mb st cap F) (hg : ∀ g, F g → G g) : Dsk w db mb st cap G := ⟨h.cells, h.tbl.mono hg, hg _ h.inF, h.good, h.fits, h.capLe⟩
theorem Dsk.chg {w w' : World} {db mb : Nat} {st : St} {cap : Nat} {F G : Nat → Prop} (h : Dsk w db mb st cap F) (c : Chg G w w') (hG : ∀ g, F g → ¬ G g) : Dsk w' db mb st cap F :=
  ⟨c.block' h.cells (hG _ h.inF), h.tbl.chg c hG, h.inF, h.good, h.fits, h.capLe⟩
theorem Dsk.kept {w w' : World} {db mb : Nat} {st : St} {cap : Nat} {F : Nat → Prop} (h : Dsk w db mb st cap F) (c : Kept w w') : Dsk w' db mb st cap F := h.chg (Chg.of_kept (F := no) c) (fun _ _ x => x)
theorem Disk.mono {w : World} {d : Value} {cap : Nat} {fs : Fls} {F G : Nat → Prop} (h : Disk w d cap fs F) (hg : ∀ g, F g → G g) : Disk w d cap fs G := by
  obtain ⟨db, mb, st, rfl, rfl, h⟩ := h
  exact ⟨db, mb, st, rfl, rfl, h.mono hg⟩
theorem Disk.chg {w w' : World} {d : Value} {cap : Nat} {fs : Fls} {F G : Nat → Prop} (h : Disk w d cap fs F) (c : Chg G w w') (hG : ∀ g, F g → ¬ G g) : Disk w' d cap fs F := by
  obtain ⟨db, mb, st, rfl, rfl, h⟩ := h
  exact ⟨db, mb, st, rfl, rfl, h.chg c hG⟩
theorem Disk.kept {w w' : World} {d : Value} {cap : Nat} {fs : Fls} {F : Nat → Prop} (h : Disk w d cap fs F) (c : Kept w w') : Disk w' d cap fs F := h.chg (Chg.of_kept (F := no) c) (fun _ _ x => x)
theorem Dsk.c0 {w : World} {db mb : Nat} {st : St} {cap : Nat} {F : Nat → Prop} (h : Dsk w db mb st cap F) : w.cell? ⟨db, 0, none⟩ = some (.map (some mb)) := by simp [World.cell?, h.cells]
theorem Dsk.c1 {w : World} {db mb : Nat} {st : St} {cap : Nat} {F : Nat → Prop} (h : Dsk w db mb st cap F) : w.cell? ⟨db, 1, none⟩ = some (.int .i64 (cap : Int)) := by simp [World.cell?, h.cells]
theorem Dsk.c2 {w : World} {db mb : Nat} {st : St} {cap : Nat} {F : Nat → Prop} (h : Dsk w db mb st cap F) : w.cell? ⟨db, 2, none⟩ = some (.int .i64 (used (mapV Prod.snd st) : Int)) := by simp [World.cell?, h.cells]
theorem Dsk.f2 {w : World} {db mb : Nat} {st : St} {cap : Nat} {F : Nat → Prop} (h : Dsk w db mb st cap F) : w.frozen? ⟨db, 2, none⟩ = false := by simp [World.frozen?, h.cells]
theorem Dsk.db_ne {w : World} {db mb : Nat} {st : St} {cap : Nat} {F : Nat → Prop} (h : Dsk w db mb st cap F) : db ≠ mb := by
  obtain ⟨es, clock, hb, -⟩ := h.tbl.owns
  rintro rfl
  rw [h.cells] at hb
  cases hb
theorem Dsk.row_ne {w : World} {db mb : Nat} {st : St} {cap : Nat} {F : Nat → Prop} (h : Dsk w db mb st cap F) {p : Nm × (Value × Fl)} (hp : p ∈ st) {g : Nat} (hg : rowD p.2.1 = some g) : g ≠ db := by
  obtain ⟨cur, hc⟩ := (h.tbl.files p hp).row hg
  rintro rfl
  rw [h.cells] at hc
  cases hc
theorem set2 {w : World} {db : Nat} {a b c v : Value} {t : TypeId} (h : w.heap[db]? = some (.cells #[a, b, c] t (0, 0))) : (w.setCell ⟨db, 2, none⟩ v).heap[db]? = some (.cells #[a, b, v] t (0, 0)) := by
  have := Lib.heap_setCell_same (i := 2) h v
  simpa using this
end Go.Proofs.YtngbgngfdklnlaaGreatDoor
set_option linter.unusedSimpArgs false
set_option linter.unusedVariables false
namespace Go.Proofs.YtngbgngfdklnlaaGreatDoor
open Go.RowKit
theorem okL_bad {ls : List Nm} {k : Nat} (hk : k < ls.length) (h : okN ls[k] = false) : okL ls = 30 := by
  unfold okL
  rw [all_bad hk h]
  rfl
set_option maxHeartbeats 400000 in
theorem checkNames_any (ls : List Nm) (v : Value) (w : World) (hv : Txts w v ls) : Calls Tryz.prog 57 #[v] w fun e w' => e = .returned (.int .i64 (okL ls)) ∧ w = w' := by
  have HV := Lib.hid hv
  obtain ⟨A, c, rfl, hc1, hc2⟩ := hv.form
  clear hv
  unfold maxLen at hc2
  go_enter Tryz.func57, Tryz.ntmps57
  go_wp2
  go_loop [7] (fun i => ∃ k : Nat, k ≤ ls.length ∧ i = .int .i64 (k : Int) ∧ (ls.take k).all okN = true) (fun i => ls.length - (intOf i).toNat)
  case atStart => exact ⟨0, Nat.zero_le _, rfl, rfl⟩
  case round =>
    obtain ⟨k, hk, rfl, hall⟩ := hrel
    have HA := Lib.hid hall
    clear hall
    by_cases hlt : k < ls.length
    · obtain ⟨b, o, rfl, hcell⟩ := HV.out.at hlt
      have g1 : (k : Int) < (ls.length : Int) := by omega
      cases hb : okN ls[k] with
      | true =>
        have HB := Lib.hid hb
        have HN := Lib.hid (isName_any ls[k] w)
        rw [hb] at HN
        clear hb
        go_wp2_with fail
        refine HN.out.mono ?_
        rintro e w' ⟨rfl, rfl⟩
        go_wp2
        go_round
        case rel => exact ⟨k + 1, by omega, by go_num, all_take hlt HA.out HB.out⟩
        case measure => simp [intOf]; omega
      | false =>
        have HB := Lib.hid (okL_bad hlt hb)
        have HN := Lib.hid (isName_any ls[k] w)
        rw [hb] at HN
        clear hb
        go_wp2_with fail
        refine HN.out.mono ?_
        rintro e w' ⟨rfl, rfl⟩
        go_wp2
        go_ret
        exact ⟨ret_int HB.out.symm, rfl⟩
    · obtain rfl : k = ls.length := by omega
      rw [List.take_length] at HA
      go_wp2
      go_ret
      exact ⟨ret_int (by unfold okL; rw [HA.out]; rfl), rfl⟩
set_option maxHeartbeats 400000 in
theorem sclone_any (l : List UInt8) (w : World) (hl : l.length ≤ 281474976710656) : Calls Tryz.prog 96 #[.string ⟨l.toArray⟩] w fun e w' => e = .returned (.string ⟨l.toArray⟩) ∧ Kept w w' := by
  have HC := Lib.hid (Tryz.stringslite_Clone ⟨l.toArray⟩ w (by rw [str_size]; exact hl))
  go_enter Tryz.func96, Tryz.ntmps96
  go_wp2_with fail
  refine HC.out.mono ?_
  rintro e w' ⟨rfl, hk⟩
  go_wp2
  go_ret
  exact ⟨rfl, hk⟩
/-- bytes.Clone: a row of its own. -/
theorem bclone_any (l : List UInt8) (v : Value) (w : World) (hv : Bts w v l) (hl : l.length ≤ 140737488355328) :
    Calls Tryz.prog 98 #[v] w fun e w' => ∃ v', e = .returned v' ∧ w'.ownsRow w.heap.size 5 1 v' l.length (Lib.byteCells l) ∧ Kept w w' := by
  obtain ⟨A, c, rfl, h1, h2, h3⟩ := hv
  cases A with
  | none =>
    have hm : l = [] := by
      rcases Nat.eq_zero_or_pos l.length with h | h
      · exact List.eq_nil_of_length_eq_zero h
      · obtain ⟨b, o, h, -⟩ := h3 h; cases h
    subst hm
    refine (Tryz.bytes_Clone_nil _ c w).mono ?_
    rintro e w' ⟨rfl, rfl⟩
    exact ⟨_, rfl, World.ownsRow_nil _ _ _ _, Kept.refl _⟩
  | some a =>
    have e : (l.map fun b : UInt8 => (b.toNat : Int)).map (Value.int .u8) = Lib.byteCells l := by simp [Lib.byteCells]
    refine (Tryz.bytes_Clone_at a l.length c (l.map fun b => (b.toNat : Int)) w (by simp) hl (fun i hi => ?_)).mono ?_
    · obtain ⟨b, o, h, hc⟩ := h3 (by omega)
      cases h
      have e : ((⟨b, o, none⟩ : Addr).add i) = ⟨b, o + i, none⟩ := by unfold Addr.add; split <;> simp_all
      rw [e, hc i l[i] (by simp [hi])]
      simp [List.getD, hi]
    · rintro e' w' ⟨v', rfl, h4, -, h5⟩
      rw [e] at h4
      exact ⟨v', rfl, h4, h5⟩
end Go.Proofs.YtngbgngfdklnlaaGreatDoor
