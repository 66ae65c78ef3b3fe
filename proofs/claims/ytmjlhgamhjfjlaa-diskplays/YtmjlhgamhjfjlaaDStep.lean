/- A disk behind a store into its table, behind a deletion, behind both. -/
import Derived.Test.YtmjlhgamhjfjlaaDRead
import Derived.Test.YtmjlhgamhjfjlaaDPut
set_option linter.unusedSimpArgs false
set_option linter.unusedVariables false
namespace Go.Proofs.Ytmjlhgamhjfjlaa
open Go.RowKit
theorem cell_at {w : World} {b : Nat} {cs : Array Value} {t : TypeId} {m : Nat × Nat} (h : w.heap[b]? = some (.cells cs t m)) (i : Nat) : w.cell? ⟨b, i, none⟩ = cs[i]? := by simp [World.cell?, h]
theorem frozen_at {w : World} {b : Nat} {cs : Array Value} {t : TypeId} (h : w.heap[b]? = some (.cells cs t (0, 0))) (i : Nat) : w.frozen? ⟨b, i, none⟩ = false := by simp [World.frozen?, h]
theorem ext_low {F : Nat → Prop} {w W : World} {g : Nat} (h : ext F w W g) (hg : g < w.heap.size) : F g := by
  rcases h with h | h
  · exact h
  · omega
theorem ext_ext {F : Nat → Prop} {w W W' : World} (h1 : w.heap.size ≤ W.heap.size) (h2 : W.heap.size ≤ W'.heap.size) {g : Nat} (h : ext (ext F w W) W W' g) : ext F w W' g := by
  rcases h with (h | h) | h
  · exact .inl h
  · exact .inr ⟨h.1, by omega⟩
  · exact .inr ⟨by omega, h.2⟩
theorem ext_mono {F : Nat → Prop} {w W W' : World} (h2 : W.heap.size ≤ W'.heap.size) {g : Nat} (h : ext F w W g) : ext F w W' g := by
  rcases h with h | h
  · exact .inl h
  · exact .inr ⟨h.1, by omega⟩
/-- The blocks that a store at k may turn: the disk's own, the table's, the file's row. -/
def foot (db mb : Nat) (v : Value) : Nat → Prop := fun g => g = db ∨ g = mb ∨ rowOf v = some g
theorem valA_mem {k : Nm} {st : St} {g : Nat} (h : rowOf (valA k st) = some g) : (k, (valA k st, filA k st)) ∈ st := by
  unfold valA filA at *
  cases hg : getA k st with
  | none => rw [hg] at h; simp [zeroF, rowOf, Value.ownBlock] at h
  | some v =>
    have := getA_mem hg
    simpa using this
theorem Dsk.foot_F {w : World} {db mb : Nat} {st : St} {cap : Nat} {F : Nat → Prop} (h : Dsk w db mb st cap F) (k : Nm) {g : Nat} (hg : foot db mb (valA k st) g) : F g := by
  rcases hg with rfl | rfl | hg
  · exact h.inF
  · exact h.tbl.inF
  · exact h.tbl.rows _ (valA_mem hg) g hg
/-- Another file's row is none of these. -/
theorem Dsk.foot_other {w : World} {db mb : Nat} {st : St} {cap : Nat} {F : Nat → Prop} (h : Dsk w db mb st cap F) {k : Nm} {p : Nm × (Value × Fl)} (hp : p ∈ st) (hne : p.1 ≠ k) {g : Nat} (hg : rowOf p.2.1 = some g) : ¬ foot db mb (valA k st) g := by
  rintro (e | e | e)
  · exact h.row_ne hp hg e
  · exact h.tbl.row_ne hp hg e
  · have hm := valA_mem e
    have hne' : p ≠ (k, (valA k st, filA k st)) := fun x => hne (by rw [x])
    obtain ⟨a, b, hab⟩ := List.append_of_mem hm
    have hap := h.tbl.apart
    unfold Apart at hap
    rw [hab] at hap hp
    rcases List.mem_append.1 hp with hp | hp
    · exact (List.pairwise_append.1 hap).2.2 p hp (k, (valA k st, filA k st)) (by simp) g hg e
    · rcases List.mem_cons.1 hp with hp | hp
      · exact hne' hp
      · exact (List.pairwise_cons.1 (List.pairwise_append.1 hap).2.1).1 p hp g e hg
theorem Dsk.put {w w' : World} {db mb : Nat} {st : St} {cap : Nat} {F : Nat → Prop} (h : Dsk w db mb st cap F) {k : Nm} {v : Value} {f : Fl}
    (hc : w'.heap[db]? = some (.cells #[.map (some mb), .int .i64 (cap : Int), .int .i64 (used (putA k f (mapV Prod.snd st)) : Int)] 70 (0, 0)))
    (ho : Owns w' mb (putA k (v, f) st)) (hv : FileAt w' v f) (c : Chg (foot db mb (valA k st)) w w') (hr : ∀ g, rowOf v = some g → rowOf (valA k st) = some g ∨ (w.heap.size ≤ g ∧ g < w'.heap.size))
    (hk : okN k = true) (hf : f.2 ≤ f.1.length) (hu : used (putA k f (mapV Prod.snd st)) ≤ cap) (hn : (putA k (v, f) st).length ≤ 2000000000000) : Dsk w' db mb (putA k (v, f) st) cap (ext F w w') := by
  have hm := mapV_put Prod.snd k (v, f) st
  refine ⟨by rw [hm]; exact hc, ?_, .inl h.inF, by rw [hm]; exact h.good.put hk hf, by rw [hm]; exact hu, h.capLe⟩
  refine Tbl.put (w := w) (h.tbl.mono fun _ x => .inl x) ho hn hv (fun p hp hne => (h.tbl.files p hp).chg c (fun g hg => h.foot_other hp hne hg)) (fun p hp hne g hg hpg => ?_) (fun g hg => ?_)
  · rcases hr g hg with e | e
    · exact h.foot_other hp hne hpg (.inr (.inr e))
    · have := h.tbl.row_lt hp hpg
      omega
  · rcases hr g hg with e | e
    · exact .inl (h.foot_F k (.inr (.inr e)))
    · exact .inr e
theorem Dsk.cut {w w' : World} {db mb : Nat} {st : St} {cap : Nat} {F : Nat → Prop} (h : Dsk w db mb st cap F) {k : Nm}
    (hc : w'.heap[db]? = some (.cells #[.map (some mb), .int .i64 (cap : Int), .int .i64 (used (cutA k (mapV Prod.snd st)) : Int)] 70 (0, 0)))
    (ho : Owns w' mb (cutA k st)) (c : Chg (fun g => g = db ∨ g = mb) w w') : Dsk w' db mb (cutA k st) cap F := by
  have hm := mapV_cut Prod.snd k st
  refine ⟨by rw [hm]; exact hc, ⟨ho, srt_cut h.tbl.srt, fun p hp => (h.tbl.files p (mem_cut hp).1).chg c (fun g hg => ?_), h.tbl.apart.filter _, by have := length_cut k st; have := h.tbl.small; omega, h.tbl.inF, fun p hp => h.tbl.rows p (mem_cut hp).1⟩, h.inF, by rw [hm]; exact h.good.cut k, by rw [hm]; have := used_cut h.good.1 k; have := h.fits; omega, h.capLe⟩
  rintro (e | e)
  · exact h.row_ne (mem_cut hp).1 hg e
  · exact h.tbl.row_ne (mem_cut hp).1 hg e
theorem Dsk.ren {w w' : World} {db mb : Nat} {st : St} {cap : Nat} {F : Nat → Prop} (h : Dsk w db mb st cap F) {a b : Nm} (hab : a ≠ b) (hb : okN b = true)
    (hc : w'.heap[db]? = some (.cells #[.map (some mb), .int .i64 (cap : Int), .int .i64 (used (cutA a (putA b (filA a st) (mapV Prod.snd st))) : Int)] 70 (0, 0)))
    (ho : Owns w' mb (cutA a (putA b (valA a st, filA a st) st))) (c : Chg (fun g => g = db ∨ g = mb) w w') (hn : (cutA a (putA b (valA a st, filA a st) st)).length ≤ 2000000000000) (hle : used (cutA a (putA b (filA a st) (mapV Prod.snd st))) ≤ cap) : Dsk w' db mb (cutA a (putA b (valA a st, filA a st) st)) cap F := by
  have hm : mapV Prod.snd (cutA a (putA b (valA a st, filA a st) st)) = cutA a (putA b (filA a st) (mapV Prod.snd st)) := by rw [mapV_cut, mapV_put]
  have hfa : (filA a st).2 ≤ (filA a st).1.length := by rw [filA_mapV]; exact h.good.getD a
  have hfoot : ∀ (p : Nm × (Value × Fl)), p ∈ st → ∀ g, rowOf p.2.1 = some g → ¬ (g = db ∨ g = mb) := fun p hp g hg => by
    rintro (e | e)
    · exact h.row_ne hp hg e
    · exact h.tbl.row_ne hp hg e
  refine ⟨by rw [hm]; exact hc, ⟨ho, srt_cut (srt_put h.tbl.srt), fun p hp => ?_, ?_, hn, h.tbl.inF, fun p hp g hg => ?_⟩, h.inF, by rw [hm]; exact (h.good.put hb hfa).cut a, by rw [hm]; exact hle, h.capLe⟩
  · rcases mem_put (mem_cut hp).1 with rfl | ⟨hp1, -⟩
    · exact (h.tbl.file a).chg c (fun g hg => hfoot _ (valA_mem hg) g hg)
    · exact (h.tbl.files p hp1).chg c (hfoot p hp1)
  · have hsym : ∀ {p q : Nm × (Value × Fl)}, (∀ g, rowOf p.2.1 = some g → rowOf q.2.1 ≠ some g) → (∀ g, rowOf q.2.1 = some g → rowOf p.2.1 ≠ some g) := fun h g hg hp => h g hp hg
    have hp1 : (cutA a (putA b (valA a st, filA a st) st)).Perm ((b, (valA a st, filA a st)) :: cutA a (cutA b st)) := by
      have := (put_perm b (valA a st, filA a st) st).filter (fun p => !(p.1 == a))
      unfold cutA at this ⊢
      rw [List.filter_cons] at this
      simpa [Ne.symm hab] using this
    refine (hp1.pairwise_iff (fun h => hsym h)).2 (List.pairwise_cons.2 ⟨fun p hp g hg hpg => ?_, (h.tbl.apart.filter _).filter _⟩)
    obtain ⟨hp, hna⟩ := mem_cut hp
    exact h.foot_other (mem_cut hp).1 hna hpg (.inr (.inr hg))
  · rcases mem_put (mem_cut hp).1 with rfl | ⟨hp1, -⟩
    · exact h.tbl.rows _ (valA_mem hg) g hg
    · exact h.tbl.rows p hp1 g hg
/-- A region that draws, whose tail is forced: the world behind the draw under a name. -/
theorem still_tail {P : Program} {id : Nat} {Q : Exit → Act → World → Prop} {a : Act} {w : World} {l : List Oper} (n : Nat) (hm : P.follows .mixedOrders = true) (hB : Region.lexTailB .any l.toArray n = true)
    (h : ∀ wd, Kept w wd → wpStill P l.toArray wd (fun a' => wpList P l.toArray Q (l.drop n) a' wd) (l.take n) a) : (Code.region id l.toArray true).wp P Q a w :=
  wp_region_still_tail n hm hB (h _ (Kept.refl w).drew)
theorem Dsk.chain {w W W' : World} {db mb : Nat} {st : St} {cap : Nat} {F : Nat → Prop} (h : Dsk W' db mb st cap (ext (ext F w W) W W')) (h1 : w.heap.size ≤ W.heap.size) (h2 : W.heap.size ≤ W'.heap.size) : Dsk W' db mb st cap (ext F w W') := h.mono (fun _ x => ext_ext h1 h2 x)
theorem Chg.chain {F : Nat → Prop} {w W W' : World} (c : Chg F w W) (c' : Chg (ext F w W) W W') : Chg F w W' := c.trans c' (fun _ hg x => ext_low x hg)
theorem length_put_has {α : Type} {k : Nm} {v : α} {m : List (Nm × α)} (hs : Srt m) (h : hasA k m = true) : (putA k v m).length = m.length := by
  rw [hasA_get] at h
  cases hg : getA k m with
  | none => rw [hg] at h; cases h
  | some x =>
    obtain ⟨a, b, rfl⟩ := get_split hg
    rw [put_at hs]
    simp
theorem names_put_has {α : Type} {k : Nm} {v : α} {m : List (Nm × α)} (hs : Srt m) (h : hasA k m = true) : namesA (putA k v m) = namesA m := by
  rw [hasA_get] at h
  cases hg : getA k m with
  | none => rw [hg] at h; cases h
  | some x =>
    obtain ⟨a, b, rfl⟩ := get_split hg
    rw [put_at hs]
    simp [namesA]
theorem length_ren {α : Type} {a b : Nm} {v : α} {m : List (Nm × α)} (hs : Srt m) (hab : a ≠ b) (h : hasA a m = true) : (cutA a (putA b v m)).length ≤ m.length := by
  rw [hasA_get, ← getA_put_other hab v m] at h
  have hl := length_put b v m
  cases hg : getA a (putA b v m) with
  | none => rw [hg] at h; cases h
  | some x =>
    obtain ⟨p, q, e⟩ := get_split hg
    have hs' : Srt (putA b v m) := srt_put hs
    rw [e] at hs' hl ⊢
    rw [cut_at hs']
    simp only [List.length_append, List.length_cons] at hl ⊢
    omega
theorem hasA_names {α β : Type} {m : List (Nm × α)} {m' : List (Nm × β)} (h : namesA m = namesA m') (k : Nm) : hasA k m = hasA k m' := by
  have e : ∀ {γ : Type} (l : List (Nm × γ)), hasA k l = (namesA l).any (fun x => x == k) := by
    intro γ l
    unfold hasA namesA
    rw [List.any_map]
    rfl
  rw [e, e, h]
theorem length_names {α β : Type} {m : List (Nm × α)} {m' : List (Nm × β)} (h : namesA m = namesA m') : m.length = m'.length := by
  have := congrArg List.length h
  simpa [namesA] using this
end Go.Proofs.Ytmjlhgamhjfjlaa
