/- A tree in memory behind a new node, behind a change of a node, without a node. -/
import Derived.Test.YtnpenabkmpoafaaDoorQZWk2
set_option linter.unusedSimpArgs false
set_option linter.unusedVariables false
namespace Go.Proofs.YtnpenabkmpoafaaDoor
open Go.RowKit
/-- The entry at a path is another one. -/
def setZ {α : Type} (k : Pth) (e : α) (st : List (Pth × α)) : List (Pth × α) := st.map fun x => if x.1 = k then (k, e) else x
theorem names_setZ {α : Type} (k : Pth) (e : α) (st : List (Pth × α)) : namesZ (setZ k e st) = namesZ st := by
  unfold namesZ setZ
  rw [List.map_map]
  refine List.map_congr_left fun x _ => ?_
  simp only [Function.comp]
  by_cases h : x.1 = k
  · rw [if_pos h, h]
  · rw [if_neg h]
theorem srt_namesZ {α β : Type} {m : List (Pth × α)} {m' : List (Pth × β)} (h : namesZ m = namesZ m') (hs : SrtZ m) : SrtZ m' := by
  unfold SrtZ at *
  have h1 : (namesZ m).Pairwise (fun a b => bytesBefore a b = true) := List.pairwise_map.2 hs
  rw [h] at h1
  exact List.pairwise_map.1 h1
theorem length_setZ {α : Type} (k : Pth) (e : α) (st : List (Pth × α)) : (setZ k e st).length = st.length := by unfold setZ; rw [List.length_map]
theorem mem_setZ {α : Type} {k : Pth} {e : α} {st : List (Pth × α)} {p : Pth × α} (h : p ∈ setZ k e st) : p = (k, e) ∨ (p ∈ st ∧ p.1 ≠ k) := by
  obtain ⟨x, hx, rfl⟩ := List.mem_map.1 h
  by_cases e1 : x.1 = k
  · rw [if_pos e1]; exact .inl rfl
  · rw [if_neg e1]; exact .inr ⟨hx, e1⟩
theorem mapZ_setZ {α β : Type} (g : α → β) (k : Pth) (e : α) (st : List (Pth × α)) : mapZ g (setZ k e st) = setZ k (g e) (mapZ g st) := by
  unfold mapZ setZ
  rw [List.map_map, List.map_map]
  refine List.map_congr_left fun x _ => ?_
  simp only [Function.comp]
  by_cases h : x.1 = k
  · rw [if_pos h, if_pos h]
  · rw [if_neg h, if_neg h]
theorem setZ_onZ {k : Pth} {n : ZN} {t : ZT} (hs : SrtZ t) (hg : getZ k t = some n) (f : ZN → ZN) : setZ k (f n) t = onZ k f t := by
  unfold setZ onZ
  refine List.map_congr_left fun x hx => ?_
  by_cases h : x.1 = k
  · rw [if_pos h, if_pos h]
    have h2 : getZ x.1 t = some x.2 := get_of_memZ hs hx
    rw [h, hg] at h2
    injection h2 with h2
    rw [h2, h]
  · rw [if_neg h, if_neg h]
theorem toDZ_setZ {k : Pth} {e e' : ZE} {st : ZSt} (hs : SrtZ st) (hg : getZ k st = some e) (hnb : e'.nb = e.nb) : toDZ (setZ k e' st) = toDZ st := by
  unfold toDZ setZ
  rw [List.map_map]
  congr 1
  refine List.map_congr_left fun x hx => ?_
  simp only [Function.comp]
  by_cases h : x.1 = k
  · rw [if_pos h]
    have h2 : getZ x.1 st = some x.2 := get_of_memZ hs hx
    rw [h, hg] at h2
    injection h2 with h2
    rw [h, ← h2, hnb]
  · rw [if_neg h]
section
variable {w w' : World} {tb mb : Nat} {st : ZSt} {lim : Nat} {F : Nat → Prop}
theorem TreeAt.nb_ne (h : TreeAt w tb mb st lim F) {p : Pth × ZE} (hp : p ∈ st) : p.2.nb ≠ mb := by
  obtain ⟨es, clock, hb, -⟩ := h.owns
  intro e
  have := (h.nodes p hp).1
  rw [e, hb] at this
  cases this
theorem TreeAt.tb_ne (h : TreeAt w tb mb st lim F) {p : Pth × ZE} (hp : p ∈ st) : tb ≠ p.2.nb := fun e => by
  have h1 := (h.nodes p hp).1
  have h2 := h.cells
  rw [e, h1] at h2
  simp only [Option.some.injEq, Obj.cells.injEq] at h2
  exact absurd h2.2.1 (by decide)
theorem TreeAt.tb_mb (h : TreeAt w tb mb st lim F) : tb ≠ mb := fun e => by
  obtain ⟨es, clock, hb, -⟩ := h.owns
  have h2 := h.cells
  rw [e, hb] at h2
  cases h2
theorem TreeAt.dv_ne (h : TreeAt w tb mb st lim F) {p q : Pth × ZE} (hp : p ∈ st) (hq : q ∈ st) {g : Nat} (hg : p.2.dv.ownBlock = some g) : g ≠ q.2.nb := fun e => by
  obtain ⟨cur, h1⟩ := own_type (h.nodes p hp).2 hg
  have h2 := (h.nodes q hq).1
  rw [← e, h1] at h2
  simp only [Option.some.injEq, Obj.cells.injEq] at h2
  exact absurd h2.2.1 (by decide)
theorem TreeAt.dv_mb (h : TreeAt w tb mb st lim F) {p : Pth × ZE} (hp : p ∈ st) {g : Nat} (hg : p.2.dv.ownBlock = some g) : g ≠ mb := fun e => by
  obtain ⟨cur, h1⟩ := own_type (h.nodes p hp).2 hg
  obtain ⟨es, clock, hb, -⟩ := h.owns
  rw [e, hb] at h1
  cases h1
theorem TreeAt.nb_lt (h : TreeAt w tb mb st lim F) {p : Pth × ZE} (hp : p ∈ st) : p.2.nb < w.heap.size := (Array.getElem?_eq_some_iff.1 (h.nodes p hp).1).1
theorem TreeAt.inj' (h : TreeAt w tb mb st lim F) {p q : Pth × ZE} (hp : p ∈ st) (hq : q ∈ st) (hne : p ≠ q) : p.2.nb ≠ q.2.nb := by
  obtain ⟨a, b, hab⟩ := List.append_of_mem hq
  have hi := h.inj
  rw [hab] at hi hp
  rcases List.mem_append.1 hp with hp | hp
  · exact (List.pairwise_append.1 hi).2.2 p hp q (by simp)
  · rcases List.mem_cons.1 hp with hp | hp
    · exact absurd hp hne
    · exact fun e => (List.pairwise_cons.1 (List.pairwise_append.1 hi).2.1).1 p hp e.symm
/-- A new node. -/
theorem TreeAt.put (h : TreeAt w tb mb st lim F) {k : Pth} {e : ZE} (hg : getZ k st = none) (ho : OwnsZ w' mb (putZ k e st)) (c : Chg (fun g => g = mb) w w') (hN : NodeAt w' e) (hnew : w.heap.size ≤ e.nb ∧ e.nb < w'.heap.size) (hd : ∀ g, e.dv.ownBlock = some g → w.heap.size ≤ g ∧ g < w'.heap.size) (hgood : GoodN (lim + 1) k e.nd) : TreeAt w' tb mb (putZ k e st) (lim + 1) (ext F w w') := by
  have hcut : cutZ k st = st := cut_noneZ hg
  have hl := length_putZ k e st
  refine ⟨c.block' h.cells (fun x => h.tb_mb x), ho, srt_putZ h.srt, fun p hp => ?_, ?_, by have := h.few; omega, fun p hp => ?_, .inl h.inT, .inl h.inM, fun p hp => ?_, fun p hp g hg => ?_⟩
  · rcases mem_putZ hp with rfl | ⟨hp, -⟩
    · exact hN
    · exact (h.nodes p hp).chg c (h.nb_ne hp) (fun g hg => h.dv_mb hp hg)
  · refine ((put_permZ k e st).pairwise_iff (fun h => Ne.symm h)).2 (List.pairwise_cons.2 ⟨fun p hp => ?_, ?_⟩)
    · have := h.nb_lt (mem_cutZ hp).1
      have := hnew.1
      show e.nb ≠ p.2.nb
      omega
    · rw [hcut]; exact h.inj
  · rcases mem_putZ hp with rfl | ⟨hp, -⟩
    · exact hgood
    · exact (h.good p hp).more (by omega)
  · rcases mem_putZ hp with rfl | ⟨hp, -⟩
    · exact .inr hnew
    · exact .inl (h.inN p hp)
  · rcases mem_putZ hp with rfl | ⟨hp, -⟩
    · exact .inr (hd g hg)
    · exact .inl (h.inD p hp g hg)
/-- A node is another one, in its block. -/
theorem TreeAt.on (h : TreeAt w tb mb st lim F) {k : Pth} {e e' : ZE} (hg : getZ k st = some e) (hnb : e'.nb = e.nb) (hN : NodeAt w' e') (c : Chg (fun g => g = e.nb) w w') {lim' : Nat} (hl : lim ≤ lim') (hgood : GoodN lim' k e'.nd) (hd : ∀ g, e'.dv.ownBlock = some g → ext F w w' g) : TreeAt w' tb mb (setZ k e' st) lim' (ext F w w') := by
  have hm : (k, e) ∈ st := getZ_mem hg
  have hne : ∀ p ∈ st, p.1 ≠ k → p.2.nb ≠ e.nb := fun p hp hk => h.inj' hp hm (fun x => hk (by rw [x]))
  have hlen := length_setZ k e' st
  refine ⟨c.block' h.cells (h.tb_ne hm), ?_, srt_namesZ (names_setZ k e' st).symm h.srt, fun p hp => ?_, ?_, by have := h.few; omega, fun p hp => ?_, .inl h.inT, .inl h.inM, fun p hp => ?_, fun p hp g hg => ?_⟩
  · unfold OwnsZ
    rw [toDZ_setZ h.srt hg hnb, hlen]
    exact map_chg h.owns c (fun x => h.nb_ne hm x.symm)
  · rcases mem_setZ hp with rfl | ⟨hp, hk⟩
    · exact hN
    · exact (h.nodes p hp).chg c (hne p hp hk) (fun g hg => h.dv_ne hp hm hg)
  · unfold setZ
    rw [List.pairwise_map]
    refine h.inj.imp_of_mem fun {a b} ha hb hab => ?_
    have key : ∀ x ∈ st, (if x.1 = k then (k, e') else x).2.nb = x.2.nb := fun x hx => by
      by_cases e1 : x.1 = k
      · rw [if_pos e1]
        have h2 : getZ x.1 st = some x.2 := get_of_memZ h.srt hx
        rw [e1, hg] at h2
        injection h2 with h2
        rw [← h2]
        exact hnb
      · rw [if_neg e1]
    rw [key a ha, key b hb]
    exact hab
  · rcases mem_setZ hp with rfl | ⟨hp, -⟩
    · exact hgood
    · exact (h.good p hp).more hl
  · rcases mem_setZ hp with rfl | ⟨hp, -⟩
    · show ext F w w' e'.nb
      rw [hnb]
      exact .inl (h.inN _ hm)
    · exact .inl (h.inN p hp)
  · rcases mem_setZ hp with rfl | ⟨hp, -⟩
    · exact hd g hg
    · exact .inl (h.inD p hp g hg)
/-- Without a node. -/
theorem TreeAt.cut (h : TreeAt w tb mb st lim F) {k : Pth} (ho : OwnsZ w' mb (cutZ k st)) (c : Chg (fun g => g = mb) w w') : TreeAt w' tb mb (cutZ k st) lim F := by
  have hl := length_cutZ k st
  exact ⟨c.block' h.cells (fun x => h.tb_mb x), ho, srt_cutZ h.srt, fun p hp => (h.nodes p (mem_cutZ hp).1).chg c (h.nb_ne (mem_cutZ hp).1) (fun g hg => h.dv_mb (mem_cutZ hp).1 hg), h.inj.filter _, by have := h.few; omega, fun p hp => h.good p (mem_cutZ hp).1, h.inT, h.inM, fun p hp => h.inN p (mem_cutZ hp).1, fun p hp => h.inD p (mem_cutZ hp).1⟩
end
end Go.Proofs.YtnpenabkmpoafaaDoor
