/- A list by names that rise: plain lists; no program, no memory in it. A tree of nodes as plain data: what Create, Delete and Set do. -/
import Derived.Maps.RangeWalk
import Derived.Test.YtennlckfmgfjbaaGreatDoorGPDig2
import Derived.Test.YtennlckfmgfjbaaGreatDoorGPCheck2
set_option linter.unusedSimpArgs false
set_option linter.unusedVariables false
namespace Go.Proofs.YtennlckfmgfjbaaGreatDoor
abbrev Pth := List UInt8
/-! ### an order on names -/
theorem bbZ_irrefl (a : Pth) : bytesBefore a a = false := by
  induction a with
  | nil => rfl
  | cons x r ih => simp [bytesBefore, ih]
theorem bbZ_trans {a b c : Pth} (h : bytesBefore a b = true) (k : bytesBefore b c = true) : bytesBefore a c = true := by
  induction a generalizing b c with
  | nil =>
    cases b with
    | nil => simp [bytesBefore] at h
    | cons y s =>
      cases c with
      | nil => simp [bytesBefore] at k
      | cons z t => rfl
  | cons x r ih =>
    cases b with
    | nil => simp [bytesBefore] at h
    | cons y s =>
      cases c with
      | nil => simp [bytesBefore] at k
      | cons z t =>
        simp only [bytesBefore, Bool.or_eq_true, decide_eq_true_eq, Bool.and_eq_true, beq_iff_eq] at h k ⊢
        rcases h with h | ⟨rfl, h⟩
        · rcases k with k | ⟨rfl, k⟩
          · exact .inl (UInt8.lt_trans h k)
          · exact .inl h
        · rcases k with k | ⟨rfl, k⟩
          · exact .inl k
          · exact .inr ⟨rfl, ih h k⟩
theorem bbZ_total {a b : Pth} (h : bytesBefore a b = false) : a = b ∨ bytesBefore b a = true := by
  induction a generalizing b with
  | nil =>
    cases b with
    | nil => exact .inl rfl
    | cons y s => simp [bytesBefore] at h
  | cons x r ih =>
    cases b with
    | nil => exact .inr rfl
    | cons y s =>
      simp only [bytesBefore, Bool.or_eq_false_iff, decide_eq_false_iff_not, Bool.and_eq_false_iff, beq_eq_false_iff_ne] at h
      obtain ⟨h1, h2⟩ := h
      by_cases e : x = y
      · subst e
        rcases h2 with h2 | h2
        · exact absurd rfl h2
        · rcases ih h2 with rfl | h3
          · exact .inl rfl
          · exact .inr (by simp [bytesBefore, h3])
      · refine .inr ?_
        have : y < x := by
          rcases UInt8.lt_or_lt_of_ne e with h | h
          · exact absurd h h1
          · exact h
        simp [bytesBefore, this]
theorem bbZ_ne {a b : Pth} (h : bytesBefore a b = true) : a ≠ b := by
  rintro rfl
  rw [bbZ_irrefl] at h
  cases h
theorem bbZ_asymm {a b : Pth} (h : bytesBefore a b = true) : bytesBefore b a = false := by
  cases k : bytesBefore b a with
  | false => rfl
  | true =>
    have := bbZ_trans h k
    rw [bbZ_irrefl] at this
    cases this

section
variable {α β : Type}
def insZ (x : Pth × α) : List (Pth × α) → List (Pth × α)
  | [] => [x]
  | y :: r => if bytesBefore x.1 y.1 then x :: y :: r else y :: insZ x r
def cutZ (k : Pth) (m : List (Pth × α)) : List (Pth × α) := m.filter fun p => !(p.1 == k)
def putZ (k : Pth) (v : α) (m : List (Pth × α)) : List (Pth × α) := insZ (k, v) (cutZ k m)
def getZ (k : Pth) (m : List (Pth × α)) : Option α := (m.find? fun p => p.1 == k).map Prod.snd
def hasZ (k : Pth) (m : List (Pth × α)) : Bool := m.any fun p => p.1 == k
def mapZ (g : α → β) (m : List (Pth × α)) : List (Pth × β) := m.map fun p => (p.1, g p.2)
def SrtZ (m : List (Pth × α)) : Prop := m.Pairwise fun p q => bytesBefore p.1 q.1 = true
def namesZ (m : List (Pth × α)) : List Pth := m.map Prod.fst

theorem namesZ_mapZ (g : α → β) (m : List (Pth × α)) : namesZ (mapZ g m) = namesZ m := by simp [namesZ, mapZ]
theorem length_mapZ (g : α → β) (m : List (Pth × α)) : (mapZ g m).length = m.length := by simp [mapZ]
theorem mapZ_insZ (g : α → β) (x : Pth × α) (m : List (Pth × α)) : mapZ g (insZ x m) = insZ (x.1, g x.2) (mapZ g m) := by
  induction m with
  | nil => rfl
  | cons y r ih =>
    simp only [insZ, mapZ, List.map_cons]
    split
    · rfl
    · simp only [List.map_cons]
      rw [← mapZ, ih]
      rfl
theorem mapZ_cut (g : α → β) (k : Pth) (m : List (Pth × α)) : mapZ g (cutZ k m) = cutZ k (mapZ g m) := by
  simp only [mapZ, cutZ, List.filter_map]
  rfl
theorem mapZ_put (g : α → β) (k : Pth) (v : α) (m : List (Pth × α)) : mapZ g (putZ k v m) = putZ k (g v) (mapZ g m) := by
  unfold putZ; rw [mapZ_insZ, mapZ_cut]
theorem getZ_mapZ (g : α → β) (k : Pth) (m : List (Pth × α)) : getZ k (mapZ g m) = (getZ k m).map g := by
  unfold getZ mapZ
  rw [List.find?_map]
  simp only [Option.map_map]
  rfl
theorem hasZ_mapZ (g : α → β) (k : Pth) (m : List (Pth × α)) : hasZ k (mapZ g m) = hasZ k m := by
  unfold hasZ mapZ
  rw [List.any_map]
  rfl
theorem hasZ_get (k : Pth) (m : List (Pth × α)) : hasZ k m = (getZ k m).isSome := by
  unfold hasZ getZ
  induction m with
  | nil => rfl
  | cons y r ih =>
    simp only [List.any_cons, List.find?_cons]
    cases y.1 == k with
    | true => rfl
    | false => simpa using ih
theorem getZ_mem {k : Pth} {v : α} {m : List (Pth × α)} (h : getZ k m = some v) : (k, v) ∈ m := by
  unfold getZ at h
  cases hf : m.find? (fun p => p.1 == k) with
  | none => rw [hf] at h; cases h
  | some p =>
    rw [hf] at h
    have h1 := List.mem_of_find?_eq_some hf
    have h2 := List.find?_some hf
    simp at h2 h
    obtain ⟨a, b⟩ := p
    simp at h2 h
    subst h2 h
    exact h1
theorem ins_permZ (x : Pth × α) (m : List (Pth × α)) : (insZ x m).Perm (x :: m) := by
  induction m with
  | nil => exact List.Perm.refl _
  | cons y r ih =>
    simp only [insZ]
    split
    · exact List.Perm.refl _
    · exact (List.Perm.cons y ih).trans (List.Perm.swap x y r)
theorem put_permZ (k : Pth) (v : α) (m : List (Pth × α)) : (putZ k v m).Perm ((k, v) :: cutZ k m) := ins_permZ _ _
theorem mem_putZ {k : Pth} {v : α} {m : List (Pth × α)} {p : Pth × α} (h : p ∈ putZ k v m) : p = (k, v) ∨ (p ∈ m ∧ p.1 ≠ k) := by
  rcases List.mem_cons.1 ((put_permZ k v m).mem_iff.1 h) with h | h
  · exact .inl h
  · have := List.mem_filter.1 h
    exact .inr ⟨this.1, by simpa using this.2⟩
theorem mem_cutZ {k : Pth} {m : List (Pth × α)} {p : Pth × α} (h : p ∈ cutZ k m) : p ∈ m ∧ p.1 ≠ k := by
  have := List.mem_filter.1 h
  exact ⟨this.1, by simpa using this.2⟩
theorem srt_cutZ {k : Pth} {m : List (Pth × α)} (h : SrtZ m) : SrtZ (cutZ k m) := List.Pairwise.filter _ h
theorem srt_insZ {x : Pth × α} {m : List (Pth × α)} (h : SrtZ m) (hx : ∀ p ∈ m, p.1 ≠ x.1) : SrtZ (insZ x m) := by
  induction m with
  | nil => simp [insZ, SrtZ]
  | cons y r ih =>
    obtain ⟨h1, h2⟩ := List.pairwise_cons.1 h
    simp only [insZ]
    split
    · rename_i hb
      refine List.pairwise_cons.2 ⟨fun p hp => ?_, h⟩
      rcases List.mem_cons.1 hp with rfl | hp
      · exact hb
      · exact bbZ_trans hb (h1 p hp)
    · rename_i hb
      have hb : bytesBefore x.1 y.1 = false := by simpa using hb
      have hyx : bytesBefore y.1 x.1 = true := by
        rcases bbZ_total hb with e | e
        · exact absurd e.symm (hx y (by simp))
        · exact e
      refine List.pairwise_cons.2 ⟨fun p hp => ?_, ih h2 (fun p hp => hx p (by simp [hp]))⟩
      rcases List.mem_cons.1 ((ins_permZ x r).mem_iff.1 hp) with rfl | hp
      · exact hyx
      · exact h1 p hp
theorem srt_putZ {k : Pth} {v : α} {m : List (Pth × α)} (h : SrtZ m) : SrtZ (putZ k v m) := srt_insZ (srt_cutZ h) (fun _ hp => (mem_cutZ hp).2)
theorem srt_mapZ {g : α → β} {m : List (Pth × α)} : SrtZ (mapZ g m) ↔ SrtZ m := by
  unfold SrtZ mapZ
  rw [List.pairwise_map]
theorem get_of_memZ {k : Pth} {v : α} {m : List (Pth × α)} (hs : SrtZ m) (h : (k, v) ∈ m) : getZ k m = some v := by
  induction m with
  | nil => cases h
  | cons y r ih =>
    obtain ⟨h1, h2⟩ := List.pairwise_cons.1 hs
    unfold getZ
    rcases List.mem_cons.1 h with rfl | h
    · simp
    · have hne : (y.1 == k) = false := by
        rw [beq_eq_false_iff_ne]
        exact bbZ_ne (h1 _ h)
      simp only [List.find?_cons, hne]
      exact ih h2 h
theorem cut_noneZ {k : Pth} {m : List (Pth × α)} (h : getZ k m = none) : cutZ k m = m := by
  unfold cutZ
  rw [List.filter_eq_self]
  intro p hp
  unfold getZ at h
  rw [Option.map_eq_none_iff, List.find?_eq_none] at h
  have := h p hp
  simpa using this
theorem length_putZ (k : Pth) (v : α) (m : List (Pth × α)) : (putZ k v m).length ≤ m.length + 1 := by
  rw [(put_permZ k v m).length_eq]
  have : (cutZ k m).length ≤ m.length := List.length_filter_le ..
  simp only [List.length_cons]
  omega
theorem length_cutZ (k : Pth) (m : List (Pth × α)) : (cutZ k m).length ≤ m.length := List.length_filter_le ..
theorem getZ_put_same (k : Pth) (v : α) (m : List (Pth × α)) (h : SrtZ m) : getZ k (putZ k v m) = some v :=
  get_of_memZ (srt_putZ h) ((put_permZ k v m).mem_iff.2 (by simp))
theorem getZ_put_other {k j : Pth} (hne : j ≠ k) (v : α) (m : List (Pth × α)) : getZ j (putZ k v m) = getZ j m := by
  have hkj : (k == j) = false := by simpa using Ne.symm hne
  have hi : ∀ l : List (Pth × α), getZ j (insZ (k, v) l) = getZ j l := by
    intro l
    induction l with
    | nil => simp [insZ, getZ, Ne.symm hne]
    | cons y r ih =>
      unfold getZ at ih ⊢
      simp only [insZ]
      split
      · rw [List.find?_cons]; simp only [hkj]
      · simp only [List.find?_cons]
        cases y.1 == j with
        | true => rfl
        | false => exact ih
  unfold putZ
  rw [hi]
  unfold getZ cutZ
  congr 1
  rw [List.find?_filter]
  congr 1
  funext p
  by_cases e : p.1 = j
  · subst e; simp [hne]
  · simp [e]
theorem getZ_cut_same (k : Pth) (m : List (Pth × α)) : getZ k (cutZ k m) = none := by
  unfold getZ cutZ
  rw [Option.map_eq_none_iff, List.find?_eq_none]
  intro p hp
  have := (List.mem_filter.1 hp).2
  simpa using this
theorem getZ_cut_other {k j : Pth} (hne : j ≠ k) (m : List (Pth × α)) : getZ j (cutZ k m) = getZ j m := by
  unfold getZ cutZ
  congr 1
  rw [List.find?_filter]
  congr 1
  funext p
  by_cases e : p.1 = j
  · subst e; simp [hne]
  · simp [e]
/-- Putting at a name that is there lays the file in its place. -/
theorem put_atZ {k : Pth} {v v' : α} {a b : List (Pth × α)} (h : SrtZ (a ++ (k, v) :: b)) : putZ k v' (a ++ (k, v) :: b) = a ++ (k, v') :: b := by
  have ha : ∀ p ∈ a, bytesBefore p.1 k = true := fun p hp => (List.pairwise_append.1 h).2.2 p hp (k, v) (by simp)
  have hb : ∀ p ∈ b, bytesBefore k p.1 = true := fun p hp => (List.pairwise_cons.1 (List.pairwise_append.1 h).2.1).1 p hp
  have hc : cutZ k (a ++ (k, v) :: b) = a ++ b := by
    unfold cutZ
    rw [List.filter_append, List.filter_cons]
    simp only [beq_self_eq_true, Bool.not_true, Bool.false_eq_true, if_false]
    rw [List.filter_eq_self.2 (fun p hp => by simpa using bbZ_ne (ha p hp)), List.filter_eq_self.2 (fun p hp => by simpa using (bbZ_ne (hb p hp)).symm)]
  unfold putZ
  rw [hc]
  clear hc h
  induction a with
  | nil =>
    cases b with
    | nil => rfl
    | cons y r => simp [insZ, hb y (by simp)]
  | cons y r ih =>
    have : bytesBefore k y.1 = false := bbZ_asymm (ha y (by simp))
    simp only [List.cons_append, insZ, this, Bool.false_eq_true, if_false]
    rw [ih (fun p hp => ha p (by simp [hp]))]
theorem cut_atZ {k : Pth} {v : α} {a b : List (Pth × α)} (h : SrtZ (a ++ (k, v) :: b)) : cutZ k (a ++ (k, v) :: b) = a ++ b := by
  have ha : ∀ p ∈ a, bytesBefore p.1 k = true := fun p hp => (List.pairwise_append.1 h).2.2 p hp (k, v) (by simp)
  have hb : ∀ p ∈ b, bytesBefore k p.1 = true := fun p hp => (List.pairwise_cons.1 (List.pairwise_append.1 h).2.1).1 p hp
  unfold cutZ
  rw [List.filter_append, List.filter_cons]
  simp only [beq_self_eq_true, Bool.not_true, Bool.false_eq_true, if_false]
  rw [List.filter_eq_self.2 (fun p hp => by simpa using bbZ_ne (ha p hp)), List.filter_eq_self.2 (fun p hp => by simpa using (bbZ_ne (hb p hp)).symm)]
theorem get_splitZ {k : Pth} {v : α} {m : List (Pth × α)} (h : getZ k m = some v) : ∃ a b, m = a ++ (k, v) :: b := List.append_of_mem (getZ_mem h)
theorem get_none_of_putZ {k : Pth} {m : List (Pth × α)} (h : getZ k m = none) : ∀ p ∈ m, p.1 ≠ k := by
  unfold getZ at h
  rw [Option.map_eq_none_iff, List.find?_eq_none] at h
  intro p hp
  have := h p hp
  simpa using this
end

end Go.Proofs.YtennlckfmgfjbaaGreatDoor
set_option linter.unusedSimpArgs false
set_option linter.unusedVariables false
namespace Go.Proofs.YtennlckfmgfjbaaGreatDoor
/-- A node. -/
structure ZN where
  data : List UInt8
  ver : Nat
  ctr : Nat
  own : Nat
  kids : Int
abbrev ZT := List (Pth × ZN)
def zroot : ZN := ⟨[], 0, 0, 0, 0⟩
def newT : ZT := [([47], zroot)]
/-- The path of the next node below this one, or the error's number. -/
def placeQ (n : ZN) (p : Pth) (seq : Bool) : Int × Pth :=
  if n.own ≠ 0 then (74, []) else if 9999999999 < n.ctr then (76, []) else
  match (if seq then sufOf p n.ctr else some p) with
  | none => (20, [])
  | some q => (0, q)
/-- The path of the node that Create makes, or the error's number. -/
def createQ (t : ZT) (p : Pth) (dl : Nat) (owner : Int) (seq : Bool) : Int × Pth :=
  match parentOf p with
  | none => (20, [])
  | some up =>
    if 256 < dl then (75, []) else if owner < 0 ∨ 4611686018427387903 < owner then (10, []) else
    match getZ up t with
    | none => (70, [])
    | some n => if (placeQ n p seq).1 ≠ 0 then ((placeQ n p seq).1, []) else if hasZ (placeQ n p seq).2 t then (71, []) else (0, (placeQ n p seq).2)
def createE (t : ZT) (p : Pth) (dl : Nat) (owner : Int) (seq : Bool) : Int := (createQ t p dl owner seq).1
def createP (t : ZT) (p : Pth) (dl : Nat) (owner : Int) (seq : Bool) : Pth := (createQ t p dl owner seq).2
/-- A node is another one, if it is there. -/
def onZ (k : Pth) (f : ZN → ZN) (t : ZT) : ZT := t.map fun x => if x.1 = k then (x.1, f x.2) else x
def createS (t : ZT) (p : Pth) (data : List UInt8) (owner : Int) (seq : Bool) : ZT :=
  if createE t p data.length owner seq = 0 then
    onZ (strO (parentOf p)) (fun n => { n with ctr := n.ctr + 1, kids := n.kids + 1 }) (putZ (createP t p data.length owner seq) ⟨data, 0, 0, owner.toNat, 0⟩ t)
  else t
def verOK (v : Int) (n : ZN) : Bool := decide (v = -1) || decide (v = n.ver)
def deleteE (t : ZT) (p : Pth) (v : Int) : Int :=
  match parentOf p with
  | none => 20
  | some up =>
    match getZ up t with
    | none => 70
    | some _ =>
      match getZ p t with
      | none => 70
      | some n => if verOK v n = false then 72 else if 0 < n.kids then 73 else 0
def deleteS (t : ZT) (p : Pth) (v : Int) : ZT :=
  if deleteE t p v = 0 then onZ (strO (parentOf p)) (fun n => { n with kids := n.kids - 1 }) (cutZ p t) else t
def setE (t : ZT) (p : Pth) (dl : Nat) (v : Int) : Int :=
  match parentOf p with
  | none => 20
  | some _ =>
    if 256 < dl then 75 else
    match getZ p t with
    | none => 70
    | some n => if verOK v n = false then 72 else 0
def setV (t : ZT) (p : Pth) (dl : Nat) (v : Int) : Int := if setE t p dl v = 0 then (match getZ p t with | some n => (n.ver : Int) + 1 | none => 0) else 0
def setS (t : ZT) (p : Pth) (data : List UInt8) (v : Int) : ZT :=
  if setE t p data.length v = 0 then onZ p (fun n => { n with data := data, ver := n.ver + 1 }) t else t
end Go.Proofs.YtennlckfmgfjbaaGreatDoor
