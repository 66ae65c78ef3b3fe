/- The disk as a list of files by their names, in plain lists: no program, no memory in it. A log's names as lists of bytes: digits, files. No program in it. -/
import Derived.Maps.RangeWalk
import Derived.Lib.ItoaNum
import Derived.Lib.Atoi
import Derived.Lib.Strings
set_option linter.unusedSimpArgs false
set_option linter.unusedVariables false
namespace Go.Proofs.YtngbgngfdklnlaaGreatDoor
abbrev Nm := List UInt8
/-- A file: its bytes, and how many of them are safe. -/
abbrev Fl := List UInt8 × Nat
def okC (c : UInt8) : Bool := (decide (97 ≤ c.toNat) && decide (c.toNat ≤ 122)) || (decide (48 ≤ c.toNat) && decide (c.toNat ≤ 57)) || decide (c.toNat = 46) || decide (c.toNat = 45)
def okN (s : Nm) : Bool := decide (1 ≤ s.length) && decide (s.length ≤ 40) && s.all okC
theorem okN_len {s : Nm} (h : okN s = true) : s.length ≤ 40 := by
  unfold okN at h
  simp only [Bool.and_eq_true, decide_eq_true_eq] at h
  omega

/-! ### an order on names -/
theorem bb_irrefl (a : Nm) : bytesBefore a a = false := by
  induction a with
  | nil => rfl
  | cons x r ih => simp [bytesBefore, ih]
theorem bb_trans {a b c : Nm} (h : bytesBefore a b = true) (k : bytesBefore b c = true) : bytesBefore a c = true := by
  induction a generalizing b c with
  | nil =>
    cases b with
    | nil => simp [bytesBefore] at h
    | cons y s =>
      cases c with
      | nil => simp [bytesBefore] at k
      | cons z t => rfl
  | cons x r ih =>
    cases b with
    | nil => simp [bytesBefore] at h
    | cons y s =>
      cases c with
      | nil => simp [bytesBefore] at k
      | cons z t =>
        simp only [bytesBefore, Bool.or_eq_true, decide_eq_true_eq, Bool.and_eq_true, beq_iff_eq] at h k ⊢
        rcases h with h | ⟨rfl, h⟩
        · rcases k with k | ⟨rfl, k⟩
          · exact .inl (UInt8.lt_trans h k)
          · exact .inl h
        · rcases k with k | ⟨rfl, k⟩
          · exact .inl k
          · exact .inr ⟨rfl, ih h k⟩
theorem bb_total {a b : Nm} (h : bytesBefore a b = false) : a = b ∨ bytesBefore b a = true := by
  induction a generalizing b with
  | nil =>
    cases b with
    | nil => exact .inl rfl
    | cons y s => simp [bytesBefore] at h
  | cons x r ih =>
    cases b with
    | nil => exact .inr rfl
    | cons y s =>
      simp only [bytesBefore, Bool.or_eq_false_iff, decide_eq_false_iff_not, Bool.and_eq_false_iff, beq_eq_false_iff_ne] at h
      obtain ⟨h1, h2⟩ := h
      by_cases e : x = y
      · subst e
        rcases h2 with h2 | h2
        · exact absurd rfl h2
        · rcases ih h2 with rfl | h3
          · exact .inl rfl
          · exact .inr (by simp [bytesBefore, h3])
      · refine .inr ?_
        have : y < x := by
          rcases UInt8.lt_or_lt_of_ne e with h | h
          · exact absurd h h1
          · exact h
        simp [bytesBefore, this]
theorem bb_ne {a b : Nm} (h : bytesBefore a b = true) : a ≠ b := by
  rintro rfl
  rw [bb_irrefl] at h
  cases h
theorem bb_asymm {a b : Nm} (h : bytesBefore a b = true) : bytesBefore b a = false := by
  cases k : bytesBefore b a with
  | false => rfl
  | true =>
    have := bb_trans h k
    rw [bb_irrefl] at this
    cases this

section
variable {α β : Type}
def ins (x : Nm × α) : List (Nm × α) → List (Nm × α)
  | [] => [x]
  | y :: r => if bytesBefore x.1 y.1 then x :: y :: r else y :: ins x r
def cutA (k : Nm) (m : List (Nm × α)) : List (Nm × α) := m.filter fun p => !(p.1 == k)
def putA (k : Nm) (v : α) (m : List (Nm × α)) : List (Nm × α) := ins (k, v) (cutA k m)
def getA (k : Nm) (m : List (Nm × α)) : Option α := (m.find? fun p => p.1 == k).map Prod.snd
def hasA (k : Nm) (m : List (Nm × α)) : Bool := m.any fun p => p.1 == k
def mapV (g : α → β) (m : List (Nm × α)) : List (Nm × β) := m.map fun p => (p.1, g p.2)
def Srt (m : List (Nm × α)) : Prop := m.Pairwise fun p q => bytesBefore p.1 q.1 = true
def namesA (m : List (Nm × α)) : List Nm := m.map Prod.fst

theorem namesA_mapV (g : α → β) (m : List (Nm × α)) : namesA (mapV g m) = namesA m := by simp [namesA, mapV]
theorem length_mapV (g : α → β) (m : List (Nm × α)) : (mapV g m).length = m.length := by simp [mapV]
theorem mapV_ins (g : α → β) (x : Nm × α) (m : List (Nm × α)) : mapV g (ins x m) = ins (x.1, g x.2) (mapV g m) := by
  induction m with
  | nil => rfl
  | cons y r ih =>
    simp only [ins, mapV, List.map_cons]
    split
    · rfl
    · simp only [List.map_cons]
      rw [← mapV, ih]
      rfl
theorem mapV_cut (g : α → β) (k : Nm) (m : List (Nm × α)) : mapV g (cutA k m) = cutA k (mapV g m) := by
  simp only [mapV, cutA, List.filter_map]
  rfl
theorem mapV_put (g : α → β) (k : Nm) (v : α) (m : List (Nm × α)) : mapV g (putA k v m) = putA k (g v) (mapV g m) := by
  unfold putA; rw [mapV_ins, mapV_cut]
theorem getA_mapV (g : α → β) (k : Nm) (m : List (Nm × α)) : getA k (mapV g m) = (getA k m).map g := by
  unfold getA mapV
  rw [List.find?_map]
  simp only [Option.map_map]
  rfl
theorem hasA_mapV (g : α → β) (k : Nm) (m : List (Nm × α)) : hasA k (mapV g m) = hasA k m := by
  unfold hasA mapV
  rw [List.any_map]
  rfl
theorem hasA_get (k : Nm) (m : List (Nm × α)) : hasA k m = (getA k m).isSome := by
  unfold hasA getA
  induction m with
  | nil => rfl
  | cons y r ih =>
    simp only [List.any_cons, List.find?_cons]
    cases y.1 == k with
    | true => rfl
    | false => simpa using ih
theorem getA_mem {k : Nm} {v : α} {m : List (Nm × α)} (h : getA k m = some v) : (k, v) ∈ m := by
  unfold getA at h
  cases hf : m.find? (fun p => p.1 == k) with
  | none => rw [hf] at h; cases h
  | some p =>
    rw [hf] at h
    have h1 := List.mem_of_find?_eq_some hf
    have h2 := List.find?_some hf
    simp at h2 h
    obtain ⟨a, b⟩ := p
    simp at h2 h
    subst h2 h
    exact h1
theorem ins_perm (x : Nm × α) (m : List (Nm × α)) : (ins x m).Perm (x :: m) := by
  induction m with
  | nil => exact List.Perm.refl _
  | cons y r ih =>
    simp only [ins]
    split
    · exact List.Perm.refl _
    · exact (List.Perm.cons y ih).trans (List.Perm.swap x y r)
theorem put_perm (k : Nm) (v : α) (m : List (Nm × α)) : (putA k v m).Perm ((k, v) :: cutA k m) := ins_perm _ _
theorem mem_put {k : Nm} {v : α} {m : List (Nm × α)} {p : Nm × α} (h : p ∈ putA k v m) : p = (k, v) ∨ (p ∈ m ∧ p.1 ≠ k) := by
  rcases List.mem_cons.1 ((put_perm k v m).mem_iff.1 h) with h | h
  · exact .inl h
  · have := List.mem_filter.1 h
    exact .inr ⟨this.1, by simpa using this.2⟩
theorem mem_cut {k : Nm} {m : List (Nm × α)} {p : Nm × α} (h : p ∈ cutA k m) : p ∈ m ∧ p.1 ≠ k := by
  have := List.mem_filter.1 h
  exact ⟨this.1, by simpa using this.2⟩
theorem srt_cut {k : Nm} {m : List (Nm × α)} (h : Srt m) : Srt (cutA k m) := List.Pairwise.filter _ h
theorem srt_ins {x : Nm × α} {m : List (Nm × α)} (h : Srt m) (hx : ∀ p ∈ m, p.1 ≠ x.1) : Srt (ins x m) := by
  induction m with
  | nil => simp [ins, Srt]
  | cons y r ih =>
    obtain ⟨h1, h2⟩ := List.pairwise_cons.1 h
    simp only [ins]
    split
    · rename_i hb
      refine List.pairwise_cons.2 ⟨fun p hp => ?_, h⟩
      rcases List.mem_cons.1 hp with rfl | hp
      · exact hb
      · exact bb_trans hb (h1 p hp)
    · rename_i hb
      have hb : bytesBefore x.1 y.1 = false := by simpa using hb
      have hyx : bytesBefore y.1 x.1 = true := by
        rcases bb_total hb with e | e
        · exact absurd e.symm (hx y (by simp))
        · exact e
      refine List.pairwise_cons.2 ⟨fun p hp => ?_, ih h2 (fun p hp => hx p (by simp [hp]))⟩
      rcases List.mem_cons.1 ((ins_perm x r).mem_iff.1 hp) with rfl | hp
      · exact hyx
      · exact h1 p hp
theorem srt_put {k : Nm} {v : α} {m : List (Nm × α)} (h : Srt m) : Srt (putA k v m) := srt_ins (srt_cut h) (fun _ hp => (mem_cut hp).2)
theorem srt_mapV {g : α → β} {m : List (Nm × α)} : Srt (mapV g m) ↔ Srt m := by
  unfold Srt mapV
  rw [List.pairwise_map]
theorem get_of_mem {k : Nm} {v : α} {m : List (Nm × α)} (hs : Srt m) (h : (k, v) ∈ m) : getA k m = some v := by
  induction m with
  | nil => cases h
  | cons y r ih =>
    obtain ⟨h1, h2⟩ := List.pairwise_cons.1 hs
    unfold getA
    rcases List.mem_cons.1 h with rfl | h
    · simp
    · have hne : (y.1 == k) = false := by
        rw [beq_eq_false_iff_ne]
        exact bb_ne (h1 _ h)
      simp only [List.find?_cons, hne]
      exact ih h2 h
theorem cut_none {k : Nm} {m : List (Nm × α)} (h : getA k m = none) : cutA k m = m := by
  unfold cutA
  rw [List.filter_eq_self]
  intro p hp
  unfold getA at h
  rw [Option.map_eq_none_iff, List.find?_eq_none] at h
  have := h p hp
  simpa using this
theorem length_put (k : Nm) (v : α) (m : List (Nm × α)) : (putA k v m).length ≤ m.length + 1 := by
  rw [(put_perm k v m).length_eq]
  have : (cutA k m).length ≤ m.length := List.length_filter_le ..
  simp only [List.length_cons]
  omega
theorem length_cut (k : Nm) (m : List (Nm × α)) : (cutA k m).length ≤ m.length := List.length_filter_le ..
theorem getA_put_same (k : Nm) (v : α) (m : List (Nm × α)) (h : Srt m) : getA k (putA k v m) = some v :=
  get_of_mem (srt_put h) ((put_perm k v m).mem_iff.2 (by simp))
theorem getA_put_other {k j : Nm} (hne : j ≠ k) (v : α) (m : List (Nm × α)) : getA j (putA k v m) = getA j m := by
  have hkj : (k == j) = false := by simpa using Ne.symm hne
  have hi : ∀ l : List (Nm × α), getA j (ins (k, v) l) = getA j l := by
    intro l
    induction l with
    | nil => simp [ins, getA, Ne.symm hne]
    | cons y r ih =>
      unfold getA at ih ⊢
      simp only [ins]
      split
      · rw [List.find?_cons]; simp only [hkj]
      · simp only [List.find?_cons]
        cases y.1 == j with
        | true => rfl
        | false => exact ih
  unfold putA
  rw [hi]
  unfold getA cutA
  congr 1
  rw [List.find?_filter]
  congr 1
  funext p
  by_cases e : p.1 = j
  · subst e; simp [hne]
  · simp [e]
theorem getA_cut_same (k : Nm) (m : List (Nm × α)) : getA k (cutA k m) = none := by
  unfold getA cutA
  rw [Option.map_eq_none_iff, List.find?_eq_none]
  intro p hp
  have := (List.mem_filter.1 hp).2
  simpa using this
theorem getA_cut_other {k j : Nm} (hne : j ≠ k) (m : List (Nm × α)) : getA j (cutA k m) = getA j m := by
  unfold getA cutA
  congr 1
  rw [List.find?_filter]
  congr 1
  funext p
  by_cases e : p.1 = j
  · subst e; simp [hne]
  · simp [e]
/-- Putting at a name that is there lays the file in its place. -/
theorem put_at {k : Nm} {v v' : α} {a b : List (Nm × α)} (h : Srt (a ++ (k, v) :: b)) : putA k v' (a ++ (k, v) :: b) = a ++ (k, v') :: b := by
  have ha : ∀ p ∈ a, bytesBefore p.1 k = true := fun p hp => (List.pairwise_append.1 h).2.2 p hp (k, v) (by simp)
  have hb : ∀ p ∈ b, bytesBefore k p.1 = true := fun p hp => (List.pairwise_cons.1 (List.pairwise_append.1 h).2.1).1 p hp
  have hc : cutA k (a ++ (k, v) :: b) = a ++ b := by
    unfold cutA
    rw [List.filter_append, List.filter_cons]
    simp only [beq_self_eq_true, Bool.not_true, Bool.false_eq_true, if_false]
    rw [List.filter_eq_self.2 (fun p hp => by simpa using bb_ne (ha p hp)), List.filter_eq_self.2 (fun p hp => by simpa using (bb_ne (hb p hp)).symm)]
  unfold putA
  rw [hc]
  clear hc h
  induction a with
  | nil =>
    cases b with
    | nil => rfl
    | cons y r => simp [ins, hb y (by simp)]
  | cons y r ih =>
    have : bytesBefore k y.1 = false := bb_asymm (ha y (by simp))
    simp only [List.cons_append, ins, this, Bool.false_eq_true, if_false]
    rw [ih (fun p hp => ha p (by simp [hp]))]
theorem cut_at {k : Nm} {v : α} {a b : List (Nm × α)} (h : Srt (a ++ (k, v) :: b)) : cutA k (a ++ (k, v) :: b) = a ++ b := by
  have ha : ∀ p ∈ a, bytesBefore p.1 k = true := fun p hp => (List.pairwise_append.1 h).2.2 p hp (k, v) (by simp)
  have hb : ∀ p ∈ b, bytesBefore k p.1 = true := fun p hp => (List.pairwise_cons.1 (List.pairwise_append.1 h).2.1).1 p hp
  unfold cutA
  rw [List.filter_append, List.filter_cons]
  simp only [beq_self_eq_true, Bool.not_true, Bool.false_eq_true, if_false]
  rw [List.filter_eq_self.2 (fun p hp => by simpa using bb_ne (ha p hp)), List.filter_eq_self.2 (fun p hp => by simpa using (bb_ne (hb p hp)).symm)]
theorem get_split {k : Nm} {v : α} {m : List (Nm × α)} (h : getA k m = some v) : ∃ a b, m = a ++ (k, v) :: b := List.append_of_mem (getA_mem h)
theorem get_none_of_put {k : Nm} {m : List (Nm × α)} (h : getA k m = none) : ∀ p ∈ m, p.1 ≠ k := by
  unfold getA at h
  rw [Option.map_eq_none_iff, List.find?_eq_none] at h
  intro p hp
  have := h p hp
  simpa using this
end

/-! ### what the calls do -/
abbrev Fls := List (Nm × Fl)
def used (fs : Fls) : Nat := (fs.map fun p => p.2.1.length).sum
theorem used_ins (x : Nm × Fl) (fs : Fls) : used (ins x fs) = x.2.1.length + used fs := by
  unfold used
  rw [((ins_perm x fs).map _).sum_nat]
  simp
theorem used_split (a b : Fls) (x : Nm × Fl) : used (a ++ x :: b) = used a + x.2.1.length + used b := by
  unfold used
  simp
  omega
theorem used_app (a b : Fls) : used (a ++ b) = used a + used b := by
  unfold used
  simp
theorem used_cut {fs : Fls} (h : Srt fs) (k : Nm) : used (cutA k fs) + ((getA k fs).getD ([], 0)).1.length = used fs := by
  cases hg : getA k fs with
  | none => rw [cut_none hg]; rfl
  | some v =>
    obtain ⟨a, b, rfl⟩ := get_split hg
    rw [cut_at h, used_split, used_app]
    simp only [Option.getD_some]
    omega
theorem used_put {fs : Fls} (h : Srt fs) (k : Nm) (f : Fl) : used (putA k f fs) + ((getA k fs).getD ([], 0)).1.length = used fs + f.1.length := by
  unfold putA
  rw [used_ins]
  have := used_cut h k
  simp only
  omega
theorem used_get {fs : Fls} (h : Srt fs) (k : Nm) : ((getA k fs).getD ([], 0)).1.length ≤ used fs := by
  have := used_cut h k
  omega
/-- Each file has a right name, and no more safe bytes than bytes. -/
def Good (fs : Fls) : Prop := Srt fs ∧ ∀ p ∈ fs, okN p.1 = true ∧ p.2.2 ≤ p.2.1.length
theorem Good.put {fs : Fls} (h : Good fs) {k : Nm} {f : Fl} (hk : okN k = true) (hf : f.2 ≤ f.1.length) : Good (putA k f fs) :=
  ⟨srt_put h.1, fun p hp => by
    rcases mem_put hp with rfl | ⟨hp, -⟩
    · exact ⟨hk, hf⟩
    · exact h.2 p hp⟩
theorem Good.cut {fs : Fls} (h : Good fs) (k : Nm) : Good (cutA k fs) := ⟨srt_cut h.1, fun p hp => h.2 p (mem_cut hp).1⟩
theorem Good.get {fs : Fls} (h : Good fs) {k : Nm} {f : Fl} (hg : getA k fs = some f) : okN k = true ∧ f.2 ≤ f.1.length := h.2 _ (getA_mem hg)
theorem Good.getD {fs : Fls} (h : Good fs) (k : Nm) : ((getA k fs).getD ([], 0)).2 ≤ ((getA k fs).getD ([], 0)).1.length := by
  cases hg : getA k fs with
  | none => exact Nat.le_refl _
  | some f => exact (h.get hg).2
def okA (cap : Nat) (name : Nm) (b : List UInt8) (fs : Fls) : Int := if okN name = false then 30 else if cap < used fs + b.length then 32 else 0
def appS (name : Nm) (b : List UInt8) (fs : Fls) : Fls := putA name (((getA name fs).getD ([], 0)).1 ++ b, ((getA name fs).getD ([], 0)).2) fs
def okL (names : List Nm) : Int := if names.all okN = true then 0 else 30
def allS (names : List Nm) (fs : Fls) : Int := if names.all okN = false then 30 else if names.all (fun k => hasA k fs) = false then 31 else 0
def sync1 (fs : Fls) (k : Nm) : Fls := putA k (((getA k fs).getD ([], 0)).1, ((getA k fs).getD ([], 0)).1.length) fs
def syncS (names : List Nm) (fs : Fls) : Fls := names.foldl sync1 fs
def rem1 (fs : Fls) (k : Nm) : Fls := cutA k fs
def remS (names : List Nm) (fs : Fls) : Fls := names.foldl rem1 fs
def renE (a b : Nm) (fs : Fls) : Int := if okN b = false then 30 else allS [a] fs
def renS (a b : Nm) (fs : Fls) : Fls := if a = b then fs else cutA a (putA b ((getA a fs).getD ([], 0)) fs)
def keptN (f : Fl) (cut : Int) : Nat := f.2 + min (max cut 0).toNat (f.1.length - f.2)
def crash1 (f : Fl) (cut : Int) : Fl := (f.1.take (keptN f cut), keptN f cut)
def crashS : List Int → Fls → Fls
  | _, [] => []
  | cuts, (k, f) :: r => if f.2 = f.1.length then (k, f) :: crashS cuts r else (k, crash1 f (cuts.headD 0)) :: crashS cuts.tail r
theorem Good.sync1 {fs : Fls} (h : Good fs) {k : Nm} (hk : okN k = true) : Good (sync1 fs k) := h.put hk (Nat.le_refl _)
theorem used_sync1 {fs : Fls} (h : Srt fs) (k : Nm) : used (sync1 fs k) = used fs := by
  have := used_put h k (((getA k fs).getD ([], 0)).1, ((getA k fs).getD ([], 0)).1.length)
  unfold sync1
  simp only at this
  omega
theorem crashS_names (cuts : List Int) (fs : Fls) : namesA (crashS cuts fs) = namesA fs := by
  induction fs generalizing cuts with
  | nil => cases cuts <;> rfl
  | cons p r ih =>
    obtain ⟨k, f⟩ := p
    simp only [crashS]
    split
    · simp only [namesA, List.map_cons]; rw [← namesA, ih]; rfl
    · simp only [namesA, List.map_cons]; rw [← namesA, ih]; rfl
theorem srt_of_names {α β : Type} {m : List (Nm × α)} {m' : List (Nm × β)} (h : namesA m = namesA m') (hs : Srt m) : Srt m' := by
  have e : ∀ {γ : Type} (l : List (Nm × γ)), Srt l ↔ (namesA l).Pairwise fun a b => bytesBefore a b = true := by
    intro γ l
    unfold Srt namesA
    rw [List.pairwise_map]
  rw [e] at hs ⊢
  rw [← h]; exact hs
end Go.Proofs.YtngbgngfdklnlaaGreatDoor
set_option linter.unusedSimpArgs false
set_option linter.unusedVariables false
namespace Go.Proofs.YtngbgngfdklnlaaGreatDoor
/-- The lowest k decimal digits of n. -/
def dk : Nat → Nat → List UInt8
  | 0, _ => []
  | k + 1, n => dk k (n / 10) ++ [UInt8.ofNat (48 + n % 10)]
theorem dk_len (k n : Nat) : (dk k n).length = k := by
  induction k generalizing n with
  | zero => rfl
  | succ k ih => simp [dk, ih]
theorem dk_zero (k : Nat) : dk k 0 = List.replicate k 48 := by
  induction k with
  | zero => rfl
  | succ k ih =>
    rw [List.replicate_succ', dk, Nat.zero_div, ih]
    rfl
theorem dk_cons (k n : Nat) : dk (k + 1) n = UInt8.ofNat (48 + n / 10 ^ k % 10) :: dk k n := by
  induction k generalizing n with
  | zero => simp [dk]
  | succ k ih =>
    rw [dk, ih (n / 10), List.cons_append]
    congr 1
    rw [Nat.div_div_eq_div_mul, Nat.pow_succ, Nat.mul_comm 10]
theorem pad_dk (k n : Nat) (hk : 1 ≤ k) (h : n < 10 ^ k) : (Lib.decDigits n).length ≤ k ∧ List.replicate (k - (Lib.decDigits n).length) 48 ++ Lib.decDigits n = dk k n := by
  induction k generalizing n with
  | zero => omega
  | succ k ih =>
    by_cases hs : n < 10
    · rw [Lib.decDigits_one hs]
      refine ⟨by simp, ?_⟩
      rw [dk, show n / 10 = 0 by omega, dk_zero, show n % 10 = n by omega]
      simp
    · have hk1 : 1 ≤ k := by
        rcases Nat.eq_zero_or_pos k with rfl | h'
        · simp at h; omega
        · exact h'
      rw [Nat.pow_succ] at h
      obtain ⟨a, b⟩ := ih (n / 10) hk1 (by omega)
      rw [Lib.decDigits, dif_neg hs]
      refine ⟨by simp; omega, ?_⟩
      rw [dk, ← b, List.length_append, List.length_singleton, show k + 1 - ((Lib.decDigits (n / 10)).length + 1) = k - (Lib.decDigits (n / 10)).length by omega, List.append_assoc]
theorem digit_lt {a b : Nat} (ha : a < 10) (hb : b < 10) : UInt8.ofNat (48 + a) < UInt8.ofNat (48 + b) ↔ a < b := by
  rw [UInt8.lt_iff_toNat_lt, UInt8.toNat_ofNat', UInt8.toNat_ofNat']
  omega
theorem digit_inj {a b : Nat} (ha : a < 10) (hb : b < 10) (h : UInt8.ofNat (48 + a) = UInt8.ofNat (48 + b)) : a = b := by
  have := congrArg UInt8.toNat h
  rw [UInt8.toNat_ofNat', UInt8.toNat_ofNat'] at this
  omega
theorem dk_mod (k n : Nat) : dk k (n % 10 ^ k) = dk k n := by
  induction k generalizing n with
  | zero => rfl
  | succ k ih =>
    rw [dk, dk, ← ih (n / 10), ← ih (n % 10 ^ (k + 1) / 10)]
    have e1 : n % 10 ^ (k + 1) / 10 % 10 ^ k = n / 10 % 10 ^ k := by
      rw [Nat.pow_succ, Nat.mul_comm, Nat.mod_mul_right_div_self, Nat.mod_mod]
    have e2 : n % 10 ^ (k + 1) % 10 = n % 10 := by
      rw [Nat.pow_succ, Nat.mul_comm, Nat.mod_mul_right_mod]
    rw [e1, e2]
theorem dk_bb (k : Nat) : ∀ a b : Nat, a < b → b < 10 ^ k → bytesBefore (dk k a) (dk k b) = true := by
  induction k with
  | zero => intro a b h hb; simp at hb; omega
  | succ k ih =>
    intro a b h hb
    have hp : 0 < 10 ^ k := Nat.pow_pos (by decide)
    have qb : b / 10 ^ k < 10 := by rw [Nat.div_lt_iff_lt_mul hp, Nat.mul_comm, ← Nat.pow_succ]; exact hb
    have qa : a / 10 ^ k < 10 := by rw [Nat.div_lt_iff_lt_mul hp, Nat.mul_comm, ← Nat.pow_succ]; omega
    have ea := Nat.div_add_mod a (10 ^ k)
    have eb := Nat.div_add_mod b (10 ^ k)
    have ra := Nat.mod_lt a hp
    have rb := Nat.mod_lt b hp
    have i := ih (a % 10 ^ k) (b % 10 ^ k)
    rw [dk_mod, dk_mod] at i
    rw [dk_cons, dk_cons, Nat.mod_eq_of_lt qa, Nat.mod_eq_of_lt qb]
    simp only [bytesBefore, Bool.or_eq_true, decide_eq_true_eq, Bool.and_eq_true, beq_iff_eq, digit_lt qa qb]
    generalize a / 10 ^ k = x at *
    generalize b / 10 ^ k = y at *
    generalize a % 10 ^ k = u at *
    generalize b % 10 ^ k = v at *
    generalize 10 ^ k = p at *
    rcases Nat.lt_trichotomy x y with hx | hx | hx
    · exact .inl hx
    · subst hx; exact .inr ⟨rfl, i (by omega) rb⟩
    · have : p * (y + 1) ≤ p * x := Nat.mul_le_mul_left p hx
      rw [Nat.mul_add] at this
      omega
/-- The digits spell the number. -/
theorem decFrom_append (l m : List UInt8) : ∀ acc n, Lib.decFrom acc l = some n → Lib.decFrom acc (l ++ m) = Lib.decFrom n m := by
  induction l with
  | nil => intro acc n h; simp [Lib.decFrom] at h; subst h; rfl
  | cons b r ih =>
    intro acc n h
    simp only [List.cons_append, Lib.decFrom] at h ⊢
    cases hd : Lib.digitVal b with
    | none => rw [hd] at h; cases h
    | some d => rw [hd] at h; exact ih _ _ h
theorem digitVal_of (n : Nat) (h : n < 10) : Lib.digitVal (UInt8.ofNat (48 + n)) = some n := by
  unfold Lib.digitVal
  rw [UInt8.toNat_ofNat', Nat.mod_eq_of_lt (by omega : 48 + n < 2 ^ 8), if_pos (by omega)]
  congr 1
  omega
theorem decFrom_dk (k : Nat) : ∀ n, n < 10 ^ k → Lib.decFrom 0 (dk k n) = some n := by
  induction k with
  | zero => intro n h; simp at h; subst h; rfl
  | succ k ih =>
    intro n h
    rw [Nat.pow_succ] at h
    rw [dk, decFrom_append _ _ 0 (n / 10) (ih _ (by omega))]
    simp only [Lib.decFrom, digitVal_of (n % 10) (by omega)]
    congr 1
    omega

/-- The log's name. -/
def lg : Nm := [108, 111, 103]
def dot : Nm := [46]
/-- The file of a segment. -/
def fileN (n : Nat) : Nm := lg ++ (dot ++ dk 6 n)
def cutN : Nm := lg ++ [46, 99, 117, 116]
theorem fileN_len (n : Nat) : (fileN n).length = 10 := by simp [fileN, lg, dot, dk_len]
theorem fileN_cons (n : Nat) : fileN n = 108 :: 111 :: 103 :: 46 :: dk 6 n := rfl
theorem file_bb {a b : Nat} (h : a < b) (hb : b < 1000000) : bytesBefore (fileN a) (fileN b) = true := by
  rw [fileN_cons, fileN_cons]
  simp only [bytesBefore, beq_self_eq_true, Bool.true_and, Bool.or_eq_true, decide_eq_true_eq]
  exact .inr (.inr (.inr (.inr (dk_bb 6 a b h hb))))
theorem file_inj {a b : Nat} (ha : a < 1000000) (hb : b < 1000000) (h : fileN a = fileN b) : a = b := by
  rcases Nat.lt_trichotomy a b with hx | hx | hx
  · exact absurd h (bb_ne (file_bb hx hb))
  · exact hx
  · exact absurd h.symm (bb_ne (file_bb hx ha))
theorem dk_ok (k : Nat) : ∀ n, (dk k n).all okC = true := by
  induction k with
  | zero => intro n; rfl
  | succ k ih =>
    intro n
    rw [dk, List.all_append, ih, Bool.true_and]
    simp only [List.all_cons, List.all_nil, Bool.and_true, okC, UInt8.toNat_ofNat', Bool.or_eq_true, Bool.and_eq_true, decide_eq_true_eq]
    omega
theorem okN_file (n : Nat) : okN (fileN n) = true := by
  unfold okN
  rw [fileN_len, fileN_cons]
  simp only [List.all_cons, dk_ok, Bool.and_true]
  decide
theorem okN_cut : okN cutN = true := by decide
theorem file_ne_cut (n : Nat) : fileN n ≠ cutN := by
  intro h
  have := congrArg List.length h
  rw [fileN_len] at this
  simp [cutN, lg] at this
theorem file_ne_lg (n : Nat) : fileN n ≠ lg := by
  intro h
  have := congrArg List.length h
  rw [fileN_len] at this
  simp [lg] at this
theorem million (n : Nat) (h : n < 1000000) : Lib.decDigits (1000000 + n) = 49 :: dk 6 n := by
  obtain ⟨h1, h2⟩ := pad_dk 7 (1000000 + n) (by omega) (by omega)
  have h3 : ¬ (Lib.decDigits (1000000 + n)).length < 7 := by
    intro hc
    have e := congrArg List.head? h2
    rw [dk_cons, show 10 ^ 6 = 1000000 from rfl, show (1000000 + n) / 1000000 % 10 = 1 by omega] at e
    rw [show 7 - (Lib.decDigits (1000000 + n)).length = (6 - (Lib.decDigits (1000000 + n)).length) + 1 by omega, List.replicate_succ] at e
    simp at e
  rw [show 7 - (Lib.decDigits (1000000 + n)).length = 0 by omega, List.replicate_zero, List.nil_append] at h2
  rw [h2, dk_cons, show 10 ^ 6 = 1000000 from rfl, show (1000000 + n) / 1000000 % 10 = 1 by omega, ← dk_mod 6 (1000000 + n), show 10 ^ 6 = 1000000 from rfl, show (1000000 + n) % 1000000 = n by omega]
  rfl
theorem dk6_cons (n : Nat) : dk 6 n = UInt8.ofNat (48 + n / 100000 % 10) :: dk 5 n := dk_cons 5 n
theorem atoi_dk (n : Nat) (h : n < 1000000) : Lib.atoi (dk 6 n) = some (n : Int) := by
  have e := decFrom_dk 6 n h
  rw [dk6_cons] at e ⊢
  have hb : (UInt8.ofNat (48 + n / 100000 % 10)).toNat = 48 + n / 100000 % 10 := by rw [UInt8.toNat_ofNat']; omega
  have h1 : (UInt8.ofNat (48 + n / 100000 % 10) == 45) = false := by
    rw [beq_eq_false_iff_ne]; intro hc; rw [hc] at hb; simp at hb; omega
  have h2 : (UInt8.ofNat (48 + n / 100000 % 10) == 43) = false := by
    rw [beq_eq_false_iff_ne]; intro hc; rw [hc] at hb; simp at hb; omega
  unfold Lib.atoi
  simp only [h1, h2, Bool.false_eq_true, if_false]
  unfold Lib.decNat
  simp only [List.isEmpty_cons, Bool.false_eq_true, if_false, e, Option.map_some]
theorem trim_file (n : Nat) : Lib.trimPrefix (fileN n) (lg ++ dot) = dk 6 n := by
  unfold Lib.trimPrefix Lib.hasPrefix
  rw [fileN_cons, if_pos (by simp [lg, dot, List.isPrefixOf])]
  rfl
end Go.Proofs.YtngbgngfdklnlaaGreatDoor
