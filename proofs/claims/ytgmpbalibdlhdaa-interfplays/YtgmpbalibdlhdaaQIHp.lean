/- The homes that are known, as plain data: names that rise; the order of what is added makes no difference. -/
import Derived.Test.YtgmpbalibdlhdaaQIBd
import Derived.Test.YtgmpbalibdlhdaaGPStrs2
import Derived.Sort.KeysCollected
import Derived.Sort.OwnSorted
import Derived.Deep.MidRow
set_option linter.unusedSimpArgs false
set_option linter.unusedVariables false
namespace Go.Proofs.Ytgmpbalibdlhdaa
open Go.RowKit Go.Sort
theorem bbT_lt {a b : Pth} (h : bytesBefore a b = true) : a < b := by
  induction a generalizing b with
  | nil =>
    cases b with
    | nil => simp [bytesBefore] at h
    | cons y s => exact List.nil_lt_cons _ _
  | cons x r ih =>
    cases b with
    | nil => simp [bytesBefore] at h
    | cons y s =>
      simp only [bytesBefore, Bool.or_eq_true, decide_eq_true_eq, Bool.and_eq_true, beq_iff_eq] at h
      rw [List.cons_lt_cons_iff]
      rcases h with h | ⟨h1, h2⟩
      · exact .inl h
      · exact .inr ⟨h1, ih h2⟩
theorem strKeys_toDT (st : TSt) : strKeys (toDT st) = namesZ st := by
  unfold strKeys toDT namesZ
  simp only [List.map_map]
  rfl
theorem sort_namesT {st : TSt} (hs : SrtZ st) {ss : List Pth} (hp : ss.Perm (strKeys (toDT st))) : ss.mergeSort (fun x y => decide (x ≤ y)) = namesZ st := by
  rw [strKeys_toDT] at hp
  have h1 : (namesZ st).Pairwise fun a b => leB a b = true := by
    unfold namesZ
    rw [List.pairwise_map]
    exact hs.imp fun h => by simp only [leB, decide_eq_true_eq]; exact List.le_of_lt (bbT_lt h)
  have := mergeSort_of_perm hp
  rw [show ss.mergeSort (fun x y => decide (x ≤ y)) = ss.mergeSort leB from rfl, this]
  exact List.mergeSort_of_pairwise h1
/-- Names that rise. -/
def RiseT (l : List Pth) : Prop := l.Pairwise fun a b => bytesBefore a b = true
theorem rise_names {st : TSt} (hs : SrtZ st) : RiseT (namesZ st) := by
  unfold RiseT namesZ
  rw [List.pairwise_map]
  exact hs
theorem rise_eq {l m : List Pth} (hl : RiseT l) (hm : RiseT m) (h : ∀ x, x ∈ l ↔ x ∈ m) : l = m := by
  induction l generalizing m with
  | nil =>
    cases m with
    | nil => rfl
    | cons y s => exact absurd ((h y).2 (by simp)) (by simp)
  | cons x r ih =>
    cases m with
    | nil => exact absurd ((h x).1 (by simp)) (by simp)
    | cons y s =>
      obtain ⟨a1, a2⟩ := List.pairwise_cons.1 hl
      obtain ⟨b1, b2⟩ := List.pairwise_cons.1 hm
      have hxy : x = y := by
        rcases List.mem_cons.1 ((h x).1 (by simp)) with e | e
        · exact e
        · rcases List.mem_cons.1 ((h y).2 (by simp)) with e' | e'
          · exact e'.symm
          · have h1 := b1 x e
            have h2 := a1 y e'
            rw [bbZ_asymm h1] at h2
            cases h2
      subst hxy
      congr 1
      refine ih a2 b2 fun z => ?_
      constructor
      · intro hz
        rcases List.mem_cons.1 ((h z).1 (by simp [hz])) with e | e
        · have := a1 z hz
          rw [e, bbZ_irrefl] at this
          cases this
        · exact e
      · intro hz
        rcases List.mem_cons.1 ((h z).2 (by simp [hz])) with e | e
        · have := b1 z hz
          rw [e, bbZ_irrefl] at this
          cases this
        · exact e
theorem has_names {k : Pth} {st : TSt} : hasZ k st = true ↔ k ∈ namesZ st := by
  unfold hasZ namesZ
  rw [List.any_eq_true, List.mem_map]
  constructor
  · rintro ⟨p, hp, e⟩
    exact ⟨p, hp, by simpa using e⟩
  · rintro ⟨p, hp, e⟩
    exact ⟨p, hp, by simp [e]⟩
/-- Which homes are known. -/
theorem names_iff {w : World} {xb mb n : Nat} {st : TSt} {L : List It} (h : IxAt w xb mb n st L) (k : Pth) : k ∈ namesZ st ↔ ∃ x ∈ L, x.c.kind = 1 ∧ x.c.home = k := by
  rw [← has_names, h.keys, List.any_eq_true]
  constructor
  · rintro ⟨x, hx, e⟩
    unfold pH at e
    simp only [Bool.and_eq_true, beq_iff_eq] at e
    exact ⟨x, hx, e⟩
  · rintro ⟨x, hx, e1, e2⟩
    refine ⟨x, hx, ?_⟩
    unfold pH
    rw [e1, e2]
    simp
theorem names_same {w w' : World} {xb mb n xb' mb' n' : Nat} {st st' : TSt} {L L' : List It} (h : IxAt w xb mb n st L) (h' : IxAt w' xb' mb' n' st' L') (hL : ∀ x, x ∈ L ↔ x ∈ L') : namesZ st = namesZ st' := by
  refine rise_eq (rise_names h.srt) (rise_names h'.srt) fun k => ?_
  rw [names_iff h, names_iff h']
  constructor
  · rintro ⟨x, hx, e⟩
    exact ⟨x, (hL x).1 hx, e⟩
  · rintro ⟨x, hx, e⟩
    exact ⟨x, (hL x).2 hx, e⟩
theorem ah_same {c : Cm} {L L' : List It} (hL : ∀ x, x ∈ L ↔ x ∈ L') : ahT c L = ahT c L' := tp_ext fun x => by rw [hL x]
theorem att_same {n : Nat} {c : Cm} {L L' : List It} (hL : ∀ x, x ∈ L ↔ x ∈ L') : attS c L = attS c L' ∧ attD n c L = attD n c L' := by
  unfold attS attD seqT depT
  rw [ah_same hL]
  exact ⟨rfl, rfl⟩
theorem known_rev (n : Nat) (xs : List It) (x : It) : x ∈ known n xs ↔ x ∈ known n (xs.reverse ++ xs) := by
  rw [known_mem, known_mem, List.mem_append, List.mem_reverse]
  constructor
  · rintro ⟨a, b⟩; exact ⟨.inl a, b⟩
  · rintro ⟨a | a, b⟩ <;> exact ⟨a, b⟩
theorem encStr_cells (ls : List Pth) : ls.map encStr = strCells ls := rfl
/-- The cells of a slice of items, as one list. -/
theorem Its.cells {w : World} {v : Value} {xs : List It} (h : Its w v xs) (hl : 0 < xs.length) : ∃ b o c, v = .slice (some ⟨b, o, none⟩) xs.length c ∧ xs.length ≤ c ∧ c ≤ maxLen ∧ ∀ j u, (cellsIt xs)[j]? = some u → w.cell? ((⟨b, o, none⟩ : Addr).add j) = some u := by
  obtain ⟨A, c, rfl, h1, h2, h3⟩ := h
  obtain ⟨b, o, rfl, hc⟩ := h3 hl
  refine ⟨b, o, c, rfl, h1, h2, fun j u hu => ?_⟩
  have hj := (List.getElem?_eq_some_iff.1 hu).1
  rw [cellsIt_len] at hj
  have hk : j / 6 < xs.length := by omega
  have hr : j % 6 < 6 := by omega
  have e : j = j / 6 * 6 + j % 6 := by omega
  have ha : ((⟨b, o, none⟩ : Addr).add j) = ⟨b, o + j, none⟩ := Addr.add_mid b o j
  rw [ha]
  have e2 : (cellsIt xs)[j]? = (xs[j / 6]).cs[j % 6]? := by
    have hx : xs = xs.take (j / 6) ++ xs[j / 6] :: xs.drop (j / 6 + 1) := by rw [← List.drop_eq_getElem_cons hk, List.take_append_drop]
    have hl : (cellsIt (xs.take (j / 6))).length = j / 6 * 6 := by rw [cellsIt_len, List.length_take]; omega
    have h5 : (cellsIt xs)[j]? = (cellsIt (xs.take (j / 6) ++ xs[j / 6] :: xs.drop (j / 6 + 1)))[j]? := congrArg (fun z => (cellsIt z)[j]?) hx
    rw [h5]
    unfold cellsIt at hl ⊢
    rw [List.flatMap_append, List.flatMap_cons, List.getElem?_append_right (by omega), hl, List.getElem?_append_left (by rw [show (xs[j / 6]).cs.length = 6 from rfl]; omega)]
    congr 1
    omega
  rw [e2] at hu
  obtain ⟨q0, q1, q2, q3, q4, q5⟩ := hc (j / 6) xs[j / 6] (by simp [hk])
  generalize xs[j / 6] = x at *
  generalize j / 6 = k at *
  generalize j % 6 = r at *
  subst e
  rw [← Nat.add_assoc]
  have : r = 0 ∨ r = 1 ∨ r = 2 ∨ r = 3 ∨ r = 4 ∨ r = 5 := by omega
  unfold It.cs at hu
  rcases this with rfl | rfl | rfl | rfl | rfl | rfl
  · rw [← (Option.some.inj hu : _ = u)]; exact q0
  · rw [← (Option.some.inj hu : _ = u)]; exact q1
  · rw [← (Option.some.inj hu : _ = u)]; exact q2
  · rw [← (Option.some.inj hu : _ = u)]; exact q3
  · rw [← (Option.some.inj hu : _ = u)]; exact q4
  · rw [← (Option.some.inj hu : _ = u)]; exact q5
end Go.Proofs.Ytgmpbalibdlhdaa
