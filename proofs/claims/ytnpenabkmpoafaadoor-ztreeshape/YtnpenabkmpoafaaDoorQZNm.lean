/- ZtreeNames as plain data. -/
import Derived.Test.YtnpenabkmpoafaaDoorQZKt
import Derived.Test.YtnpenabkmpoafaaDoorQPLawSuf
set_option linter.unusedSimpArgs false
set_option linter.unusedVariables false
namespace Go.Proofs.YtnpenabkmpoafaaDoor
def baseN (l : Pth) : Pth := [47, 113, 47] ++ l
theorem okB_digit (n : Nat) : okB (UInt8.ofNat (48 + n % 10)) = true := by
  have h : n % 10 < 10 := Nat.mod_lt _ (by decide)
  generalize n % 10 = m at *
  match m, h with
  | 0, _ => decide
  | 1, _ => decide
  | 2, _ => decide
  | 3, _ => decide
  | 4, _ => decide
  | 5, _ => decide
  | 6, _ => decide
  | 7, _ => decide
  | 8, _ => decide
  | 9, _ => decide
theorem dk_okB : ∀ (k n : Nat), (dk k n).all okB = true
  | 0, _ => rfl
  | k + 1, n => by
    unfold dk
    rw [List.all_append, dk_okB k, Bool.true_and, List.all_cons, okB_digit]
    rfl
theorem isName_dk {l : Pth} (h : isName l = true) (hl : l.length ≤ 22) (n : Nat) : isName (l ++ dk 10 n) = true := by
  have hlen := dk_len 10 n
  have h1 : l.all okB = true ∧ 1 ≤ l.length := by
    simp only [isName, Bool.and_eq_true, decide_eq_true_eq] at h
    exact ⟨h.2, h.1.1.1.1⟩
  have h2 : (l ++ dk 10 n).length = l.length + 10 := by rw [List.length_append, hlen]
  have n1 : l ++ dk 10 n ≠ [46] := fun e => by rw [e] at h2; simp at h2
  have n2 : l ++ dk 10 n ≠ [46, 46] := fun e => by rw [e] at h2; simp at h2
  simp only [isName, Bool.and_eq_true, decide_eq_true_eq, h2, List.all_append, h1.1, dk_okB, bne_iff_ne, ne_eq, n1, n2, not_false_eq_true, and_true]
  omega
theorem base_mk (l : Pth) : baseN l = mk [[113], l] := by
  unfold baseN mk flat
  simp
theorem base_ok {l : Pth} (h : isName l = true) (hl : l.length ≤ 32) : okNames [[113], l] = true := by
  refine okNames_mk (fun x hx => ?_) (by simp) ?_
  · simp only [List.mem_cons, List.not_mem_nil, or_false] at hx
    rcases hx with rfl | rfl
    · decide
    · exact h
  · simp [flat]
    omega
theorem base_names {l : Pth} (h : isName l = true) (hl : l.length ≤ 32) : names (baseN l) = some [[113], l] := by rw [base_mk, names_mk_ok (base_ok h hl)]
theorem base_parent {l : Pth} (h : isName l = true) (hl : l.length ≤ 32) : parentOf (baseN l) = some [47, 113] := by
  unfold parentOf
  rw [base_names h hl]
  rfl
theorem base_app (l m : Pth) : baseN l ++ m = baseN (l ++ m) := by unfold baseN; rw [List.append_assoc]
theorem base_suf {l : Pth} (h : isName l = true) (hl : l.length ≤ 22) {i : Nat} (hi : i ≤ 9999999999) : sufOf (baseN l) (i : Int) = some (baseN l ++ dk 10 i) := by
  unfold sufOf
  rw [base_names h (by omega)]
  simp only
  have hn : names (baseN l ++ dk 10 i) = some [[113], l ++ dk 10 i] := by
    rw [base_app]
    exact base_names (isName_dk h hl i) (by rw [List.length_append, dk_len]; omega)
  rw [if_neg (by simp; omega), Int.toNat_natCast, hn]
  rfl
/-- The tree behind i rounds. -/
structure InvN (l : Pth) (i : Nat) (t : ZT) : Prop where
  srt : SrtZ t
  q : ∃ n, getZ [47, 113] t = some n ∧ n.own = 0 ∧ n.ctr = i
  only : ∀ x ∈ t, x.1 = [47] ∨ x.1 = [47, 113] ∨ ∃ j, j < i ∧ x.1 = baseN l ++ dk 10 j
theorem getZ_onZ {k j : Pth} {f : ZN → ZN} : ∀ (t : ZT), getZ j (onZ k f t) = (getZ j t).map fun n => if j = k then f n else n
  | [] => rfl
  | x :: r => by
    have ih := getZ_onZ (k := k) (j := j) (f := f) r
    unfold getZ onZ at *
    rw [List.map_cons, List.find?_cons, List.find?_cons]
    by_cases e : x.1 = k
    · rw [if_pos e]
      simp only
      by_cases e2 : x.1 = j
      · have e3 : j = k := by rw [← e2, e]
        simp [e2, e3]
      · have : (x.1 == j) = false := by simpa using e2
        rw [this]
        exact ih
    · rw [if_neg e]
      by_cases e2 : x.1 = j
      · have e3 : ¬ j = k := by rw [← e2]; exact e
        simp [e2, e3]
      · have : (x.1 == j) = false := by simpa using e2
        rw [this]
        exact ih
theorem names_onZ (k : Pth) (f : ZN → ZN) (t : ZT) : namesZ (onZ k f t) = namesZ t := by
  unfold namesZ onZ
  rw [List.map_map]
  refine List.map_congr_left fun x _ => ?_
  simp only [Function.comp]
  by_cases h : x.1 = k
  · rw [if_pos h]
  · rw [if_neg h]
theorem mem_onZ {k : Pth} {f : ZN → ZN} {t : ZT} {x : Pth × ZN} (h : x ∈ onZ k f t) : ∃ y ∈ t, y.1 = x.1 := by
  obtain ⟨y, hy, rfl⟩ := List.mem_map.1 h
  refine ⟨y, hy, ?_⟩
  by_cases e : y.1 = k
  · rw [if_pos e]
  · rw [if_neg e]
theorem base_ne {l : Pth} {i : Nat} : baseN l ++ dk 10 i ≠ [47, 113] ∧ baseN l ++ dk 10 i ≠ [47] := by
  have h : (baseN l ++ dk 10 i).length = 13 + l.length := by
    rw [List.length_append, dk_len]
    unfold baseN
    simp
    omega
  exact ⟨fun e => by rw [e] at h; simp at h; omega, fun e => by rw [e] at h; simp at h; omega⟩
theorem InvN.new {l : Pth} {i : Nat} {t : ZT} (h : InvN l i t) (hi : i ≤ 9999999999) : getZ (baseN l ++ dk 10 i) t = none := by
  cases hg : getZ (baseN l ++ dk 10 i) t with
  | none => rfl
  | some n =>
    exfalso
    rcases h.only _ (getZ_mem hg) with e | e | ⟨j, hj, e⟩
    · exact base_ne.2 e
    · exact base_ne.1 e
    · have e2 := List.append_cancel_left e
      have := dk_inj 10 i j (by omega) (by omega) e2
      omega
theorem InvN.place {l : Pth} {i : Nat} {n : ZN} (hn : isName l = true) (hl : l.length ≤ 22) (hi : i ≤ 9999999999) (ho : n.own = 0) (hc : n.ctr = i) : placeQ n (baseN l) true = (0, baseN l ++ dk 10 i) := by
  unfold placeQ
  rw [if_neg (by simp [ho]), if_neg (by omega), hc]
  simp only [if_true]
  rw [base_suf hn hl hi]
theorem InvN.createQ {l : Pth} {i : Nat} {t : ZT} (h : InvN l i t) (hn : isName l = true) (hl : l.length ≤ 22) (hi : i ≤ 9999999999) : createQ t (baseN l) 0 0 true = (0, baseN l ++ dk 10 i) := by
  obtain ⟨n, hg, ho, hc⟩ := h.q
  unfold Go.Proofs.YtnpenabkmpoafaaDoor.createQ
  rw [base_parent hn (by omega)]
  simp only
  rw [if_neg (by omega), if_neg (by omega), hg]
  simp only
  rw [InvN.place hn hl hi ho hc]
  have hh : hasZ (baseN l ++ dk 10 i) t = false := by rw [hasZ_get, h.new hi]; rfl
  simp [hh]
theorem InvN.create {l : Pth} {i : Nat} {t : ZT} (h : InvN l i t) (hn : isName l = true) (hl : l.length ≤ 22) (hi : i ≤ 9999999999) :
    createE t (baseN l) 0 0 true = 0 ∧ createP t (baseN l) 0 0 true = baseN l ++ dk 10 i ∧ InvN l (i + 1) (createS t (baseN l) [] 0 true) ∧ getZ (baseN l ++ dk 10 i) (createS t (baseN l) [] 0 true) = some ⟨[], 0, 0, 0, 0⟩ := by
  have hq := h.createQ hn hl hi
  have he : createE t (baseN l) 0 0 true = 0 := by unfold createE; rw [hq]
  have hp : createP t (baseN l) 0 0 true = baseN l ++ dk 10 i := by unfold createP; rw [hq]
  obtain ⟨n, hg, ho, hc⟩ := h.q
  have hS : createS t (baseN l) [] 0 true = onZ [47, 113] (fun n => { n with ctr := n.ctr + 1, kids := n.kids + 1 }) (putZ (baseN l ++ dk 10 i) ⟨[], 0, 0, 0, 0⟩ t) := by
    unfold createS
    rw [if_pos (show createE t (baseN l) ([] : List UInt8).length 0 true = 0 from he), show createP t (baseN l) ([] : List UInt8).length 0 true = baseN l ++ dk 10 i from hp, base_parent hn (by omega)]
    rfl
  refine ⟨he, hp, ?_, ?_⟩
  · rw [hS]
    refine ⟨srt_namesZ (names_onZ _ _ _).symm (srt_putZ h.srt), ⟨{ n with ctr := n.ctr + 1, kids := n.kids + 1 }, ?_, ho, by show n.ctr + 1 = i + 1; omega⟩, fun x hx => ?_⟩
    · rw [getZ_onZ, getZ_put_other (Ne.symm base_ne.1), hg]
      simp
    · obtain ⟨y, hy, e⟩ := mem_onZ hx
      rw [← e]
      rcases mem_putZ hy with rfl | ⟨hy, -⟩
      · exact .inr (.inr ⟨i, by omega, rfl⟩)
      · rcases h.only y hy with e | e | ⟨j, hj, e⟩
        · exact .inl e
        · exact .inr (.inl e)
        · exact .inr (.inr ⟨j, by omega, e⟩)
  · rw [hS, getZ_onZ, getZ_put_same _ _ _ h.srt]
    have := (base_ne (l := l) (i := i)).1
    simp [this]
theorem InvN.delete {l : Pth} {i : Nat} {t : ZT} (h : InvN l (i + 1) t) (hn : isName l = true) (hl : l.length ≤ 22) (hi : i ≤ 9999999999) (hg : getZ (baseN l ++ dk 10 i) t = some ⟨[], 0, 0, 0, 0⟩) :
    deleteE t (baseN l ++ dk 10 i) 0 = 0 ∧ InvN l (i + 1) (deleteS t (baseN l ++ dk 10 i) 0) := by
  obtain ⟨n, hq, ho, hc⟩ := h.q
  have hpar : parentOf (baseN l ++ dk 10 i) = some [47, 113] := by
    rw [base_app]
    exact base_parent (isName_dk hn hl i) (by rw [List.length_append, dk_len]; omega)
  have he : deleteE t (baseN l ++ dk 10 i) 0 = 0 := by
    unfold deleteE
    rw [hpar]
    simp only
    rw [hq, hg]
    simp [verOK]
  refine ⟨he, ?_⟩
  unfold deleteS
  rw [if_pos he, hpar]
  refine ⟨srt_namesZ (names_onZ _ _ _).symm (srt_cutZ h.srt), ⟨{ n with kids := n.kids - 1 }, ?_, ho, hc⟩, fun x hx => ?_⟩
  · show getZ [47, 113] (onZ [47, 113] _ _) = _
    rw [getZ_onZ, getZ_cut_other (Ne.symm base_ne.1), hq]
    simp
  · obtain ⟨y, hy, e⟩ := mem_onZ hx
    rw [← e]
    exact h.only y (mem_cutZ hy).1
theorem InvN.start (l : Pth) : createE newT [47, 113] 0 0 false = 0 ∧ InvN l 0 (createS newT [47, 113] [] 0 false) := by
  refine ⟨by decide +kernel, ?_⟩
  have e : createS newT [47, 113] [] 0 false = [([47], ⟨[], 0, 1, 0, 1⟩), ([47, 113], ⟨[], 0, 0, 0, 0⟩)] := by rfl
  rw [e]
  refine ⟨?_, ⟨⟨[], 0, 0, 0, 0⟩, rfl, rfl, rfl⟩, fun x hx => ?_⟩
  · refine List.pairwise_cons.2 ⟨fun y hy => ?_, List.pairwise_singleton _ _⟩
    obtain rfl := List.mem_singleton.1 hy
    decide
  · simp only [List.mem_cons, List.not_mem_nil, or_false] at hx
    rcases hx with rfl | rfl
    · exact .inl rfl
    · exact .inr (.inl rfl)
end Go.Proofs.YtnpenabkmpoafaaDoor
