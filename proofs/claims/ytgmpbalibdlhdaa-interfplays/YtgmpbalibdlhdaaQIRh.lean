/- The document's Homes: what it tells, as plain data; its walk. -/
import Derived.Test.YtgmpbalibdlhdaaQITx
import Derived.Test.YtgmpbalibdlhdaaQIRa
set_option linter.unusedSimpArgs false
set_option linter.unusedVariables false
namespace Go.Proofs.Ytgmpbalibdlhdaa
open Go.RowKit
/-- A home is put where it belongs, unless it is there. -/
def insT (h : Pth) : List Pth → List Pth
  | [] => [h]
  | o :: r => if o = h then o :: r else if bytesBefore h o then h :: o :: r else o :: insT h r
theorem insT_mem {h x : Pth} {l : List Pth} : x ∈ insT h l ↔ x = h ∨ x ∈ l := by
  induction l with
  | nil => simp [insT]
  | cons o r ih =>
    unfold insT
    split
    · rename_i e
      subst e
      simp only [List.mem_cons]
      constructor
      · intro hx; exact .inr hx
      · rintro (e | e)
        · exact .inl e
        · exact e
    · split
      · simp only [List.mem_cons]
      · simp only [List.mem_cons, ih]
        constructor
        · rintro (e | e | e)
          · exact .inr (.inl e)
          · exact .inl e
          · exact .inr (.inr e)
        · rintro (e | e | e)
          · exact .inr (.inl e)
          · exact .inl e
          · exact .inr (.inr e)
theorem insT_rise {h : Pth} {l : List Pth} (hl : RiseT l) : RiseT (insT h l) := by
  induction l with
  | nil => simp [insT, RiseT]
  | cons o r ih =>
    obtain ⟨a1, a2⟩ := List.pairwise_cons.1 hl
    unfold insT
    split
    · exact hl
    · rename_i hne
      split
      · rename_i hb
        refine List.pairwise_cons.2 ⟨fun x hx => ?_, hl⟩
        rcases List.mem_cons.1 hx with rfl | hx
        · exact hb
        · exact bbZ_trans hb (a1 x hx)
      · rename_i hb
        have hb : bytesBefore h o = false := by simpa using hb
        have hoh : bytesBefore o h = true := by
          rcases bbZ_total hb with e | e
          · exact absurd e.symm hne
          · exact e
        refine List.pairwise_cons.2 ⟨fun x hx => ?_, ih a2⟩
        rcases insT_mem.1 hx with rfl | hx
        · exact hoh
        · exact a1 x hx
theorem insT_len (h : Pth) (l : List Pth) : (insT h l).length ≤ l.length + 1 := by
  induction l with
  | nil => simp [insT]
  | cons o r ih =>
    unfold insT
    split
    · simp
    · split
      · simp
      · simp; omega
/-- The homes, one after the other. -/
def homR (out : List Pth) (x : It) : List Pth := if x.c.kind = 1 then insT x.c.home out else out
def homsR (L : List It) : List Pth := L.foldl homR []
theorem homsR_snoc (L : List It) (x : It) : homsR (L ++ [x]) = homR (homsR L) x := by unfold homsR; simp
theorem homsR_rise (L : List It) : RiseT (homsR L) := by
  unfold homsR
  have : ∀ out, RiseT out → RiseT (L.foldl homR out) := by
    induction L with
    | nil => intro out h; exact h
    | cons x L ih =>
      intro out h
      refine ih _ ?_
      unfold homR
      split
      · exact insT_rise h
      · exact h
  exact this [] List.Pairwise.nil
theorem homsR_mem (L : List It) (k : Pth) : k ∈ homsR L ↔ ∃ x ∈ L, x.c.kind = 1 ∧ x.c.home = k := by
  unfold homsR
  have : ∀ out, k ∈ L.foldl homR out ↔ k ∈ out ∨ ∃ x ∈ L, x.c.kind = 1 ∧ x.c.home = k := by
    induction L with
    | nil => intro out; simp
    | cons x L ih =>
      intro out
      rw [List.foldl_cons, ih]
      unfold homR
      constructor
      · rintro (h | ⟨y, hy, e⟩)
        · split at h
          · rename_i hk
            rcases insT_mem.1 h with e | e
            · exact .inr ⟨x, by simp, hk, e.symm⟩
            · exact .inl e
          · exact .inl h
        · exact .inr ⟨y, by simp [hy], e⟩
      · rintro (h | ⟨y, hy, e1, e2⟩)
        · left
          split
          · exact insT_mem.2 (.inr h)
          · exact h
        · rcases List.mem_cons.1 hy with rfl | hy
          · left
            rw [if_pos e1]
            exact insT_mem.2 (.inl e2.symm)
          · exact .inr ⟨y, hy, e1, e2⟩
  rw [this]
  simp
theorem homsR_len (L : List It) : (homsR L).length ≤ L.length := by
  unfold homsR
  have : ∀ out, (L.foldl homR out).length ≤ out.length + L.length := by
    induction L with
    | nil => intro out; simp
    | cons x L ih =>
      intro out
      have h1 := ih (homR out x)
      have h2 : (homR out x).length ≤ out.length + 1 := by
        unfold homR
        split
        · exact insT_len _ _
        · omega
      rw [List.foldl_cons, List.length_cons]
      omega
  have := this []
  simpa using this
/-- The document's homes are the program's. -/
theorem homs_names {w : World} {xb mb n : Nat} {st : TSt} {L : List It} (h : IxAt w xb mb n st L) : homsR L = namesZ st :=
  rise_eq (homsR_rise L) (rise_names h.srt) fun k => by rw [homsR_mem, names_iff h]
theorem insT_hit {h o : Pth} {r : List Pth} (e : o = h) : insT h (o :: r) = o :: r := by unfold insT; rw [if_pos e]
theorem insT_put {h o : Pth} {r : List Pth} (e : o ≠ h) (b : bytesBefore h o = true) : insT h (o :: r) = h :: o :: r := by
  show (if o = h then o :: r else if bytesBefore h o = true then h :: o :: r else o :: insT h r) = _
  rw [if_neg e, if_pos b]
theorem insT_go {h o : Pth} {r : List Pth} (e : o ≠ h) (b : bytesBefore h o = false) : insT h (o :: r) = o :: insT h r := by
  show (if o = h then o :: r else if bytesBefore h o = true then h :: o :: r else o :: insT h r) = _
  rw [if_neg e, if_neg (by simp [b])]
/-- Amid the inner loop. -/
def InsAt (h : Pth) (out : List Pth) (k : Nat) (nx : List Pth) (put : Bool) : Prop :=
  (put = false ∧ nx = out.take k ∧ out.take k ++ insT h (out.drop k) = insT h out) ∨ (put = true ∧ nx ++ out.drop k = insT h out)
theorem InsAt.start (h : Pth) (out : List Pth) : InsAt h out 0 [] false := .inl ⟨rfl, rfl, rfl⟩
theorem InsAt.hit {h : Pth} {out : List Pth} {k : Nat} {nx : List Pth} {put : Bool} (s : InsAt h out k nx put) (hk : k < out.length) (he : out[k] = h) : InsAt h out (k + 1) (nx ++ [out[k]]) true := by
  rcases s with ⟨rfl, rfl, e⟩ | ⟨rfl, e⟩
  · refine .inr ⟨rfl, ?_⟩
    rw [← e, List.drop_eq_getElem_cons hk]
    rw [insT_hit he, List.append_assoc]
    rfl
  · refine .inr ⟨rfl, ?_⟩
    rw [← e, List.drop_eq_getElem_cons hk, List.append_assoc]
    rfl
theorem InsAt.past {h : Pth} {out : List Pth} {k : Nat} {nx : List Pth} (s : InsAt h out k nx true) (hk : k < out.length) : InsAt h out (k + 1) (nx ++ [out[k]]) true := by
  rcases s with ⟨e, -⟩ | ⟨-, e⟩
  · cases e
  · refine .inr ⟨rfl, ?_⟩
    rw [← e, List.drop_eq_getElem_cons hk, List.append_assoc]
    rfl
theorem InsAt.put {h : Pth} {out : List Pth} {k : Nat} {nx : List Pth} (s : InsAt h out k nx false) (hk : k < out.length) (hne : out[k] ≠ h) (hb : bytesBefore h out[k] = true) : InsAt h out (k + 1) (nx ++ [h] ++ [out[k]]) true := by
  rcases s with ⟨-, rfl, e⟩ | ⟨e, -⟩
  · refine .inr ⟨rfl, ?_⟩
    rw [← e, List.drop_eq_getElem_cons hk]
    rw [insT_put hne hb]
    simp
  · cases e
theorem InsAt.go {h : Pth} {out : List Pth} {k : Nat} {nx : List Pth} (s : InsAt h out k nx false) (hk : k < out.length) (hne : out[k] ≠ h) (hb : bytesBefore h out[k] = false) : InsAt h out (k + 1) (nx ++ [out[k]]) false := by
  rcases s with ⟨-, rfl, e⟩ | ⟨e, -⟩
  · refine .inl ⟨rfl, (List.take_succ_eq_append_getElem hk).symm, ?_⟩
    rw [← e, List.drop_eq_getElem_cons hk]
    rw [insT_go hne hb, List.take_succ_eq_append_getElem hk, List.append_assoc]
    rfl
  · cases e
theorem InsAt.fin {h : Pth} {out : List Pth} {nx : List Pth} {put : Bool} (s : InsAt h out out.length nx put) : (if put then nx else nx ++ [h]) = insT h out := by
  rcases s with ⟨rfl, rfl, e⟩ | ⟨rfl, e⟩
  · rw [← e]
    simp [insT]
  · rw [← e]
    simp
theorem InsAt.len {h : Pth} {out : List Pth} {k : Nat} {nx : List Pth} {put : Bool} (s : InsAt h out k nx put) (hk : k ≤ out.length) : nx.length ≤ out.length + 1 := by
  rcases s with ⟨rfl, rfl, e⟩ | ⟨rfl, e⟩
  · rw [List.length_take]; omega
  · have h1 := congrArg List.length e
    rw [List.length_append] at h1
    have := insT_len h out
    omega
end Go.Proofs.Ytgmpbalibdlhdaa
