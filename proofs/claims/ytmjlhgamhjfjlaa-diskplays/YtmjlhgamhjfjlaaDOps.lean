/- A script: a slice of calls. -/
import Derived.Test.YtmjlhgamhjfjlaaDAwk
set_option linter.unusedVariables false
namespace Go.Proofs.Ytmjlhgamhjfjlaa
open Go.RowKit
theorem less_before (a b : Nm) : Op.bytesLess a b = bytesBefore a b := by
  induction a generalizing b with
  | nil => cases b <;> rfl
  | cons x r ih =>
    cases b with
    | nil => rfl
    | cons y s => simp [Op.bytesLess, bytesBefore, ih]
/-- One call, as it lies in memory: the values, and what they read as. -/
structure Call where
  kind : Int
  a : Nm
  b : Nm
  dv : Value
  data : List UInt8
  nv : Value
  names : List Nm
  cv : Value
  cuts : List Int
/-- What the values of a call read as. -/
structure Call.Reads (w : World) (x : Call) : Prop where
  data : Bts w x.dv x.data
  names : Txts w x.nv x.names
  cuts : Ints w x.cv x.cuts
theorem Call.Reads.kept {w w' : World} {x : Call} (h : x.Reads w) (k : Kept w w') : x.Reads w' := ⟨h.data.kept k, h.names.kept k, h.cuts.kept k⟩
/-- The value is a slice of calls. -/
def Script (w : World) (v : Value) (xs : List Call) : Prop :=
  ∃ A c, v = .slice A xs.length c ∧ xs.length ≤ c ∧ c ≤ maxLen ∧ (0 < xs.length → ∃ b o, A = some ⟨b, o, none⟩ ∧ ∀ k x, xs[k]? = some x →
    w.cell? ⟨b, o + k * 6, none⟩ = some (.int .i64 x.kind) ∧ w.cell? ⟨b, o + k * 6 + 1, none⟩ = some (.string ⟨x.a.toArray⟩) ∧ w.cell? ⟨b, o + k * 6 + 2, none⟩ = some (.string ⟨x.b.toArray⟩) ∧
    w.cell? ⟨b, o + k * 6 + 3, none⟩ = some x.dv ∧ w.cell? ⟨b, o + k * 6 + 4, none⟩ = some x.nv ∧ w.cell? ⟨b, o + k * 6 + 5, none⟩ = some x.cv ∧ x.Reads w)
theorem Script.at {w : World} {A : Option Addr} {n c : Nat} {xs : List Call} (h : Script w (.slice A n c) xs) {k : Nat} (hk : k < xs.length) : ∃ b o, A = some ⟨b, o, none⟩ ∧
    w.cell? ⟨b, o + k * 6, none⟩ = some (.int .i64 xs[k].kind) ∧ w.cell? ⟨b, o + k * 6 + 1, none⟩ = some (.string ⟨xs[k].a.toArray⟩) ∧ w.cell? ⟨b, o + k * 6 + 2, none⟩ = some (.string ⟨xs[k].b.toArray⟩) ∧
    w.cell? ⟨b, o + k * 6 + 3, none⟩ = some xs[k].dv ∧ w.cell? ⟨b, o + k * 6 + 4, none⟩ = some xs[k].nv ∧ w.cell? ⟨b, o + k * 6 + 5, none⟩ = some xs[k].cv ∧ xs[k].Reads w := by
  obtain ⟨A', c', hv, -, -, h3⟩ := h
  obtain ⟨rfl, -, -⟩ : A = A' ∧ n = xs.length ∧ c = c' := by simpa using hv
  obtain ⟨b, o, e, hc⟩ := h3 (by omega)
  exact ⟨b, o, e, hc k xs[k] (by simp [hk])⟩
theorem Script.kept {w w' : World} {v : Value} {xs : List Call} (h : Script w v xs) (k : Kept w w') : Script w' v xs := by
  obtain ⟨A, c, rfl, h1, h2, h3⟩ := h
  refine ⟨A, c, rfl, h1, h2, fun hl => ?_⟩
  obtain ⟨b, o, rfl, hc⟩ := h3 hl
  refine ⟨b, o, rfl, fun i x hx => ?_⟩
  obtain ⟨a0, a1, a2, a3, a4, a5, a6⟩ := hc i x hx
  exact ⟨k.cell a0, k.cell a1, k.cell a2, k.cell a3, k.cell a4, k.cell a5, a6.kept k⟩
theorem Script.form {w : World} {v : Value} {xs : List Call} (h : Script w v xs) : ∃ A c, v = .slice A xs.length c ∧ xs.length ≤ c ∧ c ≤ maxLen := by
  obtain ⟨A, c, rfl, h1, h2, -⟩ := h
  exact ⟨A, c, rfl, h1, h2⟩
/-- What a call makes of the files. -/
def doS (cap : Nat) (x : Call) (fs : Fls) : Fls :=
  if x.kind = 1 then (if okA cap x.a x.data fs = 0 then appS x.a x.data fs else fs)
  else if x.kind = 2 then (if allS x.names fs = 0 then syncS x.names fs else fs)
  else if x.kind = 3 then (if renE x.a x.b fs = 0 then renS x.a x.b fs else fs)
  else if x.kind = 4 then (if allS x.names fs = 0 then remS x.names fs else fs)
  else if x.kind = 5 then crashS x.cuts fs
  else fs
/-! ### how many files there are -/
theorem length_app (k : Nm) (b : List UInt8) (fs : Fls) : (appS k b fs).length ≤ fs.length + 1 := length_put ..
theorem names_sync {ls : List Nm} {fs : Fls} (hs : Srt fs) (h : ls.all (fun k => hasA k fs) = true) : namesA (syncS ls fs) = namesA fs := by
  unfold syncS
  induction ls generalizing fs with
  | nil => rfl
  | cons k r ih =>
    simp only [List.all_cons, Bool.and_eq_true] at h
    have h1 : namesA (sync1 fs k) = namesA fs := names_put_has hs h.1
    rw [List.foldl_cons, ih (fs := sync1 fs k) (srt_put hs) (by
      rw [List.all_eq_true] at h ⊢
      intro x hx
      rw [hasA_names h1]
      exact h.2 x hx), h1]
theorem length_rem (ls : List Nm) (fs : Fls) : (remS ls fs).length ≤ fs.length := by
  unfold remS
  induction ls generalizing fs with
  | nil => exact Nat.le_refl _
  | cons k r ih =>
    rw [List.foldl_cons]
    exact Nat.le_trans (ih _) (length_cut k fs)
theorem length_renS {a b : Nm} {fs : Fls} (hs : Srt fs) (h : hasA a fs = true) : (renS a b fs).length ≤ fs.length := by
  unfold renS
  split
  · exact Nat.le_refl _
  · rename_i hab
    exact length_ren hs hab h
theorem allS_zero {ls : List Nm} {fs : Fls} (h : allS ls fs = 0) : ls.all okN = true ∧ ls.all (fun k => hasA k fs) = true := by
  unfold allS at h
  cases h1 : ls.all okN with
  | false => rw [h1] at h; simp at h
  | true =>
    rw [h1] at h
    refine ⟨rfl, ?_⟩
    cases h2 : ls.all (fun k => hasA k fs) with
    | true => rfl
    | false => rw [h2] at h; simp at h
theorem renE_zero {a b : Nm} {fs : Fls} (h : renE a b fs = 0) : okN b = true ∧ allS [a] fs = 0 := by
  unfold renE at h
  cases h1 : okN b with
  | false => rw [h1] at h; simp at h
  | true => rw [h1] at h; exact ⟨rfl, by simpa using h⟩
theorem length_doS {cap : Nat} {x : Call} {fs : Fls} (hs : Srt fs) : (doS cap x fs).length ≤ fs.length + 1 := by
  unfold doS
  split
  · split
    · exact length_app ..
    · omega
  split
  · split
    · rename_i h
      have := length_names (names_sync hs (allS_zero h).2)
      omega
    · omega
  split
  · split
    · rename_i h
      have h2 := (allS_zero (renE_zero h).2).2
      simp only [List.all_cons, List.all_nil, Bool.and_true] at h2
      have := length_renS (b := x.b) hs h2
      omega
    · omega
  split
  · split
    · have := length_rem x.names fs
      omega
    · omega
  split
  · have := length_names (crashS_names x.cuts fs)
    omega
  · omega
end Go.Proofs.Ytmjlhgamhjfjlaa
