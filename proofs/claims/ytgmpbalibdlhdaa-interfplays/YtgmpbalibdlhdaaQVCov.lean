/- Instances that vectors cover: as plain data; the walks of Covers, of the document's Covers and With, of Clone. -/
import Derived.Test.YtgmpbalibdlhdaaQVJoin
import Derived.Test.YtgmpbalibdlhdaaQVCpi
import Derived.Test.YtgmpbalibdlhdaaQVQui
set_option linter.unusedSimpArgs false
set_option linter.unusedVariables false
namespace Go.Proofs.Ytgmpbalibdlhdaa
open Go.RowKit
/-- The value is a slice of instances: a replica and a number each. -/
def Ids (w : World) (v : Value) (ids : List (Int × Int)) : Prop :=
  ∃ A c, v = .slice A ids.length c ∧ ids.length ≤ c ∧ c ≤ maxLen ∧ (0 < ids.length → ∃ b o, A = some ⟨b, o, none⟩ ∧ ∀ k x, ids[k]? = some x →
    w.cell? ⟨b, o + k * 2, none⟩ = some (.int .i64 x.1) ∧ w.cell? ⟨b, o + k * 2 + 1, none⟩ = some (.int .i64 x.2))
theorem Ids.kept {w w' : World} {v : Value} {ids : List (Int × Int)} (h : Ids w v ids) (k : Kept w w') : Ids w' v ids := by
  obtain ⟨A, c, rfl, h1, h2, h3⟩ := h
  refine ⟨A, c, rfl, h1, h2, fun hl => ?_⟩
  obtain ⟨b, o, rfl, hc⟩ := h3 hl
  exact ⟨b, o, rfl, fun i x hx => ⟨k.cell (hc i x hx).1, k.cell (hc i x hx).2⟩⟩
theorem Ids.at {w : World} {A : Option Addr} {n c : Nat} {ids : List (Int × Int)} (h : Ids w (.slice A n c) ids) {k : Nat} (hk : k < ids.length) : ∃ b o, A = some ⟨b, o, none⟩ ∧
    w.cell? ⟨b, o + k * 2, none⟩ = some (.int .i64 ids[k].1) ∧ w.cell? ⟨b, o + k * 2 + 1, none⟩ = some (.int .i64 ids[k].2) := by
  obtain ⟨A', c', hv, -, -, h3⟩ := h
  obtain ⟨rfl, -, -⟩ : A = A' ∧ n = ids.length ∧ c = c' := by simpa using hv
  obtain ⟨b, o, e, hc⟩ := h3 (by omega)
  exact ⟨b, o, e, hc k ids[k] (by simp [hk])⟩
theorem Ids.form {w : World} {v : Value} {ids : List (Int × Int)} (h : Ids w v ids) : ∃ A c, v = .slice A ids.length c ∧ ids.length ≤ c ∧ c ≤ maxLen := by
  obtain ⟨A, c, rfl, h1, h2, -⟩ := h
  exact ⟨A, c, rfl, h1, h2⟩
/-- Does it cover that instance (of a vector)? May it be put into one? -/
def cov1 (l : List Int) (r m : Int) : Bool := decide (0 ≤ r ∧ r < l.length) && (decide (1 ≤ m) && decide (m ≤ l.getD r.toNat 0))
def idOk (n : Nat) (r m : Int) : Bool := decide (0 ≤ r ∧ r < n) && (decide (1 ≤ m) && decide (m ≤ 4611686018427387903))
def covT (l : List Int) (ids : List (Int × Int)) : Bool := vok l && ids.all fun d => cov1 l d.1 d.2
def setM (l : List Int) (r m : Int) : List Int := l.set r.toNat (max (l.getD r.toNat 0) m)
def withOk (l : List Int) (ids : List (Int × Int)) : Bool := vok l && ids.all fun d => idOk l.length d.1 d.2
def setAll (l : List Int) (ids : List (Int × Int)) : List Int := ids.foldl (fun l d => setM l d.1 d.2) l
def withT (l : List Int) (ids : List (Int × Int)) : List Int := if withOk l ids then setAll l ids else []
def withE (l : List Int) (ids : List (Int × Int)) : Int := if withOk l ids then 0 else 90
theorem setM_len (l : List Int) (r m : Int) : (setM l r m).length = l.length := by unfold setM; simp
theorem setAll_snoc (l : List Int) (ids : List (Int × Int)) (d : Int × Int) : setAll l (ids ++ [d]) = setM (setAll l ids) d.1 d.2 := by unfold setAll; simp
theorem setAll_len (ids : List (Int × Int)) : ∀ l : List Int, (setAll l ids).length = l.length := by
  induction ids with
  | nil => intro l; rfl
  | cons d ids ih => intro l; show (setAll (setM l d.1 d.2) ids).length = _; rw [ih, setM_len]
theorem getD_at {l : List Int} {r : Int} (h0 : 0 ≤ r) (h : r < l.length) : l.getD r.toNat 0 = l[r.toNat]'(by omega) := by
  rw [List.getD_eq_getElem?_getD, List.getElem?_eq_getElem (by omega), Option.getD_some]
theorem idOk_iff {n : Nat} {r m : Int} : idOk n r m = true ↔ (0 ≤ r ∧ r < n) ∧ 1 ≤ m ∧ m ≤ 4611686018427387903 := by
  unfold idOk
  simp only [Bool.and_eq_true, decide_eq_true_eq]
theorem cov1_iff {l : List Int} {r m : Int} : cov1 l r m = true ↔ (0 ≤ r ∧ r < l.length) ∧ 1 ≤ m ∧ m ≤ l.getD r.toNat 0 := by
  unfold cov1
  simp only [Bool.and_eq_true, decide_eq_true_eq]
theorem setM_vok {l : List Int} {r m : Int} (h : vok l = true) (hi : idOk l.length r m = true) : vok (setM l r m) = true := by
  have hl := vok_len h
  obtain ⟨⟨h0, h1⟩, h2, h3⟩ := idOk_iff.1 hi
  refine vok_of (by rw [setM_len]; exact hl.1) (by rw [setM_len]; exact hl.2) (fun a ha => ?_)
  unfold setM at ha
  rcases List.mem_or_eq_of_mem_set ha with ha | ha
  · exact vok_all h a ha
  · have := vok_all h _ (List.getElem_mem (show r.toNat < l.length by omega))
    rw [getD_at h0 h1] at ha
    omega
theorem setAll_vok (ids : List (Int × Int)) : ∀ l : List Int, vok l = true → (∀ d ∈ ids, idOk l.length d.1 d.2 = true) → vok (setAll l ids) = true := by
  induction ids with
  | nil => intro l h _; exact h
  | cons d ids ih =>
    intro l h hi
    refine ih (setM l d.1 d.2) (setM_vok h (hi d (by simp))) (fun x hx => ?_)
    rw [setM_len]
    exact hi x (by simp [hx])
theorem false_of {b : Bool} {p : Prop} (h : b = true ↔ p) (hn : ¬ p) : b = false := by
  cases b with
  | false => rfl
  | true => exact absurd (h.1 rfl) hn
theorem true_of {b : Bool} {p : Prop} (h : b = true ↔ p) (hn : p) : b = true := h.2 hn
set_option maxHeartbeats 400000 in
theorem hasPlace_any (l : List Int) (r : Int) (v : Value) (w : World) (hv : Ints w v l) : Calls Try.prog 29 #[v, .int .i64 r] w fun e w' => e = .returned (.bool (decide (0 ≤ r ∧ r < l.length))) ∧ w = w' := by
  obtain ⟨A, c, rfl, hc1, hc2⟩ := hv.form
  clear hv
  by_cases h1 : 0 ≤ r
  · have t1 : decide (0 ≤ r) = true := decide_eq_true h1
    by_cases h2 : r < l.length
    · have t2 : decide (r < (l.length : Int)) = true := decide_eq_true h2
      rw [show decide (0 ≤ r ∧ r < l.length) = true from decide_eq_true ⟨h1, h2⟩]
      go_enter Try.func29, Try.ntmps29
      go_wp2
      go_ret
      exact ⟨rfl, rfl⟩
    · have t2 : decide (r < (l.length : Int)) = false := decide_eq_false h2
      rw [show decide (0 ≤ r ∧ r < l.length) = false from decide_eq_false (fun h => h2 h.2)]
      go_enter Try.func29, Try.ntmps29
      go_wp2
      go_ret
      exact ⟨rfl, rfl⟩
  · have t1 : decide (0 ≤ r) = false := decide_eq_false h1
    rw [show decide (0 ≤ r ∧ r < l.length) = false from decide_eq_false (fun h => h1 h.1)]
    go_enter Try.func29, Try.ntmps29
    go_wp2
    go_ret
    exact ⟨rfl, rfl⟩
/-- What the document's With leaves. -/
def RefWithTo (w : World) (l : List Int) (r m : Int) (e : Ending) (w' : World) : Prop := ∃ v, e = .returned (.tuple #[v, .bool (vok l && idOk l.length r m)]) ∧ (vok l = true ∧ idOk l.length r m = true → Ints w' v (setM l r m)) ∧ (∃ A n c, v = .slice A n c) ∧ Kept w w'
theorem RefWithTo.bad {w : World} {l : List Int} {r m : Int} (h : (vok l && idOk l.length r m) = false) : RefWithTo w l r m (.returned (.tuple #[.slice none 0 0, .bool false])) w :=
  ⟨.slice none 0 0, by rw [h], fun h' => (by rw [h'.1, h'.2] at h; exact absurd h (by decide)), ⟨_, _, _, rfl⟩, Kept.refl w⟩
end Go.Proofs.Ytgmpbalibdlhdaa
