/- The statement's script; how many files there are; Save on both disks. -/
import Derived.Test.YtngbgngfdklnlaaGreatDoorGSRf43
import Derived.Test.YtngbgngfdklnlaaGreatDoorGSSav3
import Derived.Test.YtngbgngfdklnlaaGreatDoorGDCpi3
set_option linter.unusedSimpArgs false
set_option linter.unusedVariables false
namespace Go.Proofs.YtngbgngfdklnlaaGreatDoor
open Go.RowKit
/-- One call, as it lies in memory. -/
structure Call5 where
  kind : Int
  num : Int
  a : Nm
  dv : Value
  data : List UInt8
  cv : Value
  cuts : List Int
def Call5.Reads (w : World) (x : Call5) : Prop := Bts w x.dv x.data ∧ Ints w x.cv x.cuts
theorem Call5.Reads.kept {w w' : World} {x : Call5} (h : x.Reads w) (k : Kept w w') : x.Reads w' := ⟨h.1.kept k, h.2.kept k⟩
def Script5 (w : World) (v : Value) (xs : List Call5) : Prop :=
  ∃ A c, v = .slice A xs.length c ∧ xs.length ≤ c ∧ c ≤ maxLen ∧ (0 < xs.length → ∃ b o, A = some ⟨b, o, none⟩ ∧ ∀ k x, xs[k]? = some x →
    w.cell? ⟨b, o + k * 5, none⟩ = some (.int .i64 x.kind) ∧ w.cell? ⟨b, o + k * 5 + 1, none⟩ = some (.int .i64 x.num) ∧ w.cell? ⟨b, o + k * 5 + 2, none⟩ = some (.string ⟨x.a.toArray⟩) ∧
    w.cell? ⟨b, o + k * 5 + 3, none⟩ = some x.dv ∧ w.cell? ⟨b, o + k * 5 + 4, none⟩ = some x.cv ∧ x.Reads w)
theorem Script5.form {w : World} {v : Value} {xs : List Call5} (h : Script5 w v xs) : ∃ A c, v = .slice A xs.length c ∧ xs.length ≤ c ∧ c ≤ maxLen := by
  obtain ⟨A, c, h1, h2, h3, -⟩ := h
  exact ⟨A, c, h1, h2, h3⟩
theorem Script5.at {w : World} {A : Option Addr} {n c : Nat} {xs : List Call5} (h : Script5 w (.slice A n c) xs) {k : Nat} (hk : k < xs.length) : ∃ b o, A = some ⟨b, o, none⟩ ∧
    w.cell? ⟨b, o + k * 5, none⟩ = some (.int .i64 xs[k].kind) ∧ w.cell? ⟨b, o + k * 5 + 1, none⟩ = some (.int .i64 xs[k].num) ∧ w.cell? ⟨b, o + k * 5 + 2, none⟩ = some (.string ⟨xs[k].a.toArray⟩) ∧
    w.cell? ⟨b, o + k * 5 + 3, none⟩ = some xs[k].dv ∧ w.cell? ⟨b, o + k * 5 + 4, none⟩ = some xs[k].cv ∧ xs[k].Reads w := by
  obtain ⟨A', c', hv, -, -, h3⟩ := h
  obtain ⟨rfl, -, -⟩ : A = A' ∧ n = xs.length ∧ c = c' := by simpa using hv
  obtain ⟨b, o, e, hc⟩ := h3 (by omega)
  exact ⟨b, o, e, hc k xs[k] (by simp [hk])⟩
theorem Script5.kept {w w' : World} {v : Value} {xs : List Call5} (h : Script5 w v xs) (k : Kept w w') : Script5 w' v xs := by
  obtain ⟨A, c, h1, h2, h3, h4⟩ := h
  refine ⟨A, c, h1, h2, h3, fun hp => ?_⟩
  obtain ⟨b, o, e, hc⟩ := h4 hp
  refine ⟨b, o, e, fun i x hx => ?_⟩
  obtain ⟨a0, a1, a2, a3, a4, a5⟩ := hc i x hx
  exact ⟨k.cell a0, k.cell a1, k.cell a2, k.cell a3, k.cell a4, a5.kept k⟩
noncomputable def doS5 (cap : Nat) (nm : Nm) (x : Call5) (fs : Fls) : Fls :=
  if x.kind = 1 then (saveS cap nm x.num x.data fs).2
  else if x.kind = 2 then crashS x.cuts fs
  else if x.kind = 3 then (if okA cap x.a x.data fs = 0 then appS x.a x.data fs else fs)
  else if x.kind = 4 then (if allS [x.a] fs = 0 then remS [x.a] fs else fs)
  else fs
/-! ### how many files there are -/
theorem has_split {fs : Fls} {k : Nm} (h : hasA k fs = true) : ∃ v a b, fs = a ++ (k, v) :: b := by
  rw [hasA_get] at h
  cases hg : getA k fs with
  | none => rw [hg] at h; cases h
  | some v =>
    obtain ⟨a, b, e⟩ := get_split hg
    exact ⟨v, a, b, e⟩
theorem len_put_has {fs : Fls} (hs : Srt fs) {k : Nm} (v : Fl) (h : hasA k fs = true) : (putA k v fs).length = fs.length := by
  obtain ⟨v0, a, b, rfl⟩ := has_split h
  rw [put_at hs]
  simp
theorem len_cut_has {fs : Fls} (hs : Srt fs) {k : Nm} (h : hasA k fs = true) : (cutA k fs).length + 1 = fs.length := by
  obtain ⟨v0, a, b, rfl⟩ := has_split h
  rw [cut_at hs]
  simp
  omega
theorem has_cut_other {fs : Fls} {j k : Nm} (h : j ≠ k) : hasA j (cutA k fs) = hasA j fs := by rw [hasA_get, hasA_get, getA_cut_other h]
/-- Files, and one more as long as there is no manifest. -/
def pot (nm : Nm) (fs : Fls) : Nat := fs.length + if hasA (manN nm) fs then 0 else 1
theorem pot_len (nm : Nm) (fs : Fls) : fs.length ≤ pot nm fs := Nat.le_add_right _ _
theorem pot_app (nm k : Nm) (b : List UInt8) (fs : Fls) : pot nm (appS k b fs) ≤ pot nm fs + 1 := by
  have h1 := app_len k b fs
  have h2 := has_app (fs := fs) k b (manN nm)
  unfold pot
  cases hm : hasA (manN nm) fs with
  | true => rw [hm, Bool.or_true] at h2; rw [h2]; simp; omega
  | false => cases hasA (manN nm) (appS k b fs) <;> simp <;> omega
theorem pot_cut {nm k : Nm} {fs : Fls} (hs : Srt fs) : pot nm (cutA k fs) ≤ pot nm fs := by
  unfold pot
  by_cases e : manN nm = k
  · subst e
    cases hm : hasA (manN nm) fs with
    | true =>
      have := len_cut_has hs hm
      cases hasA (manN nm) (cutA (manN nm) fs) <;> simp <;> omega
    | false =>
      have := length_cut (manN nm) fs
      cases hasA (manN nm) (cutA (manN nm) fs) <;> simp <;> omega
  · rw [has_cut_other e]
    have := length_cut k fs
    omega
theorem pot_names {nm : Nm} {fs fs' : Fls} (h : namesA fs' = namesA fs) : pot nm fs' = pot nm fs := by
  have h1 : fs'.length = fs.length := by have := congrArg List.length h; simpa [namesA] using this
  have h2 : hasA (manN nm) fs' = hasA (manN nm) fs := by
    have e : ∀ l : Fls, hasA (manN nm) l = (namesA l).any (fun n => n == manN nm) := fun l => by unfold hasA namesA; rw [List.any_map]; rfl
    rw [e, e, h]
  unfold pot
  rw [h1, h2]
theorem pot_drop {nm : Nm} {p : Nm → Bool} {fs : Fls} (h : p (manN nm) = false) : pot nm (dropF p fs) ≤ pot nm fs := by
  have h1 : (dropF p fs).length ≤ fs.length := List.length_filter_le ..
  have h2 : hasA (manN nm) (dropF p fs) = hasA (manN nm) fs := by rw [hasA_get, hasA_get, getA_drop, if_neg (by simp [h])]
  unfold pot
  rw [h2]
  omega
theorem pot_sav1 (nm : Nm) (n : Nat) (fs : Fls) : pot nm (sav1 nm n fs) ≤ pot nm fs := pot_drop (by simp [man_dat, man_tmp])
theorem pot_sav5 (nm : Nm) (n : Nat) (b : List UInt8) (fs : Fls) (hg : Good fs) (hnm : goodL nm = true) (hn : n ≤ 4611686018427387903) : pot nm (sav5 nm n b fs) ≤ pot nm fs + 1 := by
  have g1 := sav1_good (nm := nm) (n := n) hg
  have g2 := g1.app b (okN_dat hnm n hn)
  have g3 := g2.app (man1 n b) (okN_tmp hnm)
  have p1 := pot_sav1 nm n fs
  unfold sav5
  refine Nat.le_trans (pot_drop (by simp [isDat_man])) ?_
  have hl1 : (appS (datN nm n) b (sav1 nm n fs)).length ≤ (sav1 nm n fs).length + 1 := app_len _ _ _
  have hl2 : (appS (tmpN nm) (man1 n b) (appS (datN nm n) b (sav1 nm n fs))).length ≤ (appS (datN nm n) b (sav1 nm n fs)).length + 1 := app_len _ _ _
  have hd : hasA (datN nm n) (sav3 nm n b fs) = true := by unfold sav3; rw [has_app, has_app]; simp
  have ht : hasA (tmpN nm) (sav3 nm n b fs) = true := by unfold sav3; rw [has_app]; simp
  have hm : hasA (manN nm) (sav3 nm n b fs) = hasA (manN nm) (sav1 nm n fs) := by
    unfold sav3
    rw [has_app, has_app]
    have e1 : (manN nm == tmpN nm) = false := by simpa using man_tmp nm
    have e2 : (manN nm == datN nm n) = false := by simpa using man_dat nm n
    rw [e1, e2]; simp
  have l3 : (sav3 nm n b fs).length ≤ (sav1 nm n fs).length + 2 := by unfold sav3; omega
  have g3' : Good (sav3 nm n b fs) := g3
  have l4 : (sync1 (sav3 nm n b fs) (datN nm n)).length = (sav3 nm n b fs).length := len_put_has g3'.1 _ hd
  have g4 := g3'.sync1 (okN_dat hnm n hn)
  have ht4 : hasA (tmpN nm) (sync1 (sav3 nm n b fs) (datN nm n)) = true := by unfold sync1; rw [has_put, ht]; simp
  have hm4 : hasA (manN nm) (sync1 (sav3 nm n b fs) (datN nm n)) = hasA (manN nm) (sav1 nm n fs) := by
    unfold sync1
    rw [has_put, hm]
    have e2 : (manN nm == datN nm n) = false := by simpa using man_dat nm n
    rw [e2]; simp
  have l5 : (sync1 (sync1 (sav3 nm n b fs) (datN nm n)) (tmpN nm)).length = (sync1 (sav3 nm n b fs) (datN nm n)).length := len_put_has g4.1 _ ht4
  have g5 := g4.sync1 (okN_tmp hnm)
  have hm5 : hasA (manN nm) (sync1 (sync1 (sav3 nm n b fs) (datN nm n)) (tmpN nm)) = hasA (manN nm) (sav1 nm n fs) := by
    unfold sync1 at hm4 ⊢
    rw [has_put, hm4]
    have e1 : (manN nm == tmpN nm) = false := by simpa using man_tmp nm
    rw [e1]; simp
  have ht5 : hasA (tmpN nm) (sync1 (sync1 (sav3 nm n b fs) (datN nm n)) (tmpN nm)) = true := by rw [show sync1 (sync1 (sav3 nm n b fs) (datN nm n)) (tmpN nm) = putA _ _ _ from rfl, has_put]; simp
  show pot nm (renS (tmpN nm) (manN nm) (sync1 (sync1 (sav3 nm n b fs) (datN nm n)) (tmpN nm))) ≤ _
  generalize sync1 (sync1 (sav3 nm n b fs) (datN nm n)) (tmpN nm) = f5 at *
  unfold renS
  rw [if_neg (man_tmp nm).symm]
  have gP : Srt (putA (manN nm) ((getA (tmpN nm) f5).getD ([], 0)) f5) := srt_put g5.1
  have hP : hasA (tmpN nm) (putA (manN nm) ((getA (tmpN nm) f5).getD ([], 0)) f5) = true := by rw [has_put, ht5]; simp
  have l6 := len_cut_has gP hP
  have hm6 : hasA (manN nm) (cutA (tmpN nm) (putA (manN nm) ((getA (tmpN nm) f5).getD ([], 0)) f5)) = true := by rw [has_cut_other (man_tmp nm), has_put]; simp
  unfold pot at p1 ⊢
  rw [hm6]
  cases hmm : hasA (manN nm) (sav1 nm n fs) with
  | true =>
    rw [hmm] at hm5 p1
    have l7 := len_put_has g5.1 ((getA (tmpN nm) f5).getD ([], 0)) hm5
    simp at p1 ⊢
    omega
  | false =>
    rw [hmm] at p1
    have l7 := length_put (manN nm) ((getA (tmpN nm) f5).getD ([], 0)) f5
    simp at p1 ⊢
    omega
theorem pot_save (cap : Nat) (nm : Nm) (n : Int) (b : List UInt8) (fs : Fls) (hg : Good fs) : pot nm (saveS cap nm n b fs).2 ≤ pot nm fs + 1 := by
  unfold saveS
  split
  · exact Nat.le_add_right _ _
  · rename_i h1
    rw [Bool.not_eq_false] at h1
    split
    · exact Nat.le_add_right _ _
    · rename_i h2
      split
      · exact Nat.le_add_right _ _
      · unfold saveT
        split
        · exact Nat.le_add_right _ _
        · split
          · exact Nat.le_trans (pot_sav1 nm _ fs) (Nat.le_add_right _ _)
          · split
            · have g1 := sav1_good (nm := nm) (n := n.toNat) hg
              have g2 := g1.app b (okN_dat h1 n.toNat (by omega))
              have p1 := pot_sav1 nm n.toNat fs
              have p2 := pot_app nm (datN nm n.toNat) b (sav1 nm n.toNat fs)
              have p3 := pot_cut (nm := nm) (k := datN nm n.toNat) g2.1
              show pot nm (cutA _ _) ≤ _
              omega
            · exact pot_sav5 nm n.toNat b fs hg h1 (by omega)
theorem pot_do {cap : Nat} {nm : Nm} {x : Call5} {fs : Fls} (hg : Good fs) : pot nm (doS5 cap nm x fs) ≤ pot nm fs + 1 := by
  unfold doS5
  split
  · exact pot_save cap nm x.num x.data fs hg
  · split
    · rw [pot_names (crashS_names _ _)]; exact Nat.le_add_right _ _
    · split
      · split
        · exact pot_app nm x.a x.data fs
        · exact Nat.le_add_right _ _
      · split
        · split
          · exact Nat.le_trans (pot_cut hg.1) (Nat.le_add_right _ _)
          · exact Nat.le_add_right _ _
        · exact Nat.le_add_right _ _
/-! ### Save on both disks -/
section
variable {A : Nat → Prop} {w0 w : World} {d x : Value} {cap : Nat} {fs fr : Fls}
theorem save_jka (nm : Nm) (n : Int) (b : List UInt8) (vb : Value) (base m : Nat) (h : JKA A w0 w d x cap fs fr) (hv : w.ownsRow base 5 1 vb m (Lib.byteCells b)) (hA : ∀ g, vb.ownBlock = some g → A g) (hE : Env w0) (hlen : fs.length + 2 ≤ 1999999999999) :
    Calls Tryz.prog 10 #[d, .string ⟨nm.toArray⟩, .int .i64 n, vb] w fun e w' => e = .returned (.int .i64 (saveS cap nm n b fs).1) ∧ JKA A w0 w' d x cap (saveS cap nm n b fs).2 fr ∧ Chg (fun g => ¬ A g) w w' := by
  obtain ⟨F, h1, h2, h3, h4⟩ := h.onDisk
  exact (save_any d nm n b vb cap fs F w h1 (fun g y => (h2 g y).2.1) (fun W c => Bts.of_own (own_chg hv c (fun g hg hf => (h2 g hf).2.2 (hA g hg)))) (fun W c => hE.kept (c.kept h3 (fun g y => (h2 g y).1))) hlen).mono fun _ w' ⟨a, b, c⟩ => ⟨a, h4 w' _ b c, c.mono (fun g _ y => (h2 g y).2.2)⟩
theorem rsave_jka (nm : Nm) (n : Int) (b : List UInt8) (vb : Value) (h : JKA A w0 w d x cap fs fr) (hv : Bts w0 vb b) (hlen : fr.length + 2 ≤ 1999999999999) :
    Calls Tryz.prog 11 #[x, .string ⟨nm.toArray⟩, .int .i64 n, vb] w fun e w' => e = .returned (.int .i64 (saveS cap nm n b fr).1) ∧ JKA A w0 w' d x cap fs (saveS cap nm n b fr).2 ∧ Chg (fun g => ¬ A g) w w' := by
  obtain ⟨F, h1, h2, h3, h4⟩ := h.onRef
  exact (rsave_any x nm n b vb cap fr F w h1 (fun g y => (h2 g y).2.1) (fun W c => hv.kept (c.kept h3 (fun g y => (h2 g y).1))) hlen).mono fun _ w' ⟨a, b, c⟩ => ⟨a, h4 w' _ b c, c.mono (fun g _ y => (h2 g y).2.2)⟩
theorem remove1_jka (k : Nm) (v : Value) (h : JKA A w0 w d x cap fs fr) (hv : ∀ W, Chg (fun g => ¬ A g) w W → Txts W v [k]) :
    Calls Tryz.prog 17 #[d, v] w fun e w' => e = .returned (.int .i64 (allS [k] fs)) ∧ JKA A w0 w' d x cap (if allS [k] fs = 0 then remS [k] fs else fs) fr ∧ Chg (fun g => ¬ A g) w w' := by
  obtain ⟨F, h1, h2, h3, h4⟩ := h.onDisk
  exact (remove_any [k] v d cap fs F w h1 (fun W c => hv W (c.mono (fun g _ y => (h2 g y).2.2)))).mono fun _ w' ⟨a, b, c⟩ => ⟨a, h4 w' _ b c, c.mono (fun g _ y => (h2 g y).2.2)⟩
theorem rremove1_jka (k : Nm) (v : Value) (h : JKA A w0 w d x cap fs fr) (hv : ∀ W, Chg (fun g => ¬ A g) w W → Txts W v [k]) :
    Calls Tryz.prog 18 #[x, v] w fun e w' => e = .returned (.int .i64 (allS [k] fr)) ∧ JKA A w0 w' d x cap fs (if allS [k] fr = 0 then remS [k] fr else fr) ∧ Chg (fun g => ¬ A g) w w' := by
  obtain ⟨F, h1, h2, h3, h4⟩ := h.onRef
  exact (rremove_any [k] v x cap fr F w h1 (fun W c => hv W (c.mono (fun g _ y => (h2 g y).2.2)))).mono fun _ w' ⟨a, b, c⟩ => ⟨a, h4 w' _ b c, c.mono (fun g _ y => (h2 g y).2.2)⟩
end
end Go.Proofs.YtngbgngfdklnlaaGreatDoor
