/- A transaction, as plain data. What a home's nodes come to stays within a quota: as plain data. No program in it. What Apply's walk needs: a tree beside blocks kept apart, work made beside it. -/
import Derived.Test.YtennlckfmgfjbaaGreatDoorGMUs3
set_option linter.unusedSimpArgs false
set_option linter.unusedVariables false
namespace Go.Proofs.YtennlckfmgfjbaaGreatDoor
open Go.RowKit
section
variable {h : Pth} {owner qn qb : Int}
theorem doM_sim (os : List OpM) : ∀ (i : Int) (n : Nat) (a b : WkM), SimW h a b → WF a.t → WF b.t → WB n a.t → WB n b.t →
    (doM h owner qn qb i a os).1 = (doM h owner qn qb i b os).1 ∧ (doM h owner qn qb i a os).2.1 = (doM h owner qn qb i b os).2.1 ∧ SimW h (doM h owner qn qb i a os).2.2 (doM h owner qn qb i b os).2.2 := by
  induction os with
  | nil => intro i n a b s _ _ _ _; exact ⟨rfl, rfl, s⟩
  | cons o r ih =>
    intro i n a b s w1 w2 b1 b2
    obtain ⟨h1, h2⟩ := s.one w1.srt w2.srt owner qn qb o
    have k1 := oneM_keeps (h := h) (owner := owner) (qn := qn) (qb := qb) w1 b1 o
    have k2 := oneM_keeps (h := h) (owner := owner) (qn := qn) (qb := qb) w2 b2 o
    rw [doM_cons, doM_cons, h1]
    split
    · exact ⟨rfl, rfl, h2⟩
    · exact ih (i + 1) (n + 1) _ _ h2 k1.1 k2.1 k1.2 k2.2
theorem doM_keeps (os : List OpM) : ∀ (i : Int) (n : Nat) (a : WkM), WF a.t → WB n a.t → WF (doM h owner qn qb i a os).2.2.t ∧ WB (n + os.length) (doM h owner qn qb i a os).2.2.t := by
  induction os with
  | nil => intro i n a w b; exact ⟨w, b⟩
  | cons o r ih =>
    intro i n a w b
    have k := oneM_keeps (h := h) (owner := owner) (qn := qn) (qb := qb) w b o
    rw [doM_cons]
    split
    · exact ⟨k.1, k.2.more (by simp only [List.length_cons]; omega)⟩
    · have := ih (i + 1) (n + 1) _ k.1 k.2
      exact ⟨this.1, this.2.more (by simp only [List.length_cons]; omega)⟩
theorem doM_mild (os : List OpM) : ∀ (i : Int) (n c : Nat) (a : WkM), WF a.t → WB n a.t → MildK c a → MildK (c + os.length) (doM h owner qn qb i a os).2.2 := by
  induction os with
  | nil => intro i n c a w b m; exact m
  | cons o r ih =>
    intro i n c a w b m
    have k := oneM_keeps (h := h) (owner := owner) (qn := qn) (qb := qb) w b o
    have m2 := oneM_mild (h := h) (owner := owner) (qn := qn) (qb := qb) m b o
    rw [doM_cons]
    split
    · exact m2.more (by simp only [List.length_cons]; omega)
    · exact (ih (i + 1) (n + 1) (c + 1) _ k.1 k.2 m2).more (by simp only [List.length_cons]; omega)
end
/-- Work at the start. -/
def work0 (h : Pth) (t : ZT) : WkM := ⟨t, useN h t, useB h t, [], []⟩
def workD (h : Pth) (t : ZT) : WkM := ⟨draftT h t, useN h t, useB h t, [], []⟩
theorem work_sim {h : Pth} {t : ZT} (hw : WF t) : SimW h (workD h t) (work0 h t) := ⟨(draft_sim hw).symm, rfl, rfl, rfl, rfl⟩
theorem use_draft {h : Pth} {t : ZT} (hw : WF t) : useNL [h] (draftT h t) = useN h t ∧ useBL [h] (draftT h t) = useB h t := by
  obtain ⟨a, b⟩ := use_one h (draftT h t)
  obtain ⟨c, d⟩ := use_sim (draft_sim (h := h) hw)
  rw [a, b, c, d]
  exact ⟨rfl, rfl⟩
theorem sumB_le {n : Nat} {t : ZT} (hp : ∀ x ∈ t, (names x.1).isSome = true) (hb : ∀ x ∈ t, x.2.data.length ≤ 256) : sumB t ≤ 384 * t.length := by
  unfold sumB
  induction t with
  | nil => simp
  | cons x r ih =>
    have := ih (fun y hy => hp y (.tail _ hy)) (fun y hy => hb y (.tail _ hy))
    have h1 := names_lenZ (hp x (.head _))
    have h2 := hb x (.head _)
    simp only [List.map_cons, List.sum_cons, List.length_cons]
    omega
theorem use_mild {n : Nat} {h : Pth} {t d : ZT} (hw : WF t) (hb : WB n t) (ht : t.length ≤ 8388608) : MildK 0 ⟨d, useN h t, useB h t, [], []⟩ := by
  have h1 : (filt h t).length ≤ t.length := List.length_filter_le _ _
  have h2 : sumB (filt h t) ≤ 384 * (filt h t).length := sumB_le (n := n) (fun x hx => hw.path x (mem_filt hx).1) (fun x hx => (hb.each x (mem_filt hx).1).small)
  unfold useN useB
  exact ⟨by simp only; omega, by simp only; omega, by simp only; omega, by simp only; omega, Nat.le_refl _, Nat.le_refl _⟩
theorem draft_few (h : Pth) (t : ZT) : (draftT h t).length ≤ t.length + 1 := by
  unfold draftT recnt draft0
  have : (filt h t).length ≤ t.length := List.length_filter_le _ _
  rw [List.length_map, List.length_cons]
  omega
/-- All ops, or none: the error, the place of the op that failed, the tree, results and effects. -/
structure ApM where
  err : Int
  bad : Int
  t : ZT
  res : List (Pth × Int)
  eff : List (Int × Pth)
def applyM (h : Pth) (owner qn qb : Int) (t : ZT) (os : List OpM) : ApM :=
  if os.length = 0 ∨ 16 < os.length then ⟨80, 0, t, [], []⟩ else
  if owner < 1 ∨ 4611686018427387903 < owner then ⟨10, 0, t, [], []⟩ else
  if (doM h owner qn qb 0 (work0 h t) os).1 ≠ 0 then ⟨(doM h owner qn qb 0 (work0 h t) os).1, (doM h owner qn qb 0 (work0 h t) os).2.1, t, [], []⟩
  else ⟨0, (doM h owner qn qb 0 (work0 h t) os).2.1, (doM h owner qn qb 0 (work0 h t) os).2.2.t, (doM h owner qn qb 0 (work0 h t) os).2.2.res, (doM h owner qn qb 0 (work0 h t) os).2.2.eff⟩
end Go.Proofs.YtennlckfmgfjbaaGreatDoor
set_option linter.unusedSimpArgs false
set_option linter.unusedVariables false
namespace Go.Proofs.YtennlckfmgfjbaaGreatDoor
theorem sumB_cons (x : Pth × ZN) (r : ZT) : sumB (x :: r) = x.1.length + x.2.data.length + sumB r := by simp [sumB]
theorem sumB_cut (p : Pth) (F : ZT) : sumB (cutZ p F) ≤ sumB F := by
  induction F with
  | nil => exact Nat.le_refl _
  | cons x r ih =>
    unfold cutZ at *
    rw [List.filter_cons]
    split
    · rw [sumB_cons, sumB_cons]; omega
    · rw [sumB_cons]; omega
theorem cut_gone {p : Pth} {n : ZN} {F : ZT} (h : getZ p F = some n) : (cutZ p F).length + 1 ≤ F.length ∧ sumB (cutZ p F) + (p.length + n.data.length) ≤ sumB F := by
  induction F with
  | nil => simp [getZ] at h
  | cons x r ih =>
    by_cases hx : x.1 = p
    · subst hx
      have hn : x.2 = n := by simpa [getZ] using h
      subst hn
      have h1 := length_cutZ x.1 r
      have h2 := sumB_cut x.1 r
      have e : cutZ x.1 (x :: r) = cutZ x.1 r := by simp [cutZ]
      rw [e, sumB_cons, List.length_cons]
      omega
    · have h' : getZ p r = some n := by
        have hb : (x.1 == p) = false := beq_eq_false_iff_ne.2 hx
        simpa [getZ, hb] using h
      obtain ⟨h1, h2⟩ := ih h'
      have hb : (x.1 == p) = false := beq_eq_false_iff_ne.2 hx
      have e : cutZ p (x :: r) = x :: cutZ p r := by simp [cutZ, hb]
      rw [e, sumB_cons, sumB_cons, List.length_cons, List.length_cons]
      omega
theorem sumB_ins (x : Pth × ZN) (F : ZT) : sumB (insZ x F) = x.1.length + x.2.data.length + sumB F ∧ (insZ x F).length = F.length + 1 := by
  induction F with
  | nil => simp [insZ, sumB]
  | cons y r ih =>
    unfold insZ
    split
    · exact ⟨by rw [sumB_cons], rfl⟩
    · obtain ⟨h1, h2⟩ := ih
      exact ⟨by rw [sumB_cons, h1, sumB_cons]; omega, by rw [List.length_cons, h2, List.length_cons]⟩
theorem sumB_on (k : Pth) (f : ZN → ZN) (hf : ∀ n, (f n).data = n.data) (F : ZT) : sumB (onZ k f F) = sumB F ∧ (onZ k f F).length = F.length := by
  refine ⟨?_, by unfold onZ; rw [List.length_map]⟩
  induction F with
  | nil => rfl
  | cons x r ih =>
    unfold onZ at *
    rw [List.map_cons, sumB_cons, sumB_cons, ih]
    split <;> simp [hf]
theorem sumB_put (q : Pth) (n : ZN) (F : ZT) : sumB (putZ q n F) ≤ sumB F + (q.length + n.data.length) ∧ (putZ q n F).length ≤ F.length + 1 := by
  refine ⟨?_, length_putZ q n F⟩
  unfold putZ
  rw [(sumB_ins _ _).1]
  have := sumB_cut q F
  simp only
  omega
theorem on_none {p : Pth} {f : ZN → ZN} {F : ZT} (h : ∀ x ∈ F, x.1 ≠ p) : onZ p f F = F := by
  unfold onZ
  conv => rhs; rw [← List.map_id F]
  refine List.map_congr_left fun x hx => ?_
  rw [if_neg (h x hx)]
  rfl
theorem sumB_set {p : Pth} {n : ZN} {f : ZN → ZN} {d : Nat} (hf : ∀ m, (f m).data.length = d) {F : ZT} (hs : SrtZ F) (h : getZ p F = some n) : sumB (onZ p f F) + n.data.length = sumB F + d := by
  induction F with
  | nil => simp [getZ] at h
  | cons x r ih =>
    have hnd := srt_nodup hs
    unfold namesZ at hnd
    rw [List.map_cons, List.nodup_cons] at hnd
    by_cases hx : x.1 = p
    · subst hx
      have hn : x.2 = n := by simpa [getZ] using h
      subst hn
      have e : onZ x.1 f (x :: r) = (x.1, f x.2) :: r := by
        have := on_none (p := x.1) (f := f) (F := r) (fun y hy e => hnd.1 (List.mem_map.2 ⟨y, hy, e⟩))
        unfold onZ at this ⊢
        rw [List.map_cons, this, if_pos rfl]
      rw [e, sumB_cons, sumB_cons, hf]
      simp only
      omega
    · have hb : (x.1 == p) = false := beq_eq_false_iff_ne.2 hx
      have h' : getZ p r = some n := by simpa [getZ, hb] using h
      have := ih (List.Pairwise.of_cons hs) h'
      have e : onZ p f (x :: r) = x :: onZ p f r := by unfold onZ; rw [List.map_cons, if_neg hx]
      rw [e, sumB_cons, sumB_cons]
      omega
/-- What is told of a home is no less than what it holds, and within the quota. -/
structure InQ (h : Pth) (qn qb : Int) (w : WkM) : Prop where
  n : useN h w.t ≤ w.un
  b : useB h w.t ≤ w.ub
  qn : w.un ≤ qn
  qb : w.ub ≤ qb
theorem roomE_zero {qn qb un ub : Int} (h : roomE qn qb un ub = 0) : un ≤ qn ∧ ub ≤ qb := by
  unfold roomE at h
  split at h
  · cases h
  · omega
theorem deleteE_zero {t : ZT} {p : Pth} {v : Int} (h : deleteE t p v = 0) : ∃ n, getZ p t = some n := by
  unfold deleteE at h
  split at h
  · cases h
  · split at h
    · cases h
    · split at h
      · cases h
      · exact ⟨_, by assumption⟩
theorem setE_zero {t : ZT} {p : Pth} {dl : Nat} {v : Int} (h : setE t p dl v = 0) : ∃ n, getZ p t = some n := by
  unfold setE at h
  split at h
  · cases h
  · split at h
    · cases h
    · split at h
      · cases h
      · exact ⟨_, by assumption⟩
theorem one_in {h : Pth} {owner qn qb : Int} {w : WkM} {o : OpM} (hs : SrtZ w.t) (hq : InQ h qn qb w) (h0 : (oneM h owner qn qb w o).1 = 0) : InQ h qn qb (oneM h owner qn qb w o).2 := by
  obtain ⟨q1, q2, q3, q4⟩ := hq
  unfold oneM at h0 ⊢
  by_cases hw : withinE h o = 0
  · rw [if_neg (Decidable.not_not.2 hw)] at h0 ⊢
    obtain ⟨k1, k2, hi, hu⟩ := within_zero hw
    have hF : SrtZ (filt h w.t) := List.Pairwise.filter _ hs
    by_cases e1 : o.kind = 1
    · rw [if_pos e1] at h0 ⊢
      by_cases hE : createE w.t o.path o.data.length (ownerOf owner o) o.seq = 0
      · rw [if_neg (Decidable.not_not.2 hE)] at h0 ⊢
        obtain ⟨r1, r2⟩ := roomE_zero h0
        obtain ⟨up, m, hp, hdl, ho, hg, h3, hh, hqq⟩ := createE_zero hE
        have hin : inH h (createP w.t o.path o.data.length (ownerOf owner o) o.seq) = true := by rw [hqq]; exact place_in hp (hu (.inl e1) up hp) hi h3
        have hfe : filt h (createS w.t o.path o.data (ownerOf owner o) o.seq) = onZ (strO (parentOf o.path)) (fun n => { n with ctr := n.ctr + 1, kids := n.kids + 1 }) (putZ (createP w.t o.path o.data.length (ownerOf owner o) o.seq) ⟨o.data, 0, 0, (ownerOf owner o).toNat, 0⟩ (filt h w.t)) := by
          unfold createS
          rw [if_pos hE, filt_onZ, filt_put hin _ hs]
        obtain ⟨s1, s2⟩ := sumB_on (strO (parentOf o.path)) (fun n => { n with ctr := n.ctr + 1, kids := n.kids + 1 }) (fun _ => rfl) (putZ (createP w.t o.path o.data.length (ownerOf owner o) o.seq) ⟨o.data, 0, 0, (ownerOf owner o).toNat, 0⟩ (filt h w.t))
        obtain ⟨s3, s4⟩ := sumB_put (createP w.t o.path o.data.length (ownerOf owner o) o.seq) ⟨o.data, 0, 0, (ownerOf owner o).toNat, 0⟩ (filt h w.t)
        simp only at s3
        refine ⟨?_, ?_, r1, r2⟩
        · unfold useN at q1 ⊢
          simp only [hfe, s2]
          omega
        · unfold useB at q2 ⊢
          simp only [hfe, s1]
          omega
      · rw [if_pos hE] at h0
        exact absurd h0 hE
    · rw [if_neg e1] at h0 ⊢
      by_cases e2 : o.kind = 2
      · rw [if_pos e2] at h0 ⊢
        by_cases hE : deleteE w.t o.path o.ver = 0
        · rw [if_neg (Decidable.not_not.2 hE)] at h0 ⊢
          obtain ⟨n, hg⟩ := deleteE_zero hE
          have hfe : filt h (deleteS w.t o.path o.ver) = onZ (strO (parentOf o.path)) (fun n => { n with kids := n.kids - 1 }) (cutZ o.path (filt h w.t)) := by
            unfold deleteS
            rw [if_pos hE, filt_onZ, filt_cut]
          have hd : (dataOf w.t o.path).length = n.data.length := by unfold dataOf; rw [hg]
          obtain ⟨s1, s2⟩ := sumB_on (strO (parentOf o.path)) (fun n => { n with kids := n.kids - 1 }) (fun _ => rfl) (cutZ o.path (filt h w.t))
          obtain ⟨s3, s4⟩ := cut_gone (p := o.path) (n := n) (F := filt h w.t) (by rw [getZ_filt hi]; exact hg)
          refine ⟨?_, ?_, ?_, ?_⟩
          · unfold useN at q1 ⊢
            simp only [hfe, s2]
            omega
          · unfold useB at q2 ⊢
            simp only [hfe, s1, hd]
            omega
          · simp only; omega
          · simp only; omega
        · rw [if_pos hE] at h0
          exact absurd h0 hE
      · rw [if_neg e2] at h0 ⊢
        by_cases e3 : o.kind = 3
        · rw [if_pos e3] at h0 ⊢
          by_cases hE : setE w.t o.path o.data.length o.ver = 0
          · rw [if_neg (Decidable.not_not.2 hE)] at h0 ⊢
            obtain ⟨r1, r2⟩ := roomE_zero h0
            obtain ⟨n, hg⟩ := setE_zero hE
            have hfe : filt h (setS w.t o.path o.data o.ver) = onZ o.path (fun n => { n with data := o.data, ver := n.ver + 1 }) (filt h w.t) := by
              unfold setS
              rw [if_pos hE, filt_onZ]
            have hd : (dataOf w.t o.path).length = n.data.length := by unfold dataOf; rw [hg]
            have s1 := sumB_set (p := o.path) (n := n) (f := fun n => { n with data := o.data, ver := n.ver + 1 }) (d := o.data.length) (fun _ => rfl) hF (by rw [getZ_filt hi]; exact hg)
            refine ⟨?_, ?_, r1, r2⟩
            · unfold useN at q1 ⊢
              simp only [hfe]
              unfold onZ
              rw [List.length_map]
              exact q1
            · unfold useB at q2 ⊢
              simp only [hfe, hd]
              omega
          · rw [if_pos hE] at h0
            exact absurd h0 hE
        · rw [if_neg e3] at h0 ⊢
          split at h0
          · cases h0
          · rename_i n hn
            split at h0
            · cases h0
            · rename_i hv
              simp only [if_neg hv]
              exact ⟨q1, q2, q3, q4⟩
  · rw [if_pos hw] at h0
    exact absurd h0 hw
theorem doM_in {h : Pth} {owner qn qb : Int} (os : List OpM) : ∀ (i : Int) (n : Nat) (w : WkM), WF w.t → WB n w.t → InQ h qn qb w → (doM h owner qn qb i w os).1 = 0 → InQ h qn qb (doM h owner qn qb i w os).2.2 := by
  induction os with
  | nil => intro i n w _ _ hq _; exact hq
  | cons o r ih =>
    intro i n w w1 b1 hq h0
    have k1 := oneM_keeps (h := h) (owner := owner) (qn := qn) (qb := qb) w1 b1 o
    rw [doM_cons] at h0 ⊢
    by_cases he : (oneM h owner qn qb w o).1 = 0
    · rw [if_neg (Decidable.not_not.2 he)] at h0 ⊢
      exact ih (i + 1) (n + 1) _ k1.1 k1.2 (one_in w1.srt hq he) h0
    · rw [if_pos he] at h0
      exact absurd h0 he
/-- A transaction keeps the quota that was kept. -/
theorem apply_in {n : Nat} {h : Pth} {owner qn qb : Int} {t : ZT} {os : List OpM} (hw : WF t) (hb : WB n t) (h1 : useN h t ≤ qn) (h2 : useB h t ≤ qb) :
    useN h (applyM h owner qn qb t os).t ≤ qn ∧ useB h (applyM h owner qn qb t os).t ≤ qb := by
  unfold applyM
  split
  · exact ⟨h1, h2⟩
  · split
    · exact ⟨h1, h2⟩
    · split
      · exact ⟨h1, h2⟩
      · rename_i he
        have := doM_in (h := h) (owner := owner) (qn := qn) (qb := qb) os 0 n (work0 h t) hw hb ⟨Int.le_refl _, Int.le_refl _, h1, h2⟩ (Decidable.not_not.1 he)
        exact ⟨Int.le_trans this.n this.qn, Int.le_trans this.b this.qb⟩
theorem apply_keeps {n : Nat} {h : Pth} {owner qn qb : Int} {t : ZT} {os : List OpM} (hw : WF t) (hb : WB n t) : WF (applyM h owner qn qb t os).t ∧ WB (n + os.length) (applyM h owner qn qb t os).t := by
  have h0 : WF t ∧ WB (n + os.length) t := ⟨hw, hb.more (Nat.le_add_right _ _)⟩
  unfold applyM
  split
  · exact h0
  · split
    · exact h0
    · split
      · exact h0
      · exact doM_keeps os 0 n (work0 h t) hw hb
theorem createS_len (t : ZT) (p : Pth) (data : List UInt8) (owner : Int) (seq : Bool) : (createS t p data owner seq).length ≤ t.length + 1 := by
  unfold createS
  split
  · unfold onZ
    rw [List.length_map]
    exact length_putZ _ _ _
  · omega
theorem one_len {h : Pth} {owner qn qb : Int} {w : WkM} {o : OpM} : (oneM h owner qn qb w o).2.t.length ≤ w.t.length + 1 := by
  unfold oneM
  split
  · exact Nat.le_succ _
  · split
    · split
      · exact Nat.le_succ _
      · exact createS_len _ _ _ _ _
    · split
      · split
        · exact Nat.le_succ _
        · show (deleteS w.t o.path o.ver).length ≤ _
          unfold deleteS
          split
          · unfold onZ
            rw [List.length_map]
            exact Nat.le_trans (length_cutZ _ _) (Nat.le_succ _)
          · exact Nat.le_succ _
      · split
        · split
          · exact Nat.le_succ _
          · show (setS w.t o.path o.data o.ver).length ≤ _
            unfold setS
            split
            · unfold onZ
              rw [List.length_map]
              exact Nat.le_succ _
            · exact Nat.le_succ _
        · split
          · exact Nat.le_succ _
          · split
            · exact Nat.le_succ _
            · exact Nat.le_succ _
theorem doM_len {h : Pth} {owner qn qb : Int} (os : List OpM) : ∀ (i : Int) (w : WkM), (doM h owner qn qb i w os).2.2.t.length ≤ w.t.length + os.length := by
  induction os with
  | nil => intro i w; exact Nat.le_refl _
  | cons o r ih =>
    intro i w
    have k := one_len (h := h) (owner := owner) (qn := qn) (qb := qb) (w := w) (o := o)
    rw [doM_cons]
    split
    · simp only [List.length_cons]; omega
    · have := ih (i + 1) (oneM h owner qn qb w o).2
      simp only [List.length_cons]; omega
theorem apply_len (h : Pth) (owner qn qb : Int) (t : ZT) (os : List OpM) : (applyM h owner qn qb t os).t.length ≤ t.length + os.length := by
  unfold applyM
  split
  · exact Nat.le_add_right _ _
  · split
    · exact Nat.le_add_right _ _
    · split
      · exact Nat.le_add_right _ _
      · exact doM_len os 0 (work0 h t)
end Go.Proofs.YtennlckfmgfjbaaGreatDoor
set_option linter.unusedSimpArgs false
set_option linter.unusedVariables false
namespace Go.Proofs.YtennlckfmgfjbaaGreatDoor
open Go.RowKit
/-- A tree in blocks of its own, younger than w0; the blocks of A are none of them. -/
def Tr (A : Nat → Prop) (w0 W : World) (tb : Nat) (t : ZT) (lim : Nat) : Prop := ∃ mb st, ∃ G : Nat → Prop, TreeAt W tb mb st lim G ∧ plainZ st = t ∧ (∀ g, G g → w0.heap.size ≤ g ∧ g < W.heap.size) ∧ Kept w0 W ∧ ∀ g, A g → g < W.heap.size ∧ ¬ G g
section
variable {A B : Nat → Prop} {w0 W W' : World} {wb tb : Nat} {h : Pth} {owner qn qb bad : Int} {m : WkM} {t : ZT} {lim : Nat}
theorem Tr.kept (k : Tr A w0 W tb t lim) (c : Kept W W') : Tr A w0 W' tb t lim := by
  obtain ⟨mb, st, G, a1, a2, a3, a4, a5⟩ := k
  have := c.size
  exact ⟨mb, st, G, a1.kept c, a2, fun g x => ⟨(a3 g x).1, by have := (a3 g x).2; omega⟩, a4.trans c, fun g x => ⟨by have := (a5 g x).1; omega, (a5 g x).2⟩⟩
theorem Tr.old (k : Tr A w0 W tb t lim) : Kept w0 W := by
  obtain ⟨mb, st, G, a1, a2, a3, a4, a5⟩ := k
  exact a4
theorem Tr.less (k : Tr A w0 W tb t lim) (hb : ∀ g, B g → A g) : Tr B w0 W tb t lim := by
  obtain ⟨mb, st, G, a1, a2, a3, a4, a5⟩ := k
  exact ⟨mb, st, G, a1, a2, a3, a4, fun g x => a5 g (hb g x)⟩
theorem Tr.more (k : Tr A w0 W tb t lim) {lim' : Nat} (hl : lim ≤ lim') : Tr A w0 W tb t lim' := by
  obtain ⟨mb, st, G, a1, a⟩ := k
  exact ⟨mb, st, G, a1.more hl, a⟩
/-- New blocks are none of its. -/
theorem Tr.away (k : Tr A w0 W tb t lim) (c : Kept W W') : Tr (fun g => A g ∨ (W.heap.size ≤ g ∧ g < W'.heap.size)) w0 W' tb t lim := by
  obtain ⟨mb, st, G, a1, a2, a3, a4, a5⟩ := k
  have := c.size
  refine ⟨mb, st, G, a1.kept c, a2, fun g x => ⟨(a3 g x).1, by have := (a3 g x).2; omega⟩, a4.trans c, fun g x => ?_⟩
  rcases x with x | x
  · exact ⟨by have := (a5 g x).1; omega, (a5 g x).2⟩
  · exact ⟨x.2, fun y => by have := (a3 g y).2; omega⟩
/-- A change of blocks that are kept apart. -/
theorem Tr.poke (k : Tr A w0 W tb t lim) (c : Chg A W W') (hA : ∀ g, A g → w0.heap.size ≤ g) : Tr A w0 W' tb t lim := by
  obtain ⟨mb, st, G, a1, a2, a3, a4, a5⟩ := k
  have := c.size
  exact ⟨mb, st, G, a1.chg c (fun g x y => (a5 g y).2 x), a2, fun g x => ⟨(a3 g x).1, by have := (a3 g x).2; omega⟩, c.kept a4 hA, fun g x => ⟨by have := (a5 g x).1; omega, (a5 g x).2⟩⟩
end
theorem Tr.set {A : Nat → Prop} {w0 W W' : World} {tb b : Nat} {t : ZT} {lim : Nat} (k : Tr A w0 W tb t lim) (c : Chg (fun g => g = b) W W') (hA : A b) (hb : w0.heap.size ≤ b) : Tr A w0 W' tb t lim := by
  obtain ⟨mb, st, G, a1, a2, a3, a4, a5⟩ := k
  have := c.size
  exact ⟨mb, st, G, a1.chg c (fun g x y => by subst y; exact (a5 _ hA).2 x), a2, fun g x => ⟨(a3 g x).1, by have := (a3 g x).2; omega⟩, c.kept a4 (fun g x => by subst x; exact hb), fun g x => ⟨by have := (a5 g x).1; omega, (a5 g x).2⟩⟩
theorem Tr.under {A : Nat → Prop} {w0 w1 W : World} {tb : Nat} {t : ZT} {lim : Nat} (k : Tr A w1 W tb t lim) (c : Kept w0 w1) : Tr A w0 W tb t lim := by
  obtain ⟨mb, st, G, a1, a2, a3, a4, a5⟩ := k
  have := c.size
  exact ⟨mb, st, G, a1, a2, fun g x => ⟨by have := (a3 g x).1; omega, (a3 g x).2⟩, c.trans a4, a5⟩
/-- Work's block at the start. -/
def wkCells (db : Nat) (h : Pth) (owner un ub qn qb : Int) : Array Value := #[.slice none 0 0, .slice none 0 0, .int .i64 0, .pointer (some ⟨db, 0, none⟩), .string ⟨h.toArray⟩, .int .i64 owner, .int .i64 un, .int .i64 ub, .int .i64 qn, .int .i64 qb]
/-- Work made beside a tree. -/
theorem Tr.work {A : Nat → Prop} {w0 W : World} {wb tb : Nat} {h : Pth} {owner qn qb un ub : Int} {t : ZT} {lim : Nat} (k : Tr A w0 W tb t lim) (hA : A wb) (hw : w0.heap.size ≤ wb) (hb : W.heap[wb]? = some (.cells (wkCells tb h owner un ub qn qb) 72 (0, 0))) :
    Work (fun g => A g ∧ g ≠ wb) w0 W wb tb h owner qn qb 0 ⟨t, un, ub, [], []⟩ lim := by
  obtain ⟨mb, st, G, a1, a2, a3, a4, a5⟩ := k
  exact ⟨mb, st, fun g => g = wb, G, _, _, ⟨hb, World.ownsRow_nil _ _ _ _, World.ownsRow_nil _ _ _ _, rfl, (fun g x => by cases x), (fun g x => by cases x)⟩, a1, a2, fun g x => by subst x; exact ⟨hw, (a5 _ hA).1⟩, a3, fun g x y => by subst x; exact (a5 _ hA).2 y, a4, fun g x => ⟨(a5 g x.1).1, x.2, (a5 g x.1).2⟩⟩
theorem poke10 {w : World} {b : Nat} {a0 a1 a2 a3 a4 a5 a6 a7 a8 a9 : Value} {ty : TypeId} (h : w.heap[b]? = some (.cells #[a0, a1, a2, a3, a4, a5, a6, a7, a8, a9] ty (0, 0))) (v0 v1 v2 v3 v4 v5 v6 v7 v8 v9 : Value) :
    ((((((((((w.setCell ⟨b, 0, none⟩ v0).setCell ⟨b, 1, none⟩ v1).setCell ⟨b, 2, none⟩ v2).setCell ⟨b, 3, none⟩ v3).setCell ⟨b, 4, none⟩ v4).setCell ⟨b, 5, none⟩ v5).setCell ⟨b, 6, none⟩ v6).setCell ⟨b, 7, none⟩ v7).setCell ⟨b, 8, none⟩ v8).setCell ⟨b, 9, none⟩ v9).heap[b]? = some (.cells #[v0, v1, v2, v3, v4, v5, v6, v7, v8, v9] ty (0, 0)) ∧
    Chg (fun g => g = b) w ((((((((((w.setCell ⟨b, 0, none⟩ v0).setCell ⟨b, 1, none⟩ v1).setCell ⟨b, 2, none⟩ v2).setCell ⟨b, 3, none⟩ v3).setCell ⟨b, 4, none⟩ v4).setCell ⟨b, 5, none⟩ v5).setCell ⟨b, 6, none⟩ v6).setCell ⟨b, 7, none⟩ v7).setCell ⟨b, 8, none⟩ v8).setCell ⟨b, 9, none⟩ v9) := by
  have h0 := Lib.heap_setCell_same (i := 0) h v0
  have h1 := Lib.heap_setCell_same (i := 1) h0 v1
  have h2 := Lib.heap_setCell_same (i := 2) h1 v2
  have h3 := Lib.heap_setCell_same (i := 3) h2 v3
  have h4 := Lib.heap_setCell_same (i := 4) h3 v4
  have h5 := Lib.heap_setCell_same (i := 5) h4 v5
  have h6 := Lib.heap_setCell_same (i := 6) h5 v6
  have h7 := Lib.heap_setCell_same (i := 7) h6 v7
  have h8 := Lib.heap_setCell_same (i := 8) h7 v8
  have h9 := Lib.heap_setCell_same (i := 9) h8 v9
  exact ⟨by simpa using h9, ((((((((((Chg.refl (fun g => g = b) w).setCell _ (fun _ => rfl)).setCell _ (fun _ => rfl)).setCell _ (fun _ => rfl)).setCell _ (fun _ => rfl)).setCell _ (fun _ => rfl)).setCell _ (fun _ => rfl)).setCell _ (fun _ => rfl)).setCell _ (fun _ => rfl)).setCell _ (fun _ => rfl)).setCell _ (fun _ => rfl)⟩
def work00 : Obj := .cells #[.slice none 0 0, .slice none 0 0, .int .i64 0, .pointer none, .string ⟨#[]⟩, .int .i64 0, .int .i64 0, .int .i64 0, .int .i64 0, .int .i64 0] 72
/-- The draft beside work's block. -/
def DrB (wa X : World) (b db : Nat) (d : ZT) (L : Nat) (cs : Array Value) : Prop :=
  X.heap[b]? = some (.cells cs 72 (0, 0)) ∧ wa.heap.size ≤ b ∧ b < X.heap.size ∧ Tr (fun g => g < wa.heap.size ∨ g = b) wa X db d L
theorem DrB.new {wa w3 : World} {db : Nat} {d : ZT} {L : Nat} {cs : Array Value} {wk : World} (hk : Kept wa wk) (h : KT wk w3 db d L) : DrB wa (w3.alloc (.cells cs 72)) w3.heap.size db d L cs := by
  obtain ⟨mb, st, G, a1, a2, a3, a4⟩ := h
  have s0 := hk.size
  have s1 := a4.size
  have c := (Kept.refl w3).alloc (.cells cs 72)
  have sc : (w3.alloc (.cells cs 72)).heap.size = w3.heap.size + 1 := by simp
  refine ⟨heap_alloc_new w3 _, by omega, by omega, mb, st, G, a1.kept c, a2, fun g x => ⟨by have := (a3 g x).1; omega, by have := (a3 g x).2; omega⟩, (hk.trans a4).trans c, fun g x => ⟨by omega, fun y => by have := a3 g y; omega⟩⟩
theorem DrB.old {wa wk w3 X : World} {b db : Nat} {d : ZT} {L : Nat} {cs : Array Value} (hk : Kept wa wk) (h : KT wk w3 db d L) (hb : wa.heap.size ≤ b ∧ b < wk.heap.size) (hx : X.heap[b]? = some (.cells cs 72 (0, 0))) (c : Chg (fun g => g = b) w3 X) : DrB wa X b db d L cs := by
  obtain ⟨mb, st, G, a1, a2, a3, a4⟩ := h
  have s0 := hk.size
  have s1 := a4.size
  have s2 := c.size
  refine ⟨hx, hb.1, by omega, mb, st, G, a1.chg c (fun g x y => by have := a3 g x; omega), a2, fun g x => ⟨by have := (a3 g x).1; omega, by have := (a3 g x).2; omega⟩, c.kept (hk.trans a4) (fun g x => by omega), fun g x => ⟨by omega, fun y => by have := a3 g y; omega⟩⟩
def ApplyTo (A : Nat → Prop) (w0 : World) (tb : Nat) (a : ApM) (lim : Nat) (W : World) (e : Ending) (w' : World) : Prop :=
  ∃ rv ev, ∃ H : Nat → Prop, e = .returned (.tuple #[.agg #[rv, ev, .int .i64 a.bad], .int .i64 a.err]) ∧ w'.ownsRow 0 48 2 rv a.res.length (cellsR a.res) ∧ w'.ownsRow 0 58 2 ev a.eff.length (cellsE a.eff) ∧
    (∀ g, rv.ownBlock = some g → H g) ∧ (∀ g, ev.ownBlock = some g → H g) ∧ (∀ g, H g → w0.heap.size ≤ g ∧ ¬ A g) ∧ Tr (fun g => A g ∨ H g) w0 w' tb a.t lim ∧ Apart A W w'
end Go.Proofs.YtennlckfmgfjbaaGreatDoor
