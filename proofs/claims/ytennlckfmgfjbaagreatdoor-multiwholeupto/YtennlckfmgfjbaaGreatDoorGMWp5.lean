/- A transaction is its ops one by one: plain data. No program in it. Two trees beside each other, what is kept apart of both; transactions of either. What MultiWhole's walk needs beside: the outcome of one op, its block beside both trees. The walk of MultiWhole. How texts and one transaction are opened with their bulk; the row of MultiWhole. -/
import Derived.Test.YtennlckfmgfjbaaGreatDoorGMAp3
import Derived.Test.YtennlckfmgfjbaaGreatDoorGMSa3
import Derived.Test.YtennlckfmgfjbaaGreatDoorGApp3
import Derived.Deep.CutBlock
import Derived.Deep.DeepCutAuto
import Derived.Test.YtennlckfmgfjbaaGreatDoorGMBw2
set_option linter.unusedSimpArgs false
set_option linter.unusedVariables false
namespace Go.Proofs.YtennlckfmgfjbaaGreatDoor
theorem one_low {h : Pth} {owner qn qb : Int} {w : WkM} {o : OpM} (hs : SrtZ w.t) (hq : useN h w.t ≤ w.un ∧ useB h w.t ≤ w.ub) (h0 : (oneM h owner qn qb w o).1 = 0) : useN h (oneM h owner qn qb w o).2.t ≤ (oneM h owner qn qb w o).2.un ∧ useB h (oneM h owner qn qb w o).2.t ≤ (oneM h owner qn qb w o).2.ub := by
  obtain ⟨q1, q2⟩ := hq
  unfold oneM at h0 ⊢
  by_cases hw : withinE h o = 0
  · rw [if_neg (Decidable.not_not.2 hw)] at h0 ⊢
    obtain ⟨k1, k2, hi, hu⟩ := within_zero hw
    have hF : SrtZ (filt h w.t) := List.Pairwise.filter _ hs
    by_cases e1 : o.kind = 1
    · rw [if_pos e1] at h0 ⊢
      by_cases hE : createE w.t o.path o.data.length (ownerOf owner o) o.seq = 0
      · rw [if_neg (Decidable.not_not.2 hE)] at h0 ⊢
        obtain ⟨r1, r2⟩ := roomE_zero h0
        obtain ⟨up, m, hp, hdl, ho, hg, h3, hh, hqq⟩ := createE_zero hE
        have hin : inH h (createP w.t o.path o.data.length (ownerOf owner o) o.seq) = true := by rw [hqq]; exact place_in hp (hu (.inl e1) up hp) hi h3
        have hfe : filt h (createS w.t o.path o.data (ownerOf owner o) o.seq) = onZ (strO (parentOf o.path)) (fun n => { n with ctr := n.ctr + 1, kids := n.kids + 1 }) (putZ (createP w.t o.path o.data.length (ownerOf owner o) o.seq) ⟨o.data, 0, 0, (ownerOf owner o).toNat, 0⟩ (filt h w.t)) := by
          unfold createS
          rw [if_pos hE, filt_onZ, filt_put hin _ hs]
        obtain ⟨s1, s2⟩ := sumB_on (strO (parentOf o.path)) (fun n => { n with ctr := n.ctr + 1, kids := n.kids + 1 }) (fun _ => rfl) (putZ (createP w.t o.path o.data.length (ownerOf owner o) o.seq) ⟨o.data, 0, 0, (ownerOf owner o).toNat, 0⟩ (filt h w.t))
        obtain ⟨s3, s4⟩ := sumB_put (createP w.t o.path o.data.length (ownerOf owner o) o.seq) ⟨o.data, 0, 0, (ownerOf owner o).toNat, 0⟩ (filt h w.t)
        simp only at s3
        refine ⟨?_, ?_⟩
        · unfold useN at q1 ⊢
          simp only [hfe, s2]
          omega
        · unfold useB at q2 ⊢
          simp only [hfe, s1]
          omega
      · rw [if_pos hE] at h0
        exact absurd h0 hE
    · rw [if_neg e1] at h0 ⊢
      by_cases e2 : o.kind = 2
      · rw [if_pos e2] at h0 ⊢
        by_cases hE : deleteE w.t o.path o.ver = 0
        · rw [if_neg (Decidable.not_not.2 hE)] at h0 ⊢
          obtain ⟨n, hg⟩ := deleteE_zero hE
          have hfe : filt h (deleteS w.t o.path o.ver) = onZ (strO (parentOf o.path)) (fun n => { n with kids := n.kids - 1 }) (cutZ o.path (filt h w.t)) := by
            unfold deleteS
            rw [if_pos hE, filt_onZ, filt_cut]
          have hd : (dataOf w.t o.path).length = n.data.length := by unfold dataOf; rw [hg]
          obtain ⟨s1, s2⟩ := sumB_on (strO (parentOf o.path)) (fun n => { n with kids := n.kids - 1 }) (fun _ => rfl) (cutZ o.path (filt h w.t))
          obtain ⟨s3, s4⟩ := cut_gone (p := o.path) (n := n) (F := filt h w.t) (by rw [getZ_filt hi]; exact hg)
          refine ⟨?_, ?_⟩
          · unfold useN at q1 ⊢
            simp only [hfe, s2]
            omega
          · unfold useB at q2 ⊢
            simp only [hfe, s1, hd]
            omega
        · rw [if_pos hE] at h0
          exact absurd h0 hE
      · rw [if_neg e2] at h0 ⊢
        by_cases e3 : o.kind = 3
        · rw [if_pos e3] at h0 ⊢
          by_cases hE : setE w.t o.path o.data.length o.ver = 0
          · rw [if_neg (Decidable.not_not.2 hE)] at h0 ⊢
            obtain ⟨r1, r2⟩ := roomE_zero h0
            obtain ⟨n, hg⟩ := setE_zero hE
            have hfe : filt h (setS w.t o.path o.data o.ver) = onZ o.path (fun n => { n with data := o.data, ver := n.ver + 1 }) (filt h w.t) := by
              unfold setS
              rw [if_pos hE, filt_onZ]
            have hd : (dataOf w.t o.path).length = n.data.length := by unfold dataOf; rw [hg]
            have s1 := sumB_set (p := o.path) (n := n) (f := fun n => { n with data := o.data, ver := n.ver + 1 }) (d := o.data.length) (fun _ => rfl) hF (by rw [getZ_filt hi]; exact hg)
            refine ⟨?_, ?_⟩
            · unfold useN at q1 ⊢
              simp only [hfe]
              unfold onZ
              rw [List.length_map]
              exact q1
            · unfold useB at q2 ⊢
              simp only [hfe, hd]
              omega
          · rw [if_pos hE] at h0
            exact absurd h0 hE
        · rw [if_neg e3] at h0 ⊢
          split at h0
          · cases h0
          · rename_i n hn
            split at h0
            · cases h0
            · rename_i hv
              simp only [if_neg hv]
              exact ⟨q1, q2⟩
  · rw [if_pos hw] at h0
    exact absurd h0 hw
section
variable {h : Pth} {owner qn qb : Int}
theorem room_less {un ub un' ub' : Int} (h1 : un' ≤ un) (h2 : ub' ≤ ub) (h0 : roomE qn qb un ub = 0) : roomE qn qb un' ub' = 0 := by
  have := roomE_zero h0
  unfold roomE
  rw [if_neg (by omega)]
/-- One op does the same beside less that is told of the home. -/
theorem one_again {w w' : WkM} {o : OpM} (ht : w'.t = w.t) (hn : w'.un ≤ w.un) (hb : w'.ub ≤ w.ub) (h0 : (oneM h owner qn qb w o).1 = 0) :
    (oneM h owner qn qb w' o).1 = 0 ∧ (oneM h owner qn qb w' o).2.t = (oneM h owner qn qb w o).2.t ∧ ∃ r, (oneM h owner qn qb w o).2.res = w.res ++ [r] ∧ (oneM h owner qn qb w' o).2.res = w'.res ++ [r] := by
  unfold oneM at h0 ⊢
  rw [ht]
  by_cases hw : withinE h o = 0
  · rw [if_neg (Decidable.not_not.2 hw)] at h0
    rw [if_neg (Decidable.not_not.2 hw), if_neg (Decidable.not_not.2 hw)]
    by_cases e1 : o.kind = 1
    · rw [if_pos e1] at h0
      rw [if_pos e1, if_pos e1]
      by_cases hE : createE w.t o.path o.data.length (ownerOf owner o) o.seq = 0
      · rw [if_neg (Decidable.not_not.2 hE)] at h0
        rw [if_neg (Decidable.not_not.2 hE), if_neg (Decidable.not_not.2 hE)]
        exact ⟨room_less (by omega) (by omega) h0, rfl, _, rfl, rfl⟩
      · rw [if_pos hE] at h0
        exact absurd h0 hE
    · rw [if_neg e1] at h0
      rw [if_neg e1, if_neg e1]
      by_cases e2 : o.kind = 2
      · rw [if_pos e2] at h0
        rw [if_pos e2, if_pos e2]
        by_cases hE : deleteE w.t o.path o.ver = 0
        · rw [if_neg (Decidable.not_not.2 hE), if_neg (Decidable.not_not.2 hE)]
          exact ⟨rfl, rfl, _, rfl, rfl⟩
        · rw [if_pos hE] at h0
          exact absurd h0 hE
      · rw [if_neg e2] at h0
        rw [if_neg e2, if_neg e2]
        by_cases e3 : o.kind = 3
        · rw [if_pos e3] at h0
          rw [if_pos e3, if_pos e3]
          by_cases hE : setE w.t o.path o.data.length o.ver = 0
          · rw [if_neg (Decidable.not_not.2 hE)] at h0
            rw [if_neg (Decidable.not_not.2 hE), if_neg (Decidable.not_not.2 hE)]
            exact ⟨room_less hn (by omega) h0, rfl, _, rfl, rfl⟩
          · rw [if_pos hE] at h0
            exact absurd h0 hE
        · rw [if_neg e3] at h0
          rw [if_neg e3, if_neg e3]
          cases hg : getZ o.path w.t with
          | none => rw [hg] at h0; cases h0
          | some n =>
            rw [hg] at h0
            simp only at h0 ⊢
            by_cases hv : verOK o.ver n = false
            · rw [if_pos hv] at h0; cases h0
            · rw [if_neg hv, if_neg hv]
              exact ⟨rfl, rfl, _, rfl, rfl⟩
  · rw [if_pos hw] at h0
    exact absurd h0 hw
/-- The works behind the first ops. -/
def runW (h : Pth) (owner qn qb : Int) (w : WkM) (os : List OpM) : WkM := os.foldl (fun w o => (oneM h owner qn qb w o).2) w
theorem doM_run (os : List OpM) : ∀ (i : Int) (n : Nat) (w : WkM), WF w.t → WB n w.t → useN h w.t ≤ w.un ∧ useB h w.t ≤ w.ub → (doM h owner qn qb i w os).1 = 0 →
    (doM h owner qn qb i w os).2.2 = runW h owner qn qb w os ∧ ∃ rs : List (Pth × Int), rs.length = os.length ∧ (runW h owner qn qb w os).res = w.res ++ rs ∧
      ∀ k (hk : k < os.length) r, rs[k]? = some r → (doM h owner qn qb 0 (work0 h (runW h owner qn qb w (os.take k)).t) [os[k]]).1 = 0 ∧ (doM h owner qn qb 0 (work0 h (runW h owner qn qb w (os.take k)).t) [os[k]]).2.2.t = (runW h owner qn qb w (os.take (k + 1))).t ∧ (doM h owner qn qb 0 (work0 h (runW h owner qn qb w (os.take k)).t) [os[k]]).2.2.res = [r] := by
  induction os with
  | nil => intro i n w _ _ _ _; exact ⟨rfl, [], rfl, by simp [runW], fun k hk => absurd hk (by simp)⟩
  | cons o os ih =>
    intro i n w w1 b1 hq h0
    have k1 := oneM_keeps (h := h) (owner := owner) (qn := qn) (qb := qb) w1 b1 o
    rw [doM_cons] at h0 ⊢
    by_cases he : (oneM h owner qn qb w o).1 = 0
    · rw [if_neg (Decidable.not_not.2 he)] at h0 ⊢
      obtain ⟨i1, rs, i2, i3, i4⟩ := ih (i + 1) (n + 1) _ k1.1 k1.2 (one_low w1.srt hq he) h0
      obtain ⟨r, a1, -⟩ := one_again (w := w) (w' := w) rfl (Int.le_refl _) (Int.le_refl _) he |>.2.2
      refine ⟨i1, r :: rs, by simp [i2], ?_, fun k hk r' hr => ?_⟩
      · show (runW h owner qn qb (oneM h owner qn qb w o).2 os).res = _
        rw [i3, a1]
        simp
      · cases k with
        | zero =>
          obtain ⟨c1, c2, r2, c3, c4⟩ := one_again (w := w) (w' := work0 h w.t) rfl hq.1 hq.2 he
          obtain rfl : r = r' := by simpa using hr
          have hrr : r2 = r := by
            rw [a1] at c3
            simpa using c3.symm
          simp only [List.take_zero, List.getElem_cons_zero, runW, List.foldl_nil]
          rw [doM_cons, if_neg (Decidable.not_not.2 c1)]
          refine ⟨rfl, ?_, ?_⟩
          · exact c2
          · show (oneM h owner qn qb (work0 h w.t) o).2.res = _
            rw [c4, hrr]
            rfl
        | succ k => exact i4 k (by simpa using hk) r' (by simpa using hr)
    · rw [if_pos he] at h0
      exact absurd h0 he
/-- A transaction that doesn't fail has done each of its ops, as if they had been done one by one. -/
theorem apply_whole {n : Nat} {t : ZT} {os : List OpM} (hw : WF t) (hb : WB n t) (h0 : (applyM h owner qn qb t os).err = 0) : ∃ T : Nat → ZT, T 0 = t ∧ T os.length = (applyM h owner qn qb t os).t ∧ (applyM h owner qn qb t os).res.length = os.length ∧
    ∀ k (hk : k < os.length) r, (applyM h owner qn qb t os).res[k]? = some r → (applyM h owner qn qb (T k) [os[k]]).err = 0 ∧ (applyM h owner qn qb (T k) [os[k]]).t = T (k + 1) ∧ (applyM h owner qn qb (T k) [os[k]]).res = [r] := by
  unfold applyM at h0
  split at h0
  · cases h0
  · rename_i c1
    split at h0
    · cases h0
    · rename_i c2
      split at h0
      · rename_i c3
        exact absurd h0 c3
      · rename_i c3
        have c3 := Decidable.not_not.1 c3
        obtain ⟨i1, rs, i2, i3, i4⟩ := doM_run (h := h) (owner := owner) (qn := qn) (qb := qb) os 0 n (work0 h t) hw hb ⟨Int.le_refl _, Int.le_refl _⟩ c3
        have ha : applyM h owner qn qb t os = ⟨0, (doM h owner qn qb 0 (work0 h t) os).2.1, (doM h owner qn qb 0 (work0 h t) os).2.2.t, (doM h owner qn qb 0 (work0 h t) os).2.2.res, (doM h owner qn qb 0 (work0 h t) os).2.2.eff⟩ := by
          unfold applyM
          rw [if_neg c1, if_neg c2, if_neg (Decidable.not_not.2 c3)]
        have hres : (applyM h owner qn qb t os).res = rs := by
          rw [ha]
          simp only
          rw [i1, i3]
          rfl
        refine ⟨fun k => (runW h owner qn qb (work0 h t) (os.take k)).t, rfl, ?_, by rw [hres]; exact i2, fun k hk r hr => ?_⟩
        · rw [ha]
          simp only
          rw [i1, List.take_length]
        · rw [hres] at hr
          obtain ⟨j1, j2, j3⟩ := i4 k hk r hr
          have hb1 : applyM h owner qn qb (runW h owner qn qb (work0 h t) (os.take k)).t [os[k]] = ⟨0, (doM h owner qn qb 0 (work0 h (runW h owner qn qb (work0 h t) (os.take k)).t) [os[k]]).2.1, (doM h owner qn qb 0 (work0 h (runW h owner qn qb (work0 h t) (os.take k)).t) [os[k]]).2.2.t, (doM h owner qn qb 0 (work0 h (runW h owner qn qb (work0 h t) (os.take k)).t) [os[k]]).2.2.res, (doM h owner qn qb 0 (work0 h (runW h owner qn qb (work0 h t) (os.take k)).t) [os[k]]).2.2.eff⟩ := by
            unfold applyM
            rw [if_neg (by simp), if_neg c2, if_neg (Decidable.not_not.2 j1)]
          simp only
          rw [hb1]
          exact ⟨rfl, j2, j3⟩
/-- A transaction that fails leaves all as it was. -/
theorem apply_none {t : ZT} {os : List OpM} (h0 : (applyM h owner qn qb t os).err ≠ 0) : (applyM h owner qn qb t os).t = t ∧ (applyM h owner qn qb t os).res = [] ∧ (applyM h owner qn qb t os).eff = [] := by
  unfold applyM at h0 ⊢
  split
  · exact ⟨rfl, rfl, rfl⟩
  · split
    · exact ⟨rfl, rfl, rfl⟩
    · split
      · exact ⟨rfl, rfl, rfl⟩
      · rename_i c1 c2 c3
        rw [if_neg c1, if_neg c2, if_neg c3] at h0
        exact absurd rfl h0
end
end Go.Proofs.YtennlckfmgfjbaaGreatDoor
set_option linter.unusedSimpArgs false
set_option linter.unusedVariables false
namespace Go.Proofs.YtennlckfmgfjbaaGreatDoor
open Go.RowKit
def Two (A : Nat → Prop) (w0 W : World) (tb ub : Nat) (t1 t2 : ZT) (l1 l2 : Nat) : Prop := ∃ mb1 st1, ∃ F1 : Nat → Prop, ∃ mb2 st2, ∃ F2 : Nat → Prop,
  TreeAt W tb mb1 st1 l1 F1 ∧ TreeAt W ub mb2 st2 l2 F2 ∧ plainZ st1 = t1 ∧ plainZ st2 = t2 ∧ (∀ g, F1 g → w0.heap.size ≤ g ∧ g < W.heap.size) ∧ (∀ g, F2 g → w0.heap.size ≤ g ∧ g < W.heap.size) ∧ (∀ g, F1 g → ¬ F2 g) ∧ Kept w0 W ∧ (∀ g, A g → g < W.heap.size ∧ ¬ F1 g ∧ ¬ F2 g)
section
variable {A B : Nat → Prop} {w0 W W' : World} {tb ub : Nat} {t1 t2 : ZT} {l1 l2 : Nat}
theorem Two.kept (h : Two A w0 W tb ub t1 t2 l1 l2) (k : Kept W W') : Two A w0 W' tb ub t1 t2 l1 l2 := by
  obtain ⟨mb1, st1, F1, mb2, st2, F2, a1, a2, a3, a4, a5, a6, a7, a8, a9⟩ := h
  have := k.size
  exact ⟨mb1, st1, F1, mb2, st2, F2, a1.kept k, a2.kept k, a3, a4, fun g x => ⟨(a5 g x).1, by have := (a5 g x).2; omega⟩, fun g x => ⟨(a6 g x).1, by have := (a6 g x).2; omega⟩, a7, a8.trans k, fun g x => ⟨by have := (a9 g x).1; omega, (a9 g x).2⟩⟩
theorem Two.more (h : Two A w0 W tb ub t1 t2 l1 l2) {l1' l2' : Nat} (h1 : l1 ≤ l1') (h2 : l2 ≤ l2') : Two A w0 W tb ub t1 t2 l1' l2' := by
  obtain ⟨mb1, st1, F1, mb2, st2, F2, a1, a2, a⟩ := h
  exact ⟨mb1, st1, F1, mb2, st2, F2, a1.more h1, a2.more h2, a⟩
theorem Two.old (h : Two A w0 W tb ub t1 t2 l1 l2) : Kept w0 W := by
  obtain ⟨mb1, st1, F1, mb2, st2, F2, a1, a2, a3, a4, a5, a6, a7, a8, a9⟩ := h
  exact a8
theorem Two.less (h : Two A w0 W tb ub t1 t2 l1 l2) (hb : ∀ g, B g → A g) : Two B w0 W tb ub t1 t2 l1 l2 := by
  obtain ⟨mb1, st1, F1, mb2, st2, F2, a1, a2, a3, a4, a5, a6, a7, a8, a9⟩ := h
  exact ⟨mb1, st1, F1, mb2, st2, F2, a1, a2, a3, a4, a5, a6, a7, a8, fun g x => a9 g (hb g x)⟩
theorem Two.swap (h : Two A w0 W tb ub t1 t2 l1 l2) : Two A w0 W ub tb t2 t1 l2 l1 := by
  obtain ⟨mb1, st1, F1, mb2, st2, F2, a1, a2, a3, a4, a5, a6, a7, a8, a9⟩ := h
  exact ⟨mb2, st2, F2, mb1, st1, F1, a2, a1, a4, a3, a6, a5, fun g x y => a7 g y x, a8, fun g x => ⟨(a9 g x).1, (a9 g x).2.2, (a9 g x).2.1⟩⟩
/-- New blocks are none of theirs. -/
theorem Two.away (h : Two A w0 W tb ub t1 t2 l1 l2) (k : Kept W W') : Two (fun g => A g ∨ (W.heap.size ≤ g ∧ g < W'.heap.size)) w0 W' tb ub t1 t2 l1 l2 := by
  obtain ⟨mb1, st1, F1, mb2, st2, F2, a1, a2, a3, a4, a5, a6, a7, a8, a9⟩ := h
  have := k.size
  refine ⟨mb1, st1, F1, mb2, st2, F2, a1.kept k, a2.kept k, a3, a4, fun g x => ⟨(a5 g x).1, by have := (a5 g x).2; omega⟩, fun g x => ⟨(a6 g x).1, by have := (a6 g x).2; omega⟩, a7, a8.trans k, fun g x => ?_⟩
  rcases x with x | x
  · exact ⟨by have := (a9 g x).1; omega, (a9 g x).2⟩
  · exact ⟨x.2, fun y => by have := (a5 g y).2; omega, fun y => by have := (a6 g y).2; omega⟩
/-- A tree, and a younger one. -/
theorem Two.of (h : Tr A w0 W tb t1 l1) (k : KT W W' ub t2 l2) : Two A w0 W' tb ub t1 t2 l1 l2 := by
  obtain ⟨mb1, st1, F1, a1, a2, a3, a4, a5⟩ := h
  obtain ⟨mb2, st2, F2, b1, b2, b3, b4⟩ := k
  have := b4.size
  have := a4.size
  exact ⟨mb1, st1, F1, mb2, st2, F2, a1.kept b4, b1, a2, b2, fun g x => ⟨(a3 g x).1, by have := (a3 g x).2; omega⟩, fun g x => ⟨by have := (b3 g x).1; omega, (b3 g x).2⟩, fun g x y => by have := (a3 g x).2; have := (b3 g y).1; omega, a4.trans b4, fun g x => ⟨by have := (a5 g x).1; omega, (a5 g x).2, fun y => by have := (a5 g x).1; have := (b3 g y).1; omega⟩⟩
/-- A change of blocks that are kept apart of both. -/
theorem Two.poke (h : Two A w0 W tb ub t1 t2 l1 l2) {b : Nat} (c : Chg (fun g => g = b) W W') (hA : A b) (hb : w0.heap.size ≤ b) : Two A w0 W' tb ub t1 t2 l1 l2 := by
  obtain ⟨mb1, st1, F1, mb2, st2, F2, a1, a2, a3, a4, a5, a6, a7, a8, a9⟩ := h
  have := c.size
  have hn := a9 b hA
  exact ⟨mb1, st1, F1, mb2, st2, F2, a1.chg c (fun g x y => hn.2.1 (y ▸ x)), a2.chg c (fun g x y => hn.2.2 (y ▸ x)), a3, a4, fun g x => ⟨(a5 g x).1, by have := (a5 g x).2; omega⟩, fun g x => ⟨(a6 g x).1, by have := (a6 g x).2; omega⟩, a7, c.kept a8 (fun g x => by subst x; exact hb), fun g x => ⟨by have := (a9 g x).1; omega, (a9 g x).2⟩⟩
end
/-- What a transaction of the first of two trees leaves. -/
def TwoTo (A : Nat → Prop) (w0 : World) (tb ub : Nat) (a : ApM) (t2 : ZT) (l1 l2 : Nat) (Wc : World) (e : Ending) (w' : World) : Prop :=
  ∃ rv ev, ∃ H : Nat → Prop, e = .returned (.tuple #[.agg #[rv, ev, .int .i64 a.bad], .int .i64 a.err]) ∧ w'.ownsRow 0 48 2 rv a.res.length (cellsR a.res) ∧ w'.ownsRow 0 58 2 ev a.eff.length (cellsE a.eff) ∧
    (∀ g, rv.ownBlock = some g → H g) ∧ (∀ g, ev.ownBlock = some g → H g) ∧ (∀ g, H g → ¬ A g) ∧ Two (fun g => A g ∨ H g) w0 w' tb ub a.t t2 l1 l2 ∧ Apart A Wc w'
theorem Two.apply {A : Nat → Prop} {w0 W Wc : World} {tb ub : Nat} {t1 t2 : ZT} {l1 l2 nn : Nat} (hT : Two A w0 W tb ub t1 t2 l1 l2) (hw : WF t1) (hb : WB nn t1) (hnn : nn ≤ 4611686018427387903) (h : Pth) (hh : h.length ≤ maxLen) (owner qn qb : Int) (xs : List OpX) (v : Value) {base : Nat} (hbase : W.heap.size ≤ base) (hv : OpsAt base Wc v xs) (kc : Kept W Wc) (htab : TbZ w0) {ml : Int} (hml : w0.cell? ⟨1, 0, none⟩ = some (.int .i64 ml)) (hlim : l1 ≤ 8000000000000) (hfew : t1.length ≤ 8000000) :
    Calls Tryz.prog 7 #[.pointer (some ⟨tb, 0, none⟩), .string ⟨h.toArray⟩, .int .i64 owner, .agg #[.int .i64 qn, .int .i64 qb], v] Wc (TwoTo (fun g => A g ∨ (W.heap.size ≤ g ∧ g < Wc.heap.size)) w0 tb ub (applyM h owner qn qb t1 (plainO xs)) t2 (l1 + 16) l2 Wc) := by
  have hTa := hT.away kc
  obtain ⟨mb1, st1, F1, mb2, st2, F2, a1, a2, a3, a4, a5, a6, a7, a8, a9⟩ := hTa
  have hTr : Tr (fun g => (A g ∨ (W.heap.size ≤ g ∧ g < Wc.heap.size)) ∨ F2 g) w0 Wc tb t1 l1 := ⟨mb1, st1, F1, a1, a3, a5, a8, fun g x => by
    rcases x with x | x
    · exact ⟨(a9 g x).1, (a9 g x).2.1⟩
    · exact ⟨(a6 g x).2, fun y => a7 g y x⟩⟩
  refine (apply_any hTr hw hb hnn h hh owner qn qb xs v (fun X hX => hv.ops8 (fun g h1 h2 => hX.block g h2 (fun x => x (.inl (.inr ⟨by omega, h2⟩))))) htab hml hlim hfew (enc_few hw hb (Nat.le_refl _) hfew)).mono ?_
  rintro e w' ⟨rv, ev, H, rfl, b1, b2, b3, b4, b5, htr, hap⟩
  obtain ⟨mb3, st3, F3, c1, c2, c3, c4, c5⟩ := htr
  have hs := hap.size
  refine ⟨rv, ev, H, rfl, b1, b2, b3, b4, fun g x y => (b5 g x).2 (.inl y), ⟨mb3, st3, F3, mb2, st2, F2, c1, a2.chg hap (fun g x y => y (.inr x)), c2, a4, c3, fun g x => ⟨(a6 g x).1, by have := (a6 g x).2; omega⟩, fun g x y => (c5 g (.inl (.inr y))).2 x, c4, fun g x => ?_⟩, hap.less fun g x => .inl x⟩
  rcases x with x | x
  · exact ⟨(c5 g (.inl (.inl x))).1, (c5 g (.inl (.inl x))).2, (a9 g x).2.2⟩
  · exact ⟨(c5 g (.inr x)).1, (c5 g (.inr x)).2, fun y => (b5 g x).2 (.inr y)⟩
/-- The bytes of a tree. -/
theorem Tr.encode {A : Nat → Prop} {w0 W X : World} {tb : Nat} {t : ZT} {lim nn : Nat} (hT : Tr A w0 W tb t lim) (k : Kept W X) (hw : WF t) (hb : WB nn t) (hnn : nn ≤ 4611686018427387903) (hlim : lim ≤ 8000000000000) (hfew : t.length ≤ 8000000) :
    Calls Tryz.prog 9 #[.pointer (some ⟨tb, 0, none⟩)] X fun e w' => ∃ u, e = .returned u ∧ w'.ownsRow X.heap.size 5 1 u (encT t).length (Lib.byteCells (encT t)) ∧ Kept X w' := by
  obtain ⟨mb, st, G, a1, rfl, -⟩ := hT
  have h2 := encT_few hw hb (Nat.le_refl _)
  have h3 : 429 * (plainZ st).length ≤ 429 * 8000000 := Nat.mul_le_mul_left _ hfew
  have := encode_any X tb mb st lim G (a1.kept k) hlim (by omega)
  rw [encodeP_good hb hnn] at this
  exact this
theorem Two.first {A : Nat → Prop} {w0 W : World} {tb ub : Nat} {t1 t2 : ZT} {l1 l2 : Nat} (h : Two A w0 W tb ub t1 t2 l1 l2) : Tr A w0 W tb t1 l1 := by
  obtain ⟨mb1, st1, F1, mb2, st2, F2, a1, a2, a3, a4, a5, a6, a7, a8, a9⟩ := h
  exact ⟨mb1, st1, F1, a1, a3, a5, a8, fun g x => ⟨(a9 g x).1, (a9 g x).2.1⟩⟩
/-- An outcome's block at the start. -/
def out00 : Obj := .cells #[.slice none 0 0, .slice none 0 0, .int .i64 0] 34
/-- The outcome in a block of its own, beside both trees and the bytes l. -/
def OutAt (AW : Nat → Prop) (W0 : World) (tb ub : Nat) (am : ApM) (t2 : ZT) (l1 l2 : Nat) (was : Value) (l : List UInt8) (base : Nat) (X : World) (b : Nat) : Prop :=
  ∃ Ar cr Ae ce, ∃ A' : Nat → Prop, X.heap[b]? = some (.cells #[.slice Ar am.res.length cr, .slice Ae am.eff.length ce, .int .i64 am.bad] 34 (0, 0)) ∧ X.ownsRow 0 48 2 (.slice Ar am.res.length cr) am.res.length (cellsR am.res) ∧
    Two A' W0 X tb ub am.t t2 l1 l2 ∧ A' b ∧ (∀ g, AW g → A' g) ∧ (∀ g, (Value.slice Ar am.res.length cr).ownBlock = some g → A' g) ∧ X.ownsRow base 5 1 was l.length (Lib.byteCells l)
section
variable {AW : Nat → Prop} {W0 W Wc w4 : World} {tb ub : Nat} {am : ApM} {t2 : ZT} {l1 l2 : Nat} {was : Value} {l : List UInt8} {base : Nat} {H : Nat → Prop} {Ar Ae : Option Addr} {cr ce : Nat}
theorem OutAt.new (hr : w4.ownsRow 0 48 2 (.slice Ar am.res.length cr) am.res.length (cellsR am.res)) (hH : ∀ g, (Value.slice Ar am.res.length cr).ownBlock = some g → H g) (hT : Two (fun g => (AW g ∨ (W.heap.size ≤ g ∧ g < Wc.heap.size)) ∨ H g) W0 w4 tb ub am.t t2 l1 l2) (hap : Apart (fun g => AW g ∨ (W.heap.size ≤ g ∧ g < Wc.heap.size)) Wc w4)
    (hw : Wc.ownsRow base 5 1 was l.length (Lib.byteCells l)) (hwa : ∀ g, was.ownBlock = some g → AW g) : OutAt AW W0 tb ub am t2 l1 l2 was l base (w4.alloc (.cells #[.slice Ar am.res.length cr, .slice Ae am.eff.length ce, .int .i64 am.bad] 34)) w4.heap.size := by
  have k := (Kept.refl w4).alloc (.cells #[.slice Ar am.res.length cr, .slice Ae am.eff.length ce, .int .i64 am.bad] 34)
  exact ⟨Ar, cr, Ae, ce, _, heap_alloc_new w4 _, own_kept hr k, hT.away k, .inr ⟨Nat.le_refl _, by simp⟩, fun g x => .inl (.inl (.inl x)), fun g x => .inl (.inr (hH g x)), own_kept (own_chg hw hap (fun g x y => y (.inl (hwa g x)))) k⟩
theorem OutAt.past {b : Nat} (hr : w4.ownsRow 0 48 2 (.slice Ar am.res.length cr) am.res.length (cellsR am.res)) (hH : ∀ g, (Value.slice Ar am.res.length cr).ownBlock = some g → H g) (hHb : ∀ g, H g → ¬ (AW g ∨ (W.heap.size ≤ g ∧ g < Wc.heap.size))) (hT : Two (fun g => (AW g ∨ (W.heap.size ≤ g ∧ g < Wc.heap.size)) ∨ H g) W0 w4 tb ub am.t t2 l1 l2) (hap : Apart (fun g => AW g ∨ (W.heap.size ≤ g ∧ g < Wc.heap.size)) Wc w4)
    (hw : Wc.ownsRow base 5 1 was l.length (Lib.byteCells l)) (hwa : ∀ g, was.ownBlock = some g → AW g) (hb : W.heap.size ≤ b ∧ b < Wc.heap.size) (hAb : ¬ AW b) (hwb : W0.heap.size ≤ b) (ho : w4.heap[b]? = some out00) :
    OutAt AW W0 tb ub am t2 l1 l2 was l base (((w4.setCell ⟨b, 0, none⟩ (.slice Ar am.res.length cr)).setCell ⟨b, 1, none⟩ (.slice Ae am.eff.length ce)).setCell ⟨b, 2, none⟩ (.int .i64 am.bad)) b := by
  unfold out00 at ho
  have g0 := Lib.heap_setCell_same (i := 0) ho (.slice Ar am.res.length cr)
  have g1 := Lib.heap_setCell_same (i := 1) g0 (.slice Ae am.eff.length ce)
  have g2 := Lib.heap_setCell_same (i := 2) g1 (.int .i64 am.bad)
  have c : Chg (fun g => g = b) w4 (((w4.setCell ⟨b, 0, none⟩ (.slice Ar am.res.length cr)).setCell ⟨b, 1, none⟩ (.slice Ae am.eff.length ce)).setCell ⟨b, 2, none⟩ (.int .i64 am.bad)) := (((Chg.refl (fun g => g = b) w4).setCell _ (fun _ => rfl)).setCell _ (fun _ => rfl)).setCell _ (fun _ => rfl)
  exact ⟨Ar, cr, Ae, ce, _, by simpa using g2, own_chg hr c (fun g x y => hHb g (hH g x) (by rw [y]; exact .inr hb)), hT.poke c (.inl (.inr hb)) hwb, .inl (.inr hb), fun g x => .inl (.inl x), fun g x => .inr (hH g x), own_chg (own_chg hw hap (fun g x y => y (.inl (hwa g x)))) c (fun g x y => hAb (by rw [← y]; exact hwa g x))⟩
end
end Go.Proofs.YtennlckfmgfjbaaGreatDoor
set_option linter.unusedSimpArgs false
set_option linter.unusedVariables false
namespace Go.Proofs.YtennlckfmgfjbaaGreatDoor
open Go.RowKit
theorem kept_pokeM {w0 w : World} {b : Nat} (k : Kept w0 w) (hb : w0.heap.size ≤ b) (i : Nat) (u : Value) : Kept w0 (w.setCell ⟨b, i, none⟩ u) :=
  ((Chg.refl (fun g => g = b) w).setCell _ (fun _ => rfl)).kept k (fun g x => by subst x; exact hb)
theorem Ops8.one1 {X : World} {b : Nat} {x : OpX} {ty : TypeId} (h : X.heap[b]? = some (.cells #[.int .i64 x.o.kind, .string ⟨x.o.path.toArray⟩, x.dv, .int .i64 x.o.ver, .bool x.o.eph, .bool x.o.seq] ty (0, 0))) (hd : Bts X x.dv x.o.data) : Ops8 X (.slice (some ⟨b, 0, none⟩) 1 1) [x] := by
  refine ⟨_, 1, rfl, Nat.le_refl _, by decide, fun _ => ⟨b, 0, rfl, fun k y hx => ?_⟩⟩
  match k, hx with
  | 0, hx =>
    obtain rfl : x = y := by simpa using hx
    have c0 := cell_at h 0
    have c1 := cell_at h 1
    have c2 := cell_at h 2
    have c3 := cell_at h 3
    have c4 := cell_at h 4
    have c5 := cell_at h 5
    simp only [List.getElem?_toArray, List.getElem?_cons_zero, List.getElem?_cons_succ] at c0 c1 c2 c3 c4 c5
    exact ⟨c0, c1, c2, c3, c4, c5, hd⟩
theorem keptSizeM {w w' : World} (h : Kept w w') : w.heap.size ≤ w'.heap.size := h.size
theorem mal1 (w : World) (o : Obj) : (w.alloc o).heap[w.heap.size]? = some o := heap_alloc_new w o
theorem mal2a (w : World) (o p : Obj) : ((w.alloc o).alloc p).heap[w.heap.size]? = some o := ((Kept.refl _).alloc p).block' (heap_alloc_new w o)
theorem mal2b (w : World) (o p : Obj) : ((w.alloc o).alloc p).heap[w.heap.size + 1]? = some p := by
  have := heap_alloc_new (w.alloc o) p
  simpa using this
theorem mown_cell {w : World} {base : Nat} {e : TypeId} {s n : Nat} {g c : Nat} {xs : List Value} (h : w.ownsRow base e s (.slice (some ⟨g, 0, none⟩) n c) n xs) {j : Nat} {u : Value} (hu : xs[j]? = some u) : w.cell? ⟨g, j, none⟩ = some u := by
  have h1 := h.cells (g := g) rfl j u hu
  have e : ((⟨g, 0, none⟩ : Addr).add j) = ⟨g, j, none⟩ := by unfold Addr.add; split <;> simp_all
  rw [e] at h1
  exact h1
theorem mown_some {w : World} {base : Nat} {e : TypeId} {s n : Nat} {v : Value} {xs : List Value} (h : w.ownsRow base e s v n xs) (hn : 0 < n) : ∃ g c, v = .slice (some ⟨g, 0, none⟩) n c ∧ n ≤ c ∧ c ≤ maxLen := by
  rcases h.2 with ⟨rfl, h0⟩ | ⟨g, cap, cur, rfl, h1, h2, h3, h4, -⟩
  · omega
  · exact ⟨g, cap, rfl, h3, h4⟩
theorem cellsR_at : ∀ {l : List (Pth × Int)} {j : Nat} {r : Pth × Int}, l[j]? = some r → (cellsR l)[j * 2]? = some (.string ⟨r.1.toArray⟩) ∧ (cellsR l)[j * 2 + 1]? = some (.int .i64 r.2)
  | [], j, r, h => by simp at h
  | x :: l, 0, r, h => by
    obtain rfl : x = r := by simpa using h
    exact ⟨rfl, rfl⟩
  | x :: l, j + 1, r, h => by
    obtain ⟨h1, h2⟩ := cellsR_at (l := l) (j := j) (by simpa using h)
    have e : cellsR (x :: l) = .string ⟨x.1.toArray⟩ :: .int .i64 x.2 :: cellsR l := rfl
    rw [e, show (j + 1) * 2 = j * 2 + 1 + 1 by omega]
    exact ⟨by simpa using h1, by simpa using h2⟩
theorem Two.lt {A : Nat → Prop} {w0 W : World} {tb ub : Nat} {t1 t2 : ZT} {l1 l2 : Nat} (h : Two A w0 W tb ub t1 t2 l1 l2) {g : Nat} (x : A g) : g < W.heap.size := by
  obtain ⟨mb1, st1, F1, mb2, st2, F2, a1, a2, a3, a4, a5, a6, a7, a8, a9⟩ := h
  exact (a9 g x).1
/-- An outcome in a block of its own, both trees beside it, what is kept apart as it was. -/
def OutP (AW : Nat → Prop) (W0 W : World) (tb ub : Nat) (am : ApM) (t2 : ZT) (l1 l2 : Nat) (X : World) (b : Nat) : Prop :=
  ∃ Ar cr Ae ce, X.heap[b]? = some (.cells #[.slice Ar am.res.length cr, .slice Ae am.eff.length ce, .int .i64 am.bad] 34 (0, 0)) ∧ X.ownsRow 0 48 2 (.slice Ar am.res.length cr) am.res.length (cellsR am.res) ∧
    Two AW W0 X tb ub am.t t2 l1 l2 ∧ Apart AW W X
section
variable {AW : Nat → Prop} {W0 W Wc w4 : World} {tb ub : Nat} {am : ApM} {t2 : ZT} {l1 l2 : Nat} {H : Nat → Prop} {Ar Ae : Option Addr} {cr ce : Nat}
theorem OutP.new (hr : w4.ownsRow 0 48 2 (.slice Ar am.res.length cr) am.res.length (cellsR am.res)) (hT : Two (fun g => (AW g ∨ (W.heap.size ≤ g ∧ g < Wc.heap.size)) ∨ H g) W0 w4 tb ub am.t t2 l1 l2) (hap : Apart (fun g => AW g ∨ (W.heap.size ≤ g ∧ g < Wc.heap.size)) Wc w4) (kc : Kept W Wc) :
    OutP AW W0 W tb ub am t2 l1 l2 (w4.alloc (.cells #[.slice Ar am.res.length cr, .slice Ae am.eff.length ce, .int .i64 am.bad] 34)) w4.heap.size := by
  have k := (Kept.refl w4).alloc (.cells #[.slice Ar am.res.length cr, .slice Ae am.eff.length ce, .int .i64 am.bad] 34)
  exact ⟨Ar, cr, Ae, ce, heap_alloc_new w4 _, own_kept hr k, (hT.kept k).less (fun g x => .inl (.inl x)), ((Apart.of_kept kc).trans (hap.less fun g x => .inl x)).trans (Apart.of_kept k)⟩
theorem OutP.past {b : Nat} (hr : w4.ownsRow 0 48 2 (.slice Ar am.res.length cr) am.res.length (cellsR am.res)) (hH : ∀ g, (Value.slice Ar am.res.length cr).ownBlock = some g → H g) (hHb : ∀ g, H g → ¬ (AW g ∨ (W.heap.size ≤ g ∧ g < Wc.heap.size))) (hT : Two (fun g => (AW g ∨ (W.heap.size ≤ g ∧ g < Wc.heap.size)) ∨ H g) W0 w4 tb ub am.t t2 l1 l2) (hap : Apart (fun g => AW g ∨ (W.heap.size ≤ g ∧ g < Wc.heap.size)) Wc w4) (kc : Kept W Wc)
    (hb : W.heap.size ≤ b ∧ b < Wc.heap.size) (hAb : ¬ AW b) (hwb : W0.heap.size ≤ b) (ho : w4.heap[b]? = some out00) :
    OutP AW W0 W tb ub am t2 l1 l2 (((w4.setCell ⟨b, 0, none⟩ (.slice Ar am.res.length cr)).setCell ⟨b, 1, none⟩ (.slice Ae am.eff.length ce)).setCell ⟨b, 2, none⟩ (.int .i64 am.bad)) b := by
  unfold out00 at ho
  have g0 := Lib.heap_setCell_same (i := 0) ho (.slice Ar am.res.length cr)
  have g1 := Lib.heap_setCell_same (i := 1) g0 (.slice Ae am.eff.length ce)
  have g2 := Lib.heap_setCell_same (i := 2) g1 (.int .i64 am.bad)
  have c : Chg (fun g => g = b) w4 (((w4.setCell ⟨b, 0, none⟩ (.slice Ar am.res.length cr)).setCell ⟨b, 1, none⟩ (.slice Ae am.eff.length ce)).setCell ⟨b, 2, none⟩ (.int .i64 am.bad)) := (((Chg.refl (fun g => g = b) w4).setCell _ (fun _ => rfl)).setCell _ (fun _ => rfl)).setCell _ (fun _ => rfl)
  have c2 : Apart AW w4 (((w4.setCell ⟨b, 0, none⟩ (.slice Ar am.res.length cr)).setCell ⟨b, 1, none⟩ (.slice Ae am.eff.length ce)).setCell ⟨b, 2, none⟩ (.int .i64 am.bad)) := c.mono (fun g _ e hA => hAb (e ▸ hA))
  exact ⟨Ar, cr, Ae, ce, by simpa using g2, own_chg hr c (fun g x y => hHb g (hH g x) (by rw [y]; exact .inr hb)), (hT.poke c (.inl (.inr hb)) hwb).less (fun g x => .inl (.inl x)), ((Apart.of_kept kc).trans (hap.less fun g x => .inl x)).trans c2⟩
end
end Go.Proofs.YtennlckfmgfjbaaGreatDoor
set_option linter.unusedSimpArgs false
set_option linter.unusedVariables false
namespace Go.Proofs.YtennlckfmgfjbaaGreatDoor
open Go.RowKit
set_option maxRecDepth 100000 in
set_option maxHeartbeats 8000000 in
theorem multiWhole_any (hs : List Pth) (hv0 : Value) (xs : List TxnX) (v : Value) (s : TxnX) (w : World) (hhs : Txts w hv0 hs) (hhl : hs.length ≤ 1048576) (hh : ∀ h ∈ hs, h.length ≤ 140737488355328) (hv : Script8 w v xs) (hf : ∀ x ∈ xs, x.Fits) (hl : xs.length ≤ 1048576) (ho : opsUp xs xs.length ≤ 1048576) (hsr : s.Reads w) (hsf : s.Fits) (htab : TbZ w) {ml : Int} (hml : w.cell? ⟨1, 0, none⟩ = some (.int .i64 ml)) :
    Calls Tryz.prog 3 #[hv0, v, .agg #[.string ⟨s.home.toArray⟩, .int .i64 s.owner, .int .i64 s.qn, .int .i64 s.qb, s.ov, .bool s.sweep]] w fun e w' => e = .returned (.bool true) ∧ Kept w w' := by
  obtain ⟨As, cs, hsv, hs1, hs2⟩ := hsr.form
  unfold maxLen at hs2
  rw [hsv]
  unfold TxnX.Reads at hsr
  rw [hsv] at hsr
  obtain ⟨W0, hW0⟩ : ∃ W0, w.alloc (.cells #[.string ⟨s.home.toArray⟩, .int .i64 s.owner, .int .i64 s.qn, .int .i64 s.qb, .slice As s.ops.length cs, .bool s.sweep] 28) = W0 := ⟨_, rfl⟩
  have hka : Kept w W0 := by rw [← hW0]; exact (Kept.refl w).alloc _
  have hba : W0.heap[w.heap.size]? = some (.cells #[.string ⟨s.home.toArray⟩, .int .i64 s.owner, .int .i64 s.qn, .int .i64 s.qb, .slice As s.ops.length cs, .bool s.sweep] 28 (0, 0)) := by rw [← hW0]; exact heap_alloc_new w _
  have HS := Lib.hid (start_any hs hv0 W0 (hhs.kept hka) hhl hh (htab.kept hka))
  have HA := Lib.hid (show ∀ W, Kept w W → _ from fun W k => awakeM_any W (htab.kept k) (k.cell hml))
  have HV := Lib.hid (hv.kept hka)
  have HF := Lib.hid hf
  have HTB := Lib.hid (htab.kept hka)
  have HML := Lib.hid (hka.cell hml)
  have HKA := Lib.hid hka
  have HBA := Lib.hid hba
  have HSR := Lib.hid (hsr.kept hka)
  have HSF := Lib.hid hsf
  obtain ⟨Ah, ch, rfl, -, -⟩ := hhs.form
  obtain ⟨Av, cv, rfl, hc1, hc2⟩ := hv.form
  unfold maxLen at hc2
  clear hhs hh hv hf hsr hsf htab hml hka hba
  go_enter Tryz.func3, Tryz.ntmps3
  go_upto_region 1 with (fail)
  clear hW0
  go_wp2_with fail
  refine HS.out.mono ?_
  rintro e w1 ⟨tb, rfl, hkt, hwf, hwb⟩
  have HT0 := Lib.hid hkt
  have HWF := Lib.hid hwf
  have HWB := Lib.hid hwb
  have HLT := Lib.hid (startT_len hs)
  clear hkt hwf hwb
  generalize startT hs = T0 at *
  go_wp2
  go_loopw [25] (fun i W => ∃ (k : Nat) (t : ZT), i = .int .i64 (k : Int) ∧ k ≤ xs.length ∧ KT W0 W tb t (hs.length + 16 * k) ∧ WF t ∧ WB (hs.length + opsUp xs k) t ∧ t.length ≤ hs.length + 1 + opsUp xs k) (fun i _ => xs.length - (intOf i).toNat)
  case atStart => exact ⟨0, T0, rfl, Nat.zero_le _, HT0.out, HWF.out, HWB.out.more (by omega), by have := HLT.out; omega⟩
  case round =>
    obtain ⟨k, t, rfl, hk, hkt, hwf, hwb, hfew⟩ := hrel
    have HKT := Lib.hid hkt
    have HWFk := Lib.hid hwf
    have HWBk := Lib.hid hwb
    have HFW := Lib.hid hfew
    have HKR := Lib.hid hkt.old
    clear hkt hwf hwb hfew
    by_cases hlt : k < xs.length
    · obtain ⟨b, o, rfl, a0, a1, a2, a3, a4, a5, hrd⟩ := (HV.out.kept HKR.out).at hlt
      have g1 : (k : Int) < (xs.length : Int) := by omega
      have HXF := Lib.hid (HF.out xs[k] (List.getElem_mem hlt))
      have HOS := Lib.hid (opsUp_succ xs hlt)
      have HOL := Lib.hid (Nat.le_trans (opsUp_le xs (k + 1)) ho)
      obtain ⟨Ad, cd, hdv, hd1, hd2⟩ := hrd.form
      unfold maxLen at hd2
      rw [hdv] at a4
      have hrd2 := hrd
      unfold TxnX.Reads at hrd2
      rw [hdv] at hrd2
      have HRD := Lib.hid hrd2
      clear hrd hrd2 hdv
      generalize xs[k] = x at *
      go_upto_region 7 with (fail)
      have hKa := (Kept.refl wr).alloc (.cells #[.string ⟨x.home.toArray⟩, .int .i64 x.owner, .int .i64 x.qn, .int .i64 x.qb, .slice Ad x.ops.length cd, .bool x.sweep] 28)
      have hba := heap_alloc_new wr (.cells #[.string ⟨x.home.toArray⟩, .int .i64 x.owner, .int .i64 x.qn, .int .i64 x.qb, .slice Ad x.ops.length cd, .bool x.sweep] 28)
      generalize wr.alloc (.cells #[.string ⟨x.home.toArray⟩, .int .i64 x.owner, .int .i64 x.qn, .int .i64 x.qb, .slice Ad x.ops.length cd, .bool x.sweep] 28) = wa at *
      clear a0 a1 a2 a3 a4 a5
      have q0 := cell_at hba 0
      have q1 := cell_at hba 1
      have q2 := cell_at hba 2
      have q3 := cell_at hba 3
      have q4 := cell_at hba 4
      simp only [List.getElem?_toArray, List.getElem?_cons_zero, List.getElem?_cons_succ] at q0 q1 q2 q3 q4
      have hKd := (Kept.refl wa).drew
      have HSA := Lib.hid (Array.getElem?_eq_some_iff.1 hba).1
      have HKA2 := Lib.hid hKa
      have HCP := Lib.hid (show ∀ W, Kept wa W → _ from fun W hW => mcopied_any x.ops (.slice Ad x.ops.length cd) W (HRD.out.kept (hKa.trans hW)) HXF.out.2.1 HXF.out.2.2)
      unfold CopTo at HCP
      have HAP := Lib.hid (show ∀ W v ys Wc, Kept wa W → OpsAt W.heap.size Wc v ys → ys.map OpX.o = plainO x.ops → Kept W Wc → Calls Tryz.prog 7 #[.pointer (some ⟨tb, 0, none⟩), .string ⟨x.home.toArray⟩, .int .i64 x.owner, .agg #[.int .i64 x.qn, .int .i64 x.qb], v] Wc (ApplyTo (fun g => no g ∨ (wr.heap.size ≤ g ∧ g < Wc.heap.size)) W0 tb (applyM x.home x.owner x.qn x.qb t (plainO x.ops)) (hs.length + 16 * k + 16) Wc) from fun W v ys Wc k1 h1 h2 k2 => by
        have hfe := HFW.out
        have := apply_cop HKT.out.tr HWFk.out HWBk.out (by have := HOL.out; have := HOS.out; omega) x.home (by have := HXF.out.1; unfold maxLen; omega) x.owner x.qn x.qb ys v (by have := (hKa.trans k1).size; omega) h1 (hKa.trans (k1.trans k2)) HTB.out HML.out (by omega) (by have := HOL.out; have := HOS.out; omega)
        rw [show plainO ys = plainO x.ops from h2] at this
        exact this)
      unfold ApplyTo at HAP
      have HKP := Lib.hid (apply_keeps (h := x.home) (owner := x.owner) (qn := x.qn) (qb := x.qb) (os := plainO x.ops) HWFk.out HWBk.out)
      have HLN := Lib.hid (apply_len x.home x.owner x.qn x.qb t (plainO x.ops))
      have HPL := Lib.hid (show (plainO x.ops).length = x.ops.length by simp [plainO])
      clear hKa hba
      generalize applyM x.home x.owner x.qn x.qb t (plainO x.ops) = am at *
      go_wp2_with fail
      go_region_held3 (fun W => W.cell? ⟨wr.heap.size, 0, none⟩ = some (.string ⟨x.home.toArray⟩) ∧ W.cell? ⟨wr.heap.size, 1, none⟩ = some (.int .i64 x.owner) ∧ W.cell? ⟨wr.heap.size, 2, none⟩ = some (.int .i64 x.qn) ∧ W.cell? ⟨wr.heap.size, 3, none⟩ = some (.int .i64 x.qb) ∧ W.cell? ⟨wr.heap.size, 4, none⟩ = some (.slice Ad x.ops.length cd))
        (first | exact ⟨q0, q1, q2, q3, q4⟩ | exact ⟨hKd.cell q0, hKd.cell q1, hKd.cell q2, hKd.cell q3, hKd.cell q4⟩ | exact ⟨u0, u1, u2, u3, u4⟩ | exact ⟨z0, z1, z2, z3, z4⟩)
        (first
          | (go_at_call 8; refine (HCP.out _ hKd).mono ?_; rintro e w3 ⟨v3, ys, rfl, ho3, hp3, hk3⟩; have hq3 := hKd.trans hk3; have u0 := hq3.cell q0; have u1 := hq3.cell q1; have u2 := hq3.cell q2; have u3 := hq3.cell q3; have u4 := hq3.cell q4; have HK3 := Lib.hid hk3; have HO3 := Lib.hid ho3; have HP3 := Lib.hid hp3; have hs3 := Lib.hid hq3.size; clear ho3 hk3 hq3 hp3)
          | (go_at_call 7; refine (HAP.out _ _ _ _ hKd HO3.out HP3.out HK3.out).mono ?_; rintro e w4 ⟨rv, ev, H, rfl, -, -, -, -, -, htr, hap⟩; have hin : no wr.heap.size ∨ (wr.heap.size ≤ wr.heap.size ∧ wr.heap.size < w3.heap.size) := .inr ⟨Nat.le_refl _, by have := hs3.out; have := HSA.out; omega⟩; have z0 := hap.cell u0 hin; have z1 := hap.cell u1 hin; have z2 := hap.cell u2 hin; have z3 := hap.cell u3 hin; have z4 := hap.cell u4 hin; have H4 := Lib.hid htr; clear htr hap hin))
      go_wp2
      go_roundw
      case rel =>
        exact ⟨k + 1, am.t, by go_num, by omega, H4.out.kt, HKP.out.1, HKP.out.2.more (by have := HPL.out; have := HOS.out; omega), by have := HLN.out; have := HPL.out; have := HFW.out; have := HOS.out; omega⟩
      case measure => simp [intOf]; omega
    · obtain rfl : k = xs.length := by omega
      have hfew2 : t.length ≤ 2097153 := by have := HFW.out; omega
      have hbe := encT_few HWFk.out HWBk.out (Nat.le_refl _)
      have hbe2 : 429 * t.length ≤ 429 * 2097153 := Nat.mul_le_mul_left _ hfew2
      have HLE := Lib.hid (show (encT t).length ≤ 899678637 by omega)
      have HN1 := Lib.hid (show hs.length + opsUp xs xs.length ≤ 4611686018427387903 by omega)
      have HEN := Lib.hid (HKT.out.tr.encode (Kept.refl wr) HWFk.out HWBk.out HN1.out (by omega) (by omega))
      clear hbe hbe2
      go_wp2_with fail
      refine HEN.out.mono ?_
      rintro e w2 ⟨u2, rfl, ho2, hk2⟩
      obtain ⟨A2, c2, rfl⟩ := own_form ho2
      have hde := decode_any (encT t) _ w2 (Bts.of_own ho2) (by have := HLE.out; omega)
      unfold DecTo at hde
      rw [decodeZ_enc HWFk.out HWBk.out HN1.out] at hde
      have HDE := Lib.hid hde
      have HO2 := Lib.hid ho2
      have HT2 := Lib.hid (HKT.out.tr.away hk2)
      have HK12 := Lib.hid hk2
      clear hde ho2 hk2
      go_wp2_with fail
      refine HDE.out.mono ?_
      rintro e w3 ⟨ub, rfl, hku⟩
      have hTW := Two.of HT2.out hku
      have HK23 := Lib.hid hku.old
      have hO3 := own_kept HO2.out hku.old
      have HTW := Lib.hid hTW
      have HO3 := Lib.hid hO3
      have hb3 := hTW.old.block' HBA.out
      have q0 := cell_at hb3 0
      have q1 := cell_at hb3 1
      have q2 := cell_at hb3 2
      have q3 := cell_at hb3 3
      have q4 := cell_at hb3 4
      simp only [List.getElem?_toArray, List.getElem?_cons_zero, List.getElem?_cons_succ] at q0 q1 q2 q3 q4
      clear hTW hO3 hku hb3
      have HW2 := Lib.hid (show wr.heap.size ≤ w2.heap.size ∧ w2.heap.size ≤ w3.heap.size ∧ W0.heap.size ≤ wr.heap.size from ⟨HK12.out.size, HK23.out.size, HKR.out.size⟩)
      have HWA := Lib.hid (show ∀ g, (Value.slice A2 (encT t).length c2).ownBlock = some g → (no g ∨ (wr.heap.size ≤ g ∧ g < w2.heap.size)) from fun g hg => .inr ⟨(HO2.out.lt g hg).1, (HO2.out.lt g hg).2⟩)
      have HCP := Lib.hid (show ∀ W, Kept w3 W → _ from fun W hW => mcopied_any s.ops (.slice As s.ops.length cs) W (HSR.out.kept (HTW.out.old.trans hW)) HSF.out.2.1 HSF.out.2.2)
      unfold CopTo at HCP
      have HAP := Lib.hid (show ∀ v ys Wc base, Kept w3 Wc → w3.heap.size ≤ base → OpsAt base Wc v ys → ys.map OpX.o = plainO s.ops → Calls Tryz.prog 7 #[.pointer (some ⟨tb, 0, none⟩), .string ⟨s.home.toArray⟩, .int .i64 s.owner, .agg #[.int .i64 s.qn, .int .i64 s.qb], v] Wc (TwoTo (fun g => (no g ∨ (wr.heap.size ≤ g ∧ g < w2.heap.size)) ∨ (w3.heap.size ≤ g ∧ g < Wc.heap.size)) W0 tb ub (applyM s.home s.owner s.qn s.qb t (plainO s.ops)) t (hs.length + 16 * xs.length + 16) (encT t).length Wc) from fun v ys Wc base k1 k2 h1 h2 => by
        have hfe := HFW.out
        have := HTW.out.apply HWFk.out HWBk.out HN1.out s.home (by have := HSF.out.1; unfold maxLen; omega) s.owner s.qn s.qb ys v k2 h1 k1 HTB.out HML.out (by omega) (by omega)
        rw [show plainO ys = plainO s.ops from h2] at this
        exact this)
      unfold TwoTo at HAP
      have HWH := Lib.hid (fun h0 => apply_whole (h := s.home) (owner := s.owner) (qn := s.qn) (qb := s.qb) (os := plainO s.ops) HWFk.out HWBk.out h0)
      have HKP := Lib.hid (apply_keeps (h := s.home) (owner := s.owner) (qn := s.qn) (qb := s.qb) (os := plainO s.ops) HWFk.out HWBk.out)
      have HLN := Lib.hid (apply_len s.home s.owner s.qn s.qb t (plainO s.ops))
      have HPL := Lib.hid (show (plainO s.ops).length = s.ops.length by simp [plainO])
      have HNO := Lib.hid (show (applyM s.home s.owner s.qn s.qb t (plainO s.ops)).err ≠ 0 → (applyM s.home s.owner s.qn s.qb t (plainO s.ops)).t = t ∧ (applyM s.home s.owner s.qn s.qb t (plainO s.ops)).res = [] ∧ (applyM s.home s.owner s.qn s.qb t (plainO s.ops)).eff = [] from apply_none)
      have HO3X := Lib.hid (show ∀ X, Kept w3 X → X.ownsRow wr.heap.size 5 1 (.slice A2 (encT t).length c2) (encT t).length (Lib.byteCells (encT t)) from fun X k => own_kept HO3.out k)
      obtain ⟨am, ham⟩ : ∃ am, applyM s.home s.owner s.qn s.qb t (plainO s.ops) = am := ⟨_, rfl⟩
      rw [ham] at HAP HKP HLN HNO HWH
      have hkd := (Kept.refl w3).drew
      have oa0 := ((Kept.refl w3).alloc out00).cell q0
      have oa1 := ((Kept.refl w3).alloc out00).cell q1
      have oa2 := ((Kept.refl w3).alloc out00).cell q2
      have oa3 := ((Kept.refl w3).alloc out00).cell q3
      have oa4 := ((Kept.refl w3).alloc out00).cell q4
      unfold out00 at oa0 oa1 oa2 oa3 oa4
      go_upto_region 13 with (fail)
      go_cut [13, 14] (fun a c X => ∃ b, a = .pointer (some ⟨b, 0, none⟩) ∧ c = .int .i64 am.err ∧ OutAt (fun g => no g ∨ (wr.heap.size ≤ g ∧ g < w2.heap.size)) W0 tb ub am t (hs.length + 16 * xs.length + 16) (encT t).length (.slice A2 (encT t).length c2) (encT t) wr.heap.size X b)
      case first =>
        have hK3 := HTW.out.old
        have r0 := cell_at HBA.out 0
        have r1 := cell_at HBA.out 1
        have r2 := cell_at HBA.out 2
        have r3 := cell_at HBA.out 3
        have r4 := cell_at HBA.out 4
        simp only [List.getElem?_toArray, List.getElem?_cons_zero, List.getElem?_cons_succ] at r0 r1 r2 r3 r4
        go_region_held3 (fun X => X.cell? ⟨w.heap.size, 0, none⟩ = some (.string ⟨s.home.toArray⟩) ∧ X.cell? ⟨w.heap.size, 1, none⟩ = some (.int .i64 s.owner) ∧ X.cell? ⟨w.heap.size, 2, none⟩ = some (.int .i64 s.qn) ∧ X.cell? ⟨w.heap.size, 3, none⟩ = some (.int .i64 s.qb) ∧ X.cell? ⟨w.heap.size, 4, none⟩ = some (.slice As s.ops.length cs))
          (refine ⟨Kept.cell ?_ r0, Kept.cell ?_ r1, Kept.cell ?_ r2, Kept.cell ?_ r3, Kept.cell ?_ r4⟩ <;> (repeat (first | exact hK5 | exact hK4 | exact hK3 | refine Kept.alloc ?_ _ | refine Kept.drew ?_ | refine kept_pokeM ?_ (by have := hK3.size; (try have := hK4.size); (try have := hK5.size); omega) _ _)))
          (first
          | (go_at_call 8; refine (HCP.out _ (by first | exact hkd | exact hkd.alloc _ | exact ((Kept.refl w3).alloc _).drew)).mono ?_; rintro e w4 ⟨v4, ys, rfl, ho4, hp4, hk4⟩; have hkc := (show Kept w3 w4 from by first | exact hkd.trans hk4 | exact ((Kept.refl w3).alloc _).drew.trans hk4); have y0 := hkc.cell q0; have y1 := hkc.cell q1; have y2 := hkc.cell q2; have y3 := hkc.cell q3; have y4 := hkc.cell q4; have ya0 := ((Kept.refl w4).alloc out00).cell y0; have ya1 := ((Kept.refl w4).alloc out00).cell y1; have ya2 := ((Kept.refl w4).alloc out00).cell y2; have ya3 := ((Kept.refl w4).alloc out00).cell y3; have ya4 := ((Kept.refl w4).alloc out00).cell y4; unfold out00 at ya0 ya1 ya2 ya3 ya4; have HOC := Lib.hid (show ∃ bs, w3.heap.size ≤ bs ∧ OpsAt bs w4 v4 ys from ⟨_, (by simp), ho4⟩); have HPC := Lib.hid hp4; have HKC := Lib.hid hkc; have hK4 := hK3.trans hkc; (try (have HOB := Lib.hid (show w4.heap[w3.heap.size]? = some out00 from hk4.block' (by first | exact heap_alloc_new w3 out00 | exact heap_alloc_new w3.drew out00)))); clear ho4 hp4 hkc hk4)
          | (go_at_call 7; have hbs := Classical.choose_spec HOC.out; have hb0 := heap_alloc_new w4 (.cells #[.slice none 0 0, .slice none 0 0, .int .i64 0] 34); have hkA := HKC.out.alloc (.cells #[.slice none 0 0, .slice none 0 0, .int .i64 0] 34); have hoA := hbs.2.kept ((Kept.refl w4).alloc (.cells #[.slice none 0 0, .slice none 0 0, .int .i64 0] 34)); have hlc := HKC.out.size; have hsz : w4.heap.size < (w4.alloc (.cells #[.slice none 0 0, .slice none 0 0, .int .i64 0] 34)).heap.size := (by simp); generalize w4.alloc (.cells #[.slice none 0 0, .slice none 0 0, .int .i64 0] 34) = wc at *; refine (HAP.out _ ys wc _ hkA hbs.1 hoA HPC.out).mono ?_; rintro e w5 ⟨rv, ev, H, rfl, hr5, he5, hrH, heH, hHA, htw, hap⟩; have hK5 := htw.old; obtain ⟨Ar, cr, hrv⟩ := own_form hr5; obtain ⟨Ae, ce, hev⟩ := own_form he5; subst hrv hev; have hb2 := hap.block' hb0 (fun x => x (.inr ⟨hlc, hsz⟩)); have hold := OutAt.past (Ae := Ae) (ce := ce) hr5 hrH hHA htw hap (HO3X.out _ hkA) HWA.out ⟨hlc, hsz⟩ (by rintro (x | x); exact x; have := HW2.out; omega) (by have := HW2.out; omega) hb2; have hold := Lib.hid hold; have s0 := cell_at hb2 0; have s1 := cell_at hb2 1; have s2 := cell_at hb2 2; have f0 := frozen_at hb2 0; have f1 := frozen_at hb2 1; have f2 := frozen_at hb2 2; simp only [List.getElem?_toArray, List.getElem?_cons_zero, List.getElem?_cons_succ] at s0 s1 s2; clear hb2 hb0 hlc hsz hkA hoA hbs hr5 he5 hrH heH hHA htw hap; have hbb := hK4.size; generalize w4.heap.size = bb at *)
          | (go_at_call 7; have hbs := Classical.choose_spec HOC.out; refine (HAP.out _ ys w4 _ HKC.out hbs.1 hbs.2 HPC.out).mono ?_; rintro e w5 ⟨rv, ev, H, rfl, hr5, he5, hrH, heH, hHA, htw, hap⟩; have hK5 := htw.old; obtain ⟨Ar, cr, hrv⟩ := own_form hr5; obtain ⟨Ae, ce, hev⟩ := own_form he5; subst hrv hev; (first
            | (have hb2 : w5.heap[w3.heap.size]? = some out00 := hap.block' HOB.out (fun x => x (.inr ⟨Nat.le_refl _, (Array.getElem?_eq_some_iff.1 HOB.out).1⟩)); have hold := OutAt.past (Ae := Ae) (ce := ce) hr5 hrH hHA htw hap (HO3X.out _ HKC.out) HWA.out ⟨Nat.le_refl _, (Array.getElem?_eq_some_iff.1 HOB.out).1⟩ (by rintro (x | x); exact x; have := HW2.out; omega) (by have := HW2.out; omega) hb2; have hold := Lib.hid hold; unfold out00 at hb2; have s0 := cell_at hb2 0; have s1 := cell_at hb2 1; have s2 := cell_at hb2 2; have f0 := frozen_at hb2 0; have f1 := frozen_at hb2 1; have f2 := frozen_at hb2 2; simp only [List.getElem?_toArray, List.getElem?_cons_zero, List.getElem?_cons_succ] at s0 s1 s2; clear hb2 hr5 he5 hrH heH hHA htw hap)
            | (have hnew := Lib.hid (OutAt.new (Ae := Ae) (ce := ce) hr5 hrH htw hap (HO3X.out _ HKC.out) HWA.out); clear hr5 he5 hrH heH hHA htw hap)); clear hbs))
        all_goals
          go_wp2
          go_meet
          case rel => first | exact ⟨_, rfl, rfl, hold.out⟩ | exact ⟨_, rfl, rfl, hnew.out⟩
      case rest =>
      obtain ⟨b, rfl, rfl, Ar, cr, Ae, ce, A', hbb, hres, htw, hAb, hAA, hAr, hwas⟩ := hcut
      have HTX := Lib.hid htw
      have HBB := Lib.hid hbb
      have HRES := Lib.hid hres
      have HWAS := Lib.hid hwas
      have HAB := Lib.hid hAb
      have HAR := Lib.hid hAr
      have HKW := Lib.hid (HKA.out.trans htw.old)
      have o0 := cell_at hbb 0
      have o1 := cell_at hbb 1
      simp only [List.getElem?_toArray, List.getElem?_cons_zero, List.getElem?_cons_succ] at o0 o1
      clear hbb hres htw hAb hAA hAr hwas q0 q1 q2 q3 q4 oa0 oa1 oa2 oa3 oa4 hkd
      by_cases herr : am.err = 0
      rotate_left
      · obtain ⟨n1, n2, n3⟩ := HNO.out herr
        rw [n2] at o0
        rw [n3] at o1
        simp only [List.length_nil] at o0 o1
        rw [n1] at HTX
        have t1 : (am.err == 0) = false := by simpa using herr
        have HEW := Lib.hid (HTX.out.first.encode (Kept.refl wc) HWFk.out HWBk.out HN1.out (by omega) (by omega))
        have HSM := Lib.hid (fun v X (hu : Bts X v (encT t)) (k : Kept wc X) => same_any (encT t) (encT t) _ v X ((Bts.of_own HWAS.out).kept k) hu)
        have hself : (encT t == encT t) = true := by simp
        rw [hself] at HSM
        clear n1 n2 n3 hself
        go_wp2_with fail
        refine HEW.out.mono ?_
        rintro e w5 ⟨v5, rfl, ho5, k5⟩
        have o0 := k5.cell o0
        have o1 := k5.cell o1
        have HK5 := Lib.hid k5
        have HB5 := Lib.hid (Bts.of_own ho5)
        obtain ⟨A5, c5, rfl⟩ := own_form ho5
        clear ho5 k5
        go_wp2_with fail
        refine (HSM.out _ _ HB5.out HK5.out).mono ?_
        rintro e w6 ⟨rfl, rfl⟩
        go_wp2_with fail
        refine (HA.out _ (HKW.out.trans HK5.out)).mono ?_
        rintro e w7 ⟨rfl, k7⟩
        have hk := (HKW.out.trans HK5.out).trans k7
        go_wp2
        go_ret
        exact ⟨rfl, hk⟩
      · obtain ⟨T, hT0, hTn, hrl, hTk⟩ := HWH.out herr
        rw [herr]
        rw [HPL.out] at hTn hrl
        have HTK := Lib.hid (show ∀ k (hk : k < s.ops.length), ∃ r, am.res[k]? = some r ∧ (applyM s.home s.owner s.qn s.qb (T k) [s.ops[k].o]).err = 0 ∧ (applyM s.home s.owner s.qn s.qb (T k) [s.ops[k].o]).t = T (k + 1) ∧ (applyM s.home s.owner s.qn s.qb (T k) [s.ops[k].o]).res = [r] from fun k hk => by
          have hk' : k < (plainO s.ops).length := by rw [HPL.out]; exact hk
          have h1 : k < am.res.length := by rw [hrl]; exact hk
          obtain ⟨a, b, c⟩ := hTk k hk' am.res[k] (List.getElem?_eq_getElem h1)
          rw [show (plainO s.ops)[k] = s.ops[k].o by simp [plainO]] at a b c
          exact ⟨am.res[k], List.getElem?_eq_getElem h1, a, b, c⟩)
        have HTN := Lib.hid hTn
        have HRL := Lib.hid hrl
        have hT0' : Two A' W0 wc tb ub am.t (T 0) (hs.length + 16 * xs.length + 16) ((encT t).length + 16 * 0) := by rw [hT0]; exact HTX.out
        have HT0' := Lib.hid hT0'
        have HF0 := Lib.hid (show WF (T 0) ∧ WB (hs.length + opsUp xs xs.length + 0) (T 0) ∧ (T 0).length ≤ t.length + 0 by rw [hT0]; exact ⟨HWFk.out, HWBk.out, Nat.le_refl _⟩)
        have hsl := HSF.out.2.1
        have hb3 := HTX.out.old.block' HBA.out
        have r0 := cell_at hb3 0
        have r1 := cell_at hb3 1
        have r2 := cell_at hb3 2
        have r3 := cell_at hb3 3
        have r4 := cell_at hb3 4
        simp only [List.getElem?_toArray, List.getElem?_cons_zero, List.getElem?_cons_succ] at r0 r1 r2 r3 r4
        have HDL := Lib.hid HSF.out.2.2
        clear hT0 hTn hrl hTk hT0' HNO HWH herr hb3
        go_wp2
        go_loopw [92] (fun i W => ∃ j : Nat, i = .int .i64 (j : Int) ∧ j ≤ s.ops.length ∧ Two A' W0 W tb ub am.t (T j) (hs.length + 16 * xs.length + 16) ((encT t).length + 16 * j) ∧ Apart A' wc W ∧ WF (T j) ∧ WB (hs.length + opsUp xs xs.length + j) (T j) ∧ (T j).length ≤ t.length + j) (fun i _ => s.ops.length - (intOf i).toNat)
        case atStart => exact ⟨0, rfl, Nat.zero_le _, HT0'.out, Apart.of_kept (Kept.refl _), HF0.out.1, HF0.out.2.1, HF0.out.2.2⟩
        case round =>
          obtain ⟨j, rfl, hj, htj, haj, hwj, hbj, hlj⟩ := hrel
          have HTJ := Lib.hid htj
          have HAJ := Lib.hid haj
          have HWJ := Lib.hid hwj
          have HBJ := Lib.hid hbj
          have HLJ := Lib.hid hlj
          clear htj haj hwj hbj hlj r0 r1 r2 r3 r4
          have hbs := HTJ.out.old.block' HBA.out
          have r0 := cell_at hbs 0
          have r1 := cell_at hbs 1
          have r2 := cell_at hbs 2
          have r3 := cell_at hbs 3
          have r4 := cell_at hbs 4
          simp only [List.getElem?_toArray, List.getElem?_cons_zero, List.getElem?_cons_succ] at r0 r1 r2 r3 r4
          clear hbs
          by_cases hlt : j < s.ops.length
          · obtain ⟨gq, oq, rfl, a0, a1, a2, a3, a4, a5, hbt⟩ := (HSR.out.kept HTJ.out.old).at hlt
            have g1 : (j : Int) < (s.ops.length : Int) := by omega
            have hxd := HDL.out s.ops[j] (List.getElem_mem hlt)
            obtain ⟨r, hr, e1, e2, e3⟩ := HTK.out j hlt
            generalize s.ops[j] = xo at *
            obtain ⟨x, dv⟩ := xo
            simp only at a0 a1 a2 a3 a4 a5 hbt hxd e1 e2 e3
            obtain ⟨Ax, cx, rfl, hx1⟩ := hbt.form
            have HBT := Lib.hid hbt
            have HXD := Lib.hid hxd
            have HR := Lib.hid hr
            have HAK := Lib.hid (show _ ∧ _ from apply_keeps (h := s.home) (owner := s.owner) (qn := s.qn) (qb := s.qb) (os := [x]) HWJ.out HBJ.out)
            have HAL := Lib.hid (apply_len s.home s.owner s.qn s.qb (T j) [x])
            obtain ⟨ap, hapm⟩ : ∃ ap, applyM s.home s.owner s.qn s.qb (T j) [x] = ap := ⟨_, rfl⟩
            rw [hapm] at e1 e2 e3 HAK HAL
            have HP2 := Lib.hid (show ∀ v ys Wc base, Kept wr Wc → wr.heap.size ≤ base → OpsAt base Wc v ys → ys.map OpX.o = [x] → Calls Tryz.prog 7 #[.pointer (some ⟨ub, 0, none⟩), .string ⟨s.home.toArray⟩, .int .i64 s.owner, .agg #[.int .i64 s.qn, .int .i64 s.qb], v] Wc (TwoTo (fun g => A' g ∨ (wr.heap.size ≤ g ∧ g < Wc.heap.size)) W0 ub tb ap am.t ((encT t).length + 16 * j + 16) (hs.length + 16 * xs.length + 16) Wc) from fun v ys Wc base k1 k2 h1 h2 => by
              have hle := HLE.out
              have hlj := HLJ.out
              have hn1 := HN1.out
              have := HTJ.out.swap.apply HWJ.out HBJ.out (by omega) s.home (by have := HSF.out.1; unfold maxLen; omega) s.owner s.qn s.qb ys v k2 h1 k1 HTB.out HML.out (by omega) (by omega)
              rw [show plainO ys = [x] from h2, hapm] at this
              exact this)
            unfold TwoTo at HP2
            have HC2 := Lib.hid (show ∀ X v, Ops8 X v [⟨x, .slice Ax x.data.length cx⟩] → _ from fun X v hX => mcopied_any [⟨x, .slice Ax x.data.length cx⟩] v X hX (by simp) (fun y hy => by obtain rfl := List.mem_singleton.1 hy; exact HXD.out))
            unfold CopTo at HC2
            have HE1 := Lib.hid e1
            have HE2 := Lib.hid e2
            have HE3 := Lib.hid e3
            clear hbt hxd hr e1 e2 e3 hapm
            go_upto_region 19 with (fail)
            have hKa := (Kept.refl wr).alloc (.cells #[.int .i64 x.kind, .string ⟨x.path.toArray⟩, .slice Ax x.data.length cx, .int .i64 x.ver, .bool x.eph, .bool x.seq] 46)
            have hba := heap_alloc_new wr (.cells #[.int .i64 x.kind, .string ⟨x.path.toArray⟩, .slice Ax x.data.length cx, .int .i64 x.ver, .bool x.eph, .bool x.seq] 46)
            generalize wr.alloc (.cells #[.int .i64 x.kind, .string ⟨x.path.toArray⟩, .slice Ax x.data.length cx, .int .i64 x.ver, .bool x.eph, .bool x.seq] 46) = wa at *
            clear a0 a1 a2 a3 a4 a5 r0 r1 r2 r3 r4
            have q0 := cell_at hba 0
            have q1 := cell_at hba 1
            have q2 := cell_at hba 2
            have q3 := cell_at hba 3
            have q4 := cell_at hba 4
            have q5 := cell_at hba 5
            simp only [List.getElem?_toArray, List.getElem?_cons_zero, List.getElem?_cons_succ] at q0 q1 q2 q3 q4 q5
            have hK3 : Kept W0 wa := HTJ.out.old.trans hKa
            have hsa : wr.heap.size < wa.heap.size := (Array.getElem?_eq_some_iff.1 hba).1
            have hw0 : W0.heap.size ≤ wr.heap.size := HTJ.out.old.size
            have r0 := cell_at HBA.out 0
            have r1 := cell_at HBA.out 1
            have r2 := cell_at HBA.out 2
            have r3 := cell_at HBA.out 3
            have r4 := cell_at HBA.out 4
            simp only [List.getElem?_toArray, List.getElem?_cons_zero, List.getElem?_cons_succ] at r0 r1 r2 r3 r4
            have HKa := Lib.hid hKa
            have HBTa := Lib.hid (HBT.out.kept hKa)
            have HLT := Lib.hid (show ∀ g, A' g → g < wr.heap.size from fun g x => HTJ.out.lt x)
            clear hba hKa
            go_cut [17, 18] (fun a c X => ∃ b2, a = .pointer (some ⟨b2, 0, none⟩) ∧ c = .int .i64 ap.err ∧ OutP A' W0 wr ub tb ap am.t ((encT t).length + 16 * j + 16) (hs.length + 16 * xs.length + 16) X b2)
            case first =>
              go_region_held3 (fun X => X.cell? ⟨w.heap.size, 0, none⟩ = some (.string ⟨s.home.toArray⟩) ∧ X.cell? ⟨w.heap.size, 1, none⟩ = some (.int .i64 s.owner) ∧ X.cell? ⟨w.heap.size, 2, none⟩ = some (.int .i64 s.qn) ∧ X.cell? ⟨w.heap.size, 3, none⟩ = some (.int .i64 s.qb) ∧ X.cell? ⟨wr.heap.size, 0, none⟩ = some (.int .i64 x.kind) ∧ X.cell? ⟨wr.heap.size, 1, none⟩ = some (.string ⟨x.path.toArray⟩) ∧ X.cell? ⟨wr.heap.size, 2, none⟩ = some (.slice Ax x.data.length cx) ∧ X.cell? ⟨wr.heap.size, 3, none⟩ = some (.int .i64 x.ver) ∧ X.cell? ⟨wr.heap.size, 4, none⟩ = some (.bool x.eph) ∧ X.cell? ⟨wr.heap.size, 5, none⟩ = some (.bool x.seq))
                (refine ⟨Kept.cell ?_ r0, Kept.cell ?_ r1, Kept.cell ?_ r2, Kept.cell ?_ r3, chg_cellS (F := fun g => g ≠ wr.heap.size) ?_ q0 (fun e => e rfl), chg_cellS (F := fun g => g ≠ wr.heap.size) ?_ q1 (fun e => e rfl), chg_cellS (F := fun g => g ≠ wr.heap.size) ?_ q2 (fun e => e rfl), chg_cellS (F := fun g => g ≠ wr.heap.size) ?_ q3 (fun e => e rfl), chg_cellS (F := fun g => g ≠ wr.heap.size) ?_ q4 (fun e => e rfl), chg_cellS (F := fun g => g ≠ wr.heap.size) ?_ q5 (fun e => e rfl)⟩ <;> (repeat (first | exact hK5 | exact hK4 | exact hK3 | exact hC5 | exact hC4 | exact Chg.refl _ _ | refine Kept.alloc ?_ _ | refine Kept.drew ?_ | refine Chg.alloc ?_ _ | refine Chg.drew ?_ | refine kept_pokeM ?_ (by have := hK3.size; (try have := hK4.size); (try have := hK5.size); (try have := hC4.size); (try have := hC5.size); omega) _ _ | refine Chg.setCell ?_ _ (fun _ => (by have := hK3.size; (try have := hK4.size); (try have := hK5.size); (try have := hC4.size); (try have := hC5.size); omega)))))
                (first
                  | (go_at_call 8; refine (HC2.out _ _ (Ops8.one1 (by first | exact mal2a _ _ _ | exact ((Kept.refl _).drew).block' (mal2a _ _ _) | exact mal2b _ _ _ | exact ((Kept.refl _).drew).block' (mal2b _ _ _) | exact mal1 _ _ | exact ((Kept.refl _).drew).block' (mal1 _ _)) (HBTa.out.kept (by repeat (first | exact Kept.refl _ | refine Kept.alloc ?_ _ | refine Kept.drew ?_))))).mono ?_; rintro e w4 ⟨v4, ys, rfl, ho4, hp4, hk4⟩; have hkc : Kept wa w4 := Kept.trans (by repeat (first | exact Kept.refl _ | refine Kept.alloc ?_ _ | refine Kept.drew ?_)) hk4; have hK4 := hK3.trans hkc; have hC4 : Chg (fun g => g ≠ wr.heap.size) wa w4 := Chg.of_kept hkc; have HKC := Lib.hid hkc; have HOC := Lib.hid (show ∃ bs, wa.heap.size ≤ bs ∧ OpsAt bs w4 v4 ys from ⟨_, keptSizeM (by repeat (first | exact Kept.refl _ | refine Kept.alloc ?_ _ | refine Kept.drew ?_)), ho4⟩); have HPC := Lib.hid hp4; (try (have HOB := Lib.hid (show w4.heap[wa.heap.size]? = some out00 from hk4.block' (by first | exact mal2a _ _ _ | exact ((Kept.refl _).drew).block' (mal2a _ _ _) | exact mal2b _ _ _ | exact ((Kept.refl _).drew).block' (mal2b _ _ _) | exact mal1 _ _ | exact ((Kept.refl _).drew).block' (mal1 _ _))))); (try (have HOB2 := Lib.hid (show w4.heap[wa.heap.size + 1]? = some out00 from hk4.block' (by first | exact mal2a _ _ _ | exact ((Kept.refl _).drew).block' (mal2a _ _ _) | exact mal2b _ _ _ | exact ((Kept.refl _).drew).block' (mal2b _ _ _) | exact mal1 _ _ | exact ((Kept.refl _).drew).block' (mal1 _ _))))); clear ho4 hp4 hkc hk4)
                  | (go_at_call 7; have hbs := Classical.choose_spec HOC.out; have hb0 := heap_alloc_new w4 (.cells #[.slice none 0 0, .slice none 0 0, .int .i64 0] 34); have hkA := HKC.out.alloc (.cells #[.slice none 0 0, .slice none 0 0, .int .i64 0] 34); have hoA := hbs.2.kept ((Kept.refl w4).alloc (.cells #[.slice none 0 0, .slice none 0 0, .int .i64 0] 34)); have hlc := HKC.out.size; have hsz : w4.heap.size < (w4.alloc (.cells #[.slice none 0 0, .slice none 0 0, .int .i64 0] 34)).heap.size := (by simp); generalize w4.alloc (.cells #[.slice none 0 0, .slice none 0 0, .int .i64 0] 34) = wk at *; refine (HP2.out _ ys wk _ (HKa.out.trans hkA) (Nat.le_trans HKa.out.size hbs.1) hoA HPC.out).mono ?_; rintro e w5 ⟨rv, ev, H, rfl, hr5, he5, hrH, heH, hHA, htw, hap⟩; have hK5 := htw.old; obtain ⟨Ap, cp, hrv⟩ := own_form hr5; obtain ⟨Aq, cq, hev⟩ := own_form he5; subst hrv hev; have hC5 : Chg (fun g => g ≠ wr.heap.size) wa w5 := (Chg.of_kept hkA).trans hap (fun g _ hn e => hn (.inr ⟨by omega, by have := keptSizeM hkA; omega⟩)); have hb2 := hap.block' hb0 (fun x => x (.inr ⟨by omega, hsz⟩)); have hold := Lib.hid (OutP.past (Ae := Aq) (ce := cq) hr5 hrH hHA htw hap (HKa.out.trans hkA) ⟨by omega, hsz⟩ (fun x => by have := HLT.out _ x; omega) (by omega) hb2); have s0 := cell_at hb2 0; have s1 := cell_at hb2 1; have s2 := cell_at hb2 2; have f0 := frozen_at hb2 0; have f1 := frozen_at hb2 1; have f2 := frozen_at hb2 2; simp only [List.getElem?_toArray, List.getElem?_cons_zero, List.getElem?_cons_succ] at s0 s1 s2; have hbb := hK4.size; clear hb2 hb0 hsz hkA hoA hbs; clear hr5 he5 hrH heH hHA htw hap; generalize w4.heap.size = bb at *)
                  | (go_at_call 7; have hbs := Classical.choose_spec HOC.out; have hlc := HKC.out.size; refine (HP2.out _ ys w4 _ (HKa.out.trans HKC.out) (Nat.le_trans HKa.out.size hbs.1) hbs.2 HPC.out).mono ?_; rintro e w5 ⟨rv, ev, H, rfl, hr5, he5, hrH, heH, hHA, htw, hap⟩; have hK5 := htw.old; obtain ⟨Ap, cp, hrv⟩ := own_form hr5; obtain ⟨Aq, cq, hev⟩ := own_form he5; subst hrv hev; have hC5 : Chg (fun g => g ≠ wr.heap.size) wa w5 := (Chg.of_kept HKC.out).trans hap (fun g _ hn e => hn (.inr ⟨by omega, by have := keptSizeM HKC.out; omega⟩)); (first | (have hlb := (Array.getElem?_eq_some_iff.1 HOB.out).1; have hb2 : w5.heap[wa.heap.size]? = some out00 := hap.block' HOB.out (fun x => x (.inr ⟨by omega, hlb⟩)); have hold := Lib.hid (OutP.past (Ae := Aq) (ce := cq) hr5 hrH hHA htw hap (HKa.out.trans HKC.out) ⟨by omega, hlb⟩ (fun x => by have := HLT.out _ x; omega) (by omega) hb2); unfold out00 at hb2; have s0 := cell_at hb2 0; have s1 := cell_at hb2 1; have s2 := cell_at hb2 2; have f0 := frozen_at hb2 0; have f1 := frozen_at hb2 1; have f2 := frozen_at hb2 2; simp only [List.getElem?_toArray, List.getElem?_cons_zero, List.getElem?_cons_succ] at s0 s1 s2; clear hb2 hlb; clear hr5 he5 hrH heH hHA htw hap) | (first | (have hlb := (Array.getElem?_eq_some_iff.1 HOB2.out).1; have hb2 : w5.heap[wa.heap.size + 1]? = some out00 := hap.block' HOB2.out (fun x => x (.inr ⟨by omega, hlb⟩)); have hold := Lib.hid (OutP.past (Ae := Aq) (ce := cq) hr5 hrH hHA htw hap (HKa.out.trans HKC.out) ⟨by omega, hlb⟩ (fun x => by have := HLT.out _ x; omega) (by omega) hb2); unfold out00 at hb2; have s0 := cell_at hb2 0; have s1 := cell_at hb2 1; have s2 := cell_at hb2 2; have f0 := frozen_at hb2 0; have f1 := frozen_at hb2 1; have f2 := frozen_at hb2 2; simp only [List.getElem?_toArray, List.getElem?_cons_zero, List.getElem?_cons_succ] at s0 s1 s2; clear hb2 hlb; clear hr5 he5 hrH heH hHA htw hap) | (have hnew := Lib.hid (OutP.new (Ae := Aq) (ce := cq) hr5 htw hap (HKa.out.trans HKC.out)); clear hr5 he5 hrH heH hHA htw hap))); clear hbs))
              all_goals
                go_wp2
                go_meet
                case rel => first | exact ⟨_, rfl, rfl, hold.out⟩ | exact ⟨_, rfl, rfl, hnew.out⟩
            case rest =>
            obtain ⟨b2, rfl, rfl, Ap, cp, Aq, cq, hb2, hr2, ht2, ha2⟩ := hcut
            rw [HE3.out] at hb2 hr2
            rw [HE2.out] at ht2
            rw [HE1.out]
            obtain ⟨gp, cp', ep, hcp1, hcp2⟩ := mown_some hr2 (by simp)
            obtain ⟨rfl, -, rfl⟩ : Ap = some ⟨gp, 0, none⟩ ∧ ([r] : List (Pth × Int)).length = [r].length ∧ cp = cp' := by simpa using ep
            have y0 := mown_cell hr2 (j := 0) (cellsR_at (l := [r]) (j := 0) rfl).1
            have y1 := mown_cell hr2 (j := 1) (cellsR_at (l := [r]) (j := 0) rfl).2
            have p0 := cell_at hb2 0
            simp only [List.getElem?_toArray, List.getElem?_cons_zero, List.getElem?_cons_succ, List.length_cons, List.length_nil, Nat.zero_add] at p0
            have haw := HAJ.out.trans ha2
            have hbo := haw.block' HBB.out (fun x => x HAB.out)
            have o0 := cell_at hbo 0
            simp only [List.getElem?_toArray, List.getElem?_cons_zero, List.getElem?_cons_succ] at o0
            have hro := own_chg HRES.out haw (fun g x y => y (HAR.out g x))
            have hjr : j < am.res.length := by rw [HRL.out]; exact hlt
            obtain ⟨go, co', eo, hco1, hco2⟩ := mown_some hro (by omega)
            obtain ⟨rfl, -, rfl⟩ : Ar = some ⟨go, 0, none⟩ ∧ am.res.length = am.res.length ∧ cr = co' := by simpa using eo
            have z0 := mown_cell hro (j := j * 2) (cellsR_at HR.out).1
            have z1 := mown_cell hro (j := j * 2 + 1) (cellsR_at HR.out).2
            unfold maxLen at hcp2 hco2
            have g2 : (j : Int) < (am.res.length : Int) := by omega
            have g3 : decide ((am.res.length : Int) ≤ (j : Int)) = false := decide_eq_false (by omega)
            have HT2 := Lib.hid ht2
            have HA2 := Lib.hid haw
            clear hb2 hr2 ht2 ha2 hbo hro haw ep eo r0 r1 r2 r3 r4 q0 q1 q2 q3 q4 q5
            go_wp2_with fail
            go_quiet (fail)
            go_wp2
            go_roundw
            case rel => exact ⟨j + 1, by go_num, by omega, (HT2.out.swap.kept ((Kept.refl wc).drewN _)).more (Nat.le_refl _) (by omega), HA2.out.trans (Apart.of_kept ((Kept.refl wc).drewN _)), by rw [← HE2.out]; exact HAK.out.1, by rw [← HE2.out]; exact HAK.out.2.more (by simp only [List.length_cons, List.length_nil]; omega), by rw [← HE2.out]; have hz := HAL.out; have := HLJ.out; simp only [List.length_cons, List.length_nil] at hz; omega⟩
            case measure => simp [intOf]; omega
          · obtain rfl : j = s.ops.length := by omega
            have hle := HLE.out
            have hlj := HLJ.out
            have hln := HLN.out
            have hpl := HPL.out
            have heu := HTJ.out.swap.first.encode (Kept.refl wr) HWJ.out HBJ.out (by omega) (by omega) (by omega)
            rw [HTN.out] at heu
            have HEU := Lib.hid heu
            have HET := Lib.hid (show ∀ X, Kept wr X → _ from fun X k => HTJ.out.first.encode (X := X) k HKP.out.1 HKP.out.2 (by omega) (by omega) (by omega))
            have hbo := HAJ.out.block' HBB.out (fun x => x HAB.out)
            have o0 := cell_at hbo 0
            simp only [List.getElem?_toArray, List.getElem?_cons_zero, List.getElem?_cons_succ] at o0
            rw [HRL.out] at o0
            have HKF := Lib.hid (HKA.out.trans HTJ.out.old)
            clear heu hbo r0 r1 r2 r3
            go_wp2_with fail
            refine HEU.out.mono ?_
            rintro e w5 ⟨v5, rfl, ho5, k5⟩
            have HB5 := Lib.hid (Bts.of_own ho5)
            have HK5 := Lib.hid k5
            have o0 := k5.cell o0
            have r4 := k5.cell r4
            obtain ⟨A5, c5, rfl⟩ := own_form ho5
            clear ho5 k5
            go_wp2_with fail
            refine (HET.out _ HK5.out).mono ?_
            rintro e w6 ⟨v6, rfl, ho6, k6⟩
            have HB6 := Lib.hid (Bts.of_own ho6)
            have HB5 := Lib.hid (HB5.out.kept k6)
            have HK6 := Lib.hid (HK5.out.trans k6)
            have o0 := k6.cell o0
            have r4 := k6.cell r4
            obtain ⟨A6, c6, rfl⟩ := own_form ho6
            clear ho6 k6
            have hsm := same_any (encT am.t) (encT am.t) _ _ w6 HB5.out HB6.out
            rw [show (encT am.t == encT am.t) = true by simp] at hsm
            have HSM := Lib.hid hsm
            clear hsm
            go_wp2_with fail
            refine HSM.out.mono ?_
            rintro e w7 ⟨rfl, rfl⟩
            go_wp2_with fail
            refine (HA.out _ (HKF.out.trans HK6.out)).mono ?_
            rintro e w8 ⟨rfl, k8⟩
            have hk := (HKF.out.trans HK6.out).trans k8
            go_wp2
            go_ret
            exact ⟨rfl, hk⟩
end Go.Proofs.YtennlckfmgfjbaaGreatDoor
set_option linter.unusedVariables false
set_option linter.unusedSimpArgs false
namespace Go.Proofs.YtennlckfmgfjbaaGreatDoor
open Go.ChangeShapes Go.WideShapes Go.ChangeAt Go.RowKit Go.Joins
set_option maxRecDepth 100000 in
theorem openTxtsB {H : Type} {enc : TypeId × Value → H} {W : World} {a0 : Option Addr} {len cap : Nat} {d0 : DataW H} {p : List MemPlace} (h0 : DataW.Trod enc Tryz.prog W 0 (fun _ => true) true 22 (.slice a0 len cap) d0 p) :
    ∃ (ls : List (List UInt8)), Txts W (.slice a0 len cap) ls ∧ ls.length ≤ Rows.uptoBulk d0 ∧ ∀ l ∈ ls, l.length ≤ Rows.uptoBulk d0 := by
  obtain ⟨fuel, hf⟩ := h0
  rcases open_strings Tryz.underlying22 Tryz.underlying9 cellsStr hf with ⟨hcs, hx⟩ | ⟨a, len', cap', ss, hcs, -, hl, hm, hz, hx, hcell, hsz⟩
  · simp [Value.cells] at hcs
    obtain ⟨rfl, rfl, rfl⟩ := hcs
    exact ⟨[], ⟨none, 0, rfl, Nat.le_refl _, by decide, fun h => absurd h (by simp)⟩, Nat.zero_le _, fun l hl => by cases hl⟩
  · simp [Value.cells] at hcs
    obtain ⟨rfl, rfl, rfl⟩ := hcs
    simp only [Prod.mk.injEq] at hx
    obtain ⟨rfl, rfl⟩ := hx
    simp only [if_true] at hz
    have hlen : (ss.take len).length = len := by simp; omega
    refine ⟨(ss.take len).map fun s => s.data.toList, ⟨some a, cap, by rw [List.length_map, hlen], by rw [List.length_map, hlen]; exact hl, hm, fun hpos => ?_⟩, ?_, fun l hl' => ?_⟩
    · rw [List.length_map, hlen] at hpos
      obtain ⟨b, o, rfl⟩ := addr_plain (hcell 0 (by omega))
      refine ⟨b, o, rfl, fun k l hx => ?_⟩
      have hk : k < len := by
        have := (List.getElem?_eq_some_iff.1 hx).1
        rw [List.length_map] at this
        omega
      have hks : k < ss.length := by omega
      rw [List.getElem?_map, List.getElem?_take_of_lt hk, List.getElem?_eq_getElem hks] at hx
      simp only [Option.map_some, Option.some.injEq] at hx
      subst hx
      have := hcell k hks
      rw [Go.WideShapes.add_plain, List.getD_eq_getElem?_getD, List.getElem?_eq_getElem hks, Option.getD_some] at this
      rw [this]
    · rw [List.length_map]
      have h2 := bulk_len (strs (H := H) (ss.take len))
      have h3 : (strs (H := H) (ss.take len)).length = (ss.take len).length := by unfold strs; simp
      simp only [Rows.uptoBulk]
      omega
    · obtain ⟨s, hs, rfl⟩ := List.mem_map.1 hl'
      have h4 := bulk_mem (H := H) (l := strs (ss.take len)) (d := .lit (.string s.data.toList)) (by unfold strs; exact List.mem_map.2 ⟨s, hs, rfl⟩)
      have h5 : s.data.toList.length ≤ Rows.uptoBulk (H := H) (.lit (.string s.data.toList)) := by simp [Rows.uptoBulk]
      simp only [Rows.uptoBulk] at h4 h5 ⊢
      omega
set_option maxRecDepth 100000 in
theorem openTxnV {H : Type} {enc : TypeId × Value → H} {W : World} {base : Nat} {v : Value} {d : DataW H} {p : List MemPlace} (hv : Value.okWide Tryz.prog W .any base 28 v) (h : DataW.Trod enc Tryz.prog W 0 (fun _ => true) true 28 v d p) :
    ∃ x : TxnX, v = .agg #[.string ⟨x.home.toArray⟩, .int .i64 x.owner, .int .i64 x.qn, .int .i64 x.qb, x.ov, .bool x.sweep] ∧ x.Reads W ∧ TxnB x (Rows.uptoBulk d) := by
  obtain ⟨cs, rfl, hsz⟩ := okWide_struct Tryz.underlying28 hv
  rw [cellsTxn] at hsz
  obtain ⟨cs⟩ := cs
  obtain ⟨fuel, hf⟩ := h
  match cs, hsz with
  | [c0, c1, c2, c3, c4, c5], _ =>
    obtain ⟨x, rfl, rfl, rfl, rfl, rfl, rfl, b, z⟩ := openTxn (show DataW.trod enc Tryz.prog W 0 (fun _ => true) true fuel 28 [c0, c1, c2, c3, c4, c5] = some (d, p) by simpa [Value.cells] using hf)
    exact ⟨x, rfl, b, z⟩
theorem multiWhole_row (hs : List Pth) (hv0 : Value) (xs : List TxnX) (v : Value) (s : TxnX) (w : World) (hhs : Txts w hv0 hs) (hhl : hs.length ≤ 1048576) (hh : ∀ h ∈ hs, h.length ≤ 140737488355328) (hv : Script8 w v xs) (hf : ∀ x ∈ xs, x.Fits) (hl : xs.length ≤ 1048576) (ho : opsUp xs xs.length ≤ 1048576) (hsr : s.Reads w) (hsf : s.Fits) (htab : TbZ w) (hsh : w.ShapedOpen Tryz.prog) :
    Calls Tryz.prog 3 #[hv0, v, .agg #[.string ⟨s.home.toArray⟩, .int .i64 s.owner, .int .i64 s.qn, .int .i64 s.qb, s.ov, .bool s.sweep]] w fun e w' => e = .returned (.bool true) ∧ Kept w w' := by
  obtain ⟨ml, hml⟩ := maxLen_cell hsh
  exact multiWhole_any hs hv0 xs v s w hhs hhl hh hv hf hl ho hsr hsf htab hml
end Go.Proofs.YtennlckfmgfjbaaGreatDoor
