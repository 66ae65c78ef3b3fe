/- Transactions of a home as plain data: what a draft knows of a home is all that they ask. The draft of a home: plain data. -/
import Derived.Test.YtennlckfmgfjbaaGreatDoorQZDec
import Derived.Test.YtennlckfmgfjbaaGreatDoorGPUnder3
set_option linter.unusedSimpArgs false
set_option linter.unusedVariables false
namespace Go.Proofs.YtennlckfmgfjbaaGreatDoor
/-- Is it a path of the home? -/
def inH (h : Pth) (p : Pth) : Bool := match names p with
  | some (x :: _) => x == h
  | _ => false
def filt (h : Pth) (t : ZT) : ZT := t.filter fun x => inH h x.1
theorem inH_parent {h p up : Pth} (hp : parentOf p = some up) (hu : up ≠ [47]) : inH h up = inH h p := by
  unfold parentOf at hp
  cases hn : names p with
  | none => rw [hn] at hp; cases hp
  | some ls =>
    rw [hn] at hp
    simp only at hp
    by_cases e : ls = []
    · rw [if_pos e] at hp; cases hp
    · rw [if_neg e] at hp
      obtain rfl := Option.some.inj hp
      have hk : okNames ls.dropLast = true := by
        obtain ⟨h1, h2⟩ := names_some hn
        rw [← List.dropLast_concat_getLast e] at h1
        exact okNames_prefix h1
      unfold inH
      rw [hn, names_mk_ok hk]
      cases ls with
      | nil => exact absurd rfl e
      | cons x r =>
        cases r with
        | nil => exact absurd rfl hu
        | cons y r => rfl
theorem getZ_filt {h k : Pth} (hk : inH h k = true) (t : ZT) : getZ k (filt h t) = getZ k t := by
  unfold getZ filt
  rw [List.find?_filter]
  congr 2
  funext x
  by_cases e : x.1 = k
  · subst e; simp [hk]
  · simp [e]
theorem filt_onZ (h k : Pth) (f : ZN → ZN) (t : ZT) : filt h (onZ k f t) = onZ k f (filt h t) := by
  unfold filt onZ
  rw [List.filter_map]
  congr 1
  refine List.filter_congr fun x hx => ?_
  simp only [Function.comp]
  by_cases e : x.1 = k
  · rw [if_pos e]
  · rw [if_neg e]
theorem filt_cut (h k : Pth) (t : ZT) : filt h (cutZ k t) = cutZ k (filt h t) := by
  unfold filt cutZ
  rw [List.filter_filter, List.filter_filter]
  refine List.filter_congr fun x hx => ?_
  rw [Bool.and_comm]
theorem filt_ins {h : Pth} {x : Pth × ZN} (hx : inH h x.1 = true) (t : ZT) (hs : SrtZ t) : filt h (insZ x t) = insZ x (filt h t) := by
  unfold filt
  induction t with
  | nil => simp [insZ, hx]
  | cons y r ih =>
    obtain ⟨h1, h2⟩ := List.pairwise_cons.1 hs
    rw [insZ]
    by_cases hb : bytesBefore x.1 y.1 = true
    · rw [if_pos hb, List.filter_cons, if_pos hx]
      cases hy : inH h y.1 with
      | true => rw [List.filter_cons, if_pos hy, insZ, if_pos hb]
      | false =>
        rw [List.filter_cons, if_neg (by rw [hy]; simp)]
        cases hr : r.filter (fun x => inH h x.1) with
        | nil => rfl
        | cons z s =>
          have hz : z ∈ r := (List.mem_filter.1 (show z ∈ r.filter (fun x => inH h x.1) by rw [hr]; simp)).1
          rw [insZ, if_pos (bbZ_trans hb (h1 z hz))]
    · rw [if_neg hb, List.filter_cons, List.filter_cons]
      cases hy : inH h y.1 with
      | true => rw [if_pos rfl, if_pos rfl, insZ, if_neg hb, ih h2]
      | false => rw [if_neg (by simp), if_neg (by simp), ih h2]
theorem filt_put {h k : Pth} (hk : inH h k = true) (n : ZN) {t : ZT} (hs : SrtZ t) : filt h (putZ k n t) = putZ k n (filt h t) := by
  unfold putZ
  rw [filt_ins hk _ (srt_cutZ hs), filt_cut]
/-- An op. -/
structure OpM where
  kind : Int
  path : Pth
  data : List UInt8
  ver : Int
  eph : Bool
  seq : Bool
/-- Work: the tree, what its home holds, what was told. -/
structure WkM where
  t : ZT
  un : Int
  ub : Int
  res : List (Pth × Int)
  eff : List (Int × Pth)
def withinE (h : Pth) (o : OpM) : Int :=
  if o.kind < 1 ∨ 4 < o.kind then 80 else
  match names o.path with
  | none => 20
  | some ls => if ls = [] ∨ ls.headD [] ≠ h then 82 else if ls.length = 1 ∧ (o.kind = 1 ∨ o.kind = 2) then 82 else 0
/-- The data at a path; nothing, if it isn't there. -/
def dataOf (t : ZT) (p : Pth) : List UInt8 := match getZ p t with | some n => n.data | none => []
def roomE (qn qb un ub : Int) : Int := if qn < un ∨ qb < ub then 81 else 0
def ownerOf (owner : Int) (o : OpM) : Int := if o.eph then owner else 0
/-- One op: the error, the work behind it. -/
def oneM (h : Pth) (owner qn qb : Int) (w : WkM) (o : OpM) : Int × WkM :=
  if withinE h o ≠ 0 then (withinE h o, w) else
  if o.kind = 1 then
    if createE w.t o.path o.data.length (ownerOf owner o) o.seq ≠ 0 then (createE w.t o.path o.data.length (ownerOf owner o) o.seq, w)
    else (roomE qn qb (w.un + 1) (w.ub + ((createP w.t o.path o.data.length (ownerOf owner o) o.seq).length + o.data.length)),
      ⟨createS w.t o.path o.data (ownerOf owner o) o.seq, w.un + 1, w.ub + ((createP w.t o.path o.data.length (ownerOf owner o) o.seq).length + o.data.length),
        w.res ++ [(createP w.t o.path o.data.length (ownerOf owner o) o.seq, 0)], w.eff ++ [(1, createP w.t o.path o.data.length (ownerOf owner o) o.seq)]⟩)
  else if o.kind = 2 then
    if deleteE w.t o.path o.ver ≠ 0 then (deleteE w.t o.path o.ver, w)
    else (0, ⟨deleteS w.t o.path o.ver, w.un - 1, w.ub - (o.path.length + (dataOf w.t o.path).length), w.res ++ [([], 0)], w.eff ++ [(2, o.path)]⟩)
  else if o.kind = 3 then
    if setE w.t o.path o.data.length o.ver ≠ 0 then (setE w.t o.path o.data.length o.ver, w)
    else (roomE qn qb w.un (w.ub + (o.data.length - (dataOf w.t o.path).length)),
      ⟨setS w.t o.path o.data o.ver, w.un, w.ub + (o.data.length - (dataOf w.t o.path).length), w.res ++ [([], setV w.t o.path o.data.length o.ver)], w.eff ++ [(3, o.path)]⟩)
  else
    match getZ o.path w.t with
    | none => (70, w)
    | some n => if verOK o.ver n = false then (72, w) else (0, { w with res := w.res ++ [([], 0)] })
/-- Ops, the first at place i: the error, the place of the one that failed (-1: none), the work. -/
def doM (h : Pth) (owner qn qb : Int) : Int → WkM → List OpM → Int × Int × WkM
  | _, w, [] => (0, -1, w)
  | i, w, o :: r => if (oneM h owner qn qb w o).1 ≠ 0 then ((oneM h owner qn qb w o).1, i, (oneM h owner qn qb w o).2) else doM h owner qn qb (i + 1) (oneM h owner qn qb w o).2 r
/-- What a home's nodes come to. -/
def sumB (t : ZT) : Nat := (t.map fun x => x.1.length + x.2.data.length).sum
def useN (h : Pth) (t : ZT) : Int := ((filt h t).length : Int)
def useB (h : Pth) (t : ZT) : Int := (sumB (filt h t) : Int)
/-! ### a draft answers as the tree -/
theorem within_zero {h : Pth} {o : OpM} (hw : withinE h o = 0) : 1 ≤ o.kind ∧ o.kind ≤ 4 ∧ inH h o.path = true ∧ ((o.kind = 1 ∨ o.kind = 2) → ∀ up, parentOf o.path = some up → up ≠ [47]) := by
  unfold withinE at hw
  by_cases hk : o.kind < 1 ∨ 4 < o.kind
  · rw [if_pos hk] at hw; cases hw
  · rw [if_neg hk] at hw
    cases hn : names o.path with
    | none => rw [hn] at hw; cases hw
    | some ls =>
      rw [hn] at hw
      simp only at hw
      by_cases h1 : ls = [] ∨ ls.headD [] ≠ h
      · rw [if_pos h1] at hw; cases hw
      · rw [if_neg h1] at hw
        by_cases h2 : ls.length = 1 ∧ (o.kind = 1 ∨ o.kind = 2)
        · rw [if_pos h2] at hw; cases hw
        · refine ⟨by omega, by omega, ?_, fun hkk up hp e => ?_⟩
          · unfold inH
            rw [hn]
            cases ls with
            | nil => exact absurd (.inl rfl) h1
            | cons x r =>
              simp only [List.headD_cons, not_or, Decidable.not_not] at h1
              simp [h1.2]
          · unfold parentOf at hp
            rw [hn] at hp
            simp only at hp
            have hls : ls ≠ [] := fun e => h1 (.inl e)
            rw [if_neg hls] at hp
            have hp := Option.some.inj hp
            cases ls with
            | nil => exact hls rfl
            | cons x r =>
              cases r with
              | nil => exact h2 ⟨rfl, hkk⟩
              | cons y r =>
                rw [← hp] at e
                have hne : (x :: y :: r).dropLast ≠ [] := by simp
                rw [mk_ne hne] at e
                have h3 : isName x = true := by
                  obtain ⟨h3, -⟩ := names_some hn
                  exact (okNames_all h3).1 x (by simp)
                rw [List.dropLast_cons_of_ne_nil (by simp), flat_cons] at e
                have e := (List.cons.inj e).2
                have : x = [] := List.append_eq_nil_iff.1 e |>.1
                rw [this] at h3
                revert h3
                decide
/-- The same of the home. -/
def Sim (h : Pth) (t d : ZT) : Prop := filt h t = filt h d
theorem Sim.get {h k : Pth} {t d : ZT} (s : Sim h t d) (hk : inH h k = true) : getZ k t = getZ k d := by
  rw [← getZ_filt hk t, ← getZ_filt hk d, s]
theorem Sim.has {h k : Pth} {t d : ZT} (s : Sim h t d) (hk : inH h k = true) : hasZ k t = hasZ k d := by rw [hasZ_get, hasZ_get, s.get hk]
theorem Sim.data {h k : Pth} {t d : ZT} (s : Sim h t d) (hk : inH h k = true) : dataOf t k = dataOf d k := by unfold dataOf; rw [s.get hk]
theorem place_in {h p up : Pth} {n : ZN} {seq : Bool} (hp : parentOf p = some up) (hu : up ≠ [47]) (hi : inH h p = true) (h3 : (placeQ n p seq).1 = 0) : inH h (placeQ n p seq).2 = true := by
  have := place_parent hp h3
  rw [← inH_parent this hu, inH_parent hp hu]
  exact hi
theorem Sim.createQ {h p : Pth} {t d : ZT} (s : Sim h t d) (hi : inH h p = true) (hu : ∀ up, parentOf p = some up → up ≠ [47]) (dl : Nat) (owner : Int) (seq : Bool) : createQ t p dl owner seq = createQ d p dl owner seq := by
  unfold Go.Proofs.YtennlckfmgfjbaaGreatDoor.createQ
  cases hp : parentOf p with
  | none => rfl
  | some up =>
    have hu' := hu up hp
    simp only
    rw [s.get (k := up) (by rw [inH_parent hp hu']; exact hi)]
    by_cases h1 : 256 < dl
    · rw [if_pos h1, if_pos h1]
    · rw [if_neg h1, if_neg h1]
      by_cases h2 : owner < 0 ∨ 4611686018427387903 < owner
      · rw [if_pos h2, if_pos h2]
      · rw [if_neg h2, if_neg h2]
        cases getZ up d with
        | none => rfl
        | some n =>
          simp only
          by_cases h3 : (placeQ n p seq).1 = 0
          · rw [if_neg (Decidable.not_not.2 h3), if_neg (Decidable.not_not.2 h3), s.has (place_in hp hu' hi h3)]
          · rw [if_pos h3, if_pos h3]
theorem Sim.create {h p : Pth} {t d : ZT} (s : Sim h t d) (ht : SrtZ t) (hd : SrtZ d) (hi : inH h p = true) (hu : ∀ up, parentOf p = some up → up ≠ [47]) (data : List UInt8) (owner : Int) (seq : Bool) :
    createE t p data.length owner seq = createE d p data.length owner seq ∧ createP t p data.length owner seq = createP d p data.length owner seq ∧ Sim h (createS t p data owner seq) (createS d p data owner seq) := by
  have hQ := s.createQ hi hu data.length owner seq
  have hE : createE t p data.length owner seq = createE d p data.length owner seq := by unfold createE; rw [hQ]
  have hP : createP t p data.length owner seq = createP d p data.length owner seq := by unfold createP; rw [hQ]
  refine ⟨hE, hP, ?_⟩
  unfold createS
  rw [hE, hP]
  by_cases h0 : createE d p data.length owner seq = 0
  · rw [if_pos h0, if_pos h0]
    obtain ⟨up, m, hp, hdl, ho, hg, h3, hh, hq⟩ := createE_zero h0
    have hin : inH h (createP d p data.length owner seq) = true := by rw [hq]; exact place_in hp (hu up hp) hi h3
    unfold Sim
    rw [filt_onZ, filt_onZ, filt_put hin _ ht, filt_put hin _ hd, s]
  · rw [if_neg h0, if_neg h0]
    exact s
theorem Sim.delete {h p : Pth} {t d : ZT} (s : Sim h t d) (hi : inH h p = true) (hu : ∀ up, parentOf p = some up → up ≠ [47]) (v : Int) :
    deleteE t p v = deleteE d p v ∧ Sim h (deleteS t p v) (deleteS d p v) := by
  have hE : deleteE t p v = deleteE d p v := by
    unfold deleteE
    cases hp : parentOf p with
    | none => rfl
    | some up =>
      simp only
      rw [s.get (k := up) (by rw [inH_parent hp (hu up hp)]; exact hi), s.get hi]
  refine ⟨hE, ?_⟩
  unfold deleteS
  rw [hE]
  by_cases h0 : deleteE d p v = 0
  · rw [if_pos h0, if_pos h0]
    unfold Sim
    rw [filt_onZ, filt_onZ, filt_cut, filt_cut, s]
  · rw [if_neg h0, if_neg h0]
    exact s
theorem Sim.setting {h p : Pth} {t d : ZT} (s : Sim h t d) (hi : inH h p = true) (data : List UInt8) (v : Int) :
    setE t p data.length v = setE d p data.length v ∧ setV t p data.length v = setV d p data.length v ∧ Sim h (setS t p data v) (setS d p data v) := by
  have hE : setE t p data.length v = setE d p data.length v := by
    unfold setE
    rw [s.get hi]
  refine ⟨hE, ?_, ?_⟩
  · unfold setV
    rw [hE, s.get hi]
  · unfold setS
    rw [hE]
    by_cases h0 : setE d p data.length v = 0
    · rw [if_pos h0, if_pos h0]
      unfold Sim
      rw [filt_onZ, filt_onZ, s]
    · rw [if_neg h0, if_neg h0]
      exact s
/-- The same work, but for what stands outside the home. -/
structure SimW (h : Pth) (a b : WkM) : Prop where
  sim : Sim h a.t b.t
  un : a.un = b.un
  ub : a.ub = b.ub
  res : a.res = b.res
  eff : a.eff = b.eff
theorem SimW.one {h : Pth} {a b : WkM} (s : SimW h a b) (ha : SrtZ a.t) (hb : SrtZ b.t) (owner qn qb : Int) (o : OpM) :
    (oneM h owner qn qb a o).1 = (oneM h owner qn qb b o).1 ∧ SimW h (oneM h owner qn qb a o).2 (oneM h owner qn qb b o).2 := by
  unfold oneM
  by_cases hw : withinE h o = 0
  · rw [if_neg (Decidable.not_not.2 hw), if_neg (Decidable.not_not.2 hw)]
    obtain ⟨k1, k2, hi, hu⟩ := within_zero hw
    by_cases e1 : o.kind = 1
    · rw [if_pos e1, if_pos e1]
      obtain ⟨c1, c2, c3⟩ := s.sim.create ha hb hi (hu (.inl e1)) o.data (ownerOf owner o) o.seq
      rw [c1, c2, s.un, s.ub, s.res, s.eff]
      by_cases h0 : createE b.t o.path o.data.length (ownerOf owner o) o.seq = 0
      · rw [if_neg (Decidable.not_not.2 h0), if_neg (Decidable.not_not.2 h0)]
        exact ⟨rfl, c3, rfl, rfl, rfl, rfl⟩
      · rw [if_pos h0, if_pos h0]
        exact ⟨rfl, s⟩
    · rw [if_neg e1, if_neg e1]
      by_cases e2 : o.kind = 2
      · rw [if_pos e2, if_pos e2]
        obtain ⟨c1, c3⟩ := s.sim.delete hi (hu (.inr e2)) o.ver
        rw [c1, s.un, s.ub, s.res, s.eff, s.sim.data hi]
        by_cases h0 : deleteE b.t o.path o.ver = 0
        · rw [if_neg (Decidable.not_not.2 h0), if_neg (Decidable.not_not.2 h0)]
          exact ⟨rfl, c3, rfl, rfl, rfl, rfl⟩
        · rw [if_pos h0, if_pos h0]
          exact ⟨rfl, s⟩
      · rw [if_neg e2, if_neg e2]
        by_cases e3 : o.kind = 3
        · rw [if_pos e3, if_pos e3]
          obtain ⟨c1, c2, c3⟩ := s.sim.setting hi o.data o.ver
          rw [c1, c2, s.un, s.ub, s.res, s.eff, s.sim.data hi]
          by_cases h0 : setE b.t o.path o.data.length o.ver = 0
          · rw [if_neg (Decidable.not_not.2 h0), if_neg (Decidable.not_not.2 h0)]
            exact ⟨rfl, c3, rfl, rfl, rfl, rfl⟩
          · rw [if_pos h0, if_pos h0]
            exact ⟨rfl, s⟩
        · rw [if_neg e3, if_neg e3, s.sim.get hi]
          cases getZ o.path b.t with
          | none => exact ⟨rfl, s⟩
          | some n =>
            simp only
            by_cases h0 : verOK o.ver n = false
            · rw [if_pos h0, if_pos h0]
              exact ⟨rfl, s⟩
            · rw [if_neg h0, if_neg h0]
              exact ⟨rfl, s.sim, s.un, s.ub, by simp only [s.res], s.eff⟩
  · rw [if_pos hw, if_pos hw]
    exact ⟨rfl, s⟩
/-! ### what stays true -/
theorem oneM_keeps {n : Nat} {h : Pth} {owner qn qb : Int} {w : WkM} (hw : WF w.t) (hb : WB n w.t) (o : OpM) : WF (oneM h owner qn qb w o).2.t ∧ WB (n + 1) (oneM h owner qn qb w o).2.t := by
  have h0 : WF w.t ∧ WB (n + 1) w.t := ⟨hw, hb.more (Nat.le_succ _)⟩
  unfold oneM
  split
  · exact h0
  · split
    · split
      · exact h0
      · exact ⟨hw.create _ _ _ _, (hb.create hw.srt _ _ _ _).more (Nat.le_succ _)⟩
    · split
      · split
        · exact h0
        · exact ⟨hw.delete _ _, (hb.delete _ _).more (Nat.le_succ _)⟩
      · split
        · split
          · exact h0
          · exact ⟨hw.setting _ _ _, hb.setting _ _ _⟩
        · split
          · exact h0
          · split
            · exact h0
            · exact h0
end Go.Proofs.YtennlckfmgfjbaaGreatDoor
set_option linter.unusedSimpArgs false
set_option linter.unusedVariables false
namespace Go.Proofs.YtennlckfmgfjbaaGreatDoor
/-- The path of a home; nothing, if it is no name. -/
def homeP (h : Pth) : Pth := strO (joinOf [47] [h])
theorem names_root : names [47] = some [] := by decide
theorem inH_root (h : Pth) : inH h [47] = false := by unfold inH; rw [names_root]
theorem home_under (h p : Pth) : under (homeP h) p = inH h p := by
  unfold homeP joinOf
  rw [names_root]
  simp only [List.nil_append]
  by_cases hk : okNames [h] = true
  · rw [if_pos hk]
    show under (mk [h]) p = _
    unfold under inH
    rw [names_mk_ok hk]
    cases names p with
    | none => rfl
    | some b =>
      cases b with
      | nil => rfl
      | cons x r =>
        simp only [List.isPrefixOf, Bool.and_true]
        rw [Bool.eq_iff_iff]
        simp only [beq_iff_eq]
        exact ⟨Eq.symm, Eq.symm⟩
  · rw [if_neg hk]
    show under [] p = _
    unfold under inH
    rw [show names [] = none by decide]
    cases hn : names p with
    | none => rfl
    | some b =>
      cases b with
      | nil => rfl
      | cons x r =>
        simp only
        symm
        rw [beq_eq_false_iff_ne]
        rintro rfl
        obtain ⟨h1, -⟩ := names_some hn
        obtain ⟨a1, a2, a3⟩ := okNames_all h1
        refine hk (okNames_mk (fun y hy => ?_) (by simp) ?_)
        · obtain rfl := List.mem_singleton.1 hy
          exact a1 _ (by simp)
        · rw [flat_cons] at a3
          rw [flat_one]
          simp only [List.length_cons, List.length_append] at a3 ⊢
          omega
theorem kid_parent {k q : Pth} (hk : k ≠ []) (h : isKid' k q = true) : parentOf q = some k := by
  unfold isKid' at h
  cases hp : parentOf q with
  | none => rw [hp] at h; exact absurd (by simpa [strO] using h) (Ne.symm hk)
  | some u => rw [hp] at h; rw [show u = k by simpa [strO] using h]
theorem inH_ne {h k : Pth} (hk : inH h k = true) : k ≠ [] ∧ k ≠ [47] := by
  refine ⟨fun e => ?_, fun e => ?_⟩
  · rw [e] at hk
    unfold inH at hk
    rw [show names [] = none by decide] at hk
    cases hk
  · rw [e, inH_root] at hk; cases hk
theorem names_filt (h : Pth) (t : ZT) : namesZ (filt h t) = (namesZ t).filter (inH h) := by
  unfold namesZ filt
  rw [List.filter_map]
  rfl
theorem cnt_filt {h k : Pth} (hk : inH h k = true) (t : ZT) : cntZ k (namesZ (filt h t)) = cntZ k (namesZ t) := by
  rw [names_filt]
  unfold cntZ
  rw [List.filter_filter]
  congr 1
  refine List.filter_congr fun q _ => ?_
  cases hq : isKid' k q with
  | false => rfl
  | true =>
    have hp := kid_parent (inH_ne hk).1 hq
    rw [← inH_parent hp (inH_ne hk).2, hk]
    rfl
/-- The root of a draft. -/
def root1 : ZN := ⟨[], 0, 1, 0, 0⟩
def draft0 (h : Pth) (t : ZT) : ZT := ([47], root1) :: filt h t
def draftT (h : Pth) (t : ZT) : ZT := recnt (draft0 h t)
theorem cnt_draft {h k : Pth} (hk : inH h k = true) (t : ZT) : cntZ k (namesZ (draft0 h t)) = cntZ k (namesZ t) := by
  rw [← cnt_filt hk t]
  unfold draft0 namesZ cntZ
  rw [List.map_cons, List.filter_cons, if_neg]
  unfold isKid'
  rw [show parentOf [47] = none by decide]
  simp only [strO, Option.getD_none, beq_iff_eq]
  exact Ne.symm (inH_ne hk).1
theorem mem_recnt {a : ZT} {x : Pth × ZN} (h : x ∈ recnt a) : ∃ m, (x.1, m) ∈ a ∧ x.2 = { m with kids := (cntZ x.1 (namesZ a) : Int) } := by
  obtain ⟨y, hy, rfl⟩ := List.mem_map.1 h
  exact ⟨y.2, hy, rfl⟩
theorem mem_filt {h : Pth} {t : ZT} {x : Pth × ZN} (hx : x ∈ filt h t) : x ∈ t ∧ inH h x.1 = true := by
  have := List.mem_filter.1 hx
  exact ⟨this.1, this.2⟩
theorem filt_same {h : Pth} {t : ZT} (hw : WF t) : filt h (draftT h t) = filt h t := by
  have e : filt h (recnt (draft0 h t)) = (filt h (draft0 h t)).map fun x => (x.1, { x.2 with kids := (cntZ x.1 (namesZ (draft0 h t)) : Int) }) := by
    unfold filt recnt
    rw [List.filter_map]
    rfl
  unfold draftT
  rw [e]
  have e2 : filt h (draft0 h t) = filt h t := by
    unfold draft0
    unfold filt
    rw [List.filter_cons, if_neg (by rw [inH_root]; simp), List.filter_filter]
    refine List.filter_congr fun x _ => ?_
    simp
  rw [e2]
  conv => rhs; rw [← List.map_id (filt h t)]
  refine List.map_congr_left fun x hx => ?_
  obtain ⟨h1, h2⟩ := mem_filt hx
  have := hw.kids x h1
  rw [cnt_draft h2, ← this]
  rfl
theorem draft_sim {h : Pth} {t : ZT} (hw : WF t) : Sim h t (draftT h t) := (filt_same hw).symm
theorem draft_srt {h : Pth} {t : ZT} (hw : WF t) : SrtZ (draft0 h t) := by
  obtain ⟨n, r, e⟩ := hw.root
  have hs := hw.srt
  refine List.pairwise_cons.2 ⟨fun x hx => ?_, List.Pairwise.filter _ hs⟩
  obtain ⟨h1, h2⟩ := mem_filt hx
  rw [e] at hs h1
  rcases List.mem_cons.1 h1 with rfl | h1
  · rw [inH_root] at h2; cases h2
  · exact (List.pairwise_cons.1 hs).1 x h1
theorem get_draft_root (h : Pth) (t : ZT) : ∃ kd, getZ [47] (draftT h t) = some { root1 with kids := kd } := by
  refine ⟨(cntZ [47] (namesZ (draft0 h t)) : Int), ?_⟩
  unfold draftT
  rw [recnt_get]
  rfl
theorem home_one {h : Pth} {p q : Pth} (hp : parentOf p = some [47]) (hq : parentOf q = some [47]) (ip : inH h p = true) (iq : inH h q = true) : p = q := by
  have key : ∀ {p : Pth}, parentOf p = some [47] → inH h p = true → p = mk [h] := fun {p} hp ip => by
    unfold parentOf at hp
    unfold inH at ip
    cases hn : names p with
    | none => rw [hn] at hp; cases hp
    | some ls =>
      rw [hn] at hp ip
      cases ls with
      | nil => cases ip
      | cons x r =>
        simp only at ip hp
        rw [if_neg (by simp)] at hp
        have hp := Option.some.inj hp
        obtain ⟨h1, h2⟩ := names_some hn
        have ip : x = h := by simpa using ip
        subst ip
        cases r with
        | nil => exact h2
        | cons y r =>
          exfalso
          have hk : okNames (x :: y :: r).dropLast = true := by
            have hne : (x :: y :: r) ≠ [] := by simp
            rw [← List.dropLast_concat_getLast hne] at h1
            exact okNames_prefix h1
          have := names_mk_ok hk
          rw [hp, names_root] at this
          simp at this
  rw [key hp ip, key hq iq]
theorem nodup_one {l : List Pth} (h : l.Nodup) (he : ∀ a ∈ l, ∀ b ∈ l, a = b) : l.length ≤ 1 := by
  cases l with
  | nil => exact Nat.zero_le _
  | cons a r =>
    cases r with
    | nil => exact Nat.le_refl _
    | cons b r =>
      exfalso
      have := he a (by simp) b (by simp)
      subst this
      exact (List.nodup_cons.1 h).1 (by simp)
theorem srt_nodup {t : ZT} (hs : SrtZ t) : (namesZ t).Nodup := by
  unfold namesZ
  refine List.pairwise_map.2 (hs.imp fun hab e => ?_)
  rw [e, bbZ_irrefl] at hab
  cases hab
theorem draft_wf {h : Pth} {t : ZT} (hw : WF t) : WF (draftT h t) := by
  have hnm : namesZ (draftT h t) = namesZ (draft0 h t) := recnt_names _
  have hsrt : SrtZ (draftT h t) := srt_namesZ hnm.symm (draft_srt hw)
  have hmem : ∀ x ∈ draftT h t, (x.1 = [47] ∧ x.2.ctr = 1) ∨ (inH h x.1 = true ∧ ∃ m, (x.1, m) ∈ t ∧ x.2.ctr = m.ctr) := fun x hx => by
    obtain ⟨m, hm, e⟩ := mem_recnt hx
    rcases List.mem_cons.1 hm with h1 | h1
    · simp only [Prod.mk.injEq] at h1
      obtain ⟨h1, rfl⟩ := h1
      exact .inl ⟨h1, by rw [e]; rfl⟩
    · obtain ⟨h2, h3⟩ := mem_filt h1
      exact .inr ⟨h3, m, h2, by rw [e]⟩
  refine ⟨hsrt, fun x hx => ?_, ⟨_, _, rfl⟩, fun x hx => ?_, fun x hx => ?_, fun x hx => ?_⟩
  · rcases hmem x hx with ⟨h1, -⟩ | ⟨-, m, hm, -⟩
    · rw [h1]; decide
    · exact hw.path (x.1, m) hm
  · rcases hmem x hx with ⟨h1, -⟩ | ⟨hi, m, hm, -⟩
    · exact .inl h1
    · rcases hw.par _ hm with e | ⟨up, m2, a1, a2, a3⟩
      · exact .inl e
      · right
        by_cases hu : up = [47]
        · obtain ⟨kd, hk⟩ := get_draft_root h t
          exact ⟨up, _, a1, by rw [hu]; exact hk, rfl⟩
        · have hiu : inH h up = true := by rw [inH_parent a1 hu]; exact hi
          refine ⟨up, m2, a1, ?_, a3⟩
          rw [← (draft_sim hw).get hiu]
          exact a2
  · obtain ⟨m, hm, e⟩ := mem_recnt hx
    rw [hnm, e]
  · obtain ⟨m, hm, e⟩ := mem_recnt hx
    rcases hmem x hx with ⟨h1, h2⟩ | ⟨hi, m', hm', hc⟩
    · rw [h2, e, h1]
      show (cntZ [47] (namesZ (draft0 h t)) : Int) ≤ 1
      have : cntZ [47] (namesZ (draft0 h t)) ≤ 1 := by
        unfold cntZ
        refine nodup_one ((srt_nodup (draft_srt hw)).filter _) (fun a ha b hb => ?_)
        have key : ∀ a ∈ (namesZ (draft0 h t)).filter (isKid' [47]), parentOf a = some [47] ∧ inH h a = true := fun a ha => by
          obtain ⟨h3, h4⟩ := List.mem_filter.1 ha
          have hp := kid_parent (by simp) h4
          refine ⟨hp, ?_⟩
          obtain ⟨y, hy, rfl⟩ := List.mem_map.1 h3
          rcases List.mem_cons.1 hy with rfl | hy
          · rw [show parentOf [47] = none by decide] at hp; cases hp
          · exact (mem_filt hy).2
        exact home_one (key a ha).1 (key b hb).1 (key a ha).2 (key b hb).2
      omega
    · rw [hc, e]
      show (cntZ x.1 (namesZ (draft0 h t)) : Int) ≤ _
      rw [cnt_draft hi]
      have h1 := hw.kids _ hm'
      have h2 := hw.ctr _ hm'
      simp only at h1 h2
      omega
theorem draft_wb {n : Nat} {h : Pth} {t : ZT} (hb : WB n t) : WB n (draftT h t) := by
  refine ⟨fun x hx => ?_, fun m hm => ?_⟩
  · obtain ⟨m, hm, e⟩ := mem_recnt hx
    rw [e]
    rcases List.mem_cons.1 hm with h1 | h1
    · simp only [Prod.mk.injEq] at h1
      obtain ⟨h1, rfl⟩ := h1
      exact ⟨Nat.zero_le _, Nat.zero_le _, (by decide : (1 : Nat) ≤ 10000000000), Nat.zero_le _, fun x => absurd rfl x⟩
    · have := hb.each _ (mem_filt h1).1
      exact ⟨this.small, this.ver, this.ctr, this.own, this.eph⟩
  · obtain ⟨kd, hk⟩ := get_draft_root h t
    rw [hk] at hm
    obtain rfl := Option.some.inj hm
    exact ⟨rfl, rfl, rfl⟩
theorem encT_recnt (a : ZT) : encT (recnt a) = encT a := by
  unfold encT recnt
  rw [List.flatMap_map]
  rfl
/-- What the draft's bytes tell. -/
theorem draft_decode {n : Nat} {h : Pth} {t : ZT} (hw : WF t) (hb : WB n t) (hn : n ≤ 4611686018427387903) : decodeZ (encT (draft0 h t)) = some (draftT h t) := by
  rw [← encT_recnt]
  exact decodeZ_enc (draft_wf hw) (draft_wb hb) hn
theorem use_sim {h : Pth} {t d : ZT} (s : Sim h t d) : useN h t = useN h d ∧ useB h t = useB h d := by
  unfold useN useB
  rw [s]
  exact ⟨rfl, rfl⟩
/-- What the paths under a home are. -/
theorem pick_home (h : Pth) (t : ZT) : pickL (fun q _ => under (homeP h) q) t = namesZ (filt h t) := by
  unfold pickL namesZ filt
  congr 1
  refine List.filter_congr fun x _ => ?_
  exact home_under h x.1
end Go.Proofs.YtennlckfmgfjbaaGreatDoor
