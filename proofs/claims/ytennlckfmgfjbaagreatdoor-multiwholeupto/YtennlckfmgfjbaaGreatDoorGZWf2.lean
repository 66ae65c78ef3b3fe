/- What is true of every tree: plain data. What is true of each node of a tree that calls made: plain data. -/
import Derived.Test.YtennlckfmgfjbaaGreatDoorGZNew3
import Derived.Test.YtennlckfmgfjbaaGreatDoorQZPkd
import Derived.Test.YtennlckfmgfjbaaGreatDoorGZGet2
set_option linter.unusedSimpArgs false
set_option linter.unusedVariables false
namespace Go.Proofs.YtennlckfmgfjbaaGreatDoor
def isKid' (p q : Pth) : Bool := strO (parentOf q) == p
/-- How many nodes stand right below a path. -/
def cntZ (p : Pth) (ks : List Pth) : Nat := (ks.filter (isKid' p)).length
theorem sp_dropLast (d : List UInt8) (hd : (47 : UInt8) ∉ d) : ∀ r : List UInt8, (sp (r ++ d)).dropLast = (sp r).dropLast
  | [] => by rw [List.nil_append, sp_free d hd]; rfl
  | c :: r => by
    have ih := sp_dropLast d hd r
    rw [List.cons_append]
    unfold sp
    by_cases e : c = 47
    · rw [if_pos e, if_pos e, List.dropLast_cons_of_ne_nil (sp_ne _), List.dropLast_cons_of_ne_nil (sp_ne _), ih]
    · rw [if_neg e, if_neg e]
      have h1 := sp_ne (r ++ d)
      have h2 := sp_ne r
      cases h3 : sp (r ++ d) with
      | nil => exact absurd h3 h1
      | cons y ys =>
        cases h4 : sp r with
        | nil => exact absurd h4 h2
        | cons x xs =>
          rw [h3, h4] at ih
          simp only
          cases ys with
          | nil =>
            cases xs with
            | nil => rfl
            | cons x2 xs => simp at ih
          | cons y2 ys =>
            cases xs with
            | nil => simp at ih
            | cons x2 xs =>
              have ih : y :: (y2 :: ys).dropLast = x :: (x2 :: xs).dropLast := ih
              show (c :: y) :: (y2 :: ys).dropLast = (c :: x) :: (x2 :: xs).dropLast
              injection ih with e1 e2
              rw [e1, e2]
theorem dk_free (k n : Nat) : (47 : UInt8) ∉ dk k n := fun h => by
  have := List.all_eq_true.1 (dk_okB k n) 47 h
  rw [okB_slash] at this
  cases this
theorem names_sp {l : Pth} {ls : List (List UInt8)} (h : names l = some ls) (hr : l ≠ [47]) : ls = sp (l.drop 1) := by
  unfold names at h
  rw [if_neg hr] at h
  split at h
  · exact (Option.some.inj h).symm
  · cases h
theorem parent_suf {p q : Pth} {n : Int} {up : Pth} (hp : parentOf p = some up) (hs : sufOf p n = some q) : parentOf q = some up := by
  unfold sufOf at hs
  cases hn : names p with
  | none => rw [hn] at hs; cases hs
  | some ls =>
    rw [hn] at hs
    simp only at hs
    split at hs
    · cases hs
    · rename_i hne
      split at hs
      · rename_i h9
        simp only [Option.some.injEq] at hs
        subst hs
        obtain ⟨ls', hls'⟩ := Option.isSome_iff_exists.1 h9
        have hpr : p ≠ [47] := fun e => by
          rw [e] at hp
          have : parentOf [47] = none := by decide
          rw [this] at hp
          cases hp
        obtain ⟨c, r, rfl⟩ : ∃ c r, p = c :: r := by
          cases p with
          | nil => simp [names] at hn
          | cons c r => exact ⟨c, r, rfl⟩
        have hlen := dk_len 10 n.toNat
        have hqr : (c :: r) ++ dk 10 n.toNat ≠ [47] := fun e => by
          have := congrArg List.length e
          rw [List.length_append, hlen] at this
          simp at this
        have e1 := names_sp hn hpr
        have e2 := names_sp hls' hqr
        rw [List.cons_append, List.drop_succ_cons, List.drop_zero] at e2
        rw [List.drop_succ_cons, List.drop_zero] at e1
        have e3 := sp_dropLast (dk 10 n.toNat) (dk_free _ _) r
        unfold parentOf at hp ⊢
        rw [hn] at hp
        rw [hls']
        simp only at hp ⊢
        have hl1 : ¬ ls = [] := fun e => by rw [e, if_pos rfl] at hp; cases hp
        have hl2 : ¬ ls' = [] := fun e => by rw [e] at e2; exact sp_ne _ e2.symm
        rw [if_neg hl1] at hp
        rw [if_neg hl2, ← hp, e1, e2, e3]
      · cases hs
/-- What is true of every tree. -/
structure WF (t : ZT) : Prop where
  srt : SrtZ t
  path : ∀ x ∈ t, (names x.1).isSome = true
  root : ∃ n r, t = ([47], n) :: r
  par : ∀ x ∈ t, x.1 = [47] ∨ ∃ up m, parentOf x.1 = some up ∧ getZ up t = some m ∧ m.own = 0
  kids : ∀ x ∈ t, x.2.kids = (cntZ x.1 (namesZ t) : Int)
  ctr : ∀ x ∈ t, x.2.kids ≤ (x.2.ctr : Int)
theorem root_first {t : ZT} (hs : SrtZ t) (hp : ∀ x ∈ t, (names x.1).isSome = true) {n : ZN} (h : ([47], n) ∈ t) : ∃ n r, t = ([47], n) :: r := by
  cases t with
  | nil => cases h
  | cons y r =>
    rcases List.mem_cons.1 h with h | h
    · exact ⟨n, r, by rw [h]⟩
    · exfalso
      have h1 : bytesBefore y.1 [47] = true := (List.pairwise_cons.1 hs).1 _ h
      obtain ⟨ls, hls⟩ := Option.isSome_iff_exists.1 (hp y (by simp))
      obtain ⟨a, b⟩ := names_some hls
      cases hy : y.1 with
      | nil => rw [hy] at hls; simp [names] at hls
      | cons c s =>
        rw [hy] at h1 b
        have hc : c = 47 := by
          unfold mk at b
          split at b
          · simpa using (List.cons.inj b).1
          · rename_i hne
            cases ls with
            | nil => exact absurd rfl hne
            | cons z zs => rw [flat_cons] at b; exact (List.cons.inj b).1
        subst hc
        cases s with
        | nil => simp [bytesBefore] at h1
        | cons c2 s => simp [bytesBefore] at h1
theorem WF.new : WF newT := by
  refine ⟨List.pairwise_singleton _ _, fun x hx => ?_, ⟨_, _, rfl⟩, fun x hx => ?_, fun x hx => ?_, fun x hx => ?_⟩
  all_goals obtain rfl : x = ([47], zroot) := List.mem_singleton.1 hx
  · decide
  · exact .inl rfl
  · decide
  · decide
theorem mem_get {t : ZT} (hs : SrtZ t) {x : Pth × ZN} (hx : x ∈ t) : getZ x.1 t = some x.2 := get_of_memZ hs hx
theorem mem_names {t : ZT} {k : Pth} : k ∈ namesZ t ↔ (getZ k t).isSome = true := by
  rw [← hasZ_get]
  unfold namesZ hasZ
  rw [List.mem_map, List.any_eq_true]
  constructor
  · rintro ⟨x, hx, rfl⟩; exact ⟨x, hx, by simp⟩
  · rintro ⟨x, hx, h⟩; exact ⟨x, hx, by simpa using h⟩
theorem cnt_zero {t : ZT} (h : WF t) {k : Pth} (hk : ∀ up m, getZ up t = some m → m.own = 0 → up ≠ k) (hne : k ≠ []) : cntZ k (namesZ t) = 0 := by
  unfold cntZ
  rw [List.length_eq_zero_iff, List.filter_eq_nil_iff]
  intro q hq hi
  obtain ⟨x, hx, rfl⟩ := List.mem_map.1 hq
  have hi : strO (parentOf x.1) = k := by simpa [isKid'] using hi
  rcases h.par x hx with e | ⟨up, m, h1, h2, h3⟩
  · rw [e] at hi
    rw [show parentOf [47] = none by decide] at hi
    exact hne hi.symm
  · rw [h1] at hi
    exact hk up m h2 h3 hi
theorem path_ne {k : Pth} (h : (names k).isSome = true) : k ≠ [] := fun e => by rw [e] at h; revert h; decide
/-- A node behind Create. -/
theorem WF.create {t : ZT} (h : WF t) (p : Pth) (data : List UInt8) (owner : Int) (seq : Bool) : WF (createS t p data owner seq) := by
  unfold createS
  by_cases hE : createE t p data.length owner seq = 0
  · rw [if_pos hE]
    obtain ⟨up, n, hp, hd, ho, hg, h3, hh, hQ⟩ := createE_zero hE
    rw [hQ, hp]
    obtain ⟨hqn, hown, hct⟩ := placeQ_len (parent_names hp).1 h3
    have hqp : parentOf (placeQ n p seq).2 = some up := by
      unfold placeQ at h3 ⊢
      rw [if_neg (by omega), if_neg (by omega)] at h3 ⊢
      cases seq with
      | false => simpa using hp
      | true =>
        simp only [if_true] at h3 ⊢
        cases hs : sufOf p n.ctr with
        | none => rw [hs] at h3; cases h3
        | some q => exact parent_suf hp hs
    generalize (placeQ n p seq).2 = q at *
    clear hE hQ h3
    have hgq : getZ q t = none := by
      rw [hasZ_get] at hh
      cases hx : getZ q t with
      | none => rfl
      | some y => rw [hx] at hh; cases hh
    have hupq : up ≠ q := fun x => by rw [x, hgq] at hg; cases hg
    show WF (onZ up (fun n => { n with ctr := n.ctr + 1, kids := n.kids + 1 }) (putZ q ⟨data, 0, 0, owner.toNat, 0⟩ t))
    have hnm : (namesZ (onZ up (fun n => { n with ctr := n.ctr + 1, kids := n.kids + 1 }) (putZ q ⟨data, 0, 0, owner.toNat, 0⟩ t))).Perm (q :: namesZ t) := by
      rw [names_onZ]
      have := (put_permZ q (⟨data, 0, 0, owner.toNat, 0⟩ : ZN) t).map Prod.fst
      rw [cut_noneZ hgq] at this
      exact this
    have hcnt : ∀ k, cntZ k (namesZ (onZ up (fun n => { n with ctr := n.ctr + 1, kids := n.kids + 1 }) (putZ q ⟨data, 0, 0, owner.toNat, 0⟩ t))) = cntZ k (namesZ t) + if k = up then 1 else 0 := fun k => by
      unfold cntZ
      rw [(hnm.filter _).length_eq, List.filter_cons]
      by_cases e : k = up
      · have : isKid' k q = true := by unfold isKid'; rw [hqp, e]; simp [strO]
        rw [if_pos this, if_pos e, List.length_cons]
      · have : ¬ isKid' k q = true := by unfold isKid'; rw [hqp]; simp [strO, Ne.symm e]
        rw [if_neg this, if_neg e]
        omega
    have hsrt : SrtZ (onZ up (fun n => { n with ctr := n.ctr + 1, kids := n.kids + 1 }) (putZ q ⟨data, 0, 0, owner.toNat, 0⟩ t)) := srt_namesZ (names_onZ _ _ _).symm (srt_putZ h.srt)
    have hmem : ∀ x ∈ onZ up (fun n => { n with ctr := n.ctr + 1, kids := n.kids + 1 }) (putZ q ⟨data, 0, 0, owner.toNat, 0⟩ t), (x = (q, ⟨data, 0, 0, owner.toNat, 0⟩)) ∨ ∃ m, (x.1, m) ∈ t ∧ x.2 = if x.1 = up then { m with ctr := m.ctr + 1, kids := m.kids + 1 } else m := fun x hx => by
      obtain ⟨y, hy, rfl⟩ := List.mem_map.1 hx
      rcases mem_putZ hy with rfl | ⟨hy, -⟩
      · left
        rw [if_neg (Ne.symm hupq)]
      · right
        by_cases e : y.1 = up
        · rw [if_pos e]; exact ⟨y.2, hy, by rw [if_pos e]⟩
        · rw [if_neg e]; exact ⟨y.2, hy, by rw [if_neg e]⟩
    have hpath : ∀ x ∈ onZ up (fun n => { n with ctr := n.ctr + 1, kids := n.kids + 1 }) (putZ q ⟨data, 0, 0, owner.toNat, 0⟩ t), (names x.1).isSome = true := fun x hx => by
      rcases hmem x hx with rfl | ⟨m, hm, -⟩
      · exact hqn
      · exact h.path (x.1, m) hm
    have hgetU : ∀ k m, getZ k t = some m → ∃ m', getZ k (onZ up (fun n => { n with ctr := n.ctr + 1, kids := n.kids + 1 }) (putZ q ⟨data, 0, 0, owner.toNat, 0⟩ t)) = some m' ∧ m'.own = m.own := fun k m hk => by
      have hkq : k ≠ q := fun e => by rw [e, hgq] at hk; cases hk
      rw [getZ_onZ, getZ_put_other hkq, hk]
      refine ⟨_, rfl, ?_⟩
      split <;> rfl
    refine ⟨hsrt, hpath, ?_, fun x hx => ?_, fun x hx => ?_, fun x hx => ?_⟩
    · obtain ⟨n0, r, e⟩ := h.root
      obtain ⟨m', hm', -⟩ := hgetU [47] n0 (mem_get h.srt (x := ([47], n0)) (by rw [e]; simp))
      exact root_first hsrt hpath (getZ_mem hm')
    · rcases hmem x hx with rfl | ⟨m, hm, -⟩
      · obtain ⟨m', hm', ho'⟩ := hgetU up n hg
        exact .inr ⟨up, m', hqp, hm', by rw [ho']; exact hown⟩
      · rcases h.par _ hm with e | ⟨u2, m2, a1, a2, a3⟩
        · exact .inl e
        · obtain ⟨m', hm', ho'⟩ := hgetU u2 m2 a2
          exact .inr ⟨u2, m', a1, hm', by rw [ho']; exact a3⟩
    · rw [hcnt]
      rcases hmem x hx with rfl | ⟨m, hm, e⟩
      · have h0 : cntZ q (namesZ t) = 0 := cnt_zero h (fun u m hu _ e => by rw [e, hgq] at hu; cases hu) (path_ne hqn)
        rw [h0, if_neg (Ne.symm hupq)]
        rfl
      · have hk := h.kids _ hm
        simp only at hk
        rw [e]
        by_cases e1 : x.1 = up
        · rw [if_pos e1, if_pos e1]
          show m.kids + 1 = _
          omega
        · rw [if_neg e1, if_neg e1]
          omega
    · rcases hmem x hx with rfl | ⟨m, hm, e⟩
      · exact Int.le_refl _
      · have hk := h.ctr _ hm
        simp only at hk
        rw [e]
        by_cases e1 : x.1 = up
        · rw [if_pos e1]
          show m.kids + 1 ≤ ((m.ctr + 1 : Nat) : Int)
          omega
        · rw [if_neg e1]
          exact hk
  · rw [if_neg hE]
    exact h
/-- Without a node. -/
theorem WF.delete {t : ZT} (h : WF t) (p : Pth) (v : Int) : WF (deleteS t p v) := by
  unfold deleteS
  by_cases hE : deleteE t p v = 0
  · rw [if_pos hE]
    have hc := delete_cases t p v
    rcases hc with ⟨hp, hq⟩ | ⟨up, hp, ⟨hg, hq⟩ | ⟨m, hg, ⟨hn, hq⟩ | ⟨n, hn, ⟨hv, hq⟩ | ⟨hv, ⟨hk, hq⟩ | ⟨hk, hq⟩⟩⟩⟩⟩
    all_goals first | (rw [hq] at hE; exact absurd hE (by decide)) | skip
    rw [hp]
    show WF (onZ up (fun n => { n with kids := n.kids - 1 }) (cutZ p t))
    have hmp : (p, n) ∈ t := getZ_mem hn
    have hk0 : cntZ p (namesZ t) = 0 := by
      have := h.kids _ hmp
      simp only at this
      omega
    have hupp : up ≠ p := parent_ne hp
    have hnok : ∀ x ∈ t, parentOf x.1 ≠ some p := fun x hx e => by
      have h1 : x.1 ∈ (namesZ t).filter (isKid' p) := List.mem_filter.2 ⟨List.mem_map.2 ⟨x, hx, rfl⟩, by unfold isKid'; rw [e]; simp [strO]⟩
      have := List.length_pos_of_mem h1
      unfold cntZ at hk0
      omega
    have hkid : ∀ k, isKid' k p = decide (k = up) := fun k => by
      unfold isKid'
      rw [hp, Bool.eq_iff_iff]
      simp only [strO, Option.getD_some, beq_iff_eq, decide_eq_true_eq]
      exact ⟨Eq.symm, Eq.symm⟩
    have hnm : namesZ (onZ up (fun n => { n with kids := n.kids - 1 }) (cutZ p t)) = (namesZ t).filter (fun k => !(k == p)) := by
      rw [names_onZ]
      unfold namesZ cutZ
      rw [List.filter_map]
      rfl
    have hnd : (namesZ t).Nodup := by
      unfold namesZ
      refine List.pairwise_map.2 (h.srt.imp fun hab e => ?_)
      rw [e, bbZ_irrefl] at hab
      cases hab
    have hperm : (namesZ t).Perm (p :: (namesZ t).filter (fun k => !(k == p))) := by
      have h1 := (List.filter_append_perm (fun k => k == p) (namesZ t)).symm
      have h2 : (namesZ t).filter (fun k => k == p) = [p] := by
        have h3 : p ∈ namesZ t := List.mem_map.2 ⟨_, hmp, rfl⟩
        have h4 : ∀ l : List Pth, l.Nodup → p ∈ l → l.filter (fun k => k == p) = [p] := by
          intro l
          induction l with
          | nil => intro _ hx; cases hx
          | cons a r ih =>
            intro hl hx
            rw [List.filter_cons]
            by_cases e : a = p
            · subst e
              rw [if_pos (by simp), List.filter_eq_nil_iff.2]
              intro y hy
              have : y ≠ a := fun e => (List.nodup_cons.1 hl).1 (by rw [← e]; exact hy)
              simpa using this
            · rw [if_neg (by simpa using e)]
              rcases List.mem_cons.1 hx with hx | hx
              · exact absurd hx.symm e
              · exact ih (List.nodup_cons.1 hl).2 hx
        exact h4 _ hnd h3
      rw [h2] at h1
      exact h1
    have hcnt : ∀ k, cntZ k (namesZ t) = cntZ k (namesZ (onZ up (fun n => { n with kids := n.kids - 1 }) (cutZ p t))) + if k = up then 1 else 0 := fun k => by
      rw [hnm]
      unfold cntZ
      rw [(hperm.filter _).length_eq, List.filter_cons, hkid]
      by_cases e : k = up
      · rw [if_pos (by simpa using e), if_pos e, List.length_cons]
      · rw [if_neg (by simpa using e), if_neg e]
        omega
    have hsrt : SrtZ (onZ up (fun n => { n with kids := n.kids - 1 }) (cutZ p t)) := srt_namesZ (names_onZ _ _ _).symm (srt_cutZ h.srt)
    have hmem : ∀ x ∈ onZ up (fun n => { n with kids := n.kids - 1 }) (cutZ p t), x.1 ≠ p ∧ ∃ m, (x.1, m) ∈ t ∧ x.2 = if x.1 = up then { m with kids := m.kids - 1 } else m := fun x hx => by
      obtain ⟨y, hy, rfl⟩ := List.mem_map.1 hx
      obtain ⟨hy, hne⟩ := mem_cutZ hy
      by_cases e : y.1 = up
      · rw [if_pos e]; exact ⟨hne, y.2, hy, by rw [if_pos e]⟩
      · rw [if_neg e]; exact ⟨hne, y.2, hy, by rw [if_neg e]⟩
    have hpath : ∀ x ∈ onZ up (fun n => { n with kids := n.kids - 1 }) (cutZ p t), (names x.1).isSome = true := fun x hx => by
      obtain ⟨-, m, hm, -⟩ := hmem x hx
      exact h.path (x.1, m) hm
    have hgetU : ∀ k m, k ≠ p → getZ k t = some m → ∃ m', getZ k (onZ up (fun n => { n with kids := n.kids - 1 }) (cutZ p t)) = some m' ∧ m'.own = m.own := fun k m hkp hk => by
      rw [getZ_onZ, getZ_cut_other hkp, hk]
      refine ⟨_, rfl, ?_⟩
      split <;> rfl
    refine ⟨hsrt, hpath, ?_, fun x hx => ?_, fun x hx => ?_, fun x hx => ?_⟩
    · obtain ⟨n0, r, e⟩ := h.root
      have hpr : [47] ≠ p := fun e => by
        rw [← e] at hp
        rw [show parentOf [47] = none by decide] at hp
        cases hp
      obtain ⟨m', hm', -⟩ := hgetU [47] n0 hpr (mem_get h.srt (x := ([47], n0)) (by rw [e]; simp))
      exact root_first hsrt hpath (getZ_mem hm')
    · obtain ⟨-, m, hm, -⟩ := hmem x hx
      rcases h.par _ hm with e | ⟨u2, m2, a1, a2, a3⟩
      · exact .inl e
      · have hu2 : u2 ≠ p := fun e => hnok _ hm (by rw [a1, e])
        obtain ⟨m', hm', ho'⟩ := hgetU u2 m2 hu2 a2
        exact .inr ⟨u2, m', a1, hm', by rw [ho']; exact a3⟩
    · obtain ⟨-, m, hm, e⟩ := hmem x hx
      have h1 := h.kids _ hm
      have h2 := hcnt x.1
      simp only at h1
      rw [e]
      by_cases e1 : x.1 = up
      · rw [if_pos e1] at h2 ⊢
        show m.kids - 1 = _
        omega
      · rw [if_neg e1] at h2 ⊢
        omega
    · obtain ⟨-, m, hm, e⟩ := hmem x hx
      have h1 := h.ctr _ hm
      simp only at h1
      rw [e]
      by_cases e1 : x.1 = up
      · rw [if_pos e1]
        show m.kids - 1 ≤ (m.ctr : Int)
        omega
      · rw [if_neg e1]
        exact h1
  · rw [if_neg hE]
    exact h
theorem WF.setting {t : ZT} (h : WF t) (p : Pth) (data : List UInt8) (v : Int) : WF (setS t p data v) := by
  unfold setS
  by_cases hE : setE t p data.length v = 0
  · rw [if_pos hE]
    have hnm := names_onZ p (fun n => { n with data := data, ver := n.ver + 1 }) t
    have hsrt : SrtZ (onZ p (fun n => { n with data := data, ver := n.ver + 1 }) t) := srt_namesZ hnm.symm h.srt
    have hmem : ∀ x ∈ onZ p (fun n => { n with data := data, ver := n.ver + 1 }) t, ∃ m, (x.1, m) ∈ t ∧ x.2.kids = m.kids ∧ x.2.ctr = m.ctr := fun x hx => by
      obtain ⟨y, hy, rfl⟩ := List.mem_map.1 hx
      by_cases e : y.1 = p
      · rw [if_pos e]; exact ⟨y.2, hy, rfl, rfl⟩
      · rw [if_neg e]; exact ⟨y.2, hy, rfl, rfl⟩
    have hgetU : ∀ k m, getZ k t = some m → ∃ m', getZ k (onZ p (fun n => { n with data := data, ver := n.ver + 1 }) t) = some m' ∧ m'.own = m.own := fun k m hk => by
      rw [getZ_onZ, hk]
      refine ⟨_, rfl, ?_⟩
      split <;> rfl
    have hpath : ∀ x ∈ onZ p (fun n => { n with data := data, ver := n.ver + 1 }) t, (names x.1).isSome = true := fun x hx => by
      obtain ⟨m, hm, -⟩ := hmem x hx
      exact h.path (x.1, m) hm
    refine ⟨hsrt, hpath, ?_, fun x hx => ?_, fun x hx => ?_, fun x hx => ?_⟩
    · obtain ⟨n0, r, e⟩ := h.root
      obtain ⟨m', hm', -⟩ := hgetU [47] n0 (mem_get h.srt (x := ([47], n0)) (by rw [e]; simp))
      exact root_first hsrt hpath (getZ_mem hm')
    · obtain ⟨m, hm, -⟩ := hmem x hx
      rcases h.par _ hm with e | ⟨u2, m2, a1, a2, a3⟩
      · exact .inl e
      · obtain ⟨m', hm', ho'⟩ := hgetU u2 m2 a2
        exact .inr ⟨u2, m', a1, hm', by rw [ho']; exact a3⟩
    · obtain ⟨m, hm, e1, e2⟩ := hmem x hx
      rw [hnm, e1]
      exact h.kids _ hm
    · obtain ⟨m, hm, e1, e2⟩ := hmem x hx
      rw [e1, e2]
      exact h.ctr _ hm
  · rw [if_neg hE]
    exact h
end Go.Proofs.YtennlckfmgfjbaaGreatDoor
set_option linter.unusedSimpArgs false
set_option linter.unusedVariables false
namespace Go.Proofs.YtennlckfmgfjbaaGreatDoor
/-- What a node of a tree is, behind n calls. -/
structure NB (n : Nat) (x : ZN) : Prop where
  small : x.data.length ≤ 256
  ver : x.ver ≤ n
  ctr : x.ctr ≤ 10000000000
  own : x.own ≤ 4611686018427387903
  eph : x.own ≠ 0 → x.ctr = 0
structure WB (n : Nat) (t : ZT) : Prop where
  each : ∀ x ∈ t, NB n x.2
  top : ∀ m, getZ [47] t = some m → m.data = [] ∧ m.ver = 0 ∧ m.own = 0
theorem NB.more {n n' : Nat} {x : ZN} (h : NB n x) (hn : n ≤ n') : NB n' x := ⟨h.small, by have := h.ver; omega, h.ctr, h.own, h.eph⟩
theorem WB.more {n n' : Nat} {t : ZT} (h : WB n t) (hn : n ≤ n') : WB n' t := ⟨fun x hx => (h.each x hx).more hn, h.top⟩
theorem memO {k : Pth} {f : ZN → ZN} {t : ZT} {x : Pth × ZN} (h : x ∈ onZ k f t) : ∃ m, (x.1, m) ∈ t ∧ x.2 = if x.1 = k then f m else m := by
  obtain ⟨y, hy, rfl⟩ := List.mem_map.1 h
  by_cases e : y.1 = k
  · rw [if_pos e]; exact ⟨y.2, hy, by rw [if_pos e]⟩
  · rw [if_neg e]; exact ⟨y.2, hy, by rw [if_neg e]⟩
theorem WB.new : WB 0 newT := by
  refine ⟨fun x hx => ?_, fun m hm => ?_⟩
  · obtain rfl : x = ([47], zroot) := List.mem_singleton.1 hx
    exact ⟨by decide, Nat.le_refl _, by decide, by decide, fun h => absurd rfl h⟩
  · have := getZ_mem hm
    obtain rfl : m = zroot := by simpa [newT] using this
    exact ⟨rfl, rfl, rfl⟩
theorem root_none {p up : Pth} (h : parentOf p = some up) : p ≠ [47] := fun e => by
  rw [e, show parentOf [47] = none by decide] at h
  cases h
theorem place_parent {n : ZN} {p up : Pth} {seq : Bool} (hp : parentOf p = some up) (h3 : (placeQ n p seq).1 = 0) : parentOf (placeQ n p seq).2 = some up := by
  obtain ⟨-, hown, hct⟩ := placeQ_len (parent_names hp).1 h3
  unfold placeQ at h3 ⊢
  rw [if_neg (by omega), if_neg (by omega)] at h3 ⊢
  cases seq with
  | false => simpa using hp
  | true =>
    simp only [if_true] at h3 ⊢
    cases hs : sufOf p n.ctr with
    | none => rw [hs] at h3; cases h3
    | some q => exact parent_suf hp hs
theorem WB.create {n : Nat} {t : ZT} (h : WB n t) (hs : SrtZ t) (p : Pth) (data : List UInt8) (owner : Int) (seq : Bool) : WB n (createS t p data owner seq) := by
  unfold createS
  by_cases hE : createE t p data.length owner seq = 0
  · rw [if_pos hE]
    obtain ⟨up, m, hp, hd, ho, hg, h3, hh, hQ⟩ := createE_zero hE
    have hqp := place_parent hp h3
    obtain ⟨hqn, hown, hct⟩ := placeQ_len (parent_names hp).1 h3
    rw [hQ, hp]
    generalize (placeQ m p seq).2 = q at *
    have hgq : getZ q t = none := by
      rw [hasZ_get] at hh
      cases hx : getZ q t with
      | none => rfl
      | some y => rw [hx] at hh; cases hh
    have hupq : up ≠ q := fun x => by rw [x, hgq] at hg; cases hg
    show WB n (onZ up (fun n => { n with ctr := n.ctr + 1, kids := n.kids + 1 }) (putZ q ⟨data, 0, 0, owner.toNat, 0⟩ t))
    refine ⟨fun x hx => ?_, fun r hr => ?_⟩
    · obtain ⟨y, hy, e⟩ := memO hx
      rcases mem_putZ hy with h1 | ⟨hy, -⟩
      · simp only [Prod.mk.injEq] at h1
        obtain ⟨h1, rfl⟩ := h1
        rw [e, h1, if_neg (Ne.symm hupq)]
        exact ⟨hd, Nat.zero_le _, Nat.zero_le _, by show owner.toNat ≤ _; omega, fun _ => rfl⟩
      · have hb := h.each _ hy
        rw [e]
        by_cases e1 : x.1 = up
        · rw [if_pos e1]
          have h2 := get_of_memZ hs hy
          rw [e1, hg] at h2
          obtain rfl : m = y := Option.some.inj h2
          exact ⟨hb.small, hb.ver, by show m.ctr + 1 ≤ _; omega, hb.own, fun x => absurd hown x⟩
        · rw [if_neg e1]
          exact hb
    · rw [getZ_onZ, getZ_put_other (Ne.symm (root_none hqp))] at hr
      cases hx : getZ [47] t with
      | none => rw [hx] at hr; cases hr
      | some y =>
        rw [hx] at hr
        obtain rfl := Option.some.inj hr
        have := h.top y hx
        split <;> exact this
  · rw [if_neg hE]
    exact h
theorem WB.delete {n : Nat} {t : ZT} (h : WB n t) (p : Pth) (v : Int) : WB n (deleteS t p v) := by
  unfold deleteS
  by_cases hE : deleteE t p v = 0
  · rw [if_pos hE]
    refine ⟨fun x hx => ?_, fun r hr => ?_⟩
    · obtain ⟨y, hy, e⟩ := memO hx
      have hb := h.each _ (mem_cutZ hy).1
      rw [e]
      split
      · exact ⟨hb.small, hb.ver, hb.ctr, hb.own, hb.eph⟩
      · exact hb
    · by_cases e : [47] = p
      · exfalso
        unfold deleteE at hE
        rw [← e, show parentOf [47] = none by decide] at hE
        cases hE
      · rw [getZ_onZ, getZ_cut_other e] at hr
        cases hx : getZ [47] t with
        | none => rw [hx] at hr; cases hr
        | some y =>
          rw [hx] at hr
          obtain rfl := Option.some.inj hr
          have := h.top y hx
          split <;> exact this
  · rw [if_neg hE]
    exact h
theorem WB.setting {n : Nat} {t : ZT} (h : WB n t) (p : Pth) (data : List UInt8) (v : Int) : WB (n + 1) (setS t p data v) := by
  unfold setS
  by_cases hE : setE t p data.length v = 0
  · rw [if_pos hE]
    have hpar : ∃ up, parentOf p = some up ∧ data.length ≤ 256 := by
      rcases set_cases t p data.length v with ⟨h1, h2⟩ | ⟨up, h1, ⟨h2, h3⟩ | ⟨h2, -⟩⟩
      · rw [h2] at hE; exact absurd hE (by decide)
      · rw [h3] at hE; exact absurd hE (by decide)
      · exact ⟨up, h1, h2⟩
    obtain ⟨up, hp, hd⟩ := hpar
    refine ⟨fun x hx => ?_, fun r hr => ?_⟩
    · obtain ⟨y, hy, e⟩ := memO hx
      have hb := h.each _ hy
      rw [e]
      split
      · exact ⟨hd, by have h5 : y.ver ≤ n := hb.ver; show y.ver + 1 ≤ _; omega, hb.ctr, hb.own, hb.eph⟩
      · exact hb.more (Nat.le_succ _)
    · rw [getZ_onZ] at hr
      cases hx : getZ [47] t with
      | none => rw [hx] at hr; cases hr
      | some y =>
        rw [hx] at hr
        obtain rfl := Option.some.inj hr
        have := h.top y hx
        simp only
        rw [if_neg (Ne.symm (root_none hp))]
        exact this
  · rw [if_neg hE]
    exact h.more (Nat.le_succ _)
end Go.Proofs.YtennlckfmgfjbaaGreatDoor
