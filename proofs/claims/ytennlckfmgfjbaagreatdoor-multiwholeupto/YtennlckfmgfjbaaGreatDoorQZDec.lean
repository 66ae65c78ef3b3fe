/- What Decode makes of bytes, as plain data; what Encode writes is read back. -/
import Derived.Test.YtennlckfmgfjbaaGreatDoorGZWf2
import Derived.Test.YtennlckfmgfjbaaGreatDoorGZPkE2
import Derived.Test.YtennlckfmgfjbaaGreatDoorGRdr2
set_option linter.unusedSimpArgs false
set_option linter.unusedVariables false
namespace Go.Proofs.YtennlckfmgfjbaaGreatDoor
theorem rn_putZ (n : Nat) (h : n ≤ 4611686018427387903) (s : List UInt8) : rn (put n ++ s) 0 = (n, (put n).length, 0) := by
  unfold rn
  rw [if_pos rfl, numOf_put n h s]
  rfl
theorem rd_putZ (x s : List UInt8) (h : x.length ≤ 4611686018427387903) : rd (put x.length ++ (x ++ s)) 0 = (x, s, 0) := by
  unfold rd
  rw [rn_putZ x.length h (x ++ s)]
  simp only
  rw [if_pos (by simp only [List.length_append]; omega), List.drop_left, List.take_left, ← List.drop_drop, List.drop_left, List.drop_left]
/-- A number, what is left, the error. -/
def rnS (x : List UInt8 × Int) : Nat × List UInt8 × Int := ((rn x.1 x.2).1, x.1.drop (rn x.1 x.2).2.1, (rn x.1 x.2).2.2)
/-- Bytes, what is left, the error. -/
def rdS (x : List UInt8 × Int) : List UInt8 × List UInt8 × Int := rd x.1 x.2
/-- One node as bytes tell it: path, node, what is left, the error. -/
def rdRow (s : List UInt8) : Pth × ZN × List UInt8 × Int :=
  let a := rdS (s, 0)
  let b := rdS a.2
  let c := rnS b.2
  let d := rnS c.2
  let e := rnS d.2
  (a.1, ⟨b.1, c.1, d.1, e.1, 0⟩, e.2)
theorem rnS_put (n : Nat) (h : n ≤ 4611686018427387903) (s : List UInt8) : rnS (put n ++ s, 0) = (n, s, 0) := by
  unfold rnS
  simp only [rn_putZ n h s, List.drop_left]
theorem rdS_put (x s : List UInt8) (h : x.length ≤ 4611686018427387903) : rdS (put x.length ++ (x ++ s), 0) = (x, s, 0) := rd_putZ x s h
/-- The node without how many stand below it, which no bytes tell. -/
def bareN (n : ZN) : ZN := { n with kids := 0 }
theorem putAll3 {a b c : Nat} (ha : a ≤ 4611686018427387903) (hb : b ≤ 4611686018427387903) (hc : c ≤ 4611686018427387903) : putAll [(a : Int), (b : Int), (c : Int)] = put a ++ (put b ++ put c) ∧ badAll [(a : Int), (b : Int), (c : Int)] = false := by
  have k : ∀ n : Nat, n ≤ 4611686018427387903 → okNum (n : Int) = true := fun n h => by unfold okNum; simp; omega
  unfold badAll putAll
  simp [k a ha, k b hb, k c hc]
theorem rdRow_enc (p : Pth) (n : ZN) (s : List UInt8) (hp : p.length ≤ 4611686018427387903) (hd : n.data.length ≤ 4611686018427387903) (hv : n.ver ≤ 4611686018427387903) (hc : n.ctr ≤ 4611686018427387903) (ho : n.own ≤ 4611686018427387903) :
    rdRow (encRow p n ++ s) = (p, bareN n, s, 0) := by
  have h3 := (putAll3 hv hc ho).1
  unfold rdRow encRow
  rw [h3]
  simp only [List.append_assoc]
  rw [rdS_put p _ hp]
  simp only
  rw [rdS_put n.data _ hd]
  simp only
  rw [rnS_put _ hv]
  simp only
  rw [rnS_put _ hc]
  simp only
  rw [rnS_put _ ho]
  rfl
/-- A node behind those with lesser paths; none: it can't stand there. -/
def takeZ (t : ZT) (p : Pth) (n : ZN) : Option ZT :=
  match t with
  | [] => if p = [47] ∧ n.data = [] ∧ n.ver = 0 ∧ n.own = 0 then some [(p, n)] else none
  | _ :: _ =>
    match parentOf p with
    | none => none
    | some up =>
      match getZ up t with
      | none => none
      | some m => if m.own ≠ 0 ∨ 256 < n.data.length ∨ (n.own ≠ 0 ∧ n.ctr ≠ 0) then none else some (onZ up (fun m => { m with kids := m.kids + 1 }) (putZ p n t))
def countedZ (t : ZT) : Bool := t.all fun x => decide (x.2.ctr ≤ 10000000000) && decide (x.2.kids ≤ (x.2.ctr : Int))
def decGo : Nat → ZT → Pth → List UInt8 → Option ZT
  | 0, _, _, _ => none
  | k + 1, t, last, s =>
    if s.length = 0 then (if t.length = 0 ∨ countedZ t = false then none else some t)
    else if (rdRow s).2.2.2 ≠ 0 ∨ bytesBefore last (rdRow s).1 = false then none
    else match takeZ t (rdRow s).1 (rdRow s).2.1 with
      | none => none
      | some t' => decGo k t' (rdRow s).1 (rdRow s).2.2.1
def decodeZ (s : List UInt8) : Option ZT := decGo (s.length + 1) [] [] s
/-! ### what is written is read back -/
theorem bb_nil {p : Pth} (h : p ≠ []) : bytesBefore [] p = true := by
  cases p with
  | nil => exact absurd rfl h
  | cons c r => rfl
theorem bb_prefix (p : Pth) {q : Pth} (h : q ≠ []) : bytesBefore p (p ++ q) = true := by
  induction p with
  | nil => exact bb_nil h
  | cons c r ih => simp [bytesBefore, ih]
/-- What stands above a path stands ahead of it. -/
theorem parent_before {p up : Pth} (h : parentOf p = some up) : bytesBefore up p = true := by
  unfold parentOf at h
  rcases path_cases p with h1 | rfl | ⟨init, b, h1, hfl, hb, hi, hne⟩
  · rw [h1] at h; cases h
  · rw [show names [47] = some [] by decide] at h; cases h
  · rw [h1] at h
    simp only at h
    rw [if_neg (by simp), List.dropLast_concat] at h
    obtain rfl := Option.some.inj h
    rw [hfl]
    have hbn : b ≠ [] := fun e => by rw [e] at hb; revert hb; decide
    unfold mk
    split
    · rename_i e
      rw [e]
      show bytesBefore [47] (47 :: b) = true
      simp [bytesBefore, bb_nil hbn]
    · exact bb_prefix _ (by simp)
/-- The nodes of a list, each with how many of the list stand right below it. -/
def recnt (a : ZT) : ZT := a.map fun x => (x.1, { x.2 with kids := (cntZ x.1 (namesZ a) : Int) })
theorem recnt_names (a : ZT) : namesZ (recnt a) = namesZ a := by
  unfold namesZ recnt
  rw [List.map_map]
  rfl
theorem recnt_get (a : ZT) (k : Pth) : getZ k (recnt a) = (getZ k a).map fun n => { n with kids := (cntZ k (namesZ a) : Int) } := by
  unfold recnt
  generalize namesZ a = ns
  unfold getZ
  induction a with
  | nil => rfl
  | cons x r ih =>
    rw [List.map_cons, List.find?_cons, List.find?_cons]
    by_cases e : x.1 = k
    · simp [e]
    · have : (x.1 == k) = false := by simpa using e
      simp only [this]
      exact ih
theorem cnt_snoc (k p : Pth) (ns : List Pth) : cntZ k (ns ++ [p]) = cntZ k ns + if isKid' k p then 1 else 0 := by
  unfold cntZ
  rw [List.filter_append, List.length_append]
  congr 1
  by_cases h : isKid' k p = true
  · rw [if_pos h, List.filter_cons, if_pos h]; rfl
  · rw [if_neg h, List.filter_cons, if_neg h]; rfl
theorem put_end {p : Pth} {n : ZN} {a : ZT} (h : ∀ x ∈ a, bytesBefore x.1 p = true) : putZ p n a = a ++ [(p, n)] := by
  have hc : cutZ p a = a := by
    unfold cutZ
    rw [List.filter_eq_self]
    intro x hx
    have := bbZ_ne (h x hx)
    simpa using this
  unfold putZ
  rw [hc]
  clear hc
  induction a with
  | nil => rfl
  | cons y r ih =>
    rw [insZ]
    have := bbZ_asymm (h y (by simp))
    rw [if_neg (by rw [this]; simp), ih fun x hx => h x (by simp [hx])]
    rfl
theorem takeZ_snoc {a : ZT} {p up : Pth} {n m : ZN} (ha : a ≠ []) (hb : ∀ x ∈ a, bytesBefore x.1 p = true) (hp : parentOf p = some up) (hg : getZ up a = some m) (hm : m.own = 0) (hs : n.data.length ≤ 256) (he : n.own ≠ 0 → n.ctr = 0) (hk : ∀ x ∈ a, strO (parentOf x.1) ≠ p) :
    takeZ (recnt a) p (bareN n) = some (recnt (a ++ [(p, n)])) := by
  unfold takeZ
  cases hr : recnt a with
  | nil =>
    exfalso
    cases a with
    | nil => exact ha rfl
    | cons x r => cases hr
  | cons y r =>
    simp only
    rw [hp, ← hr]
    simp only
    rw [recnt_get, hg]
    simp only [Option.map_some]
    rw [if_neg (by
      rintro (h | h | ⟨h1, h2⟩)
      · exact h hm
      · have : n.data.length ≤ 256 := hs
        have h : 256 < n.data.length := h
        omega
      · exact h2 (he h1))]
    congr 1
    have hb' : ∀ x ∈ recnt a, bytesBefore x.1 p = true := fun x hx => by
      obtain ⟨z, hz, rfl⟩ := List.mem_map.1 hx
      exact hb z hz
    rw [put_end hb']
    have hup : up ≠ p := parent_ne hp
    have hpn : p ≠ [] := path_ne (parent_names hp).1
    have hnm : namesZ (a ++ [(p, n)]) = namesZ a ++ [p] := by unfold namesZ; simp
    have hkid : ∀ k, isKid' k p = decide (k = up) := fun k => by
      unfold isKid'
      rw [hp, Bool.eq_iff_iff]
      simp only [strO, Option.getD_some, beq_iff_eq, decide_eq_true_eq]
      exact ⟨Eq.symm, Eq.symm⟩
    unfold onZ recnt
    rw [hnm, List.map_append, List.map_append]
    congr 1
    · rw [List.map_map]
      refine List.map_congr_left fun x hx => ?_
      simp only [Function.comp]
      rw [cnt_snoc, hkid]
      by_cases e : x.1 = up
      · rw [if_pos e, if_pos (by simpa using e)]
        simp
      · rw [if_neg e, if_neg (by simpa using e)]
        simp
    · simp only [List.map_cons, List.map_nil]
      rw [if_neg (Ne.symm hup), cnt_snoc, hkid, if_neg (by simpa using Ne.symm hup)]
      have h0 : cntZ p (namesZ a) = 0 := by
        unfold cntZ
        rw [List.length_eq_zero_iff, List.filter_eq_nil_iff]
        intro q hq hi
        obtain ⟨x, hx, rfl⟩ := List.mem_map.1 hq
        exact hk x hx (by simpa [isKid'] using hi)
      rw [h0]
      rfl
theorem encT_cons (x : Pth × ZN) (t : ZT) : encT (x :: t) = encRow x.1 x.2 ++ encT t := rfl
theorem encRow_pos (p : Pth) (n : ZN) : 1 ≤ (encRow p n).length := by
  have : put p.length ≠ [] := by
    unfold put
    rw [show (9 : Nat) = 8 + 1 from rfl]
    unfold putF
    split <;> simp
  unfold encRow
  simp only [List.length_append]
  have := List.length_pos_iff.2 this
  omega
/-- A tree that calls made is one that bytes can tell. -/
theorem decGo_enc {n : Nat} {t : ZT} (hw : WF t) (hb : WB n t) (hn : n ≤ 4611686018427387903) : ∀ (b a : ZT) (k : Nat) (last : Pth), t = a ++ b → (encT b).length < k → (a = [] → last = []) → (∀ x ∈ b, bytesBefore last x.1 = true) → decGo k (recnt a) last (encT b) = some t
  | [], a, k, last, ht, hk, _, _ => by
    obtain ⟨k, rfl⟩ : ∃ k', k = k' + 1 := ⟨k - 1, by omega⟩
    rw [List.append_nil] at ht
    subst ht
    have hr : recnt t = t := by
      unfold recnt
      conv => rhs; rw [← List.map_id t]
      refine List.map_congr_left fun x hx => ?_
      have := hw.kids x hx
      rw [← this]
      rfl
    rw [hr]
    unfold decGo
    rw [if_pos (show (encT []).length = 0 from rfl), if_neg]
    rintro (h | h)
    · obtain ⟨m, r, e⟩ := hw.root
      rw [e] at h
      cases h
    · have : countedZ t = true := by
        unfold countedZ
        rw [List.all_eq_true]
        intro x hx
        simp only [Bool.and_eq_true, decide_eq_true_eq]
        exact ⟨(hb.each x hx).ctr, hw.ctr x hx⟩
      rw [this] at h
      cases h
  | x :: b, a, k, last, ht, hk, h0, hl => by
    obtain ⟨k, rfl⟩ : ∃ k', k = k' + 1 := ⟨k - 1, by omega⟩
    have hx : x ∈ t := by rw [ht]; simp
    have hnx := hb.each x hx
    have hpx := hw.path x hx
    have hplen : x.1.length ≤ 128 := names_lenZ hpx
    have hrow := rdRow_enc x.1 x.2 (encT b) (by omega) (by have := hnx.small; omega) (by have := hnx.ver; omega) (by have := hnx.ctr; omega) hnx.own
    have hsrt := hw.srt
    rw [ht] at hsrt
    have hab := (List.pairwise_append.1 hsrt).2.2
    have hbx := (List.pairwise_cons.1 (List.pairwise_append.1 hsrt).2.1).1
    have hpos := encRow_pos x.1 x.2
    rw [encT_cons] at hk ⊢
    rw [List.length_append] at hk
    unfold decGo
    rw [if_neg (by rw [List.length_append]; omega), hrow]
    simp only
    rw [if_neg (by
      rintro (h | h)
      · exact h rfl
      · rw [hl x (by simp)] at h; cases h)]
    have htk : takeZ (recnt a) x.1 (bareN x.2) = some (recnt (a ++ [x])) := by
      by_cases ha : a = []
      · subst ha
        obtain ⟨m, r, e⟩ := hw.root
        rw [List.nil_append, e] at ht
        injection ht with ht1 ht2
        have hg : getZ [47] t = some m := mem_get hw.srt (x := ([47], m)) (by rw [e]; simp)
        obtain ⟨t1, t2, t3⟩ := hb.top m hg
        rw [← ht1]
        have h9 : takeZ (recnt []) ([47], m).1 (bareN ([47], m).2) = some [([47], bareN m)] := if_pos ⟨rfl, t1, t2, t3⟩
        rw [h9]
        rfl
      · rcases hw.par x hx with e | ⟨up, m, hp, hg, hm⟩
        · exfalso
          obtain ⟨m, r, e2⟩ := hw.root
          cases a with
          | nil => exact ha rfl
          | cons y a' =>
            rw [e2, List.cons_append] at ht
            injection ht with ht1 ht2
            have := hab y (by simp) x (by simp)
            rw [e, ← ht1, bbZ_irrefl] at this
            cases this
        · have hup := parent_before hp
          have hgm : (up, m) ∈ a := by
            have h1 := getZ_mem hg
            rw [ht] at h1
            rcases List.mem_append.1 h1 with h1 | h1
            · exact h1
            · exfalso
              rcases List.mem_cons.1 h1 with h1 | h1
              · rw [← h1, bbZ_irrefl] at hup; cases hup
              · have h2 := hbx _ h1
                have := bbZ_trans h2 hup
                rw [bbZ_irrefl] at this
                cases this
          have hsa : SrtZ a := (List.pairwise_append.1 hsrt).1
          refine takeZ_snoc ha (fun y hy => hab y hy x (by simp)) hp (get_of_memZ hsa hgm) hm hnx.small hnx.eph (fun y hy e => ?_)
          have hyx := hab y hy x (by simp)
          cases hpy : parentOf y.1 with
          | none =>
            rw [hpy] at e
            exact path_ne hpx e.symm
          | some u =>
            rw [hpy] at e
            obtain rfl : u = x.1 := e
            have := bbZ_trans (parent_before hpy) hyx
            rw [bbZ_irrefl] at this
            cases this
    rw [htk]
    exact decGo_enc hw hb hn b (a ++ [x]) k x.1 (by rw [ht]; simp) (by omega) (fun e => by simp at e) hbx
theorem decodeZ_enc {n : Nat} {t : ZT} (hw : WF t) (hb : WB n t) (hn : n ≤ 4611686018427387903) : decodeZ (encT t) = some t := by
  unfold decodeZ
  refine decGo_enc hw hb hn t [] _ [] rfl (Nat.lt_succ_self _) (fun _ => rfl) (fun x hx => bb_nil (path_ne (hw.path x hx)))
theorem badT_good {n : Nat} {t : ZT} (hb : WB n t) (hn : n ≤ 4611686018427387903) : badT t = false := by
  unfold badT
  rw [List.any_eq_false]
  intro x hx
  have h := hb.each x hx
  have := (putAll3 (a := x.2.ver) (b := x.2.ctr) (c := x.2.own) (by have := h.ver; omega) (by have := h.ctr; omega) h.own).2
  unfold badRow
  rw [this]
  simp
/-- Unlike trees have unlike bytes. -/
theorem encT_inj {n n' : Nat} {t t' : ZT} (hw : WF t) (hb : WB n t) (hn : n ≤ 4611686018427387903) (hw' : WF t') (hb' : WB n' t') (hn' : n' ≤ 4611686018427387903) (h : encT t = encT t') : t = t' := by
  have h1 := decodeZ_enc hw hb hn
  rw [h, decodeZ_enc hw' hb' hn'] at h1
  exact (Option.some.inj h1).symm
end Go.Proofs.YtennlckfmgfjbaaGreatDoor
