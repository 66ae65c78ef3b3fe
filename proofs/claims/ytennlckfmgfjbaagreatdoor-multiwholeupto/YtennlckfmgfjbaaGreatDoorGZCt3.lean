/- The walk of counted. The walk of Decode. A call that is refused changes nothing, and one that isn't does: plain data. -/
import Derived.Test.YtennlckfmgfjbaaGreatDoorGZRd3
import Derived.Test.YtennlckfmgfjbaaGreatDoorGZMd2
set_option linter.unusedSimpArgs false
set_option linter.unusedVariables false
namespace Go.Proofs.YtennlckfmgfjbaaGreatDoor
open Go.RowKit Go.Sort
def okN (n : ZN) : Bool := decide (n.ctr ≤ 10000000000) && decide (n.kids ≤ (n.ctr : Int))
def okK (st : ZSt) (k : Pth) : Bool := match getZ k st with | some e => okN e.nd | none => true
theorem counted_all {st : ZSt} (hs : SrtZ st) : countedZ (plainZ st) = (namesZ st).all (okK st) := by
  unfold countedZ plainZ mapZ namesZ
  rw [List.all_map, List.all_map, Bool.eq_iff_iff, List.all_eq_true, List.all_eq_true]
  refine ⟨fun h x hx => ?_, fun h x hx => ?_⟩
  · have h1 := h x hx
    simp only [Function.comp] at h1 ⊢
    unfold okK
    rw [get_of_memZ hs (show (x.1, x.2) ∈ st from hx)]
    exact h1
  · have h1 := h x hx
    simp only [Function.comp] at h1 ⊢
    unfold okK at h1
    rw [get_of_memZ hs (show (x.1, x.2) ∈ st from hx)] at h1
    exact h1
set_option maxRecDepth 100000 in
set_option maxHeartbeats 4000000 in
theorem counted_any {w : World} {tb mb : Nat} {st : ZSt} {lim : Nat} {F : Nat → Prop} (h : TreeAt w tb mb st lim F) (hlim : lim ≤ 140737488355328) :
    Calls Tryz.prog 36 #[.pointer (some ⟨tb, 0, none⟩)] w fun e w' => e = .returned (.bool (countedZ (plainZ st))) ∧ Kept w w' := by
  have hown : w.ownsMap Tryz.prog 9 rdV mb st.length (toDZ st) := h.owns
  have hbl := World.ownsMap.lt hown
  have hfew := h.few
  have hsz := toDZ_size st
  have HSZ := Lib.hid hsz
  have H := Lib.hid h
  have HALL := Lib.hid (counted_all h.srt)
  have c0 := h.c0
  have hmax : Maps.size (toDZ st) ≤ maxLen := by rw [hsz]; unfold maxLen; omega
  have HKY := Lib.hid (strKeys_toDZ st)
  clear h hsz
  generalize countedZ (plainZ st) = cz at *
  generalize hD : toDZ st = D at *
  have HD := Lib.hid hD
  clear hD
  go_enter Tryz.func36, Tryz.ntmps36
  go_wp2_with (first
    | (at_range; refine wpList_range_own _ rfl _ 81 rfl 9 79 keyLawZ Tryz.underlying81 _ mb st.length _ rfl hown ?_; intro w0 hrg0 hg0 hs0)
    | go_in)
  go_frame
  clear hs0
  go_loopw [] (fun wr => ∃ (left : Lit → Bool) (cnt : Nat) (vis : List Pth), wr.ranges Tryz.prog 9 rdV mb w.heap.size st.length D left cnt ∧ vis.length + cnt ≤ Maps.size D ∧
      (∀ k ∈ vis, okK st k = true) ∧ Collected D left vis ∧ Kept w wr)
    (fun wr => wr.rangeLeft mb w.heap.size)
  case atStart =>
    exact ⟨_, _, [], hrg0, by simp, (fun k hk => absurd hk (by simp)), Collected.start D, (Kept.refl w).grown hg0 (fun j hj => by cases hj)⟩
  case round =>
    obtain ⟨left, cnt, vis, hrg, hcs, hok, hC, hnx⟩ := hrel
    go_wp2_with (first
      | (at_next; refine wpList_next_ranges _ rfl _ rfl 9 keyLawZ rdV encStr (fun c : Value => c) (fun key kl hk => by obtain ⟨x, hx, _⟩ := Maps.keyOf_str Tryz.underlying9 hk; exact ⟨x, hx⟩) (fun v y _ => ⟨v, rfl⟩) mb w.heap.size st.length _ _ _ rfl hrg ?_ ?_)
      | go_in)
    · intro hc0 hl0
      have hperm := hC.perm hown keyLawZ Tryz.underlying9 hl0
      rw [HKY.out] at hperm
      have hall : cz = true := by
        rw [HALL.out, List.all_eq_true]
        exact fun k hk => hok k (hperm.mem_iff.2 hk)
      subst hall
      have HNX := Lib.hid hnx
      clear hperm hnx
      go_wp2
      go_ret
      exact ⟨rfl, HNX.out⟩
    · intro x c kl yd yp w2 cnt2 hkey hlk hv hat hrg2 hlt hg2 hs2 hen
      obtain ⟨x', ex, rfl, _⟩ := Maps.keyOf_str Tryz.underlying9 hkey
      obtain rfl : x = x' := encStr_inj ex
      have hk2 := hnx.grown hg2 (fun j hj => by cases hj; exact Nat.le_refl _)
      obtain ⟨e, hge, rfl⟩ := pick_elem (st := st) (x := x) (c := c) (by rw [HD.out]; exact Maps.has_true_of_atKey hat) (by rw [HD.out, hat]; exact rdV_held hv)
      have hmem := getZ_mem hge
      have HOX := Lib.hid (show okK st x = okN e.nd by unfold okK; rw [hge])
      have HXM := Lib.hid (show x ∈ namesZ st from List.mem_map.2 ⟨_, hmem, rfl⟩)
      have hb2 := hk2.block' (H.out.nodes _ hmem).1
      have d1 := cell_at hb2 1
      have d3 := cell_at hb2 3
      simp only [List.getElem?_toArray, List.getElem?_cons_zero, List.getElem?_cons_succ] at d1 d3
      have HK2 := Lib.hid hk2
      have HRG2 := Lib.hid hrg2
      have HMS := Lib.hid (show wr.rangeLeft mb w.heap.size = cnt from hrg.left_eq)
      have HC := Lib.hid (hC.step hlk hat)
      have HOK := Lib.hid hok
      clear hs2 hg2 hrg2 hk2 hge hmem hb2 hok
      obtain ⟨enb, edv, nd⟩ := e
      simp only at d1 d3 HOX
      unfold ptrZ at hen
      have hbad : okN nd = false → cz = false := fun hx => by
        rw [HALL.out, ← Bool.not_eq_true, List.all_eq_true]
        intro h9
        have := h9 x HXM.out
        rw [HOX.out, hx] at this
        cases this
      have HBAD := Lib.hid hbad
      clear hbad
      by_cases e1 : 10000000000 < nd.ctr
      · have t1 : decide ((10000000000 : Int) < (nd.ctr : Int)) = true := by simp; omega
        have hcz := HBAD.out (by unfold okN; rw [decide_eq_false (show ¬ nd.ctr ≤ 10000000000 by omega)]; rfl)
        subst hcz
        clear e1
        go_wp2
        go_quiet (fail)
        rename_i nq
        go_wp2
        go_ret
        exact ⟨rfl, HK2.out.drewN nq⟩
      · have t1 : decide ((10000000000 : Int) < (nd.ctr : Int)) = false := by simp; omega
        by_cases e2 : (nd.ctr : Int) < nd.kids
        · have t2 : decide ((nd.ctr : Int) < nd.kids) = true := by simpa using e2
          have hcz := HBAD.out (by unfold okN; rw [decide_eq_false (show ¬ nd.kids ≤ (nd.ctr : Int) by omega)]; simp)
          subst hcz
          clear e1 e2
          go_wp2
          go_quiet (fail)
          rename_i nq
          go_wp2
          go_ret
          exact ⟨rfl, HK2.out.drewN nq⟩
        · have t2 : decide ((nd.ctr : Int) < nd.kids) = false := by simpa using e2
          have hon : okN nd = true := by unfold okN; rw [decide_eq_true (show nd.ctr ≤ 10000000000 by omega), decide_eq_true (show nd.kids ≤ (nd.ctr : Int) by omega)]; rfl
          have HON := Lib.hid hon
          clear e1 e2 hon
          go_wp2
          go_quiet (fail)
          rename_i nq
          have hq3 := (Kept.refl w2).drewN nq
          have HQ3 := Lib.hid hq3
          generalize w2.drewN nq = w3 at *
          go_wp2
          go_roundw
          case rel =>
            have hrg3 := HRG2.out.kept (w' := w3) (row := none) ⟨HQ3.out.os, HQ3.out.tape, HQ3.out.output, HQ3.out.size, fun k hk _ => HQ3.out.block k hk⟩ (by simp) (by simp)
            refine ⟨_, cnt2, vis ++ [x], hrg3, by simp; omega, fun k hk => ?_, HC.out, HK2.out.trans HQ3.out⟩
            rcases List.mem_append.1 hk with hk | hk
            · exact HOK.out k hk
            · rw [List.mem_singleton.1 hk, HOX.out, HON.out]
          case measure =>
            have hrg3 := HRG2.out.kept (w' := w3) (row := none) ⟨HQ3.out.os, HQ3.out.tape, HQ3.out.output, HQ3.out.size, fun k hk _ => HQ3.out.block k hk⟩ (by simp) (by simp)
            rw [hrg3.left_eq, HMS.out]; exact hlt
end Go.Proofs.YtennlckfmgfjbaaGreatDoor
set_option linter.unusedSimpArgs false
set_option linter.unusedVariables false
namespace Go.Proofs.YtennlckfmgfjbaaGreatDoor
open Go.RowKit
/-- How much a reader has left, as its block says. -/
def restIn (W : World) (b : Nat) : Nat := match W.cell? ⟨b, 0, none⟩ with
  | some (.slice _ n _) => n
  | _ => 0
theorem IsR.rest {w : World} {b : Nat} {s : List UInt8} {er : Int} (h : IsR w b s er) : restIn w b = s.length := by
  obtain ⟨v, c0, hb, -⟩ := h.cells
  obtain ⟨A, c, rfl⟩ := hb.form
  unfold restIn
  rw [c0]
theorem leq_no {p la : Pth} (h : bytesBefore la p = true) : Op.bytesLess p la = false ∧ (p == la) = false ∧ ¬ p = la := by
  have h1 := bbZ_lt h
  refine ⟨?_, ?_, fun e => ?_⟩
  · rw [less_lt, decide_eq_false_iff_not]
    exact List.lt_asymm h1
  · rw [beq_eq_false_iff_ne]
    exact (bbZ_ne h).symm
  · exact bbZ_ne h e.symm
theorem leq_yes {p la : Pth} (h : bytesBefore la p = false) : p = la ∨ (¬ p = la ∧ Op.bytesLess p la = true) := by
  rcases bbZ_total h with e | e
  · exact .inl e.symm
  · refine .inr ⟨bbZ_ne e, ?_⟩
    rw [less_lt, decide_eq_true_eq]
    exact bbZ_lt e
/-- The paths of a tree that is read stand up to the last one. -/
def UpTo (t : ZT) (la : Pth) : Prop := ∀ x ∈ t, x.1 = la ∨ bytesBefore x.1 la = true
theorem UpTo.fresh {t : ZT} {la p : Pth} (h : UpTo t la) (hb : bytesBefore la p = true) : ∀ x ∈ t, bytesBefore x.1 p = true := fun x hx => by
  rcases h x hx with e | e
  · rw [e]; exact hb
  · exact bbZ_trans e hb
theorem UpTo.take {t t' : ZT} {la p : Pth} {n : ZN} (h : UpTo t la) (hb : bytesBefore la p = true) (ht : takeZ t p n = some t') : UpTo t' p := by
  have hf := h.fresh hb
  unfold takeZ at ht
  cases t with
  | nil =>
    simp only at ht
    split at ht
    · obtain rfl := Option.some.inj ht
      intro x hx
      rw [List.mem_singleton.1 hx]
      exact .inl rfl
    · cases ht
  | cons y r =>
    simp only at ht
    split at ht
    · cases ht
    · split at ht
      · cases ht
      · split at ht
        · cases ht
        · obtain rfl := Option.some.inj ht
          intro x hx
          obtain ⟨m, hm, -⟩ := memO hx
          rcases mem_putZ hm with e | ⟨e, -⟩
          · exact .inl (congrArg Prod.fst e)
          · exact .inr (hf (x.1, m) e)
theorem fresh_get {st : ZSt} {p : Pth} (h : ∀ x ∈ plainZ st, bytesBefore x.1 p = true) : getZ p st = none := by
  cases hg : getZ p st with
  | none => rfl
  | some e =>
    exfalso
    have h1 : (p, e.nd) ∈ plainZ st := List.mem_map.2 ⟨_, getZ_mem hg, rfl⟩
    have := h _ h1
    rw [bbZ_irrefl] at this
    cases this
def DecTo (l : List UInt8) (w : World) (e : Ending) (w' : World) : Prop :=
  match decodeZ l with
  | none => e = .returned (.tuple #[.pointer none, .int .i64 13]) ∧ Kept w w'
  | some t => ∃ tb, e = .returned (.tuple #[.pointer (some ⟨tb, 0, none⟩), .int .i64 0]) ∧ KT w w' tb t l.length
set_option maxRecDepth 100000 in
set_option maxHeartbeats 4000000 in
theorem decode_any (l : List UInt8) (v : Value) (w : World) (hv : Bts w v l) (hlim : l.length ≤ 140737488355328) :
    Calls Tryz.prog 10 #[v] w (DecTo l w) := by
  have hmm := @run_makeMap Tryz.prog
  have k1 := (Kept.refl w).alloc (.map #[] 0)
  have s1 : (w.alloc (.map #[] 0)).heap.size = w.heap.size + 1 := by simp
  have hq : OwnsZ (w.alloc (.map #[] 0)) w.heap.size [] := World.ownsMap_made w Tryz.prog 9 rdV
  have k2 := (Kept.refl (w.alloc (.map #[] 0))).alloc (.cells #[.map (some w.heap.size)] 83)
  have hna := heap_alloc_new (w.alloc (.map #[] 0)) (.cells #[.map (some w.heap.size)] 83)
  rw [s1] at hna
  have s2 : ((w.alloc (.map #[] 0)).alloc (.cells #[.map (some w.heap.size)] 83)).heap.size = w.heap.size + 2 := by simp
  have hT0 : TreeAt ((w.alloc (.map #[] 0)).alloc (.cells #[.map (some w.heap.size)] 83)) (w.heap.size + 1) w.heap.size [] 0 (fun g => g = w.heap.size ∨ g = w.heap.size + 1) :=
    ⟨hna, map_chg hq (Chg.of_kept (F := no) k2) (fun x => x), List.Pairwise.nil, fun p hp => absurd hp (by simp), List.Pairwise.nil, Nat.zero_le _, fun p hp => absurd hp (by simp), .inr rfl, .inl rfl, fun p hp => absurd hp (by simp), fun p hp => absurd hp (by simp)⟩
  have HT0 := Lib.hid hT0
  have hKw := k1.trans k2
  have HKW := Lib.hid hKw
  have HR := Lib.hid (newReader_any l v _ (hv.kept hKw) hlim)
  obtain ⟨Av, cv, rfl⟩ := hv.form
  have hs2 : w.heap.size + 2 ≤ ((w.alloc (.map #[] 0)).alloc (.cells #[.map (some w.heap.size)] 83)).heap.size := by omega
  have HDZ := Lib.hid (show DecTo l w = fun e w' => match decodeZ l with
    | none => e = .returned (.tuple #[.pointer none, .int .i64 13]) ∧ Kept w w'
    | some t => ∃ tb, e = .returned (.tuple #[.pointer (some ⟨tb, 0, none⟩), .int .i64 0]) ∧ KT w w' tb t l.length from rfl)
  have HNO := Lib.hid (show decodeZ l = none → ∀ W, Kept w W → DecTo l w (.returned (.tuple #[.pointer none, .int .i64 13])) W from fun hx W k => by
    unfold DecTo
    rw [hx]
    exact (show _ ∧ _ from ⟨rfl, k⟩))
  have HYES := Lib.hid (show ∀ t tb, decodeZ l = some t → ∀ W, KT w W tb t l.length → DecTo l w (.returned (.tuple #[.pointer (some ⟨tb, 0, none⟩), .int .i64 0])) W from fun t tb hx W k => by
    unfold DecTo
    rw [hx]
    exact (show ∃ _, _ from ⟨tb, rfl, k⟩))
  have HGO := Lib.hid (show decGo (l.length + 1) [] [] l = decodeZ l from rfl)
  generalize DecTo l w = Q at *
  clear hq k1 k2 hna hKw hT0 hv s1 s2 HDZ
  generalize decodeZ l = dz at *
  go_enter Tryz.func10, Tryz.ntmps10
  go_wp2_with fail
  refine HR.out.mono ?_
  rintro e w3 ⟨b, rfl, hbl, hI3, hk3⟩
  have HI3 := Lib.hid hI3
  have HT3 := Lib.hid (HT0.out.kept hk3)
  have HK3 := Lib.hid (HKW.out.trans hk3)
  have hs3 := hk3.size
  clear hI3 hk3
  go_wp2
  go_loopw [6] (fun la W => ∃ (s : List UInt8) (last : Pth) (k : Nat) (st : ZSt) (F : Nat → Prop), la = .string ⟨last.toArray⟩ ∧ IsR W b s 0 ∧ TreeAt W (w.heap.size + 1) w.heap.size st (l.length - s.length) F ∧
      (∀ g, F g → w.heap.size ≤ g ∧ g < W.heap.size ∧ g ≠ b) ∧ Kept w W ∧ s.length < k ∧ s.length ≤ l.length ∧ decGo k (plainZ st) last s = dz ∧ UpTo (plainZ st) last ∧ last.length ≤ 140737488355328)
    (fun _ W => restIn W b)
  case atStart =>
    refine ⟨l, [], l.length + 1, [], _, rfl, HI3.out, by rw [Nat.sub_self]; exact HT3.out, fun g hg => ?_, HK3.out, Nat.lt_succ_self _, Nat.le_refl _, HGO.out, fun x hx => absurd hx (by simp [plainZ, mapZ]), by simp⟩
    rcases hg with rfl | rfl
    · exact ⟨Nat.le_refl _, by omega, by omega⟩
    · exact ⟨by omega, by omega, by omega⟩
  case round =>
    obtain ⟨s, last, k, st, F, rfl, hI, hT, hF, hK, hsk, hsl, hgo, hup, hll⟩ := hrel
    have HI := Lib.hid hI
    have HT := Lib.hid hT
    have HF := Lib.hid hF
    have HK := Lib.hid hK
    have HGO2 := Lib.hid hgo
    have HUP := Lib.hid hup
    have HL := Lib.hid (rLeft b s 0 wr hI)
    have HRD := Lib.hid (read_any b s wr hI (by omega))
    have HSZ := Lib.hid (zsize_any hT)
    have HCT := Lib.hid (counted_any hT (by omega))
    have HRS := Lib.hid hI.rest
    have hbW := hI.lt
    have hrow0 : (rdRow s).1.length ≤ s.length := by
      show (rdS (s, 0)).1.length ≤ _
      unfold rdS rd
      split
      · simp only [List.length_take, List.length_drop]; omega
      · exact Nat.zero_le _
    obtain ⟨k, rfl⟩ : ∃ k', k = k' + 1 := ⟨k - 1, by omega⟩
    clear hI hT hF hK hgo hup
    by_cases hs : s.length = 0
    · have g1 : decide ((0 : Int) < (s.length : Int)) = false := decide_eq_false (by omega)
      have g2 : decide (0 < s.length) = false := decide_eq_false (by omega)
      have hdz : dz = if (plainZ st).length = 0 ∨ countedZ (plainZ st) = false then none else some (plainZ st) := by
        rw [← HGO2.out]
        unfold decGo
        rw [if_pos hs]
      have hpl : (plainZ st).length = st.length := length_mapZ _ _
      rw [hpl] at hdz
      by_cases h0 : st.length = 0
      · have t0 : ((st.length : Int) == 0) = true := by rw [h0]; rfl
        have HG := Lib.hid (HNO.out (by rw [hdz, if_pos (.inl h0)]) wr HK.out)
        clear hdz h0
        go_wp2_with fail
        refine HL.out.mono ?_
        rintro e w4 ⟨rfl, rfl⟩
        go_wp2_with fail
        refine HSZ.out.mono ?_
        rintro e w4 ⟨rfl, rfl⟩
        go_wp2
        exact HG.out
      · have t0 : ((st.length : Int) == 0) = false := by rw [beq_eq_false_iff_ne]; omega
        cases hcz : countedZ (plainZ st) with
        | false =>
          rw [hcz] at HCT
          have HG := Lib.hid (HNO.out (by rw [hdz, if_pos (.inr hcz)]))
          clear hdz h0 hcz
          go_wp2_with fail
          refine HL.out.mono ?_
          rintro e w4 ⟨rfl, rfl⟩
          go_wp2_with fail
          refine HSZ.out.mono ?_
          rintro e w4 ⟨rfl, rfl⟩
          go_wp2_with fail
          refine HCT.out.mono ?_
          rintro e w5 ⟨rfl, hk5⟩
          go_wp2
          exact HG.out w5 (HK.out.trans hk5)
        | true =>
          rw [hcz] at HCT
          have HG := Lib.hid (HYES.out (plainZ st) (w.heap.size + 1) (by rw [hdz, if_neg (by rintro (x | x); exact h0 x; rw [hcz] at x; cases x)]))
          have HKT := Lib.hid (show KT w wr (w.heap.size + 1) (plainZ st) l.length from ⟨w.heap.size, st, F, HT.out.more (by omega), rfl, fun g hg => ⟨(HF.out g hg).1, (HF.out g hg).2.1⟩, HK.out⟩)
          clear hdz h0 hcz
          go_wp2_with fail
          refine HL.out.mono ?_
          rintro e w4 ⟨rfl, rfl⟩
          go_wp2_with fail
          refine HSZ.out.mono ?_
          rintro e w4 ⟨rfl, rfl⟩
          go_wp2_with fail
          refine HCT.out.mono ?_
          rintro e w5 ⟨rfl, hk5⟩
          go_wp2
          exact HG.out w5 (HKT.out.kept hk5)
    · have g1 : decide ((0 : Int) < (s.length : Int)) = true := decide_eq_true (by omega)
      have g2 : decide (0 < s.length) = true := decide_eq_true (by omega)
      have hdz : dz = if (rdRow s).2.2.2 ≠ 0 ∨ bytesBefore last (rdRow s).1 = false then none else match takeZ (plainZ st) (rdRow s).1 (rdRow s).2.1 with
        | none => none
        | some t' => decGo k t' (rdRow s).1 (rdRow s).2.2.1 := by
        rw [← HGO2.out]
        conv => lhs; unfold decGo
        rw [if_neg hs]
        rfl
      have hnum := rdRow_num s
      have hless := rdRow_less (s := s)
      unfold ReadTo at HRD
      obtain ⟨p, n, s5, e5, hrow⟩ : ∃ p n s5 e5, rdRow s = (p, n, s5, e5) := ⟨_, _, _, _, rfl⟩
      rw [hrow] at hdz hnum hless hrow0
      simp only [hrow] at HRD
      simp only at hdz hnum hless hrow0
      have HDZ := Lib.hid hdz
      clear hdz hrow
      go_wp2_with fail
      refine HL.out.mono ?_
      rintro e w4 ⟨rfl, rfl⟩
      go_wp2_with fail
      refine HRD.out.mono ?_
      rintro e w5 ⟨nb, dv, rfl, hnb, hN5, hd5, hI5, hF5⟩
      have hk5 : Kept w w5 := hF5.kept HK.out (by omega)
      have HER := Lib.hid (rErr b s5 e5 w5 hI5)
      have HN5 := Lib.hid hN5
      have HD5 := Lib.hid hd5
      have HI5 := Lib.hid hI5
      have HF5 := Lib.hid hF5
      have HK5 := Lib.hid hk5
      have HT5 := Lib.hid (HT.out.chg hF5.chg (fun g hg => (HF.out g hg).2.2))
      have hs5 := hF5.size
      clear hN5 hd5 hI5 hF5 hk5
      unfold ptrZ
      by_cases he : e5 = 0
      · subst he
        have hdz := HDZ.out
        cases hbb : bytesBefore last p with
        | false =>
          have HG := Lib.hid (HNO.out (by rw [hdz, if_pos (.inr hbb)]) w5 HK5.out)
          clear hdz
          rcases leq_yes hbb with rfl | ⟨e1, e2⟩
          · clear hbb
            go_wp2_with fail
            refine HER.out.mono ?_
            rintro e w6 ⟨rfl, rfl⟩
            go_wp2
            exact HG.out
          · have e3 : (p == last) = false := by simpa using e1
            clear hbb
            go_wp2_with fail
            refine HER.out.mono ?_
            rintro e w6 ⟨rfl, rfl⟩
            go_wp2
            exact HG.out
        | true =>
          obtain ⟨e1, e2, e3⟩ := leq_no hbb
          have hTK := take_any HT5.out p nb dv n HN5.out (fun x => by have := (HF.out nb x).2.1; omega) (fresh_get (HUP.out.fresh hbb)) (by omega) hnum.1 hnum.2.1 hnum.2.2.1 hnum.2.2.2 (by omega)
          have HUP2 := Lib.hid (fun t' => HUP.out.take (t' := t') (n := n) hbb)
          unfold TakeTo ptrZ at hTK
          cases htk : takeZ (plainZ st) p n with
          | none =>
            rw [htk] at hTK
            simp only at hTK
            have HTK := Lib.hid hTK
            have HG := Lib.hid (HNO.out (by rw [hdz, if_neg (by rintro (x | x); exact x rfl; rw [hbb] at x; cases x), htk]))
            clear hdz hbb htk hTK
            go_wp2_with fail
            refine HER.out.mono ?_
            rintro e w6 ⟨rfl, rfl⟩
            go_wp2_with fail
            refine HTK.out.mono ?_
            rintro e w6 ⟨rfl, hc6⟩
            have HG6 := Lib.hid (HG.out w6 (hc6.kept HK5.out (fun g x => (HF.out g x.1).1)))
            clear hc6
            go_wp2
            exact HG6.out
          | some t' =>
            rw [htk] at hTK
            simp only at hTK
            have HTK := Lib.hid hTK
            have HUP3 := Lib.hid (HUP2.out t' htk)
            have HG := Lib.hid (show dz = decGo k t' p s5 from by rw [hdz, if_neg (by rintro (x | x); exact x rfl; rw [hbb] at x; cases x), htk])
            clear hdz hbb htk hTK
            go_wp2_with fail
            refine HER.out.mono ?_
            rintro e w6 ⟨rfl, rfl⟩
            go_wp2_with fail
            refine HTK.out.mono ?_
            rintro e w6 ⟨rfl, ⟨st6, hT6, hp6⟩, hc6⟩
            have hl5 := hless (by first | trivial | rfl)
            have HK6 := Lib.hid (hc6.kept HK5.out (fun g x => (HF.out g x.1).1))
            have HI6 := Lib.hid (HI5.out.chg8 hc6 (fun x => (HF.out b x.1).2.2 rfl) (fun g x => x.2))
            have hnl : nb < w5.heap.size := (Array.getElem?_eq_some_iff.1 HN5.out.1).1
            have hs6 := hc6.size
            have HT6 := Lib.hid hT6
            have HP6 := Lib.hid hp6
            clear hT6 hp6 hc6
            go_wp2
            go_roundw
            case rel =>
              refine ⟨s5, p, k, st6, _, rfl, HI6.out, HT6.out.more (by omega), fun g hg => ?_, HK6.out, by omega, by omega, by rw [HP6.out]; exact HG.out.symm, by rw [HP6.out]; exact HUP3.out, by omega⟩
              rcases hg with x | x | x | x
              · have := HF.out g x
                exact ⟨this.1, by omega, this.2.2⟩
              · subst x
                exact ⟨by have := HK.out.size; omega, by omega, by omega⟩
              · have h1 := HD5.out g x
                have h2 := (HN5.out.2.lt g x).2
                exact ⟨by have := HK.out.size; omega, by omega, by omega⟩
              · exact ⟨by have := HK5.out.size; omega, x.2, by omega⟩
            case measure =>
              rw [HI6.out.rest, HRS.out]
              exact hl5
      · have t5 : (e5 != 0) = true := by rw [bne_iff_ne]; exact he
        have HG := Lib.hid (HNO.out (by rw [HDZ.out, if_pos (.inl he)]) w5 HK5.out)
        go_wp2_with fail
        refine HER.out.mono ?_
        rintro e w6 ⟨rfl, rfl⟩
        go_wp2
        exact HG.out
end Go.Proofs.YtennlckfmgfjbaaGreatDoor
set_option linter.unusedSimpArgs false
set_option linter.unusedVariables false
namespace Go.Proofs.YtennlckfmgfjbaaGreatDoor
open Go.RowKit
theorem encT_bound {t : ZT} (h : ∀ x ∈ t, x.1.length ≤ 128 ∧ x.2.data.length ≤ 256) : (encT t).length ≤ 429 * t.length := by
  induction t with
  | nil => exact Nat.zero_le _
  | cons x r ih =>
    rw [encT_cons, List.length_append, List.length_cons]
    have h1 := h x (by simp)
    have h2 := encRow_len x.1 x.2
    have h3 := ih fun y hy => h y (by simp [hy])
    omega
theorem encT_few {n m : Nat} {t : ZT} (hw : WF t) (hb : WB n t) (hl : t.length ≤ m) : (encT t).length ≤ 429 * m := by
  have := encT_bound (t := t) fun x hx => ⟨names_lenZ (hw.path x hx), (hb.each x hx).small⟩
  have : 429 * t.length ≤ 429 * m := Nat.mul_le_mul_left _ hl
  omega
theorem create_new {t : ZT} {p : Pth} {data : List UInt8} {owner : Int} {seq : Bool} (hs : SrtZ t) (hE : createE t p data.length owner seq = 0) : createS t p data owner seq ≠ t ∧ createP t p data.length owner seq ≠ [] := by
  obtain ⟨up, m, hp, hd, ho, hg, h3, hh, hQ⟩ := createE_zero hE
  have hqn := (placeQ_len (parent_names hp).1 h3).1
  have hup : up ≠ (placeQ m p seq).2 := parent_ne (place_parent hp h3)
  refine ⟨fun e => ?_, ?_⟩
  · have h1 : hasZ (placeQ m p seq).2 (createS t p data owner seq) = true := by
      unfold createS
      rw [if_pos hE, hQ, hasZ_get, getZ_onZ, getZ_put_same _ _ _ hs]
      rfl
    rw [e, hh] at h1
    cases h1
  · rw [hQ]
    exact path_ne hqn
theorem delete_new {t : ZT} {p : Pth} {v : Int} (hE : deleteE t p v = 0) : deleteS t p v ≠ t := by
  intro e
  have h1 : getZ p (deleteS t p v) = none := by
    unfold deleteS
    rw [if_pos hE, getZ_onZ, getZ_cut_same]
    rfl
  rw [e] at h1
  unfold deleteE at hE
  rw [h1] at hE
  cases hp : parentOf p with
  | none => rw [hp] at hE; cases hE
  | some up =>
    rw [hp] at hE
    simp only at hE
    split at hE <;> cases hE
theorem set_new {t : ZT} {p : Pth} {data : List UInt8} {v : Int} (hE : setE t p data.length v = 0) : setS t p data v ≠ t ∧ ∃ n : Nat, setV t p data.length v = (n : Int) + 1 := by
  rcases set_cases t p data.length v with ⟨-, h⟩ | ⟨up, h1, ⟨-, h⟩ | ⟨h2, ⟨-, h⟩ | ⟨n, hg, ⟨-, h⟩ | ⟨h3, h4⟩⟩⟩⟩
  · rw [h] at hE; cases hE
  · rw [h] at hE; cases hE
  · rw [h] at hE; cases hE
  · rw [h] at hE; cases hE
  · refine ⟨fun e => ?_, n.ver, by unfold setV; rw [if_pos h4, hg]⟩
    have h5 : getZ p (setS t p data v) = some { n with data := data, ver := n.ver + 1 } := by
      unfold setS
      rw [if_pos h4, getZ_onZ, hg]
      simp
    rw [e, hg] at h5
    have := congrArg ZN.ver (Option.some.inj h5)
    simp at this
theorem enc_ne {n n' : Nat} {t t' : ZT} (hw : WF t) (hb : WB n t) (hn : n ≤ 4611686018427387903) (hw' : WF t') (hb' : WB n' t') (hn' : n' ≤ 4611686018427387903) (h : t' ≠ t) : (encT t == encT t') = false := by
  rw [beq_eq_false_iff_ne]
  exact fun e => h (encT_inj hw hb hn hw' hb' hn' e).symm
theorem encodeP_good {n : Nat} {t : ZT} (hb : WB n t) (hn : n ≤ 4611686018427387903) : encodeP t = encT t := by
  unfold encodeP
  rw [badT_good hb hn]
  rfl
end Go.Proofs.YtennlckfmgfjbaaGreatDoor
