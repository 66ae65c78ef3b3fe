/- The walk of copied. -/
import Derived.Test.YtmjlhgamhjfjlaaDCrs
set_option linter.unusedSimpArgs false
set_option linter.unusedVariables false
namespace Go.Proofs.Ytmjlhgamhjfjlaa
open Go.RowKit Go.Sort
theorem srt_ext {α : Type} {a b : List (Nm × α)} (ha : Srt a) (hb : Srt b) (h : ∀ k, getA k a = getA k b) : a = b := by
  induction a generalizing b with
  | nil =>
    cases b with
    | nil => rfl
    | cons y r =>
      have := h y.1
      rw [get_of_mem hb (v := y.2) (by simp)] at this
      cases this
  | cons x r ih =>
    cases b with
    | nil =>
      have := h x.1
      rw [get_of_mem ha (v := x.2) (by simp)] at this
      cases this
    | cons y s =>
      obtain ⟨ha1, ha2⟩ := List.pairwise_cons.1 ha
      obtain ⟨hb1, hb2⟩ := List.pairwise_cons.1 hb
      have hx := h x.1
      rw [get_of_mem ha (v := x.2) (by simp)] at hx
      have hy := h y.1
      rw [get_of_mem hb (v := y.2) (by simp)] at hy
      have hxm := getA_mem hx.symm
      have hym := getA_mem hy
      have hxy : x = y := by
        rcases List.mem_cons.1 hxm with e | e
        · exact e
        · rcases List.mem_cons.1 hym with e' | e'
          · exact e'.symm
          · have h1 := hb1 _ e
            have h2 := ha1 _ e'
            have := bb_trans h1 h2
            rw [bb_irrefl] at this
            cases this
      subst hxy
      congr 1
      refine ih ha2 hb2 (fun k => ?_)
      have hk := h k
      by_cases e : k = x.1
      · subst e
        have n1 : getA x.1 r = none := by
          cases hg : getA x.1 r with
          | none => rfl
          | some v => have := bb_ne (ha1 _ (getA_mem hg)); exact absurd rfl this
        have n2 : getA x.1 s = none := by
          cases hg : getA x.1 s with
          | none => rfl
          | some v => have := bb_ne (hb1 _ (getA_mem hg)); exact absurd rfl this
        rw [n1, n2]
      · have e' : (x.1 == k) = false := by simpa using Ne.symm e
        unfold getA at hk ⊢
        simpa only [List.find?_cons, e'] using hk
theorem mkmap_hint (n : Int) (w : World) : (Instr.makeMap 68 (some (.int .i64 n))).run Try.prog w = .ok (.map (some w.heap.size)) (w.alloc (.map #[] 0)) := by
  simp [Instr.makeMap, run_underlying Try.underlying68, asInt]
  rfl
/-- The blocks that a copied table may lie in. -/
def fresh2 (m : Nat) (w : World) : Nat → Prop := fun g => g = m ∨ (m + 1 < g ∧ g < w.heap.size)
theorem Chg.grown {F : Nat → Prop} {w w' : World} {m : Nat} (h : Chg F w w') (hF : ∀ g, F g → g = m) : w.grownBy w' (some m) := ⟨h.os, h.tape, h.output, h.size, fun i hi hne => h.block i hi (fun x => hne (by rw [hF i x]))⟩
set_option maxRecDepth 100000 in
set_option maxHeartbeats 8000000 in
theorem copied_any (mb : Nat) (st : St) (F : Nat → Prop) (w : World) (ht : Tbl w mb st F) (hks : ∀ p ∈ st, p.1.length ≤ 40) (hfl : ∀ k, (filA k st).1.length ≤ 1073741824) :
    Calls Try.prog 42 #[.map (some mb)] w fun e w' => ∃ st', e = .returned (.map (some w.heap.size)) ∧ mapV Prod.snd st' = mapV Prod.snd st ∧ Tbl w' w.heap.size st' (fresh2 w.heap.size w') ∧ Kept w w' := by
  have hown : w.ownsMap Try.prog 9 rdV mb st.length (toD st) := ht.owns
  have hbl := World.ownsMap.lt hown
  have hsm := ht.small
  have hsz := toD_size st
  have HSZ := Lib.hid hsz
  have HT := Lib.hid ht
  have HKS := Lib.hid hks
  have HFL := Lib.hid hfl
  clear ht hks hsz hfl
  generalize hD : toD st = D at *
  have HD := Lib.hid hD
  have HOWN := Lib.hid hown
  clear hD
  have hmm := mkmap_hint
  go_enter Try.func42, Try.ntmps42
  go_wp2_with (first
    | (at_len; refine wpList_len_own _ rfl _ 68 rfl 9 72 Try.underlying68 _ mb st.length _ rfl hown ?_)
    | (at_range; refine wpList_range_own _ rfl _ 68 rfl 9 72 keyLaw Try.underlying68 _ mb st.length _ rfl (hown.alloc _) ?_; intro w0 hrg0 hg0 hs0)
    | go_in)
  go_frame
  have hmap0 : Owns (w.alloc (.map #[] 0)) w.heap.size [] := World.ownsMap_made w Try.prog 9 rdV
  have hK0 : Kept w (w.alloc (.map #[] 0)) := (Kept.refl w).alloc _
  have hit0 : (w.alloc (.map #[] 0)).heap.size = w.heap.size + 1 := by simp
  have hKg : Kept (w.alloc (.map #[] 0)) w0 := (Chg.of_grown (F := no) hg0 (fun g hg => by cases hg)).to_kept
  have hT0 : Tbl w0 w.heap.size [] (fresh2 w.heap.size w0) := ⟨hmap0.chg (Chg.of_kept (F := no) hKg) (fun x => x), List.Pairwise.nil, fun p hp => (by cases hp), List.Pairwise.nil, by decide, .inl rfl, fun p hp => (by cases hp)⟩
  have hkw0 := hK0.trans hKg
  generalize hit : (w.alloc (.map #[] 0)).heap.size = it at *
  have HT0 := Lib.hid hT0
  have HIT := Lib.hid hit0
  have hitg : w.heap.size < it := by omega
  have hitl : it ≤ w.heap.size + 1 := by omega
  clear hs0 hg0 hmm hmap0 hT0 hKg hK0 hit hit0
  go_loopw [4] (fun _ wr => ∃ (left : Lit → Bool) (cnt : Nat) (st2 : St), wr.ranges Try.prog 9 rdV mb it st.length D left cnt ∧ st2.length + cnt ≤ Maps.size D ∧ Tbl wr w.heap.size st2 (fresh2 w.heap.size wr) ∧
      (∀ k, getA k (mapV Prod.snd st2) = if left (.string k) = true then none else getA k (mapV Prod.snd st)) ∧ Kept w wr)
    (fun _ wr => wr.rangeLeft mb it)
  case atStart =>
    refine ⟨_, _, [], hrg0, by simp, HT0.out, fun k => ?_, hkw0⟩
    rw [← HD.out, toD_has]
    split
    · rfl
    · rename_i h
      rw [← hasA_mapV Prod.snd, hasA_get] at h
      simp only [Option.isSome_iff_ne_none, ne_eq, Decidable.not_not, Bool.not_eq_true] at h
      cases hg : getA k (mapV Prod.snd st) with
      | none => rfl
      | some x => rw [hg] at h; cases h
  case round =>
    obtain ⟨left, cnt, st2, hrg, hcs, hT2, hG, hkw⟩ := hrel
    have HT2 := Lib.hid hT2
    have HG := Lib.hid hG
    clear hT2 hG
    have hitlt : it < wr.heap.size := World.ranges.lt hrg
    go_wp2_with (first
      | (at_next; refine wpList_next_ranges _ rfl _ rfl 9 keyLaw rdV encStr (fun c : Value => c) (fun key kl hk => by obtain ⟨x, hx, _⟩ := Maps.keyOf_str Try.underlying9 hk; exact ⟨x, hx⟩) (fun v y _ => ⟨v, rfl⟩) mb it st.length _ _ _ rfl hrg ?_ ?_)
      | go_in)
    · intro hc0 hl0
      have HL0 := Lib.hid hl0
      clear hl0
      go_wp2
      go_ret
      refine ⟨st2, rfl, srt_ext (srt_mapV.2 HT2.out.srt) (srt_mapV.2 HT.out.srt) (fun k => ?_), HT2.out, hkw⟩
      rw [HG.out k, HL0.out]
      rfl
    · intro x c kl yd yp w2 cnt2 hkey hlk hv hat hrg2 hlt hg2 hs2 hen
      obtain ⟨x', ex, rfl, _⟩ := Maps.keyOf_str Try.underlying9 hkey
      obtain rfl : x = x' := encStr_inj ex
      have hcv : c = valA x st := by
        have h1 := hat (.held zeroF)
        rw [← HD.out, toD_at] at h1
        have h2 : yd = .held c := by unfold rdV at hv; simpa using (congrArg (Option.map Prod.fst) hv).symm
        rw [h2] at h1
        simpa using h1.symm
      subst hcv
      have hhas : hasA x st = true := by
        have hh : Maps.has D (.string x) = true := Maps.has_true_of_atKey hat
        rwa [← HD.out, toD_has] at hh
      have hxl : x.length ≤ 40 := by
        unfold hasA at hhas
        obtain ⟨p, hp, hpx⟩ := List.any_eq_true.1 hhas
        have := HKS.out p hp
        simp at hpx
        rw [← hpx]; exact this
      have hk2 : Kept w w2 := hkw.grown hg2 (fun j hj => by cases hj; omega)
      have hC2 : Chg (fun g => g = it) wr w2 := Chg.of_grown hg2 (fun g hg _ => by cases hg; rfl)
      have hT2' := HT2.out.chg hC2 (fun g hg e => by rcases hg with h | h <;> omega)
      obtain ⟨A2, c2, hv2, ho2⟩ := (HT.out.file x).form
      have hfx := HFL.out x
      rw [hv2] at hen
      have HTW := Lib.hid hT2'
      have HV2 := Lib.hid hv2
      have HO2 := Lib.hid ho2
      have HRG2 := Lib.hid hrg2
      have HHAS := Lib.hid hhas
      have HHAT := Lib.hid hat
      have HHK := Lib.hid hlk
      have HHV := Lib.hid hv
      have HS2 := Lib.hid hs2
      have HKEY := Lib.hid hkey
      clear hT2' hv2 ho2 hrg2 hhas hat hv hlk hg2 hs2 ex hkey
      go_wp2
      have hKa : Kept w2 (w2.alloc (.cells #[.slice A2 (filA x st).1.length c2, .int .i64 ((filA x st).2 : Int)] 72)) := (Kept.refl w2).alloc _
      have hba := heap_alloc_new w2 (.cells #[.slice A2 (filA x st).1.length c2, .int .i64 ((filA x st).2 : Int)] 72)
      have hB := cell_at hba 0
      have hC := cell_at hba 1
      simp only [List.getElem?_toArray, List.getElem?_cons_zero, List.getElem?_cons_succ] at hB hC
      have hbz : w2.heap.size < (w2.alloc (.cells #[.slice A2 (filA x st).1.length c2, .int .i64 ((filA x st).2 : Int)] 72)).heap.size := by simp
      generalize w2.alloc (.cells #[.slice A2 (filA x st).1.length c2, .int .i64 ((filA x st).2 : Int)] 72) = wa at *
      have hKa0 := (Kept.refl wa).drew
      have hmlt : w.heap.size < wr.heap.size := World.ownsMap.lt HT2.out.owns
      have hw2 : wr.heap.size ≤ w2.heap.size := hC2.size
      have HBC := Lib.hid (show ∀ W, Kept wa W → _ from fun W hW => bclone_any (filA x st).1 _ W (Bts.of_own (own_kept HO2.out ((hk2.trans hKa).trans hW))) (by omega))
      have HPT := Lib.hid (show ∀ v W, Kept wa W → _ from fun v W hW => put_any x v ((filA x st).2 : Int) (filA x st) w.heap.size st2 W ((HTW.out.kept (hKa.trans hW)).owns) (by have := HTW.out.small; unfold maxLen; omega) (by omega))
      clear hba hen
      go_region_held3 (fun W => W.cell? ⟨w2.heap.size, 0, none⟩ = some (.slice A2 (filA x st).1.length c2) ∧ W.cell? ⟨w2.heap.size, 1, none⟩ = some (.int .i64 ((filA x st).2 : Int)))
        (first | exact ⟨hB, hC⟩ | exact ⟨hq1.cell hB, hq1.cell hC⟩ | exact ⟨hz1, hz2⟩)
        (first
          | (go_at_call 43; refine (HBC.out _ hKa0).mono ?_; rintro e w3 ⟨v3, rfl, ho3, hq⟩; have hq1 := hKa0.trans hq; obtain ⟨A3, c3, rfl⟩ := own_form ho3; have HO3 := Lib.hid ho3; clear ho3)
          | (go_at_call 32; refine (HPT.out _ _ hq1).mono ?_; rintro e w4 ⟨rfl, ho4, hc4⟩; have HO4 := Lib.hid ho4; clear ho4; have hz1 := hc4.block w2.heap.size (Nat.lt_of_lt_of_le hbz hq1.size) (by omega); have hz2 := (World.cell?_of_block (a := ⟨w2.heap.size, 1, none⟩) hz1).trans (hq1.cell hC); have hz1 := (World.cell?_of_block (a := ⟨w2.heap.size, 0, none⟩) hz1).trans (hq1.cell hB)))
      have hC4 : Chg (fun g => g = w.heap.size) w2 w4 := (Chg.of_kept (hKa.trans hq1)).trans hc4 (fun _ _ e => e)
      have hrg4 := HRG2.out.kept (hC4.grown (fun _ e => e)) (fun e => by have := Option.some.inj e; omega) (fun e => by have := Option.some.inj e; omega)
      have hsz4 := hC4.size
      have hsz3 := hc4.size
      have hwd : wa.drew.heap.size = wa.heap.size := rfl
      have hge : ∀ g, (Value.slice A3 (filA x st).1.length c3).ownBlock = some g → wa.heap.size ≤ g := fun g hg => (HO3.out.lt g hg).1
      have hown4 := own_chg HO3.out hc4 (fun g hg e => by have := hge g hg; omega)
      have h3 : Tbl w3 w.heap.size st2 (fresh2 w.heap.size w4) := (HTW.out.kept (hKa.trans hq1)).mono (fun g hg => by
        rcases hg with h | h
        · exact .inl h
        · exact .inr ⟨h.1, by omega⟩)
      have hln := length_put x (Value.agg #[.slice A3 (filA x st).1.length c3, .int .i64 ((filA x st).2 : Int)], filA x st) st2
      have hDs := HSZ.out
      have hT4 := h3.put (w' := w4) HO4.out (by omega) ⟨_, rfl, own_base hown4 (Nat.zero_le _)⟩ (fun p hp _ => (h3.files p hp).chg hc4 (fun g hg => h3.row_ne hp hg)) (fun p hp _ g hg hpg => by
        have h1 := hge g hg
        have h2 := HTW.out.row_lt hp hpg
        omega) (fun g hg => .inr ⟨by have := hge g hg; omega, (hown4.lt g hg).2⟩)
      have hG4 : ∀ k, getA k (mapV Prod.snd (putA x (Value.agg #[.slice A3 (filA x st).1.length c3, .int .i64 ((filA x st).2 : Int)], filA x st) st2)) = if (left (.string k) && !(Lit.string k).sameKey (.string x)) = true then none else getA k (mapV Prod.snd st) := by
        intro k
        rw [mapV_put]
        by_cases e : k = x
        · subst e
          rw [getA_put_same _ _ _ (srt_mapV.2 HTW.out.srt)]
          have e2 : (Lit.string k).sameKey (.string k) = true := by simp [Lit.sameKey]
          rw [e2]
          simp only [Bool.not_true, Bool.and_false, Bool.false_eq_true, if_false]
          have hh := HHAS.out
          rw [← hasA_mapV Prod.snd, hasA_get] at hh
          rw [filA_mapV]
          cases hg : getA k (mapV Prod.snd st) with
          | none => rw [hg] at hh; cases hh
          | some f => rfl
        · rw [getA_put_other e, HG.out k]
          have e2 : (Lit.string k).sameKey (.string x) = false := by simp [Lit.sameKey, e]
          rw [e2]
          simp
      have HG4 := Lib.hid hG4
      have HT4 := Lib.hid hT4
      have HRG4 := Lib.hid hrg4
      clear hG4 hT4 hrg4 hDs hwd
      have hlen4 : (putA x (Value.agg #[.slice A3 (filA x st).1.length c3, .int .i64 ((filA x st).2 : Int)], filA x st) st2).length + cnt2 ≤ Maps.size D := by omega
      have hkw4 : Kept w w4 := hC4.kept hk2 (fun g e => by omega)
      go_roundw
      case rel => exact ⟨_, _, _, _, _, _, _, _, _, _, _, _, _, _, _, _, ⟨_, cnt2, _, HRG4.out, hlen4, HT4.out, HG4.out, hkw4⟩, rfl⟩
      case measure => rw [HRG4.out.left_eq, hrg.left_eq]; exact hlt
end Go.Proofs.Ytmjlhgamhjfjlaa
