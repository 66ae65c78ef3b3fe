/- The walk of Crash. -/
import Derived.Test.YtngbgngfdklnlaaGreatDoorGDRen2
set_option linter.unusedSimpArgs false
set_option linter.unusedVariables false
namespace Go.Proofs.YtngbgngfdklnlaaGreatDoor
open Go.RowKit
/-- What is left of the cuts behind these files. -/
def leftC : List Int → Fls → List Int
  | cuts, [] => cuts
  | cuts, (_, f) :: r => if f.2 = f.1.length then leftC cuts r else leftC cuts.tail r
theorem crashS_app (cuts : List Int) (a b : Fls) : crashS cuts (a ++ b) = crashS cuts a ++ crashS (leftC cuts a) b := by
  induction a generalizing cuts with
  | nil => cases cuts <;> rfl
  | cons p r ih =>
    obtain ⟨k, f⟩ := p
    simp only [List.cons_append, crashS, leftC]
    split
    · rw [ih]; rfl
    · rw [ih]; rfl
theorem leftC_app (cuts : List Int) (a b : Fls) : leftC cuts (a ++ b) = leftC (leftC cuts a) b := by
  induction a generalizing cuts with
  | nil => rfl
  | cons p r ih =>
    obtain ⟨k, f⟩ := p
    simp only [List.cons_append, leftC]
    split
    · rw [ih]
    · rw [ih]
theorem crashS_one (cuts : List Int) (p : Nm × Fl) : crashS cuts [p] = if p.2.2 = p.2.1.length then [p] else [(p.1, crash1 p.2 (cuts.headD 0))] := by
  obtain ⟨k, f⟩ := p
  simp only [crashS]
theorem crash_step_safe {cuts : List Int} {fs : Fls} {k : Nat} (hk : k < fs.length) (h : fs[k].2.2 = fs[k].2.1.length) : crashS cuts (fs.take (k + 1)) ++ fs.drop (k + 1) = crashS cuts (fs.take k) ++ fs.drop k ∧ leftC cuts (fs.take (k + 1)) = leftC cuts (fs.take k) := by
  rw [List.take_succ_eq_append_getElem hk, crashS_app, leftC_app, crashS_one, if_pos h, List.drop_eq_getElem_cons hk]
  refine ⟨by simp, ?_⟩
  generalize fs[k] = p at h
  obtain ⟨a, f⟩ := p
  simp only [leftC]
  rw [if_pos h]
theorem crash_step_cut {cuts : List Int} {fs : Fls} {k : Nat} (hk : k < fs.length) (h : fs[k].2.2 ≠ fs[k].2.1.length) : crashS cuts (fs.take (k + 1)) ++ fs.drop (k + 1) = crashS cuts (fs.take k) ++ (fs[k].1, crash1 fs[k].2 ((leftC cuts (fs.take k)).headD 0)) :: fs.drop (k + 1) ∧ leftC cuts (fs.take (k + 1)) = (leftC cuts (fs.take k)).tail := by
  rw [List.take_succ_eq_append_getElem hk, crashS_app, leftC_app, crashS_one, if_neg h]
  refine ⟨by simp, ?_⟩
  generalize fs[k] = p at h
  obtain ⟨a, f⟩ := p
  simp only [leftC]
  rw [if_neg h]
theorem keptN_le {f : Fl} (h : f.2 ≤ f.1.length) (cut : Int) : keptN f cut ≤ f.1.length := by unfold keptN; omega
theorem info_int : ∃ i, Tryz.prog.info? 3 = some i ∧ i.zero = some (.int .i64 0) ∧ i.size = 1 ∧ i.bytes = 8 := by
  have h : (Tryz.prog.info? 3).map (fun i => (i.zero, i.size, i.bytes)) = some (some (.int .i64 0), 1, 8) := by kernel_rfl
  cases hq : Tryz.prog.info? 3 with
  | none => rw [hq] at h; cases h
  | some i =>
    rw [hq] at h
    simp only [Option.map_some, Option.some.injEq, Prod.mk.injEq] at h
    exact ⟨i, rfl, h⟩
theorem Ints.form {w : World} {v : Value} {l : List Int} (h : Ints w v l) : ∃ A c, v = .slice A l.length c ∧ l.length ≤ c ∧ c ≤ maxLen := by
  obtain ⟨A, c, rfl, h1, h2, -⟩ := h
  exact ⟨A, c, rfl, h1, h2⟩
theorem tail_ints (A : Option Addr) (x : Int) (l : List Int) (c : Nat) (hc : l.length + 1 ≤ c) :
    ∃ SV, (∀ W, (Instr.sliceAt 33 (.slice A (l.length + 1) c) (some (.int .i64 1)) none none).run Tryz.prog W = .ok SV W) ∧ ∀ W, Ints W (.slice A (l.length + 1) c) (x :: l) → Ints W SV l := by
  obtain ⟨i0, hi, -, hs, -⟩ := info_int
  refine ⟨sliced A 1 (l.length + 1) c 1, fun W => ?_, fun W hb => ?_⟩
  · have hel : Tryz.prog.elem 33 = 3 := by kernel_rfl
    have hu : Tryz.prog.underlying 33 = some (.slice (Tryz.prog.elem 33)) := by rw [hel]; exact Tryz.underlying33
    rw [run_sliceAt_slice W _ _ _ _ _ hu, run_slice_l W _ A (l.length + 1) c hu .i64 _ (by omega) (by omega), hel]
    simp [sizeOf, typeInfo, hi, hs]
  · unfold sliced
    obtain ⟨A', c', hv, h1, h2, h3⟩ := hb
    obtain ⟨rfl, -, rfl⟩ : A = A' ∧ l.length + 1 = (x :: l).length ∧ c = c' := by simpa using hv
    obtain ⟨b, o, rfl, hcell⟩ := h3 (by simp)
    have e : l.length + 1 - 1 = l.length := by omega
    rw [e]
    refine ⟨_, c - 1, rfl, by omega, by omega, fun hp => ⟨b, o + 1, ?_, fun k y hy => ?_⟩⟩
    · rw [if_neg (by omega)]
      have : ((⟨b, o, none⟩ : Addr).add 1) = ⟨b, o + 1, none⟩ := by unfold Addr.add; split <;> simp_all
      simp [this]
    · have := hcell (k + 1) y (by simpa using hy)
      rw [show o + 1 + k = o + (k + 1) by omega]
      exact this
theorem Dsk.tight {w : World} {db mb : Nat} {st : St} {cap : Nat} {F : Nat → Prop} (h : Dsk w db mb st cap F) : Dsk w db mb st cap (fun g => F g ∧ g < w.heap.size) :=
  ⟨h.cells, ⟨h.tbl.owns, h.tbl.srt, h.tbl.files, h.tbl.apart, h.tbl.small, ⟨h.tbl.inF, World.ownsMap.lt h.tbl.owns⟩, fun p hp g hg => ⟨h.tbl.rows p hp g hg, h.tbl.row_lt hp hg⟩⟩, ⟨h.inF, (Array.getElem?_eq_some_iff.1 h.cells).1⟩, h.good, h.fits, h.capLe⟩
theorem filA_mem {st : St} (hs : Srt st) {k : Nm} {f : Fl} (h : (k, f) ∈ mapV Prod.snd st) : filA k st = f ∧ hasA k st = true := by
  have := get_of_mem (srt_mapV.2 hs) h
  refine ⟨by rw [filA_mapV, this]; rfl, ?_⟩
  rw [← hasA_mapV Prod.snd, hasA_get, this]
  rfl
set_option maxRecDepth 100000 in
set_option maxHeartbeats 8000000 in
theorem crash_ok (cuts : List Int) (v : Value) (db mb : Nat) (st : St) (cap : Nat) (F : Nat → Prop) (w : World) (hd : Dsk w db mb st cap F) (hv : ∀ W, Chg F w W → Ints W v cuts) :
    Calls Tryz.prog 12 #[.pointer (some ⟨db, 0, none⟩), v] w fun e w' => e = .returned (.tuple #[]) ∧ (∃ st', mapV Prod.snd st' = crashS cuts (mapV Prod.snd st) ∧ Dsk w' db mb st' cap (ext F w w')) ∧ Chg F w w' := by
  have HD := Lib.hid hd.tight
  have HV := Lib.hid hv
  have c0 := hd.c0
  have HN := Lib.hid (names_any mb st F w hd.tbl hd.short)
  obtain ⟨A, c, rfl, hc1, hc2⟩ := (hv w (Chg.refl _ _)).form
  have hsm := hd.tbl.small
  have hln : (mapV Prod.snd st).length = st.length := length_mapV _ _
  have HLN := Lib.hid hln
  clear hd hv hln
  generalize hF : (fun g => F g ∧ g < w.heap.size) = G at *
  have HG := Lib.hid hF
  clear hF
  have hGF : ∀ g, G g → F g := fun g hg => by rw [← HG.out] at hg; exact hg.1
  have hGlt : ∀ g, G g → g < w.heap.size := fun g hg => by rw [← HG.out] at hg; exact hg.2
  generalize hfs : mapV Prod.snd st = fs at *
  have HFS := Lib.hid hfs
  clear hfs
  go_enter Tryz.func12, Tryz.ntmps12
  go_wp2_with fail
  refine HN.out.mono ?_
  rintro e w1 ⟨vn, rfl, hn1, hk1⟩
  obtain ⟨An, cn, rfl⟩ := own_form hn1
  have hcn : cn ≤ maxLen := by
    obtain ⟨A', c', hv', -, h2⟩ := (Txts.of_own hn1).form
    obtain ⟨-, -, rfl⟩ : An = A' ∧ _ ∧ cn = c' := by simpa using hv'
    exact h2
  unfold maxLen at hcn
  have HN1 := Lib.hid hn1
  clear hn1
  have hs1 := hk1.size
  go_wp2
  go_loopw [1, 15] (fun v1 i W => ∃ k : Nat, i = .int .i64 (k : Int) ∧ k ≤ st.length ∧ (∀ W', Chg F w W' → Ints W' v1 (leftC cuts (fs.take k))) ∧ (∃ st', mapV Prod.snd st' = crashS cuts (fs.take k) ++ fs.drop k ∧ Dsk W db mb st' cap (ext G w1 W)) ∧ Chg G w1 W) (fun _ i _ => st.length - (intOf i).toNat)
  case atStart => exact ⟨0, rfl, Nat.zero_le _, HV.out, ⟨st, by rw [HFS.out]; cases cuts <;> rfl, (HD.out.kept hk1).mono (fun _ x => .inl x)⟩, Chg.refl _ _⟩
  case round =>
    obtain ⟨k, rfl, hk, hcu, ⟨st', hm, hd'⟩, hC⟩ := hrel
    by_cases hlt : k < st.length
    · have hlf : k < fs.length := by rw [HLN.out]; exact hlt
      obtain ⟨nm, f, hp⟩ : ∃ nm f, fs[k] = (nm, f) := ⟨_, _, rfl⟩
      obtain ⟨fb, s⟩ := f
      have hna : namesA st = namesA fs := by rw [← HFS.out, namesA_mapV]
      have hnl : (namesA st).length = st.length := by simp [namesA]
      have htx : Txts wr (.slice An st.length cn) (namesA st) := Txts.of_own (own_chg HN1.out hC (fun g hg x => by have := hGlt g x; have := (HN1.out.lt g hg).1; omega))
      obtain ⟨b, o, rfl, hcell⟩ := htx.at (k := k) (by omega)
      have hnk : (namesA st)[k]'(by omega) = nm := by
        have : (namesA fs)[k]'(by simp [namesA]; omega) = nm := by simp [namesA, hp]
        rw [← this]
        congr 1
      rw [hnk] at hcell
      have hmem : (nm, (fb, s)) ∈ mapV Prod.snd st' := by
        rw [hm, List.drop_eq_getElem_cons hlf, hp]
        simp
      obtain ⟨hfi, hha⟩ := filA_mem hd'.tbl.srt hmem
      obtain ⟨hkn, hsl⟩ := hd'.good.2 _ hmem
      have hkl : nm.length ≤ 40 := okN_len hkn
      have hfl := filA_len hd' nm
      obtain ⟨A2, c2, hv2, ho2⟩ := (hd'.tbl.file nm).form
      rw [hfi] at hv2 ho2 hfl
      simp only at hv2 ho2 hfl hsl
      have hlk := hd'.tbl.owns.look nm (by unfold maxLen; omega)
      rw [hv2] at hlk
      have c0' := hd'.c0
      have HM := Lib.hid hm
      have HDW := Lib.hid hd'
      have HCU := Lib.hid hcu
      have HP := Lib.hid hp
      have HFI := Lib.hid hfi
      have HHA := Lib.hid hha
      have HKN := Lib.hid hkn
      have HV2 := Lib.hid hv2
      have HO2 := Lib.hid ho2
      have HMEM := Lib.hid hmem
      clear hm hd' hcu hp hfi hha hkn hv2 ho2 hna hnl htx hnk hmem
      by_cases hsafe : s = fb.length
      · subst hsafe
        obtain ⟨hs1', hs2'⟩ := crash_step_safe (cuts := cuts) hlf (by rw [HP.out])
        have HS1 := Lib.hid hs1'
        have HS2 := Lib.hid hs2'
        clear hs1' hs2'
        go_wp2
        go_roundw
        case rel => exact ⟨k + 1, by go_num, by omega, by rw [HS2.out]; exact HCU.out, ⟨st', by rw [HS1.out]; exact HM.out, (HDW.out.kept ((Kept.refl wr).alloc _)).mono (fun g x => ext_mono (by simp) x)⟩, hC.alloc _⟩
        case measure => simp [intOf]; omega
      · have t1 : ((s : Int) == (fb.length : Int)) = false := by simpa using (by omega : (s : Int) ≠ (fb.length : Int))
        have t2 : (s == fb.length) = false := by simpa using hsafe
        obtain ⟨hs1', hs2'⟩ := crash_step_cut (cuts := cuts) hlf (by rw [HP.out]; exact hsafe)
        rw [HP.out] at hs1'
        have HS1 := Lib.hid hs1'
        have HS2 := Lib.hid hs2'
        have HSAFE := Lib.hid hsafe
        clear hs1' hs2' hsafe
        obtain ⟨Ac, cc, rfl, hcc1, hcc2⟩ := (HCU.out w (Chg.refl _ _)).form
        unfold maxLen at hcc2
        cases hcs : leftC cuts (fs.take k) with
        | nil =>
          rw [hcs] at HCU HS1 HS2 hcc1
          have HCS := Lib.hid hcs
          clear hcs
          go_wp2_with fail
          have hKa : Kept wr (wr.alloc (.cells #[.slice A2 fb.length c2, .int .i64 (s : Int)] 112)) := (Kept.refl wr).alloc _
          have hba : (wr.alloc (.cells #[.slice A2 fb.length c2, .int .i64 (s : Int)] 112)).heap[wr.heap.size]? = some (.cells #[.slice A2 fb.length c2, .int .i64 (s : Int)] 112 (0, 0)) := heap_alloc_new wr (.cells #[.slice A2 fb.length c2, .int .i64 (s : Int)] 112)
          generalize wr.alloc (.cells #[.slice A2 fb.length c2, .int .i64 (s : Int)] 112) = wa at *
          have HBA := Lib.hid hba
          clear hba
          refine (crashed_any fb s A2 c2 0 wa (Bts.of_own (own_kept HO2.out hKa)) hsl hfl).mono ?_
          rintro e wc ⟨vl, rfl, hvl, hkc⟩
          obtain ⟨Al, cl, rfl⟩ := own_form hvl
          have HVL := Lib.hid hvl
          have hknl : keptN (fb, s) 0 ≤ fb.length := keptN_le (f := (fb, s)) hsl _
          have hc1x : crash1 (fb, s) 0 = (fb.take (keptN (fb, s) 0), keptN (fb, s) 0) := rfl
          have HC1 := Lib.hid hc1x
          clear hvl hc1x
          generalize keptN (fb, s) 0 = kn at *
          go_wp2
          have hKl : Kept wr (wc.alloc (.cells #[.slice Al kn cl, .int .i64 (kn : Int)] 112)) := (hKa.trans hkc).alloc _
          have hbf := ((Kept.refl wc).alloc (.cells #[.slice Al kn cl, .int .i64 (kn : Int)] 112)).block' (hkc.block' HBA.out)
          have hbl := heap_alloc_new wc (.cells #[.slice Al kn cl, .int .i64 (kn : Int)] 112)
          have hvl' := own_kept HVL.out ((Kept.refl wc).alloc (.cells #[.slice Al kn cl, .int .i64 (kn : Int)] 112))
          have hszl : wc.heap.size + 1 = (wc.alloc (.cells #[.slice Al kn cl, .int .i64 (kn : Int)] 112)).heap.size := by simp
          have hsza := hKa.size
          have hszc := hkc.size
          generalize wc.alloc (.cells #[.slice Al kn cl, .int .i64 (kn : Int)] 112) = wl at *
          have HBF := Lib.hid hbf
          have HBL := Lib.hid hbl
          have HVL' := Lib.hid hvl'
          have HSZ := Lib.hid hszl
          clear hbf hbl hvl' hszl
          have hux : ∃ u, used (mapV Prod.snd st') = u := ⟨_, rfl⟩
          obtain ⟨u, hu⟩ := hux
          have hfit := HDW.out.fits
          have hcap := HDW.out.capLe
          have hup := used_put HDW.out.good.1 nm (fb.take kn, kn)
          rw [← filA_mapV, HFI.out, hu] at hup
          have huge := used_get HDW.out.good.1 nm
          rw [← filA_mapV, HFI.out, hu] at huge
          rw [hu] at hfit
          simp only [List.length_take, Nat.min_eq_left hknl] at hup huge
          have HU := Lib.hid hu
          have HUP := Lib.hid hup
          clear hu hup
          have hw1 : IntKind.i64.wrap ((fb.length : Int) - (kn : Int)) = (fb.length : Int) - (kn : Int) := IntWalk.i64_in _ (by omega)
          have hw2 : IntKind.i64.wrap ((u : Int) - ((fb.length : Int) - (kn : Int))) = (u : Int) - ((fb.length : Int) - (kn : Int)) := IntWalk.i64_in _ (by omega)
          refine still_tail 14 (by kernel_rfl) (by kernel_rfl) (fun wd hKd => ?_)
          have hKd' := hKl.trans hKd
          have d0 := (HDW.out.kept hKd').c0
          have d2 := (HDW.out.kept hKd').c2
          have f2 := (HDW.out.kept hKd').f2
          rw [HU.out] at d2
          have q0 := cell_at (hKd.block' HBF.out) 0
          have q1 := cell_at (hKd.block' HBL.out) 0
          simp only [List.getElem?_toArray, List.getElem?_cons_zero, List.getElem?_cons_succ] at q0 q1
          simp only [List.take_succ_cons, List.take_zero, List.drop_succ_cons, List.drop_zero]
          repeat still_step
          refine wpStill_nil ?_
          clear hw1 hw2
          go_wp2
          have hdb : db < wr.heap.size := (Array.getElem?_eq_some_iff.1 HDW.out.cells).1
          have hCd : Chg (fun g => g = db) wr (wd.setCell ⟨db, 2, none⟩ (.int .i64 ((u : Int) - ((fb.length : Int) - (kn : Int))))) := (Chg.of_kept hKd').setCell _ (fun _ => rfl)
          have hown := HDW.out.tbl.owns.chg hCd (fun e => HDW.out.db_ne e.symm)
          have hset := set2 (v := .int .i64 ((u : Int) - ((fb.length : Int) - (kn : Int)))) (hKd'.block' HDW.out.cells)
          have hb3 : (wd.setCell ⟨db, 2, none⟩ (.int .i64 ((u : Int) - ((fb.length : Int) - (kn : Int))))).heap[wc.heap.size]? = some (.cells #[.slice Al kn cl, .int .i64 (kn : Int)] 112 (0, 0)) := by
            rw [Below.heap_setCell wd ⟨db, 2, none⟩ _ wc.heap.size (fun e => by simp at e; omega)]
            exact hKd.block' HBL.out
          have hrow3 := own_chg (own_kept HVL'.out hKd) ((Chg.refl (fun g => g = db) wd).setCell (b := db) (o := 2) (.int .i64 ((u : Int) - ((fb.length : Int) - (kn : Int)))) (fun _ => rfl)) (fun g hg e => by have := (HVL'.out.lt g hg).1; omega)
          generalize wd.setCell ⟨db, 2, none⟩ (.int .i64 ((u : Int) - ((fb.length : Int) - (kn : Int)))) = w4 at *
          have HOWN := Lib.hid hown
          have HSET := Lib.hid hset
          have HB3 := Lib.hid hb3
          have HROW3 := Lib.hid hrow3
          clear hown hset hb3 hrow3 d0 d2 f2 q0 q1
          refine still_tail 6 (by kernel_rfl) (by kernel_rfl) (fun we hKe => ?_)
          have q0 := cell_at (hKe.block' HSET.out) 0
          have q1 := cell_at (hKe.block' HB3.out) 0
          have q2 := cell_at (hKe.block' HB3.out) 1
          simp only [List.getElem?_toArray, List.getElem?_cons_zero, List.getElem?_cons_succ] at q0 q1 q2
          simp only [List.take_succ_cons, List.take_zero, List.drop_succ_cons, List.drop_zero]
          repeat still_step
          refine wpStill_nil ?_
          go_wp2_with (go_at_call 56; refine (put_any nm _ _ (fb.take kn, kn) mb st' we (HOWN.out.chg (Chg.of_kept (F := no) hKe) (fun x => x)) (by have := HDW.out.tbl.small; unfold maxLen; omega) (by omega)).mono ?_; rintro e w5 ⟨rfl, ho5, hc5⟩; have HO5 := Lib.hid ho5; clear ho5)
          have hmb : mb < wr.heap.size := World.ownsMap.lt HDW.out.tbl.owns
          have hC5 : Chg (foot db mb (valA nm st')) wr w5 := ((hCd.then_kept hKe).mono (fun g _ x => .inl x)).trans hc5 (fun g _ x => .inr (.inl x))
          have hrow5 := own_chg (own_kept HROW3.out hKe) hc5 (fun g hg e => by have := (HVL'.out.lt g hg).1; omega)
          have hlt5 : (fb.take kn).length = kn := by simp; omega
          have hD5 := HDW.out.put (w' := w5) (k := nm) (v := .agg #[.slice Al kn cl, .int .i64 (kn : Int)]) (f := (fb.take kn, kn)) ?_ HO5.out ⟨_, rfl, by simp only [hlt5]; exact own_baseD hrow5 (Nat.zero_le _)⟩ hC5 (fun g hg => .inr ⟨by have := (HVL'.out.lt g hg).1; omega, (hrow5.lt g hg).2⟩) HKN.out (by simp only [hlt5]; exact Nat.le_refl _) ?_ (by rw [length_put_has HDW.out.tbl.srt HHA.out]; exact HDW.out.tbl.small)
          rotate_left
          · have : (used (putA nm (fb.take kn, kn) (mapV Prod.snd st')) : Int) = (u : Int) - ((fb.length : Int) - (kn : Int)) := by have := HUP.out; omega
            rw [this]
            exact hc5.block' (hKe.block' HSET.out) HDW.out.db_ne
          · have := HUP.out
            omega
          go_roundw
          case rel =>
            refine ⟨k + 1, by go_num, by omega, ?_, ⟨_, ?_, hD5.chain hC.size hC5.size⟩, hC.chain (hC5.mono (fun g _ x => HDW.out.foot_F _ x))⟩
            · rw [HS2.out]; exact HCU.out
            · rw [mapV_put, HM.out, HS1.out, List.drop_eq_getElem_cons hlf, HP.out]
              have hsrt : Srt (mapV Prod.snd st') := HDW.out.good.1
              rw [HM.out, List.drop_eq_getElem_cons hlf, HP.out] at hsrt
              rw [put_at hsrt]
              exact congrArg (fun z => crashS cuts (fs.take k) ++ (nm, z) :: fs.drop (k + 1)) HC1.out.symm
          case measure => simp [intOf]; omega
        | cons x xs =>
          rw [hcs] at HCU HS1 HS2 hcc1
          have HCS := Lib.hid hcs
          clear hcs
          obtain ⟨SV, hsv, hsi⟩ := tail_ints Ac x xs cc (by simpa using hcc1)
          have HSI := Lib.hid hsi
          clear hsi
          obtain ⟨bc, oc, rfl, hcx⟩ := (HCU.out wr (((Chg.of_kept hk1).trans hC (fun g _ x => hGF g x)))).at' (k := 0) (by simp)
          simp only [List.length_cons, Nat.add_zero, List.getElem_cons_zero] at hcx hcc1
          have hcx' := ((Kept.refl wr).alloc (.cells #[.slice A2 fb.length c2, .int .i64 (s : Int)] 112)).cell hcx
          have g0 : (0 : Int) < ((xs.length + 1 : Nat) : Int) := by omega
          have g0' : (0 : Int) < (xs.length : Int) + 1 := by omega
          go_wp2_with fail
          go_quiet (fail)
          rename_i nq
          go_wp2_with fail
          have hKa : Kept wr ((wr.alloc (.cells #[.slice A2 fb.length c2, .int .i64 (s : Int)] 112)).drewN nq) := ((Kept.refl wr).alloc _).drewN nq
          have hba : ((wr.alloc (.cells #[.slice A2 fb.length c2, .int .i64 (s : Int)] 112)).drewN nq).heap[wr.heap.size]? = some (.cells #[.slice A2 fb.length c2, .int .i64 (s : Int)] 112 (0, 0)) := heap_alloc_new wr (.cells #[.slice A2 fb.length c2, .int .i64 (s : Int)] 112)
          generalize (wr.alloc (.cells #[.slice A2 fb.length c2, .int .i64 (s : Int)] 112)).drewN nq = wa at *
          have HBA := Lib.hid hba
          clear hba
          refine (crashed_any fb s A2 c2 x wa (Bts.of_own (own_kept HO2.out hKa)) hsl hfl).mono ?_
          rintro e wc ⟨vl, rfl, hvl, hkc⟩
          obtain ⟨Al, cl, rfl⟩ := own_form hvl
          have HVL := Lib.hid hvl
          have hknl : keptN (fb, s) x ≤ fb.length := keptN_le (f := (fb, s)) hsl _
          have hc1x : crash1 (fb, s) x = (fb.take (keptN (fb, s) x), keptN (fb, s) x) := rfl
          have HC1 := Lib.hid hc1x
          clear hvl hc1x
          generalize keptN (fb, s) x = kn at *
          go_wp2
          have hKl : Kept wr (wc.alloc (.cells #[.slice Al kn cl, .int .i64 (kn : Int)] 112)) := (hKa.trans hkc).alloc _
          have hbf := ((Kept.refl wc).alloc (.cells #[.slice Al kn cl, .int .i64 (kn : Int)] 112)).block' (hkc.block' HBA.out)
          have hbl := heap_alloc_new wc (.cells #[.slice Al kn cl, .int .i64 (kn : Int)] 112)
          have hvl' := own_kept HVL.out ((Kept.refl wc).alloc (.cells #[.slice Al kn cl, .int .i64 (kn : Int)] 112))
          have hszl : wc.heap.size + 1 = (wc.alloc (.cells #[.slice Al kn cl, .int .i64 (kn : Int)] 112)).heap.size := by simp
          have hsza := hKa.size
          have hszc := hkc.size
          generalize wc.alloc (.cells #[.slice Al kn cl, .int .i64 (kn : Int)] 112) = wl at *
          have HBF := Lib.hid hbf
          have HBL := Lib.hid hbl
          have HVL' := Lib.hid hvl'
          have HSZ := Lib.hid hszl
          clear hbf hbl hvl' hszl
          have hux : ∃ u, used (mapV Prod.snd st') = u := ⟨_, rfl⟩
          obtain ⟨u, hu⟩ := hux
          have hfit := HDW.out.fits
          have hcap := HDW.out.capLe
          have hup := used_put HDW.out.good.1 nm (fb.take kn, kn)
          rw [← filA_mapV, HFI.out, hu] at hup
          have huge := used_get HDW.out.good.1 nm
          rw [← filA_mapV, HFI.out, hu] at huge
          rw [hu] at hfit
          simp only [List.length_take, Nat.min_eq_left hknl] at hup huge
          have HU := Lib.hid hu
          have HUP := Lib.hid hup
          clear hu hup
          have hw1 : IntKind.i64.wrap ((fb.length : Int) - (kn : Int)) = (fb.length : Int) - (kn : Int) := IntWalk.i64_in _ (by omega)
          have hw2 : IntKind.i64.wrap ((u : Int) - ((fb.length : Int) - (kn : Int))) = (u : Int) - ((fb.length : Int) - (kn : Int)) := IntWalk.i64_in _ (by omega)
          refine still_tail 14 (by kernel_rfl) (by kernel_rfl) (fun wd hKd => ?_)
          have hKd' := hKl.trans hKd
          have d0 := (HDW.out.kept hKd').c0
          have d2 := (HDW.out.kept hKd').c2
          have f2 := (HDW.out.kept hKd').f2
          rw [HU.out] at d2
          have q0 := cell_at (hKd.block' HBF.out) 0
          have q1 := cell_at (hKd.block' HBL.out) 0
          simp only [List.getElem?_toArray, List.getElem?_cons_zero, List.getElem?_cons_succ] at q0 q1
          simp only [List.take_succ_cons, List.take_zero, List.drop_succ_cons, List.drop_zero]
          repeat still_step
          refine wpStill_nil ?_
          clear hw1 hw2
          go_wp2
          have hdb : db < wr.heap.size := (Array.getElem?_eq_some_iff.1 HDW.out.cells).1
          have hCd : Chg (fun g => g = db) wr (wd.setCell ⟨db, 2, none⟩ (.int .i64 ((u : Int) - ((fb.length : Int) - (kn : Int))))) := (Chg.of_kept hKd').setCell _ (fun _ => rfl)
          have hown := HDW.out.tbl.owns.chg hCd (fun e => HDW.out.db_ne e.symm)
          have hset := set2 (v := .int .i64 ((u : Int) - ((fb.length : Int) - (kn : Int)))) (hKd'.block' HDW.out.cells)
          have hb3 : (wd.setCell ⟨db, 2, none⟩ (.int .i64 ((u : Int) - ((fb.length : Int) - (kn : Int))))).heap[wc.heap.size]? = some (.cells #[.slice Al kn cl, .int .i64 (kn : Int)] 112 (0, 0)) := by
            rw [Below.heap_setCell wd ⟨db, 2, none⟩ _ wc.heap.size (fun e => by simp at e; omega)]
            exact hKd.block' HBL.out
          have hrow3 := own_chg (own_kept HVL'.out hKd) ((Chg.refl (fun g => g = db) wd).setCell (b := db) (o := 2) (.int .i64 ((u : Int) - ((fb.length : Int) - (kn : Int)))) (fun _ => rfl)) (fun g hg e => by have := (HVL'.out.lt g hg).1; omega)
          generalize wd.setCell ⟨db, 2, none⟩ (.int .i64 ((u : Int) - ((fb.length : Int) - (kn : Int)))) = w4 at *
          have HOWN := Lib.hid hown
          have HSET := Lib.hid hset
          have HB3 := Lib.hid hb3
          have HROW3 := Lib.hid hrow3
          clear hown hset hb3 hrow3 d0 d2 f2 q0 q1
          refine still_tail 6 (by kernel_rfl) (by kernel_rfl) (fun we hKe => ?_)
          have q0 := cell_at (hKe.block' HSET.out) 0
          have q1 := cell_at (hKe.block' HB3.out) 0
          have q2 := cell_at (hKe.block' HB3.out) 1
          simp only [List.getElem?_toArray, List.getElem?_cons_zero, List.getElem?_cons_succ] at q0 q1 q2
          simp only [List.take_succ_cons, List.take_zero, List.drop_succ_cons, List.drop_zero]
          repeat still_step
          refine wpStill_nil ?_
          go_wp2_with (go_at_call 56; refine (put_any nm _ _ (fb.take kn, kn) mb st' we (HOWN.out.chg (Chg.of_kept (F := no) hKe) (fun x => x)) (by have := HDW.out.tbl.small; unfold maxLen; omega) (by omega)).mono ?_; rintro e w5 ⟨rfl, ho5, hc5⟩; have HO5 := Lib.hid ho5; clear ho5)
          have hmb : mb < wr.heap.size := World.ownsMap.lt HDW.out.tbl.owns
          have hC5 : Chg (foot db mb (valA nm st')) wr w5 := ((hCd.then_kept hKe).mono (fun g _ x => .inl x)).trans hc5 (fun g _ x => .inr (.inl x))
          have hrow5 := own_chg (own_kept HROW3.out hKe) hc5 (fun g hg e => by have := (HVL'.out.lt g hg).1; omega)
          have hlt5 : (fb.take kn).length = kn := by simp; omega
          have hD5 := HDW.out.put (w' := w5) (k := nm) (v := .agg #[.slice Al kn cl, .int .i64 (kn : Int)]) (f := (fb.take kn, kn)) ?_ HO5.out ⟨_, rfl, by simp only [hlt5]; exact own_baseD hrow5 (Nat.zero_le _)⟩ hC5 (fun g hg => .inr ⟨by have := (HVL'.out.lt g hg).1; omega, (hrow5.lt g hg).2⟩) HKN.out (by simp only [hlt5]; exact Nat.le_refl _) ?_ (by rw [length_put_has HDW.out.tbl.srt HHA.out]; exact HDW.out.tbl.small)
          rotate_left
          · have : (used (putA nm (fb.take kn, kn) (mapV Prod.snd st')) : Int) = (u : Int) - ((fb.length : Int) - (kn : Int)) := by have := HUP.out; omega
            rw [this]
            exact hc5.block' (hKe.block' HSET.out) HDW.out.db_ne
          · have := HUP.out
            omega
          go_roundw
          case rel =>
            refine ⟨k + 1, by go_num, by omega, ?_, ⟨_, ?_, hD5.chain hC.size hC5.size⟩, hC.chain (hC5.mono (fun g _ x => HDW.out.foot_F _ x))⟩
            · rw [HS2.out]; exact fun W' hW' => HSI.out W' (HCU.out W' hW')
            · rw [mapV_put, HM.out, HS1.out, List.drop_eq_getElem_cons hlf, HP.out]
              have hsrt : Srt (mapV Prod.snd st') := HDW.out.good.1
              rw [HM.out, List.drop_eq_getElem_cons hlf, HP.out] at hsrt
              rw [put_at hsrt]
              exact congrArg (fun z => crashS cuts (fs.take k) ++ (nm, z) :: fs.drop (k + 1)) HC1.out.symm
          case measure => simp [intOf]; omega
    · obtain rfl : k = st.length := by omega
      have HM := Lib.hid hm
      have HDW := Lib.hid hd'
      have HCU := Lib.hid hcu
      clear hm hd' hcu
      go_wp2
      go_end0
      refine ⟨rfl, ⟨st', ?_, HDW.out.mono (fun g x => ?_)⟩, (Chg.of_kept hk1).trans hC (fun g _ x => hGF g x)⟩
      · rw [HM.out, ← HLN.out, List.take_length, List.drop_length, List.append_nil]
      · rcases x with x | x
        · exact .inl (hGF g x)
        · exact .inr ⟨by omega, x.2⟩
/-- Crash. -/
theorem crash_any (cuts : List Int) (v d : Value) (cap : Nat) (fs : Fls) (F : Nat → Prop) (w : World) (hd : Disk w d cap fs F) (hv : ∀ W, Chg F w W → Ints W v cuts) :
    Calls Tryz.prog 12 #[d, v] w fun e w' => e = .returned (.tuple #[]) ∧ Disk w' d cap (crashS cuts fs) (ext F w w') ∧ Chg F w w' := by
  obtain ⟨db, mb, st, rfl, rfl, hd⟩ := hd
  refine (crash_ok cuts v db mb st cap F w hd hv).mono ?_
  rintro e w' ⟨h1, ⟨st', h2, h3⟩, h4⟩
  exact ⟨h1, ⟨db, mb, st', rfl, h2, h3⟩, h4⟩
end Go.Proofs.YtngbgngfdklnlaaGreatDoor
