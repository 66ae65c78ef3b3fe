/- The walk of Sync. The walk of Remove. -/
import Derived.Test.YtngbgngfdklnlaaGreatDoorQDApp
import Derived.IntWalk
set_option linter.unusedSimpArgs false
set_option linter.unusedVariables false
namespace Go.Proofs.YtngbgngfdklnlaaGreatDoor
open Go.RowKit
theorem Ints.at' {w : World} {A : Option Addr} {n c : Nat} {l : List Int} (h : Ints w (.slice A n c) l) {k : Nat} (hk : k < l.length) : ∃ b o, A = some ⟨b, o, none⟩ ∧ w.cell? ⟨b, o + k, none⟩ = some (.int .i64 l[k]) := by
  obtain ⟨A', c', hv, -, -, h3⟩ := h
  obtain ⟨rfl, -, -⟩ : A = A' ∧ n = l.length ∧ c = c' := by simpa using hv
  obtain ⟨b, o, e, hc⟩ := h3 (by omega)
  exact ⟨b, o, e, hc k l[k] (by simp [hk])⟩
theorem allT_zero {ls : List Nm} {st : St} (h : allT ls st = 0) : ls.all okN = true ∧ ls.all (fun k => hasA k st) = true := by
  unfold allT at h
  cases h1 : ls.all okN with
  | false => rw [h1] at h; simp at h
  | true =>
    rw [h1] at h
    refine ⟨rfl, ?_⟩
    cases h2 : ls.all (fun k => hasA k st) with
    | true => rfl
    | false => rw [h2] at h; simp at h
theorem foldl_take {α β : Type} (f : α → β → α) (a : α) (l : List β) {k : Nat} (hk : k < l.length) : (l.take (k + 1)).foldl f a = f ((l.take k).foldl f a) l[k] := by
  rw [List.take_succ_eq_append_getElem hk, List.foldl_append]
  rfl
set_option maxRecDepth 100000 in
set_option maxHeartbeats 4000000 in
theorem sync_ok (ls : List Nm) (v : Value) (db mb : Nat) (st : St) (cap : Nat) (F : Nat → Prop) (w : World) (hd : Dsk w db mb st cap F) (hv : ∀ W, Chg F w W → Txts W v ls) (hall : allT ls st = 0) :
    Calls Tryz.prog 90 #[.pointer (some ⟨db, 0, none⟩), v] w fun e w' => e = .returned (.int .i64 0) ∧ (∃ st', mapV Prod.snd st' = syncS ls (mapV Prod.snd st) ∧ Dsk w' db mb st' cap (ext F w w')) ∧ Chg F w w' := by
  have HD := Lib.hid hd
  have HV := Lib.hid hv
  have c0 := hd.c0
  obtain ⟨ho1, ho2⟩ := allT_zero hall
  have HOK := Lib.hid ho1
  have HHAS := Lib.hid ho2
  have HC := Lib.hid (check_any ls v mb st F w (hv w (Chg.refl _ _)) hd.tbl)
  rw [hall] at HC
  obtain ⟨A, c, rfl, hc1, hc2⟩ := (hv w (Chg.refl _ _)).form
  clear hd hv hall ho1 ho2
  unfold maxLen at hc2
  go_enter Tryz.func90, Tryz.ntmps90
  go_wp2_with fail
  refine HC.out.mono ?_
  rintro e w1 ⟨rfl, hk1⟩
  go_wp2
  go_loopw [20] (fun i W => ∃ k : Nat, i = .int .i64 (k : Int) ∧ k ≤ ls.length ∧ (∃ st', mapV Prod.snd st' = syncS (ls.take k) (mapV Prod.snd st) ∧ namesA st' = namesA st ∧ Dsk W db mb st' cap (ext F w W)) ∧ Chg F w W) (fun i _ => ls.length - (intOf i).toNat)
  case atStart => exact ⟨0, rfl, Nat.zero_le _, ⟨st, rfl, rfl, (HD.out.kept hk1).mono (fun _ x => .inl x)⟩, Chg.of_kept hk1⟩
  case round =>
    obtain ⟨k, rfl, hk, ⟨st', hm, hna, hd'⟩, hC⟩ := hrel
    by_cases hlt : k < ls.length
    · obtain ⟨b, o, rfl, hcell⟩ := (HV.out wr hC).at hlt
      have g1 : (k : Int) < (ls.length : Int) := by omega
      have hkl := okN_all_len HOK.out hlt
      have hkn : okN ls[k] = true := List.all_eq_true.1 HOK.out _ (List.getElem_mem hlt)
      have hkh : hasA ls[k] st' = true := by rw [hasA_names hna]; exact List.all_eq_true.1 HHAS.out _ (List.getElem_mem hlt)
      have hlk := hd'.tbl.owns.look ls[k] (by unfold maxLen; omega)
      obtain ⟨A2, c2, hsl, hown⟩ := (hd'.tbl.file ls[k]).form
      rw [hsl] at hlk
      have c0' := hd'.c0
      have hfl := filA_len hd' ls[k]
      have HDW := Lib.hid hd'
      have HSL := Lib.hid hsl
      have HOWN := Lib.hid hown
      have HM := Lib.hid hm
      have HNA := Lib.hid hna
      have HKN := Lib.hid hkn
      have HKH := Lib.hid hkh
      clear hd' hsl hown hm hna hkn hkh
      go_wp2
      have hKa : Kept wr (wr.alloc (.cells #[.slice A2 (filA ls[k] st').1.length c2, .int .i64 ((filA ls[k] st').1.length : Int)] 112)) := (Kept.refl wr).alloc _
      have hb2 := heap_alloc_new wr (.cells #[.slice A2 (filA ls[k] st').1.length c2, .int .i64 ((filA ls[k] st').1.length : Int)] 112)
      generalize wr.alloc (.cells #[.slice A2 (filA ls[k] st').1.length c2, .int .i64 ((filA ls[k] st').1.length : Int)] 112) = w2 at *
      have q0 := hKa.cell c0'
      have q1 := cell_at hb2 0
      have q2 := cell_at hb2 1
      simp only [List.getElem?_toArray, List.getElem?_cons_zero, List.getElem?_cons_succ] at q1 q2
      clear hb2
      go_still_tail 6, (by kernel_rfl)
      change wpList _ _ _ _ _ w2.drew
      have hKd : Kept wr w2.drew := hKa.drew
      generalize w2.drew = wd at *
      go_wp2_with (go_at_call 56; refine (put_any ls[k] _ _ ((filA ls[k] st').1, (filA ls[k] st').1.length) mb st' wd (HDW.out.tbl.kept hKd).owns (by have := HDW.out.tbl.small; unfold maxLen; omega) (by omega)).mono ?_; rintro e w5 ⟨rfl, ho5, hc5⟩; have HO5 := Lib.hid ho5; clear ho5)
      have hC5 : Chg (foot db mb (valA ls[k] st')) wr w5 := (Chg.of_kept hKd).trans hc5 (fun g _ x => .inr (.inl x))
      have hcl := HDW.out.capLe
      have hD5 := HDW.out.put (w' := w5) (k := ls[k]) (v := .agg #[.slice A2 (filA ls[k] st').1.length c2, .int .i64 ((filA ls[k] st').1.length : Int)]) (f := ((filA ls[k] st').1, (filA ls[k] st').1.length)) ?_ HO5.out ⟨_, rfl, ?_⟩ hC5 (fun g hg => .inl (by rw [HSL.out]; exact hg)) HKN.out (Nat.le_refl _) ?_ (by rw [length_put_has HDW.out.tbl.srt HKH.out]; exact HDW.out.tbl.small)
      rotate_left
      · have hu := used_sync1 HDW.out.good.1 ls[k]
        unfold sync1 at hu
        rw [← filA_mapV] at hu
        rw [hu]
        exact hc5.block' (hKd.block' HDW.out.cells) HDW.out.db_ne
      · exact own_chg (own_kept HOWN.out hKd) hc5 (fun g hg => HDW.out.tbl.row_ne (valA_mem (by rw [HSL.out]; exact hg)) (by rw [HSL.out]; exact hg))
      · have hu := used_sync1 HDW.out.good.1 ls[k]
        unfold sync1 at hu
        rw [← filA_mapV] at hu
        rw [hu]
        exact HDW.out.fits
      go_roundw
      case rel =>
        refine ⟨k + 1, by go_num, by omega, ⟨_, ?_, ?_, hD5.chain hC.size hC5.size⟩, hC.chain (hC5.mono (fun g _ x => HDW.out.foot_F _ x))⟩
        · rw [mapV_put]
          unfold syncS
          rw [foldl_take _ _ _ hlt]
          show _ = sync1 (syncS (ls.take k) _) _
          rw [← HM.out]
          unfold sync1
          rw [← filA_mapV]
        · rw [names_put_has HDW.out.tbl.srt HKH.out]; exact HNA.out
      case measure => simp [intOf]; omega
    · obtain rfl : k = ls.length := by omega
      rw [List.take_length] at hm
      have HM := Lib.hid hm
      have HDW := Lib.hid hd'
      clear hm hd' hna
      go_wp2
      go_ret
      exact ⟨rfl, ⟨st', HM.out, HDW.out⟩, hC⟩
set_option maxRecDepth 100000 in
set_option maxHeartbeats 4000000 in
theorem sync_no (ls : List Nm) (v : Value) (db mb : Nat) (st : St) (cap : Nat) (F : Nat → Prop) (w : World) (hd : Dsk w db mb st cap F) (hv : Txts w v ls) (hall : allT ls st ≠ 0) :
    Calls Tryz.prog 90 #[.pointer (some ⟨db, 0, none⟩), v] w fun e w' => e = .returned (.int .i64 (allT ls st)) ∧ Kept w w' := by
  have c0 := hd.c0
  have HC := Lib.hid (check_any ls v mb st F w hv hd.tbl)
  obtain ⟨A, c, rfl, hc1, hc2⟩ := hv.form
  clear hd hv
  generalize allT ls st = e0 at *
  have t0 : (e0 != 0) = true := by simpa using hall
  unfold maxLen at hc2
  go_enter Tryz.func90, Tryz.ntmps90
  go_wp2_with fail
  refine HC.out.mono ?_
  rintro e w1 ⟨rfl, hk1⟩
  go_wp2
  go_ret
  exact ⟨rfl, hk1⟩
/-- Sync, whatever is asked. -/
theorem sync_any (ls : List Nm) (v d : Value) (cap : Nat) (fs : Fls) (F : Nat → Prop) (w : World) (hd : Disk w d cap fs F) (hv : ∀ W, Chg F w W → Txts W v ls) :
    Calls Tryz.prog 90 #[d, v] w fun e w' => e = .returned (.int .i64 (allS ls fs)) ∧ Disk w' d cap (if allS ls fs = 0 then syncS ls fs else fs) (ext F w w') ∧ Chg F w w' := by
  have HD := hd
  obtain ⟨db, mb, st, rfl, rfl, hd⟩ := hd
  rw [← allT_eq]
  by_cases h : allT ls st = 0
  · rw [if_pos h, h]
    refine (sync_ok ls v db mb st cap F w hd hv h).mono ?_
    rintro e w' ⟨h1, ⟨st', h2, h3⟩, h4⟩
    exact ⟨h1, ⟨db, mb, st', rfl, h2, h3⟩, h4⟩
  · rw [if_neg h]
    exact (sync_no ls v db mb st cap F w hd (hv w (Chg.refl _ _)) h).mono fun e w' ⟨h1, h2⟩ => ⟨h1, Out.refl' HD h2⟩
end Go.Proofs.YtngbgngfdklnlaaGreatDoor
set_option linter.unusedSimpArgs false
set_option linter.unusedVariables false
namespace Go.Proofs.YtngbgngfdklnlaaGreatDoor
open Go.RowKit
/-- delete, for the walk. -/
theorem wpList_drop {w : World} {ops : Array Oper} {rest : List Oper} {o : Oper} {a : Act} {Q : Exit → Act → World → Prop} (hgd : o.guard = none) (m x : Operand)
    (ho : o.op = .call { callee := .builtin .delete, args := #[m, x], argTypes := #[83, 9] }) (mb : Nat) (st : St) (k : Nm) (hm : a.eval m = .map (some mb)) (hx : a.eval x = .string ⟨k.toArray⟩)
    (hown : Owns w mb st) (hk : k.length ≤ maxLen)
    (h : ∀ w', Owns w' mb (cutA k st) → Chg (fun g => g = mb) w w' → wpList Tryz.prog ops Q rest (a.put o.dst (.tuple #[])) w') : wpList Tryz.prog ops Q (o :: rest) a w := by
  refine wpList_plain hgd fun K hK => ?_
  obtain ⟨w', hrun, h2, h3⟩ := hown.drop k hk o.type
  unfold Oper.wp execOp
  simp only [ho, resolve, invoke, builtin, Sem.run_bind, Sem.run_pure, Result.andThen_ok, List.map_toArray, List.map_cons, List.map_nil, hm, hx, hrun]
  exact hK _ _ (h w' h2 (Chg.of_grown h3 (fun g hg _ => by cases hg; rfl)))
set_option maxRecDepth 100000 in
set_option maxHeartbeats 4000000 in
theorem remove_ok (ls : List Nm) (v : Value) (db mb : Nat) (st : St) (cap : Nat) (F : Nat → Prop) (w : World) (hd : Dsk w db mb st cap F) (hv : ∀ W, Chg F w W → Txts W v ls) (hall : allT ls st = 0) :
    Calls Tryz.prog 17 #[.pointer (some ⟨db, 0, none⟩), v] w fun e w' => e = .returned (.int .i64 0) ∧ (∃ st', mapV Prod.snd st' = remS ls (mapV Prod.snd st) ∧ Dsk w' db mb st' cap F) ∧ Chg F w w' := by
  have HD := Lib.hid hd
  have HV := Lib.hid hv
  have c0 := hd.c0
  obtain ⟨ho1, ho2⟩ := allT_zero hall
  have HOK := Lib.hid ho1
  have HC := Lib.hid (check_any ls v mb st F w (hv w (Chg.refl _ _)) hd.tbl)
  rw [hall] at HC
  obtain ⟨A, c, rfl, hc1, hc2⟩ := (hv w (Chg.refl _ _)).form
  clear hd hv hall ho1 ho2
  unfold maxLen at hc2
  go_enter Tryz.func17, Tryz.ntmps17
  go_wp2_with fail
  refine HC.out.mono ?_
  rintro e w1 ⟨rfl, hk1⟩
  go_wp2
  go_loopw [19] (fun i W => ∃ k : Nat, i = .int .i64 (k : Int) ∧ k ≤ ls.length ∧ (∃ st', mapV Prod.snd st' = remS (ls.take k) (mapV Prod.snd st) ∧ Dsk W db mb st' cap F) ∧ Chg F w W) (fun i _ => ls.length - (intOf i).toNat)
  case atStart => exact ⟨0, rfl, Nat.zero_le _, ⟨st, rfl, HD.out.kept hk1⟩, Chg.of_kept hk1⟩
  case round =>
    obtain ⟨k, rfl, hk, ⟨st', hm, hd'⟩, hC⟩ := hrel
    by_cases hlt : k < ls.length
    · obtain ⟨b, o, rfl, hcell⟩ := (HV.out wr hC).at hlt
      have g1 : (k : Int) < (ls.length : Int) := by omega
      have hkl := okN_all_len HOK.out hlt
      obtain ⟨A2, c2, hsl, -⟩ := (hd'.tbl.file ls[k]).form
      have HSL := Lib.hid hsl
      have hfl := filA_len hd' ls[k]
      have hul := hd'.fits
      have hcl := hd'.capLe
      have huc := used_cut hd'.good.1 ls[k]
      rw [← filA_mapV] at huc
      have hle : (filA ls[k] st').1.length ≤ used (mapV Prod.snd st') := by omega
      have hux : ∃ u, used (mapV Prod.snd st') = u := ⟨_, rfl⟩
      obtain ⟨u, hu⟩ := hux
      rw [hu] at hle hul huc
      have hwr : IntKind.i64.wrap ((u : Int) - ((filA ls[k] st').1.length : Int)) = (u : Int) - ((filA ls[k] st').1.length : Int) := IntWalk.i64_in _ (by omega)
      have HDW := Lib.hid hd'
      have HM := Lib.hid hm
      have HU := Lib.hid hu
      have HUC := Lib.hid huc
      clear hd' hsl hm huc hu
      go_wp2
      refine still_tail 15 (by kernel_rfl) (by kernel_rfl) (fun wd hKd => ?_)
      have c0' := (HDW.out.kept hKd).c0
      have c2' := (HDW.out.kept hKd).c2
      have f2' := (HDW.out.kept hKd).f2
      rw [HU.out] at c2'
      have hlk := (HDW.out.tbl.kept hKd).owns.look ls[k] (by unfold maxLen; omega)
      rw [HSL.out] at hlk
      have hf0 := fld0
      simp only [List.take_succ_cons, List.take_zero, List.drop_succ_cons, List.drop_zero]
      repeat still_step
      refine wpStill_nil ?_
      have hCd : Chg (fun g => g = db) wr (wd.setCell ⟨db, 2, none⟩ (.int .i64 ((u : Int) - ((filA ls[k] st').1.length : Int)))) := (Chg.of_kept hKd).setCell _ (fun _ => rfl)
      have hown := HDW.out.tbl.owns.chg hCd (fun e => HDW.out.db_ne e.symm)
      have hset := set2 (v := .int .i64 ((u : Int) - ((filA ls[k] st').1.length : Int))) (hKd.block' HDW.out.cells)
      have HOWN := Lib.hid hown
      have HSET := Lib.hid hset
      clear hown hset hlk hf0
      go_wp2_with (at_delete; refine wpList_drop rfl _ _ rfl mb st' ls[k] rfl rfl HOWN.out (by unfold maxLen; omega) ?_; intro w5 ho5 hc5; have HO5 := Lib.hid ho5; clear ho5)
      have hC5 : Chg (fun g => g = db ∨ g = mb) wr w5 := (hCd.mono (fun g _ x => .inl x)).trans hc5 (fun g _ x => .inr x)
      have hD5 := HDW.out.cut (w' := w5) (k := ls[k]) (by
        have : (used (cutA ls[k] (mapV Prod.snd st')) : Int) = (u : Int) - ((filA ls[k] st').1.length : Int) := by have := HUC.out; omega
        rw [this]
        exact hc5.block' HSET.out HDW.out.db_ne) HO5.out hC5
      go_roundw
      case rel =>
        refine ⟨k + 1, by go_num, by omega, ⟨_, ?_, hD5⟩, hC.trans hC5 (fun g _ x => ?_)⟩
        · rw [mapV_cut]
          unfold remS
          rw [foldl_take _ _ _ hlt]
          show _ = rem1 (remS (ls.take k) _) _
          rw [← HM.out]
          rfl
        · rcases x with rfl | rfl
          · exact HDW.out.inF
          · exact HDW.out.tbl.inF
      case measure => simp [intOf]; omega
    · obtain rfl : k = ls.length := by omega
      rw [List.take_length] at hm
      have HM := Lib.hid hm
      have HDW := Lib.hid hd'
      clear hm hd'
      go_wp2
      go_ret
      exact ⟨rfl, ⟨st', HM.out, HDW.out⟩, hC⟩
set_option maxRecDepth 100000 in
set_option maxHeartbeats 4000000 in
theorem remove_no (ls : List Nm) (v : Value) (db mb : Nat) (st : St) (cap : Nat) (F : Nat → Prop) (w : World) (hd : Dsk w db mb st cap F) (hv : Txts w v ls) (hall : allT ls st ≠ 0) :
    Calls Tryz.prog 17 #[.pointer (some ⟨db, 0, none⟩), v] w fun e w' => e = .returned (.int .i64 (allT ls st)) ∧ Kept w w' := by
  have c0 := hd.c0
  have HC := Lib.hid (check_any ls v mb st F w hv hd.tbl)
  obtain ⟨A, c, rfl, hc1, hc2⟩ := hv.form
  clear hd hv
  generalize allT ls st = e0 at *
  have t0 : (e0 != 0) = true := by simpa using hall
  unfold maxLen at hc2
  go_enter Tryz.func17, Tryz.ntmps17
  go_wp2_with fail
  refine HC.out.mono ?_
  rintro e w1 ⟨rfl, hk1⟩
  go_wp2
  go_ret
  exact ⟨rfl, hk1⟩
/-- Remove, whatever is asked. -/
theorem remove_any (ls : List Nm) (v d : Value) (cap : Nat) (fs : Fls) (F : Nat → Prop) (w : World) (hd : Disk w d cap fs F) (hv : ∀ W, Chg F w W → Txts W v ls) :
    Calls Tryz.prog 17 #[d, v] w fun e w' => e = .returned (.int .i64 (allS ls fs)) ∧ Disk w' d cap (if allS ls fs = 0 then remS ls fs else fs) (ext F w w') ∧ Chg F w w' := by
  have HD := hd
  obtain ⟨db, mb, st, rfl, rfl, hd⟩ := hd
  rw [← allT_eq]
  by_cases h : allT ls st = 0
  · rw [if_pos h, h]
    refine (remove_ok ls v db mb st cap F w hd hv h).mono ?_
    rintro e w' ⟨h1, ⟨st', h2, h3⟩, h4⟩
    exact ⟨h1, ⟨db, mb, st', rfl, h2, h3.mono (fun _ x => .inl x)⟩, h4⟩
  · rw [if_neg h]
    exact (remove_no ls v db mb st cap F w hd (hv w (Chg.refl _ _)) h).mono fun e w' ⟨h1, h2⟩ => ⟨h1, Out.refl' HD h2⟩
end Go.Proofs.YtngbgngfdklnlaaGreatDoor
