/- The walk of Sync. -/
import Derived.Test.YtmjlhgamhjfjlaaDApp
set_option linter.unusedSimpArgs false
set_option linter.unusedVariables false
namespace Go.Proofs.Ytmjlhgamhjfjlaa
open Go.RowKit
theorem Ints.at' {w : World} {A : Option Addr} {n c : Nat} {l : List Int} (h : Ints w (.slice A n c) l) {k : Nat} (hk : k < l.length) : ∃ b o, A = some ⟨b, o, none⟩ ∧ w.cell? ⟨b, o + k, none⟩ = some (.int .i64 l[k]) := by
  obtain ⟨A', c', hv, -, -, h3⟩ := h
  obtain ⟨rfl, -, -⟩ : A = A' ∧ n = l.length ∧ c = c' := by simpa using hv
  obtain ⟨b, o, e, hc⟩ := h3 (by omega)
  exact ⟨b, o, e, hc k l[k] (by simp [hk])⟩
theorem allT_zero {ls : List Nm} {st : St} (h : allT ls st = 0) : ls.all okN = true ∧ ls.all (fun k => hasA k st) = true := by
  unfold allT at h
  cases h1 : ls.all okN with
  | false => rw [h1] at h; simp at h
  | true =>
    rw [h1] at h
    refine ⟨rfl, ?_⟩
    cases h2 : ls.all (fun k => hasA k st) with
    | true => rfl
    | false => rw [h2] at h; simp at h
theorem foldl_take {α β : Type} (f : α → β → α) (a : α) (l : List β) {k : Nat} (hk : k < l.length) : (l.take (k + 1)).foldl f a = f ((l.take k).foldl f a) l[k] := by
  rw [List.take_succ_eq_append_getElem hk, List.foldl_append]
  rfl
set_option maxRecDepth 100000 in
set_option maxHeartbeats 4000000 in
theorem sync_ok (ls : List Nm) (v : Value) (db mb : Nat) (st : St) (cap : Nat) (F : Nat → Prop) (w : World) (hd : Dsk w db mb st cap F) (hv : ∀ W, Chg F w W → Txts W v ls) (hall : allT ls st = 0) :
    Calls Try.prog 13 #[.pointer (some ⟨db, 0, none⟩), v] w fun e w' => e = .returned (.int .i64 0) ∧ (∃ st', mapV Prod.snd st' = syncS ls (mapV Prod.snd st) ∧ Dsk w' db mb st' cap (ext F w w')) ∧ Chg F w w' := by
  have HD := Lib.hid hd
  have HV := Lib.hid hv
  have c0 := hd.c0
  obtain ⟨ho1, ho2⟩ := allT_zero hall
  have HOK := Lib.hid ho1
  have HHAS := Lib.hid ho2
  have HC := Lib.hid (check_any ls v mb st F w (hv w (Chg.refl _ _)) hd.tbl)
  rw [hall] at HC
  obtain ⟨A, c, rfl, hc1, hc2⟩ := (hv w (Chg.refl _ _)).form
  clear hd hv hall ho1 ho2
  unfold maxLen at hc2
  go_enter Try.func13, Try.ntmps13
  go_wp2_with fail
  refine HC.out.mono ?_
  rintro e w1 ⟨rfl, hk1⟩
  go_wp2
  go_loopw [20] (fun i W => ∃ k : Nat, i = .int .i64 (k : Int) ∧ k ≤ ls.length ∧ (∃ st', mapV Prod.snd st' = syncS (ls.take k) (mapV Prod.snd st) ∧ namesA st' = namesA st ∧ Dsk W db mb st' cap (ext F w W)) ∧ Chg F w W) (fun i _ => ls.length - (intOf i).toNat)
  case atStart => exact ⟨0, rfl, Nat.zero_le _, ⟨st, rfl, rfl, (HD.out.kept hk1).mono (fun _ x => .inl x)⟩, Chg.of_kept hk1⟩
  case round =>
    obtain ⟨k, rfl, hk, ⟨st', hm, hna, hd'⟩, hC⟩ := hrel
    by_cases hlt : k < ls.length
    · obtain ⟨b, o, rfl, hcell⟩ := (HV.out wr hC).at hlt
      have g1 : (k : Int) < (ls.length : Int) := by omega
      have hkl := okN_all_len HOK.out hlt
      have hkn : okN ls[k] = true := List.all_eq_true.1 HOK.out _ (List.getElem_mem hlt)
      have hkh : hasA ls[k] st' = true := by rw [hasA_names hna]; exact List.all_eq_true.1 HHAS.out _ (List.getElem_mem hlt)
      have hlk := hd'.tbl.owns.look ls[k] (by unfold maxLen; omega)
      obtain ⟨A2, c2, hsl, hown⟩ := (hd'.tbl.file ls[k]).form
      rw [hsl] at hlk
      have c0' := hd'.c0
      have hfl := filA_len hd' ls[k]
      have HDW := Lib.hid hd'
      have HSL := Lib.hid hsl
      have HOWN := Lib.hid hown
      have HM := Lib.hid hm
      have HNA := Lib.hid hna
      have HKN := Lib.hid hkn
      have HKH := Lib.hid hkh
      clear hd' hsl hown hm hna hkn hkh
      go_wp2
      have hKa : Kept wr (wr.alloc (.cells #[.slice A2 (filA ls[k] st').1.length c2, .int .i64 ((filA ls[k] st').1.length : Int)] 72)) := (Kept.refl wr).alloc _
      have hb2 := heap_alloc_new wr (.cells #[.slice A2 (filA ls[k] st').1.length c2, .int .i64 ((filA ls[k] st').1.length : Int)] 72)
      generalize wr.alloc (.cells #[.slice A2 (filA ls[k] st').1.length c2, .int .i64 ((filA ls[k] st').1.length : Int)] 72) = w2 at *
      have q0 := hKa.cell c0'
      have q1 := cell_at hb2 0
      have q2 := cell_at hb2 1
      simp only [List.getElem?_toArray, List.getElem?_cons_zero, List.getElem?_cons_succ] at q1 q2
      clear hb2
      go_still_tail 6, (by kernel_rfl)
      change wpList _ _ _ _ _ w2.drew
      have hKd : Kept wr w2.drew := hKa.drew
      generalize w2.drew = wd at *
      go_wp2_with (go_at_call 32; refine (put_any ls[k] _ _ ((filA ls[k] st').1, (filA ls[k] st').1.length) mb st' wd (HDW.out.tbl.kept hKd).owns (by have := HDW.out.tbl.small; unfold maxLen; omega) (by omega)).mono ?_; rintro e w5 ⟨rfl, ho5, hc5⟩; have HO5 := Lib.hid ho5; clear ho5)
      have hC5 : Chg (foot db mb (valA ls[k] st')) wr w5 := (Chg.of_kept hKd).trans hc5 (fun g _ x => .inr (.inl x))
      have hcl := HDW.out.capLe
      have hD5 := HDW.out.put (w' := w5) (k := ls[k]) (v := .agg #[.slice A2 (filA ls[k] st').1.length c2, .int .i64 ((filA ls[k] st').1.length : Int)]) (f := ((filA ls[k] st').1, (filA ls[k] st').1.length)) ?_ HO5.out ⟨_, rfl, ?_⟩ hC5 (fun g hg => .inl (by rw [HSL.out]; exact hg)) HKN.out (Nat.le_refl _) ?_ (by rw [length_put_has HDW.out.tbl.srt HKH.out]; exact HDW.out.tbl.small)
      rotate_left
      · have hu := used_sync1 HDW.out.good.1 ls[k]
        unfold sync1 at hu
        rw [← filA_mapV] at hu
        rw [hu]
        exact hc5.block' (hKd.block' HDW.out.cells) HDW.out.db_ne
      · exact own_chg (own_kept HOWN.out hKd) hc5 (fun g hg => HDW.out.tbl.row_ne (valA_mem (by rw [HSL.out]; exact hg)) (by rw [HSL.out]; exact hg))
      · have hu := used_sync1 HDW.out.good.1 ls[k]
        unfold sync1 at hu
        rw [← filA_mapV] at hu
        rw [hu]
        exact HDW.out.fits
      go_roundw
      case rel =>
        refine ⟨k + 1, by go_num, by omega, ⟨_, ?_, ?_, hD5.chain hC.size hC5.size⟩, hC.chain (hC5.mono (fun g _ x => HDW.out.foot_F _ x))⟩
        · rw [mapV_put]
          unfold syncS
          rw [foldl_take _ _ _ hlt]
          show _ = sync1 (syncS (ls.take k) _) _
          rw [← HM.out]
          unfold sync1
          rw [← filA_mapV]
        · rw [names_put_has HDW.out.tbl.srt HKH.out]; exact HNA.out
      case measure => simp [intOf]; omega
    · obtain rfl : k = ls.length := by omega
      rw [List.take_length] at hm
      have HM := Lib.hid hm
      have HDW := Lib.hid hd'
      clear hm hd' hna
      go_wp2
      go_ret
      exact ⟨rfl, ⟨st', HM.out, HDW.out⟩, hC⟩
set_option maxRecDepth 100000 in
set_option maxHeartbeats 4000000 in
theorem sync_no (ls : List Nm) (v : Value) (db mb : Nat) (st : St) (cap : Nat) (F : Nat → Prop) (w : World) (hd : Dsk w db mb st cap F) (hv : Txts w v ls) (hall : allT ls st ≠ 0) :
    Calls Try.prog 13 #[.pointer (some ⟨db, 0, none⟩), v] w fun e w' => e = .returned (.int .i64 (allT ls st)) ∧ Kept w w' := by
  have c0 := hd.c0
  have HC := Lib.hid (check_any ls v mb st F w hv hd.tbl)
  obtain ⟨A, c, rfl, hc1, hc2⟩ := hv.form
  clear hd hv
  generalize allT ls st = e0 at *
  have t0 : (e0 != 0) = true := by simpa using hall
  unfold maxLen at hc2
  go_enter Try.func13, Try.ntmps13
  go_wp2_with fail
  refine HC.out.mono ?_
  rintro e w1 ⟨rfl, hk1⟩
  go_wp2
  go_ret
  exact ⟨rfl, hk1⟩
/-- Sync, whatever is asked. -/
theorem sync_any (ls : List Nm) (v d : Value) (cap : Nat) (fs : Fls) (F : Nat → Prop) (w : World) (hd : Disk w d cap fs F) (hv : ∀ W, Chg F w W → Txts W v ls) :
    Calls Try.prog 13 #[d, v] w fun e w' => e = .returned (.int .i64 (allS ls fs)) ∧ Disk w' d cap (if allS ls fs = 0 then syncS ls fs else fs) (ext F w w') ∧ Chg F w w' := by
  have HD := hd
  obtain ⟨db, mb, st, rfl, rfl, hd⟩ := hd
  rw [← allT_eq]
  by_cases h : allT ls st = 0
  · rw [if_pos h, h]
    refine (sync_ok ls v db mb st cap F w hd hv h).mono ?_
    rintro e w' ⟨h1, ⟨st', h2, h3⟩, h4⟩
    exact ⟨h1, ⟨db, mb, st', rfl, h2, h3⟩, h4⟩
  · rw [if_neg h]
    exact (sync_no ls v db mb st cap F w hd (hv w (Chg.refl _ _)) h).mono fun e w' ⟨h1, h2⟩ => ⟨h1, Out.refl' HD h2⟩
end Go.Proofs.Ytmjlhgamhjfjlaa
