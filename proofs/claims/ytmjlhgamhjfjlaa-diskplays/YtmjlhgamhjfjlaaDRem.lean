/- The walk of Remove. -/
import Derived.Test.YtmjlhgamhjfjlaaDSync
import Derived.IntWalk
set_option linter.unusedSimpArgs false
set_option linter.unusedVariables false
namespace Go.Proofs.Ytmjlhgamhjfjlaa
open Go.RowKit
/-- delete, for the walk. -/
theorem wpList_drop {w : World} {ops : Array Oper} {rest : List Oper} {o : Oper} {a : Act} {Q : Exit → Act → World → Prop} (hgd : o.guard = none) (m x : Operand)
    (ho : o.op = .call { callee := .builtin .delete, args := #[m, x], argTypes := #[68, 9] }) (mb : Nat) (st : St) (k : Nm) (hm : a.eval m = .map (some mb)) (hx : a.eval x = .string ⟨k.toArray⟩)
    (hown : Owns w mb st) (hk : k.length ≤ maxLen)
    (h : ∀ w', Owns w' mb (cutA k st) → Chg (fun g => g = mb) w w' → wpList Try.prog ops Q rest (a.put o.dst (.tuple #[])) w') : wpList Try.prog ops Q (o :: rest) a w := by
  refine wpList_plain hgd fun K hK => ?_
  obtain ⟨w', hrun, h2, h3⟩ := hown.drop k hk o.type
  unfold Oper.wp execOp
  simp only [ho, resolve, invoke, builtin, Sem.run_bind, Sem.run_pure, Result.andThen_ok, List.map_toArray, List.map_cons, List.map_nil, hm, hx, hrun]
  exact hK _ _ (h w' h2 (Chg.of_grown h3 (fun g hg _ => by cases hg; rfl)))
set_option maxRecDepth 100000 in
set_option maxHeartbeats 4000000 in
theorem remove_ok (ls : List Nm) (v : Value) (db mb : Nat) (st : St) (cap : Nat) (F : Nat → Prop) (w : World) (hd : Dsk w db mb st cap F) (hv : ∀ W, Chg F w W → Txts W v ls) (hall : allT ls st = 0) :
    Calls Try.prog 17 #[.pointer (some ⟨db, 0, none⟩), v] w fun e w' => e = .returned (.int .i64 0) ∧ (∃ st', mapV Prod.snd st' = remS ls (mapV Prod.snd st) ∧ Dsk w' db mb st' cap F) ∧ Chg F w w' := by
  have HD := Lib.hid hd
  have HV := Lib.hid hv
  have c0 := hd.c0
  obtain ⟨ho1, ho2⟩ := allT_zero hall
  have HOK := Lib.hid ho1
  have HC := Lib.hid (check_any ls v mb st F w (hv w (Chg.refl _ _)) hd.tbl)
  rw [hall] at HC
  obtain ⟨A, c, rfl, hc1, hc2⟩ := (hv w (Chg.refl _ _)).form
  clear hd hv hall ho1 ho2
  unfold maxLen at hc2
  go_enter Try.func17, Try.ntmps17
  go_wp2_with fail
  refine HC.out.mono ?_
  rintro e w1 ⟨rfl, hk1⟩
  go_wp2
  go_loopw [19] (fun i W => ∃ k : Nat, i = .int .i64 (k : Int) ∧ k ≤ ls.length ∧ (∃ st', mapV Prod.snd st' = remS (ls.take k) (mapV Prod.snd st) ∧ Dsk W db mb st' cap F) ∧ Chg F w W) (fun i _ => ls.length - (intOf i).toNat)
  case atStart => exact ⟨0, rfl, Nat.zero_le _, ⟨st, rfl, HD.out.kept hk1⟩, Chg.of_kept hk1⟩
  case round =>
    obtain ⟨k, rfl, hk, ⟨st', hm, hd'⟩, hC⟩ := hrel
    by_cases hlt : k < ls.length
    · obtain ⟨b, o, rfl, hcell⟩ := (HV.out wr hC).at hlt
      have g1 : (k : Int) < (ls.length : Int) := by omega
      have hkl := okN_all_len HOK.out hlt
      obtain ⟨A2, c2, hsl, -⟩ := (hd'.tbl.file ls[k]).form
      have HSL := Lib.hid hsl
      have hfl := filA_len hd' ls[k]
      have hul := hd'.fits
      have hcl := hd'.capLe
      have huc := used_cut hd'.good.1 ls[k]
      rw [← filA_mapV] at huc
      have hle : (filA ls[k] st').1.length ≤ used (mapV Prod.snd st') := by omega
      have hux : ∃ u, used (mapV Prod.snd st') = u := ⟨_, rfl⟩
      obtain ⟨u, hu⟩ := hux
      rw [hu] at hle hul huc
      have hwr : IntKind.i64.wrap ((u : Int) - ((filA ls[k] st').1.length : Int)) = (u : Int) - ((filA ls[k] st').1.length : Int) := IntWalk.i64_in _ (by omega)
      have HDW := Lib.hid hd'
      have HM := Lib.hid hm
      have HU := Lib.hid hu
      have HUC := Lib.hid huc
      clear hd' hsl hm huc hu
      go_wp2
      refine still_tail 15 (by kernel_rfl) (by kernel_rfl) (fun wd hKd => ?_)
      have c0' := (HDW.out.kept hKd).c0
      have c2' := (HDW.out.kept hKd).c2
      have f2' := (HDW.out.kept hKd).f2
      rw [HU.out] at c2'
      have hlk := (HDW.out.tbl.kept hKd).owns.look ls[k] (by unfold maxLen; omega)
      rw [HSL.out] at hlk
      have hf0 := fld0
      simp only [List.take_succ_cons, List.take_zero, List.drop_succ_cons, List.drop_zero]
      repeat still_step
      refine wpStill_nil ?_
      have hCd : Chg (fun g => g = db) wr (wd.setCell ⟨db, 2, none⟩ (.int .i64 ((u : Int) - ((filA ls[k] st').1.length : Int)))) := (Chg.of_kept hKd).setCell _ (fun _ => rfl)
      have hown := HDW.out.tbl.owns.chg hCd (fun e => HDW.out.db_ne e.symm)
      have hset := set2 (v := .int .i64 ((u : Int) - ((filA ls[k] st').1.length : Int))) (hKd.block' HDW.out.cells)
      have HOWN := Lib.hid hown
      have HSET := Lib.hid hset
      clear hown hset hlk hf0
      go_wp2_with (at_delete; refine wpList_drop rfl _ _ rfl mb st' ls[k] rfl rfl HOWN.out (by unfold maxLen; omega) ?_; intro w5 ho5 hc5; have HO5 := Lib.hid ho5; clear ho5)
      have hC5 : Chg (fun g => g = db ∨ g = mb) wr w5 := (hCd.mono (fun g _ x => .inl x)).trans hc5 (fun g _ x => .inr x)
      have hD5 := HDW.out.cut (w' := w5) (k := ls[k]) (by
        have : (used (cutA ls[k] (mapV Prod.snd st')) : Int) = (u : Int) - ((filA ls[k] st').1.length : Int) := by have := HUC.out; omega
        rw [this]
        exact hc5.block' HSET.out HDW.out.db_ne) HO5.out hC5
      go_roundw
      case rel =>
        refine ⟨k + 1, by go_num, by omega, ⟨_, ?_, hD5⟩, hC.trans hC5 (fun g _ x => ?_)⟩
        · rw [mapV_cut]
          unfold remS
          rw [foldl_take _ _ _ hlt]
          show _ = rem1 (remS (ls.take k) _) _
          rw [← HM.out]
          rfl
        · rcases x with rfl | rfl
          · exact HDW.out.inF
          · exact HDW.out.tbl.inF
      case measure => simp [intOf]; omega
    · obtain rfl : k = ls.length := by omega
      rw [List.take_length] at hm
      have HM := Lib.hid hm
      have HDW := Lib.hid hd'
      clear hm hd'
      go_wp2
      go_ret
      exact ⟨rfl, ⟨st', HM.out, HDW.out⟩, hC⟩
set_option maxRecDepth 100000 in
set_option maxHeartbeats 4000000 in
theorem remove_no (ls : List Nm) (v : Value) (db mb : Nat) (st : St) (cap : Nat) (F : Nat → Prop) (w : World) (hd : Dsk w db mb st cap F) (hv : Txts w v ls) (hall : allT ls st ≠ 0) :
    Calls Try.prog 17 #[.pointer (some ⟨db, 0, none⟩), v] w fun e w' => e = .returned (.int .i64 (allT ls st)) ∧ Kept w w' := by
  have c0 := hd.c0
  have HC := Lib.hid (check_any ls v mb st F w hv hd.tbl)
  obtain ⟨A, c, rfl, hc1, hc2⟩ := hv.form
  clear hd hv
  generalize allT ls st = e0 at *
  have t0 : (e0 != 0) = true := by simpa using hall
  unfold maxLen at hc2
  go_enter Try.func17, Try.ntmps17
  go_wp2_with fail
  refine HC.out.mono ?_
  rintro e w1 ⟨rfl, hk1⟩
  go_wp2
  go_ret
  exact ⟨rfl, hk1⟩
/-- Remove, whatever is asked. -/
theorem remove_any (ls : List Nm) (v d : Value) (cap : Nat) (fs : Fls) (F : Nat → Prop) (w : World) (hd : Disk w d cap fs F) (hv : ∀ W, Chg F w W → Txts W v ls) :
    Calls Try.prog 17 #[d, v] w fun e w' => e = .returned (.int .i64 (allS ls fs)) ∧ Disk w' d cap (if allS ls fs = 0 then remS ls fs else fs) (ext F w w') ∧ Chg F w w' := by
  have HD := hd
  obtain ⟨db, mb, st, rfl, rfl, hd⟩ := hd
  rw [← allT_eq]
  by_cases h : allT ls st = 0
  · rw [if_pos h, h]
    refine (remove_ok ls v db mb st cap F w hd hv h).mono ?_
    rintro e w' ⟨h1, ⟨st', h2, h3⟩, h4⟩
    exact ⟨h1, ⟨db, mb, st', rfl, h2, h3.mono (fun _ x => .inl x)⟩, h4⟩
  · rw [if_neg h]
    exact (remove_no ls v db mb st cap F w hd (hv w (Chg.refl _ _)) h).mono fun e w' ⟨h1, h2⟩ => ⟨h1, Out.refl' HD h2⟩
end Go.Proofs.Ytmjlhgamhjfjlaa
