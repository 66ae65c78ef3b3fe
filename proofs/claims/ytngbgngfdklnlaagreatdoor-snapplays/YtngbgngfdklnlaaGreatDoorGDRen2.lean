/- The walk of Rename. The walk of crashed. -/
import Derived.Test.YtngbgngfdklnlaaGreatDoorGDSync2
import Derived.Test.YtngbgngfdklnlaaGreatDoorGCrc3
set_option linter.unusedSimpArgs false
set_option linter.unusedVariables false
namespace Go.Proofs.YtngbgngfdklnlaaGreatDoor
open Go.RowKit
theorem used_ren {fs : Fls} (hs : Srt fs) {a b : Nm} (hab : a ≠ b) : used (cutA a (putA b ((getA a fs).getD ([], 0)) fs)) + ((getA b fs).getD ([], 0)).1.length = used fs := by
  have h1 := used_cut (srt_put hs (k := b) (v := (getA a fs).getD ([], 0))) a
  rw [getA_put_other hab] at h1
  have h2 := used_put hs b ((getA a fs).getD ([], 0))
  omega
set_option maxRecDepth 100000 in
set_option maxHeartbeats 4000000 in
theorem rename_ok (a b : Nm) (db mb : Nat) (st : St) (cap : Nat) (F : Nat → Prop) (w : World) (hd : Dsk w db mb st cap F) (hb : okN b = true) (hall : allT [a] st = 0) (hab : a ≠ b) :
    Calls Tryz.prog 91 #[.pointer (some ⟨db, 0, none⟩), .string ⟨a.toArray⟩, .string ⟨b.toArray⟩] w fun e w' => e = .returned (.int .i64 0) ∧ (∃ v, Dsk w' db mb (cutA a (putA b (v, filA a st) st)) cap F) ∧ Chg F w w' := by
  have HD := Lib.hid hd
  have c0 := hd.c0
  have HN := Lib.hid (show ∀ v W, Txts W v [b] → _ from fun v W hv => checkNames_any [b] v W hv)
  rw [show okL [b] = 0 by unfold okL; simp [hb]] at HN
  have HC := Lib.hid (show ∀ v W, Kept w W → Txts W v [a] → _ from fun v W hk hv => check_any [a] v mb st F W hv (hd.tbl.kept hk))
  rw [hall] at HC
  have hkb := okN_len hb
  have hka : a.length ≤ 40 := okN_len (List.all_eq_true.1 (allT_zero hall).1 a (by simp))
  have hha : hasA a st = true := List.all_eq_true.1 (allT_zero hall).2 a (by simp)
  have t1 : (a == b) = false := by simpa using hab
  obtain ⟨A2, cc2, hv2, ho2⟩ := (hd.tbl.file a).form
  obtain ⟨A3, cc3, hv3, -⟩ := (hd.tbl.file b).form
  have hur := used_ren hd.good.1 hab
  rw [← filA_mapV, ← filA_mapV] at hur
  have hux : ∃ u, used (mapV Prod.snd st) = u := ⟨_, rfl⟩
  obtain ⟨u, hu⟩ := hux
  have hfi := hd.fits
  have hcl := hd.capLe
  rw [hu] at hfi hur
  have hle : (filA b st).1.length ≤ u := by omega
  have hlen := hd.tbl.small
  have HHA := Lib.hid hha
  have HU := Lib.hid hu
  have HUR := Lib.hid hur
  have HV2 := Lib.hid hv2
  have HV3 := Lib.hid hv3
  have HB := Lib.hid hb
  have HAB := Lib.hid hab
  clear hd hb hall hab hu hur hv2 hv3 ho2 hha
  go_enter Tryz.func91, Tryz.ntmps91
  go_wp2_with fail
  refine (HN.out _ _ (Txts.one w b _)).mono ?_
  rintro e w1 ⟨rfl, hw1⟩
  have hk1 : Kept w w1 := by rw [← hw1]; exact (Kept.refl w).alloc _
  clear hw1
  have d0 := hk1.cell c0
  go_wp2_with fail
  refine (HC.out _ _ (hk1.alloc _) (Txts.one w1 a _)).mono ?_
  rintro e w2 ⟨rfl, hw2⟩
  have hk2 : Kept w w2 := (hk1.alloc _).trans hw2
  clear hw2
  have d0' := hk2.cell c0
  have hlk := (HD.out.tbl.kept hk2).owns.look a (by unfold maxLen; omega)
  rw [HV2.out] at hlk
  go_wp2
  have hKa : Kept w (w2.alloc (.cells #[.slice A2 (filA a st).1.length cc2, .int .i64 ((filA a st).2 : Int)] 112)) := hk2.alloc _
  have hb2 := heap_alloc_new w2 (.cells #[.slice A2 (filA a st).1.length cc2, .int .i64 ((filA a st).2 : Int)] 112)
  generalize w2.alloc (.cells #[.slice A2 (filA a st).1.length cc2, .int .i64 ((filA a st).2 : Int)] 112) = w3 at *
  have HB2 := Lib.hid hb2
  have hs2 := hk2.size
  clear hb2 hlk d0 d0'
  have hwr : IntKind.i64.wrap ((u : Int) - ((filA b st).1.length : Int)) = (u : Int) - ((filA b st).1.length : Int) := IntWalk.i64_in _ (by omega)
  refine still_tail 15 (by kernel_rfl) (by kernel_rfl) (fun wd hKd => ?_)
  have hKd' := hKa.trans hKd
  have c0' := (HD.out.kept hKd').c0
  have c2' := (HD.out.kept hKd').c2
  have f2' := (HD.out.kept hKd').f2
  rw [HU.out] at c2'
  have hlk := (HD.out.tbl.kept hKd').owns.look b (by unfold maxLen; omega)
  rw [HV3.out] at hlk
  have hf0 := fld0
  simp only [List.take_succ_cons, List.take_zero, List.drop_succ_cons, List.drop_zero]
  repeat still_step
  refine wpStill_nil ?_
  clear hlk hf0
  go_wp2
  have hCd : Chg (fun g => g = db) w (wd.setCell ⟨db, 2, none⟩ (.int .i64 ((u : Int) - ((filA b st).1.length : Int)))) := (Chg.of_kept hKd').setCell _ (fun _ => rfl)
  have hown := HD.out.tbl.owns.chg hCd (fun e => HD.out.db_ne e.symm)
  have hset := set2 (v := .int .i64 ((u : Int) - ((filA b st).1.length : Int))) (hKd'.block' HD.out.cells)
  have hdb : db < w.heap.size := by have := World.block_lt_of_cell? _ _ c0; simpa using this
  have hb3 : (wd.setCell ⟨db, 2, none⟩ (.int .i64 ((u : Int) - ((filA b st).1.length : Int)))).heap[w2.heap.size]? = some (.cells #[.slice A2 (filA a st).1.length cc2, .int .i64 ((filA a st).2 : Int)] 112 (0, 0)) := by
    rw [Below.heap_setCell wd ⟨db, 2, none⟩ _ w2.heap.size (fun e => by simp at e; omega)]
    exact hKd.block' HB2.out
  generalize wd.setCell ⟨db, 2, none⟩ (.int .i64 ((u : Int) - ((filA b st).1.length : Int))) = w4 at *
  have HOWN := Lib.hid hown
  have HSET := Lib.hid hset
  have HB3 := Lib.hid hb3
  clear hown hset hb3 c0' c2' f2'
  refine still_tail 6 (by kernel_rfl) (by kernel_rfl) (fun we hKe => ?_)
  have q0 := cell_at (hKe.block' HSET.out) 0
  have q1 := cell_at (hKe.block' HB3.out) 0
  have q2 := cell_at (hKe.block' HB3.out) 1
  simp only [List.getElem?_toArray, List.getElem?_cons_zero, List.getElem?_cons_succ] at q0 q1 q2
  simp only [List.take_succ_cons, List.take_zero, List.drop_succ_cons, List.drop_zero]
  repeat still_step
  refine wpStill_nil ?_
  go_wp2_with (first
    | (go_at_call 56; refine (put_any b _ _ (filA a st) mb st we (HOWN.out.chg (Chg.of_kept (F := no) hKe) (fun x => x)) (by unfold maxLen; omega) (by omega)).mono ?_; rintro e w5 ⟨rfl, ho5, hc5⟩; have HO5 := Lib.hid ho5; have r0 := cell_at (hc5.block' (hKe.block' HSET.out) HD.out.db_ne) 0; simp only [List.getElem?_toArray, List.getElem?_cons_zero] at r0; clear ho5)
    | (at_delete; refine wpList_drop rfl _ _ rfl mb _ a rfl rfl HO5.out (by unfold maxLen; omega) ?_; intro w6 ho6 hc6; have HO6 := Lib.hid ho6; clear ho6))
  go_ret
  have hC6 : Chg (fun g => g = db ∨ g = mb) w w6 := (((hCd.then_kept hKe).mono (fun g _ x => .inl x)).trans hc5 (fun g _ x => .inr x)).trans hc6 (fun g _ x => .inr x)
  rw [← HV2.out] at HO6
  refine ⟨rfl, ⟨_, HD.out.ren HAB.out HB.out ?_ HO6.out hC6 (Nat.le_trans (length_ren HD.out.tbl.srt HAB.out HHA.out) hlen) ?_⟩, hC6.mono (fun g _ x => ?_)⟩
  · have : (used (cutA a (putA b (filA a st) (mapV Prod.snd st))) : Int) = (u : Int) - ((filA b st).1.length : Int) := by have := HUR.out; omega
    rw [this]
    exact hc6.block' (hc5.block' (hKe.block' HSET.out) HD.out.db_ne) HD.out.db_ne
  · have := HUR.out
    omega
  · rcases x with rfl | rfl
    · exact HD.out.inF
    · exact HD.out.tbl.inF
set_option maxRecDepth 100000 in
set_option maxHeartbeats 4000000 in
theorem rename_bad (a b : Nm) (db : Nat) (w : World) (hb : okN b = false) :
    Calls Tryz.prog 91 #[.pointer (some ⟨db, 0, none⟩), .string ⟨a.toArray⟩, .string ⟨b.toArray⟩] w fun e w' => e = .returned (.int .i64 30) ∧ Kept w w' := by
  have HN := Lib.hid (show ∀ v W, Txts W v [b] → _ from fun v W hv => checkNames_any [b] v W hv)
  rw [show okL [b] = 30 by unfold okL; simp [hb]] at HN
  go_enter Tryz.func91, Tryz.ntmps91
  go_wp2_with fail
  refine (HN.out _ _ (Txts.one w b _)).mono ?_
  rintro e w1 ⟨rfl, hw1⟩
  have hk1 : Kept w w1 := by rw [← hw1]; exact (Kept.refl w).alloc _
  clear hw1
  go_wp2
  go_ret
  exact ⟨rfl, hk1⟩
set_option maxRecDepth 100000 in
set_option maxHeartbeats 4000000 in
theorem rename_no (a b : Nm) (db mb : Nat) (st : St) (cap : Nat) (F : Nat → Prop) (w : World) (hd : Dsk w db mb st cap F) (hb : okN b = true) (hall : allT [a] st ≠ 0 ∨ a = b) :
    Calls Tryz.prog 91 #[.pointer (some ⟨db, 0, none⟩), .string ⟨a.toArray⟩, .string ⟨b.toArray⟩] w fun e w' => e = .returned (.int .i64 (allT [a] st)) ∧ Kept w w' := by
  have c0 := hd.c0
  have HN := Lib.hid (show ∀ v W, Txts W v [b] → _ from fun v W hv => checkNames_any [b] v W hv)
  rw [show okL [b] = 0 by unfold okL; simp [hb]] at HN
  have HC := Lib.hid (show ∀ v W, Kept w W → Txts W v [a] → _ from fun v W hk hv => check_any [a] v mb st F W hv (hd.tbl.kept hk))
  clear hd hb
  generalize allT [a] st = e0 at *
  by_cases h0 : e0 = 0
  · have hab : a = b := by
      rcases hall with h | h
      · exact absurd h0 h
      · exact h
    subst hab h0
    clear hall
    go_enter Tryz.func91, Tryz.ntmps91
    go_wp2_with fail
    refine (HN.out _ _ (Txts.one w a _)).mono ?_
    rintro e w1 ⟨rfl, hw1⟩
    have hk1 : Kept w w1 := by rw [← hw1]; exact (Kept.refl w).alloc _
    clear hw1
    have d0 := hk1.cell c0
    go_wp2_with fail
    refine (HC.out _ _ (hk1.alloc _) (Txts.one w1 a _)).mono ?_
    rintro e w2 ⟨rfl, hw2⟩
    have hk2 : Kept w w2 := (hk1.alloc _).trans hw2
    clear hw2
    go_wp2
    go_ret
    exact ⟨rfl, hk2⟩
  · have t0 : (e0 != 0) = true := by simpa using h0
    clear hall h0
    go_enter Tryz.func91, Tryz.ntmps91
    go_wp2_with fail
    refine (HN.out _ _ (Txts.one w b _)).mono ?_
    rintro e w1 ⟨rfl, hw1⟩
    have hk1 : Kept w w1 := by rw [← hw1]; exact (Kept.refl w).alloc _
    clear hw1
    have d0 := hk1.cell c0
    go_wp2_with fail
    refine (HC.out _ _ (hk1.alloc _) (Txts.one w1 a _)).mono ?_
    rintro e w2 ⟨rfl, hw2⟩
    have hk2 : Kept w w2 := (hk1.alloc _).trans hw2
    clear hw2
    go_wp2
    go_ret
    exact ⟨rfl, hk2⟩
/-- Rename, whatever is asked. -/
theorem rename_any (a b : Nm) (d : Value) (cap : Nat) (fs : Fls) (F : Nat → Prop) (w : World) (hd : Disk w d cap fs F) :
    Calls Tryz.prog 91 #[d, .string ⟨a.toArray⟩, .string ⟨b.toArray⟩] w fun e w' => e = .returned (.int .i64 (renE a b fs)) ∧ Disk w' d cap (if renE a b fs = 0 then renS a b fs else fs) (ext F w w') ∧ Chg F w w' := by
  have HD := hd
  obtain ⟨db, mb, st, rfl, rfl, hd⟩ := hd
  unfold renE
  rw [← allT_eq]
  cases hb : okN b with
  | false =>
    rw [if_pos rfl]
    exact (rename_bad a b db w hb).mono fun e w' ⟨h1, h2⟩ => ⟨h1, Out.refl' HD h2⟩
  | true =>
    rw [if_neg (by simp)]
    by_cases h : allT [a] st ≠ 0 ∨ a = b
    · refine (rename_no a b db mb st cap F w hd hb h).mono fun e w' ⟨h1, h2⟩ => ⟨h1, ?_⟩
      split
      · rename_i h0
        rcases h with h | h
        · exact absurd h0 h
        · unfold renS
          rw [if_pos h]
          exact Out.refl' HD h2
      · exact Out.refl' HD h2
    · have h1 : allT [a] st = 0 := Decidable.byContradiction fun x => h (.inl x)
      have h2 : a ≠ b := fun x => h (.inr x)
      rw [if_pos h1, h1]
      refine (rename_ok a b db mb st cap F w hd hb h1 h2).mono ?_
      rintro e w' ⟨h3, ⟨v, h4⟩, h5⟩
      refine ⟨h3, ⟨db, mb, _, rfl, ?_, h4.mono (fun _ x => .inl x)⟩, h5⟩
      unfold renS
      rw [if_neg h2, mapV_cut, mapV_put, ← filA_mapV]
end Go.Proofs.YtngbgngfdklnlaaGreatDoor
set_option linter.unusedSimpArgs false
set_option linter.unusedVariables false
namespace Go.Proofs.YtngbgngfdklnlaaGreatDoor
open Go.RowKit
theorem Bts.take {w : World} {A : Option Addr} {n c : Nat} {l : List UInt8} (h : Bts w (.slice A n c) l) (m : Nat) (hm : m ≤ l.length) : Bts w (.slice A m c) (l.take m) := by
  obtain ⟨A', c', hv, h1, h2, h3⟩ := h
  obtain ⟨rfl, -, rfl⟩ : A = A' ∧ n = l.length ∧ c = c' := by simpa using hv
  have hl : (l.take m).length = m := by simp; omega
  refine ⟨A, c, by rw [hl], by omega, h2, fun hp => ?_⟩
  rw [hl] at hp
  obtain ⟨b, o, e, hc⟩ := h3 (by omega)
  refine ⟨b, o, e, fun k x hk => hc k x ?_⟩
  have hkm : k < m := by
    have := (List.getElem?_eq_some_iff.1 hk).1
    omega
  rw [List.getElem?_take_of_lt hkm] at hk
  exact hk
set_option maxRecDepth 100000 in
set_option maxHeartbeats 4000000 in
theorem crashed_any (fb : List UInt8) (s : Nat) (A : Option Addr) (c : Nat) (cut : Int) (w : World) (ho : Bts w (.slice A fb.length c) fb) (hs : s ≤ fb.length) (hl : fb.length ≤ 1073741824) :
    Calls Tryz.prog 55 #[.agg #[.slice A fb.length c, .int .i64 (s : Int)], .int .i64 cut] w fun e w' => ∃ v, e = .returned (.agg #[v, .int .i64 (keptN (fb, s) cut : Int)]) ∧ w'.ownsRow w.heap.size 5 1 v (keptN (fb, s) cut) (Lib.byteCells (fb.take (keptN (fb, s) cut))) ∧ Kept w w' := by
  have HO := Lib.hid ho
  obtain ⟨A', c', hv', hc1, hc2, -⟩ := id ho
  obtain ⟨rfl, -, rfl⟩ : A = A' ∧ fb.length = fb.length ∧ c = c' := by simpa using hv'
  clear ho hv'
  unfold maxLen at hc2
  have hk : keptN (fb, s) cut = s + min (max cut 0).toNat (fb.length - s) := rfl
  have hkl : keptN (fb, s) cut ≤ fb.length := by rw [hk]; omega
  have hki : (keptN (fb, s) cut : Int) = (s : Int) + min (max cut 0) ((fb.length : Int) - (s : Int)) := by rw [hk]; omega
  have HK := Lib.hid hki
  generalize keptN (fb, s) cut = kn at *
  clear hk hki
  go_enter Tryz.func55, Tryz.ntmps55
  go_wp2_with fail
  rw [← HK.out, Int.toNat_natCast]
  have hK := ((Kept.refl w).alloc (.cells #[.slice A fb.length c, .int .i64 (s : Int)] 112)).alloc (.cells #[.slice none 0 0, .int .i64 0] 112)
  have hlt : (fb.take kn).length = kn := by simp; omega
  refine (bclone_any (fb.take kn) _ _ ((HO.out.kept hK).take kn hkl) (by omega)).mono ?_
  rintro e w3 ⟨v3, rfl, h3, k3⟩
  rw [hlt] at h3
  obtain ⟨A3, c3, rfl⟩ := own_form h3
  have hb3 := k3.block' (heap_alloc_new (w.alloc (.cells #[.slice A fb.length c, .int .i64 (s : Int)] 112)) (.cells #[.slice none 0 0, .int .i64 0] 112))
  have hz : (w.alloc (.cells #[.slice A fb.length c, .int .i64 (s : Int)] 112)).heap.size = w.heap.size + 1 := by simp
  rw [hz] at hb3
  have q0 := frozen_at hb3 0
  have q1 := frozen_at hb3 1
  have q2 := cell_at hb3 0
  have q3 := cell_at hb3 1
  simp only [List.getElem?_toArray, List.getElem?_cons_zero, List.getElem?_cons_succ] at q2 q3
  have hkk := hK.trans k3
  have h3w : w3.ownsRow w.heap.size 5 1 (.slice A3 kn c3) kn (Lib.byteCells (fb.take kn)) := own_baseD h3 (by simp; omega)
  have hg3 : ∀ g, (Value.slice A3 kn c3).ownBlock = some g → g ≠ w.heap.size + 1 := fun g hg => by have := (h3.lt g hg).1; simp at this; omega
  have H3 := Lib.hid h3w
  have HB := Lib.hid hb3
  clear h3 h3w hb3 hz hlt
  go_wp2
  have hC : Chg (fun g => g = w.heap.size + 1) w3 ((w3.setCell ⟨w.heap.size + 1, 0, none⟩ (.slice A3 kn c3)).setCell ⟨w.heap.size + 1, 1, none⟩ (.int .i64 (kn : Int))) := ((Chg.refl (fun g => g = w.heap.size + 1) w3).setCell _ (fun _ => rfl)).setCell _ (fun _ => rfl)
  exact bodyPost_ret (v := .agg #[.slice A3 kn c3, .int .i64 (kn : Int)]) (by simp [results, Tryz.results55, go_sem, q0, q1, q2, q3]) rfl ⟨_, rfl, own_chg H3.out hC (fun g hg => hg3 g hg), hC.kept hkk (fun g hg => by omega)⟩
end Go.Proofs.YtngbgngfdklnlaaGreatDoor
