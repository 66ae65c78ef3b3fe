/- The walks of New, Read, Safe, Files and Used. -/
import Derived.Test.YtmjlhgamhjfjlaaDNames
set_option linter.unusedSimpArgs false
set_option linter.unusedVariables false
namespace Go.Proofs.Ytmjlhgamhjfjlaa
open Go.RowKit
theorem own_bts {w : World} {b : Nat} {v : Value} {n : Nat} {l : List UInt8} (h : w.ownsRow b 5 1 v n (Lib.byteCells l)) : Bts w v l := Bts.of_own h
theorem own_base {w : World} {b b' : Nat} {e : TypeId} {s n : Nat} {v : Value} {xs : List Value} (h : w.ownsRow b e s v n xs) (hb : b' ≤ b) : w.ownsRow b' e s v n xs := own_base' h hb
theorem Dsk.short {w : World} {db mb : Nat} {st : St} {cap : Nat} {F : Nat → Prop} (h : Dsk w db mb st cap F) : ∀ p ∈ st, p.1.length ≤ 40 := fun p hp => okN_len (h.good.2 (p.1, p.2.2) (List.mem_map.2 ⟨p, hp, rfl⟩)).1
theorem filA_len {w : World} {db mb : Nat} {st : St} {cap : Nat} {F : Nat → Prop} (h : Dsk w db mb st cap F) (k : Nm) : (filA k st).1.length ≤ 1073741824 := by
  have := used_get h.good.1 k
  have h1 := h.fits
  have h2 := h.capLe
  rw [filA_mapV]
  omega
theorem fld0 (w : World) (A : Option Addr) (n c : Nat) (s : Int) : (Instr.field 72 (.agg #[.slice A n c, .int .i64 s]) 0).run Try.prog w = .ok (.slice A n c) w := by kernel_rfl
theorem fld1 (w : World) (A : Option Addr) (n c : Nat) (s : Int) : (Instr.field 72 (.agg #[.slice A n c, .int .i64 s]) 1).run Try.prog w = .ok (.int .i64 s) w := by kernel_rfl
set_option maxHeartbeats 400000 in
theorem new_bad (c : Int) (w : World) (h : c < 0 ∨ 1073741824 < c) : Calls Try.prog 8 #[.int .i64 c] w fun e w' => e = .returned (.tuple #[.pointer none, .int .i64 32]) ∧ w = w' := by
  rcases h with h | h
  · have t1 : decide (c < 0) = true := by simpa using h
    go_enter Try.func8, Try.ntmps8
    go_wp2
    go_ret2
    exact ⟨rfl, rfl⟩
  · have t1 : decide (c < 0) = false := by simp; omega
    have t2 : decide ((1073741824 : Int) < c) = true := by simpa using h
    go_enter Try.func8, Try.ntmps8
    go_wp2
    go_ret2
    exact ⟨rfl, rfl⟩
set_option maxHeartbeats 400000 in
theorem new_good (c : Nat) (w : World) (h : c ≤ 1073741824) : Calls Try.prog 8 #[.int .i64 (c : Int)] w fun e w' => ∃ d, e = .returned (.tuple #[d, .int .i64 0]) ∧ Disk w' d c [] (ext no w w') ∧ d ≠ .pointer none ∧ Kept w w' := by
  have t1 : decide ((c : Int) < 0) = false := by simp
  have t2 : decide ((1073741824 : Int) < (c : Int)) = false := by simp; omega
  have hmm := @run_makeMap Try.prog
  go_enter Try.func8, Try.ntmps8
  go_wp2
  go_ret2
  have hk := ((Kept.refl w).alloc (.map #[] 0))
  refine ⟨_, rfl, ⟨w.heap.size + 1, w.heap.size, [], rfl, rfl, ?_⟩, by simp, hk.alloc _⟩
  have hmap := (World.ownsMap_made w Try.prog 9 rdV).alloc (.cells #[.map (some w.heap.size), .int .i64 (c : Int), .int .i64 0] 70)
  refine ⟨?_, ⟨hmap, List.Pairwise.nil, fun p hp => (by cases hp), List.Pairwise.nil, by decide, .inr ⟨Nat.le_refl _, by simp; omega⟩, fun p hp => (by cases hp)⟩, .inr ⟨by omega, by simp⟩, ⟨List.Pairwise.nil, fun p hp => (by cases hp)⟩, Nat.zero_le _, h⟩
  have := heap_alloc_new (w.alloc (.map #[] 0)) (.cells #[.map (some w.heap.size), .int .i64 (c : Int), .int .i64 0] 70)
  simpa [used, mapV] using this
set_option maxHeartbeats 400000 in
theorem used_any (cap : Nat) (fs : Fls) (F : Nat → Prop) (d : Value) (w : World) (hd : Disk w d cap fs F) : Calls Try.prog 30 #[d] w fun e w' => e = .returned (.int .i64 (used fs : Int)) ∧ w = w' := by
  obtain ⟨db, mb, st, rfl, rfl, hd⟩ := hd
  have c2 := hd.c2
  clear hd
  generalize (used (mapV Prod.snd st) : Int) = u at *
  go_enter Try.func30, Try.ntmps30
  go_wp2
  go_ret
  exact ⟨rfl, rfl⟩
set_option maxHeartbeats 400000 in
theorem files_any (cap : Nat) (fs : Fls) (F : Nat → Prop) (d : Value) (w : World) (hd : Disk w d cap fs F) : Calls Try.prog 29 #[d] w fun e w' => ∃ v, e = .returned v ∧ Txts w' v (namesA fs) ∧ Kept w w' := by
  obtain ⟨db, mb, st, rfl, rfl, hd⟩ := hd
  have c0 := hd.c0
  have HN := Lib.hid (names_any mb st F w hd.tbl hd.short)
  clear hd
  go_enter Try.func29, Try.ntmps29
  go_wp2_with fail
  refine HN.out.mono ?_
  rintro e w' ⟨v, rfl, h1, h2⟩
  have H1 := Lib.hid h1
  clear h1
  go_wp2
  go_ret
  exact ⟨_, rfl, by rw [namesA_mapV]; exact Txts.of_own H1.out, h2⟩
theorem allT_one (k : Nm) (st : St) : allT [k] st = if okN k = false then 30 else if hasA k st = false then 31 else 0 := by
  unfold allT
  simp only [List.all_cons, List.all_nil, Bool.and_true]
set_option maxRecDepth 100000 in
set_option maxHeartbeats 1000000 in
theorem read_any (k : Nm) (cap : Nat) (fs : Fls) (F : Nat → Prop) (d : Value) (w : World) (hd : Disk w d cap fs F) :
    Calls Try.prog 24 #[d, .string ⟨k.toArray⟩] w fun e w' => ∃ v, e = .returned (.tuple #[v, .int .i64 (allS [k] fs)]) ∧ w'.ownsRow w.heap.size 5 1 v (if allS [k] fs = 0 then ((getA k fs).getD ([], 0)).1 else []).length (Lib.byteCells (if allS [k] fs = 0 then ((getA k fs).getD ([], 0)).1 else [])) ∧ Kept w w' := by
  obtain ⟨db, mb, st, rfl, rfl, hd⟩ := hd
  have HD := Lib.hid hd
  have c0 := hd.c0
  have HC := Lib.hid (show ∀ v W, Kept w W → Txts W v [k] → _ from fun v W hk hv => check_any [k] v mb st F W hv (hd.tbl.kept hk))
  rw [← allT_eq, ← filA_mapV]
  clear hd
  by_cases h0 : allT [k] st = 0
  · rw [if_pos h0, h0]
    rw [h0] at HC
    have hkl : k.length ≤ 40 := by
      rw [allT_one] at h0
      cases hk : okN k with
      | true => exact okN_len hk
      | false => rw [hk] at h0; simp at h0
    obtain ⟨A2, c2, hv2, ho2⟩ := (HD.out.tbl.file k).form
    have hl := filA_len HD.out k
    generalize filA k st = f at *
    obtain ⟨fb, fsf⟩ := f
    simp only at *
    have HO2 := Lib.hid ho2
    have HV2 := Lib.hid hv2
    clear h0 hv2 ho2
    go_enter Try.func24, Try.ntmps24
    go_wp2_with fail
    refine (HC.out _ _ ((Kept.refl w).alloc _) (Txts.one w k _)).mono ?_
    rintro e w1 ⟨rfl, hk1⟩
    have hk2 := ((Kept.refl w).alloc _).trans hk1
    clear hk1
    have c0' := hk2.cell c0
    have hlk := (HD.out.tbl.kept hk2).owns.look k (by unfold maxLen; omega)
    rw [HV2.out] at hlk
    have hf0 := fld0
    go_wp2_with fail
    refine (bclone_any fb _ _ (Bts.of_own (own_kept HO2.out hk2)) (by omega)).mono ?_
    rintro e w3 ⟨v3, rfl, h3, k3⟩
    have H3 := Lib.hid h3
    clear h3
    have hk4 := hk2.trans k3
    go_wp2
    go_ret2
    exact ⟨_, rfl, own_base H3.out hk2.size, hk4⟩
  · rw [if_neg h0]
    generalize allT [k] st = e0 at *
    have t0 : (e0 != 0) = true := by simpa using h0
    go_enter Try.func24, Try.ntmps24
    go_wp2_with fail
    refine (HC.out _ _ ((Kept.refl w).alloc _) (Txts.one w k _)).mono ?_
    rintro e w1 ⟨rfl, hk1⟩
    have hk2 := ((Kept.refl w).alloc _).trans hk1
    clear hk1
    go_wp2
    go_ret2
    exact ⟨_, rfl, World.ownsRow_nil _ _ _ _, hk2⟩
set_option maxRecDepth 100000 in
set_option maxHeartbeats 1000000 in
theorem safe_any (k : Nm) (cap : Nat) (fs : Fls) (F : Nat → Prop) (d : Value) (w : World) (hd : Disk w d cap fs F) :
    Calls Try.prog 25 #[d, .string ⟨k.toArray⟩] w fun e w' => e = .returned (.tuple #[.int .i64 ((if allS [k] fs = 0 then ((getA k fs).getD ([], 0)).2 else 0 : Nat) : Int), .int .i64 (allS [k] fs)]) ∧ Kept w w' := by
  obtain ⟨db, mb, st, rfl, rfl, hd⟩ := hd
  have HD := Lib.hid hd
  have c0 := hd.c0
  have HC := Lib.hid (show ∀ v W, Kept w W → Txts W v [k] → _ from fun v W hk hv => check_any [k] v mb st F W hv (hd.tbl.kept hk))
  rw [← allT_eq, ← filA_mapV]
  clear hd
  by_cases h0 : allT [k] st = 0
  · rw [if_pos h0, h0]
    rw [h0] at HC
    have hkl : k.length ≤ 40 := by
      rw [allT_one] at h0
      cases hk : okN k with
      | true => exact okN_len hk
      | false => rw [hk] at h0; simp at h0
    obtain ⟨A2, c2, hv2, ho2⟩ := (HD.out.tbl.file k).form
    generalize filA k st = f at *
    obtain ⟨fb, fsf⟩ := f
    simp only at *
    have HO2 := Lib.hid ho2
    have HV2 := Lib.hid hv2
    clear h0 hv2 ho2
    go_enter Try.func25, Try.ntmps25
    go_wp2_with fail
    refine (HC.out _ _ ((Kept.refl w).alloc _) (Txts.one w k _)).mono ?_
    rintro e w1 ⟨rfl, hk1⟩
    have hk2 := ((Kept.refl w).alloc _).trans hk1
    clear hk1
    have c0' := hk2.cell c0
    have hlk := (HD.out.tbl.kept hk2).owns.look k (by unfold maxLen; omega)
    rw [HV2.out] at hlk
    have hf1 := fld1
    go_wp2
    go_ret2
    exact ⟨rfl, hk2⟩
  · rw [if_neg h0]
    generalize allT [k] st = e0 at *
    have t0 : (e0 != 0) = true := by simpa using h0
    go_enter Try.func25, Try.ntmps25
    go_wp2_with fail
    refine (HC.out _ _ ((Kept.refl w).alloc _) (Txts.one w k _)).mono ?_
    rintro e w1 ⟨rfl, hk1⟩
    have hk2 := ((Kept.refl w).alloc _).trans hk1
    clear hk1
    go_wp2
    go_ret2
    exact ⟨rfl, hk2⟩
end Go.Proofs.Ytmjlhgamhjfjlaa
