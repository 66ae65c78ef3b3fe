/- The walk of names: the table's names, rising. The walks of New, Read, Safe, Files and Used. A disk behind a store into its table, behind a deletion, behind both. -/
import Derived.Test.YtngbgngfdklnlaaGreatDoorGDChk2
import Derived.Test.YtngbgngfdklnlaaGreatDoorGPStrs2
set_option linter.unusedSimpArgs false
set_option linter.unusedVariables false
namespace Go.Proofs.YtngbgngfdklnlaaGreatDoor
open Go.RowKit Go.Sort
theorem bb_lt {a b : Nm} (h : bytesBefore a b = true) : a < b := by
  induction a generalizing b with
  | nil =>
    cases b with
    | nil => simp [bytesBefore] at h
    | cons y s => exact List.nil_lt_cons _ _
  | cons x r ih =>
    cases b with
    | nil => simp [bytesBefore] at h
    | cons y s =>
      simp only [bytesBefore, Bool.or_eq_true, decide_eq_true_eq, Bool.and_eq_true, beq_iff_eq] at h
      rw [List.cons_lt_cons_iff]
      rcases h with h | ⟨h1, h2⟩
      · exact .inl h
      · exact .inr ⟨h1, ih h2⟩
theorem strKeys_toD (st : St) : strKeys (toD st) = namesA st := by
  unfold strKeys toD namesA
  simp only [List.map_map]
  rfl
theorem sort_names {st : St} (hs : Srt st) {ss : List Nm} (hp : ss.Perm (strKeys (toD st))) : ss.mergeSort (fun x y => decide (x ≤ y)) = namesA st := by
  rw [strKeys_toD] at hp
  have h1 : (namesA st).Pairwise fun a b => leB a b = true := by
    unfold namesA
    rw [List.pairwise_map]
    exact hs.imp fun h => by simp only [leB, decide_eq_true_eq]; exact List.le_of_lt (bb_lt h)
  have := mergeSort_of_perm hp
  rw [show ss.mergeSort (fun x y => decide (x ≤ y)) = ss.mergeSort leB from rfl, this]
  exact List.mergeSort_of_pairwise h1
theorem strCells_enc (ss : List Nm) : strCells ss = ss.map encStr := rfl
set_option maxRecDepth 100000 in
set_option maxHeartbeats 2000000 in
theorem names_any (mb : Nat) (st : St) (F : Nat → Prop) (w : World) (ht : Tbl w mb st F) (hks : ∀ p ∈ st, p.1.length ≤ 40) :
    Calls Tryz.prog 54 #[.map (some mb)] w fun e w' => ∃ v, e = .returned v ∧ w'.ownsRow w.heap.size 9 1 v st.length (strCells (namesA st)) ∧ Kept w w' := by
  obtain ⟨i0, hi, hz0, hz1, hz2⟩ := info_str
  have hown : w.ownsMap Tryz.prog 9 rdV mb st.length (toD st) := ht.owns
  have hbl := World.ownsMap.lt hown
  have hsm := ht.small
  have hsz := toD_size st
  have HSZ := Lib.hid hsz
  have HT := Lib.hid ht
  have HKS := Lib.hid hks
  have hmax : Maps.size (toD st) ≤ maxLen := by rw [hsz]; unfold maxLen; omega
  have hby : i0.bytes * Maps.size (toD st) ≤ 281474976710656 := by rw [hz2, hsz]; omega
  have hcl : ∀ (k : Nm) (W : World), k.length ≤ 40 → Calls Tryz.prog 96 #[.string ⟨k.toArray⟩] W fun e w' => e = .returned (.string ⟨k.toArray⟩) ∧ Kept W w' := fun k W h => sclone_any k W (by omega)
  have HCL := Lib.hid hcl
  clear ht hks hsz hcl
  generalize hD : toD st = D at *
  have HD := Lib.hid hD
  clear hD
  go_enter Tryz.func54, Tryz.ntmps54
  go_wp2_with (first
    | (at_len; refine wpList_len_own _ rfl _ 83 rfl 9 112 Tryz.underlying83 _ mb st.length _ rfl hown ?_)
    | (at_make; refine wpList_make_own _ rfl _ _ 46 rfl w.heap.size 9 i0 (.string ⟨#[]⟩) 1 Tryz.underlying46 hi hz0 hz1 _ _ _ (Maps.size D) rfl rfl rfl hby hmax (Nat.le_refl _) ?_; intro w1 hrow1 hg1)
    | (at_range; refine wpList_range_own _ rfl _ 83 rfl 9 112 keyLaw Tryz.underlying83 _ mb st.length _ rfl (hown.kept hg1 (by simp)) ?_; intro w0 hrg0 hg0 hs0)
    | go_in)
  go_frame
  clear hs0
  go_loopw [3] (fun v wr => ∃ (left : Lit → Bool) (cnt : Nat) (ss : List (List UInt8)), wr.ranges Tryz.prog 9 rdV mb w1.heap.size st.length D left cnt ∧ ss.length + cnt ≤ Maps.size D ∧
      wr.ownsRow w.heap.size 9 1 v ss.length (strCells ss) ∧ v ≠ .slice none 0 0 ∧ Collected D left ss ∧ Kept w wr)
    (fun _ wr => wr.rangeLeft mb w1.heap.size)
  case atStart =>
    exact ⟨_, _, [], hrg0, by simp, hrow1.kept hg0 (Or.inr (by simp [Value.ownBlock])), by simp, Collected.start D,
      ((Kept.refl w).grown hg1 (fun j hj => by cases hj)).grown hg0 (fun j hj => by cases hj)⟩
  case round =>
    obtain ⟨left, cnt, ss, hrg, hcs, hrow, hnn, hC, hnx⟩ := hrel
    go_wp2_with (first
      | (at_next; refine wpList_next_ranges _ rfl _ rfl 9 keyLaw rdV encStr (fun c : Value => c) (fun key kl hk => by obtain ⟨x, hx, _⟩ := Maps.keyOf_str Tryz.underlying9 hk; exact ⟨x, hx⟩) (fun v y _ => ⟨v, rfl⟩) mb w1.heap.size st.length _ _ _ rfl hrg ?_ ?_)
      | go_in)
    · intro hc0 hl0
      rcases hrow.2 with ⟨hnil, _⟩ | ⟨g, cap, cur, rfl, hbase, hb, h1, h2, h3, h4⟩
      · exact absurd hnil hnn
      have hH : Holds encStr wr g 0 ss.toArray := holds_of_block hb (by simpa [strCells] using h4)
      have hgl : g < wr.heap.size := (Array.getElem?_eq_some_iff.1 hb).1
      have hcc := Tryz.slices_Sort_string g 0 cap ss wr hH hgl (by rw [HSZ.out] at hcs; omega)
      have hperm := hC.perm hown keyLaw Tryz.underlying9 hl0
      rw [← HD.out] at hperm
      have hsrt := sort_names HT.out.srt hperm
      have HSRT := Lib.hid hsrt
      have hlen : ss.length = st.length := by rw [hperm.length_eq, strKeys_toD]; simp [namesA]
      have HLEN := Lib.hid hlen
      clear hsrt hlen hperm
      have HCC := Lib.hid hcc
      clear hcc
      go_wp2_with (go_at_call 97; refine HCC.out.mono ?_; rintro e w' ⟨rfl, nn, os, rfl⟩)
      go_ret
      refine ⟨_, rfl, ?_, hnx.grown (grownBy_sorted _) (fun j hj => by cases hj; exact hbase)⟩
      have hfin := ownsRow_sorted (w := wr) (n := nn) (os := os) (ts := ss.mergeSort (fun x y => decide (x ≤ y))) (by simp) hbase hb h1 h2 h3
      rw [HSRT.out] at hfin ⊢
      rw [← HLEN.out]
      exact hfin
    · intro x c kl yd yp w2 cnt2 hkey hlk hv hat hrg2 hlt hg2 hs2 hen
      obtain ⟨x', ex, rfl, _⟩ := Maps.keyOf_str Tryz.underlying9 hkey
      obtain rfl : x = x' := encStr_inj ex
      have hrow2 := hrow.kept hg2 (Or.inr (row_ne_iter hrow hrg).symm)
      have hxl : x.length ≤ 40 := by
        have hh : Maps.has D (.string x) = true := Maps.has_true_of_atKey hat
        rw [← HD.out, toD_has] at hh
        unfold hasA at hh
        obtain ⟨p, hp, hpx⟩ := List.any_eq_true.1 hh
        have := HKS.out p hp
        simp at hpx
        rw [← hpx]; exact this
      have hk2 := hnx.grown hg2 (fun j hj => by cases hj; exact hg1.size)
      clear hs2
      have HR := Lib.hid hrow2
      have HG2 := Lib.hid hg2
      have HRG2 := Lib.hid hrg2
      clear hrow2 hg2 hrg2
      go_wp2_with (first
        | (go_at_call 96; refine (HCL.out _ _ hxl).mono ?_; rintro e w3 ⟨rfl, hq3⟩)
        | (at_builtin; refine wpList_append_txts rfl _ _ rfl w.heap.size _ _ ss [x] _ rfl rfl (own_kept HR.out (hq3.alloc _)) (Txts.one _ x _) (by rw [HSZ.out] at hcs; simp; omega) (by have := hk2.size; have := hq3.size; simp; omega) ?_; intro v' w4 h1 h2 h3)
        | go_in)
      have hnb : ∀ b', b' < w2.heap.size → some b' ≠ u3.ownBlock → w4.heap[b']? = w2.heap[b']? := fun b' hb' hne => by
        rw [h2.block b' (by have := hq3.size; simp; omega) hne, (hq3.alloc _).block b' hb']
      have hrg3 : w4.ranges Tryz.prog 9 rdV mb w1.heap.size st.length D (fun z => left z && !z.sameKey (.string x)) cnt2 :=
        HRG2.out.kept (row := u3.ownBlock) ⟨h2.os.trans hq3.os, h2.tape.trans hq3.tape, h2.output.trans hq3.output, Nat.le_trans (hq3.alloc _).size h2.size, hnb⟩ (row_ne_low HR.out hbl) (row_ne_iter HR.out HRG2.out)
      go_roundw
      case rel =>
        refine ⟨_, cnt2, ss ++ [x], hrg3, by simp; omega, by rw [List.length_append]; exact h1, ?_, hC.step hlk hat, ((hk2.trans hq3).alloc _).grown h2 (own_ge HR.out)⟩
        intro hv'
        have hh := h1.1
        rw [hv'] at h1
        rcases h1.2 with ⟨-, h0⟩ | ⟨g, cap, cur, e, -⟩
        · simp at h0
        · cases e
      case measure => rw [hrg3.left_eq, hrg.left_eq]; exact hlt
end Go.Proofs.YtngbgngfdklnlaaGreatDoor
set_option linter.unusedSimpArgs false
set_option linter.unusedVariables false
namespace Go.Proofs.YtngbgngfdklnlaaGreatDoor
open Go.RowKit
theorem own_bts {w : World} {b : Nat} {v : Value} {n : Nat} {l : List UInt8} (h : w.ownsRow b 5 1 v n (Lib.byteCells l)) : Bts w v l := Bts.of_own h
theorem own_baseD {w : World} {b b' : Nat} {e : TypeId} {s n : Nat} {v : Value} {xs : List Value} (h : w.ownsRow b e s v n xs) (hb : b' ≤ b) : w.ownsRow b' e s v n xs := own_base' h hb
theorem Dsk.short {w : World} {db mb : Nat} {st : St} {cap : Nat} {F : Nat → Prop} (h : Dsk w db mb st cap F) : ∀ p ∈ st, p.1.length ≤ 40 := fun p hp => okN_len (h.good.2 (p.1, p.2.2) (List.mem_map.2 ⟨p, hp, rfl⟩)).1
theorem filA_len {w : World} {db mb : Nat} {st : St} {cap : Nat} {F : Nat → Prop} (h : Dsk w db mb st cap F) (k : Nm) : (filA k st).1.length ≤ 1073741824 := by
  have := used_get h.good.1 k
  have h1 := h.fits
  have h2 := h.capLe
  rw [filA_mapV]
  omega
theorem fld0 (w : World) (A : Option Addr) (n c : Nat) (s : Int) : (Instr.field 112 (.agg #[.slice A n c, .int .i64 s]) 0).run Tryz.prog w = .ok (.slice A n c) w := by kernel_rfl
theorem fld1 (w : World) (A : Option Addr) (n c : Nat) (s : Int) : (Instr.field 112 (.agg #[.slice A n c, .int .i64 s]) 1).run Tryz.prog w = .ok (.int .i64 s) w := by kernel_rfl
set_option maxHeartbeats 400000 in
theorem new_bad (c : Int) (w : World) (h : c < 0 ∨ 1073741824 < c) : Calls Tryz.prog 7 #[.int .i64 c] w fun e w' => e = .returned (.tuple #[.pointer none, .int .i64 32]) ∧ w = w' := by
  rcases h with h | h
  · have t1 : decide (c < 0) = true := by simpa using h
    go_enter Tryz.func7, Tryz.ntmps7
    go_wp2
    go_ret2
    exact ⟨rfl, rfl⟩
  · have t1 : decide (c < 0) = false := by simp; omega
    have t2 : decide ((1073741824 : Int) < c) = true := by simpa using h
    go_enter Tryz.func7, Tryz.ntmps7
    go_wp2
    go_ret2
    exact ⟨rfl, rfl⟩
set_option maxHeartbeats 400000 in
theorem new_good (c : Nat) (w : World) (h : c ≤ 1073741824) : Calls Tryz.prog 7 #[.int .i64 (c : Int)] w fun e w' => ∃ d, e = .returned (.tuple #[d, .int .i64 0]) ∧ Disk w' d c [] (ext no w w') ∧ d ≠ .pointer none ∧ Kept w w' := by
  have t1 : decide ((c : Int) < 0) = false := by simp
  have t2 : decide ((1073741824 : Int) < (c : Int)) = false := by simp; omega
  have hmm := @run_makeMap Tryz.prog
  go_enter Tryz.func7, Tryz.ntmps7
  go_wp2
  go_ret2
  have hk := ((Kept.refl w).alloc (.map #[] 0))
  refine ⟨_, rfl, ⟨w.heap.size + 1, w.heap.size, [], rfl, rfl, ?_⟩, by simp, hk.alloc _⟩
  have hmap := (World.ownsMap_made w Tryz.prog 9 rdV).alloc (.cells #[.map (some w.heap.size), .int .i64 (c : Int), .int .i64 0] 85)
  refine ⟨?_, ⟨hmap, List.Pairwise.nil, fun p hp => (by cases hp), List.Pairwise.nil, by decide, .inr ⟨Nat.le_refl _, by simp; omega⟩, fun p hp => (by cases hp)⟩, .inr ⟨by omega, by simp⟩, ⟨List.Pairwise.nil, fun p hp => (by cases hp)⟩, Nat.zero_le _, h⟩
  have := heap_alloc_new (w.alloc (.map #[] 0)) (.cells #[.map (some w.heap.size), .int .i64 (c : Int), .int .i64 0] 85)
  simpa [used, mapV] using this
set_option maxHeartbeats 400000 in
theorem used_any (cap : Nat) (fs : Fls) (F : Nat → Prop) (d : Value) (w : World) (hd : Disk w d cap fs F) : Calls Tryz.prog 23 #[d] w fun e w' => e = .returned (.int .i64 (used fs : Int)) ∧ w = w' := by
  obtain ⟨db, mb, st, rfl, rfl, hd⟩ := hd
  have c2 := hd.c2
  clear hd
  generalize (used (mapV Prod.snd st) : Int) = u at *
  go_enter Tryz.func23, Tryz.ntmps23
  go_wp2
  go_ret
  exact ⟨rfl, rfl⟩
set_option maxHeartbeats 400000 in
theorem files_any (cap : Nat) (fs : Fls) (F : Nat → Prop) (d : Value) (w : World) (hd : Disk w d cap fs F) : Calls Tryz.prog 70 #[d] w fun e w' => ∃ v, e = .returned v ∧ Txts w' v (namesA fs) ∧ Kept w w' := by
  obtain ⟨db, mb, st, rfl, rfl, hd⟩ := hd
  have c0 := hd.c0
  have HN := Lib.hid (names_any mb st F w hd.tbl hd.short)
  clear hd
  go_enter Tryz.func70, Tryz.ntmps70
  go_wp2_with fail
  refine HN.out.mono ?_
  rintro e w' ⟨v, rfl, h1, h2⟩
  have H1 := Lib.hid h1
  clear h1
  go_wp2
  go_ret
  exact ⟨_, rfl, by rw [namesA_mapV]; exact Txts.of_own H1.out, h2⟩
theorem allT_one (k : Nm) (st : St) : allT [k] st = if okN k = false then 30 else if hasA k st = false then 31 else 0 := by
  unfold allT
  simp only [List.all_cons, List.all_nil, Bool.and_true]
set_option maxRecDepth 100000 in
set_option maxHeartbeats 1000000 in
theorem read_any (k : Nm) (cap : Nat) (fs : Fls) (F : Nat → Prop) (d : Value) (w : World) (hd : Disk w d cap fs F) :
    Calls Tryz.prog 71 #[d, .string ⟨k.toArray⟩] w fun e w' => ∃ v, e = .returned (.tuple #[v, .int .i64 (allS [k] fs)]) ∧ w'.ownsRow w.heap.size 5 1 v (if allS [k] fs = 0 then ((getA k fs).getD ([], 0)).1 else []).length (Lib.byteCells (if allS [k] fs = 0 then ((getA k fs).getD ([], 0)).1 else [])) ∧ Kept w w' := by
  obtain ⟨db, mb, st, rfl, rfl, hd⟩ := hd
  have HD := Lib.hid hd
  have c0 := hd.c0
  have HC := Lib.hid (show ∀ v W, Kept w W → Txts W v [k] → _ from fun v W hk hv => check_any [k] v mb st F W hv (hd.tbl.kept hk))
  rw [← allT_eq, ← filA_mapV]
  clear hd
  by_cases h0 : allT [k] st = 0
  · rw [if_pos h0, h0]
    rw [h0] at HC
    have hkl : k.length ≤ 40 := by
      rw [allT_one] at h0
      cases hk : okN k with
      | true => exact okN_len hk
      | false => rw [hk] at h0; simp at h0
    obtain ⟨A2, c2, hv2, ho2⟩ := (HD.out.tbl.file k).form
    have hl := filA_len HD.out k
    generalize filA k st = f at *
    obtain ⟨fb, fsf⟩ := f
    simp only at *
    have HO2 := Lib.hid ho2
    have HV2 := Lib.hid hv2
    clear h0 hv2 ho2
    go_enter Tryz.func71, Tryz.ntmps71
    go_wp2_with fail
    refine (HC.out _ _ ((Kept.refl w).alloc _) (Txts.one w k _)).mono ?_
    rintro e w1 ⟨rfl, hk1⟩
    have hk2 := ((Kept.refl w).alloc _).trans hk1
    clear hk1
    have c0' := hk2.cell c0
    have hlk := (HD.out.tbl.kept hk2).owns.look k (by unfold maxLen; omega)
    rw [HV2.out] at hlk
    have hf0 := fld0
    go_wp2_with fail
    refine (bclone_any fb _ _ (Bts.of_own (own_kept HO2.out hk2)) (by omega)).mono ?_
    rintro e w3 ⟨v3, rfl, h3, k3⟩
    have H3 := Lib.hid h3
    clear h3
    have hk4 := hk2.trans k3
    go_wp2
    go_ret2
    exact ⟨_, rfl, own_baseD H3.out hk2.size, hk4⟩
  · rw [if_neg h0]
    generalize allT [k] st = e0 at *
    have t0 : (e0 != 0) = true := by simpa using h0
    go_enter Tryz.func71, Tryz.ntmps71
    go_wp2_with fail
    refine (HC.out _ _ ((Kept.refl w).alloc _) (Txts.one w k _)).mono ?_
    rintro e w1 ⟨rfl, hk1⟩
    have hk2 := ((Kept.refl w).alloc _).trans hk1
    clear hk1
    go_wp2
    go_ret2
    exact ⟨_, rfl, World.ownsRow_nil _ _ _ _, hk2⟩
set_option maxRecDepth 100000 in
set_option maxHeartbeats 1000000 in
theorem safe_any (k : Nm) (cap : Nat) (fs : Fls) (F : Nat → Prop) (d : Value) (w : World) (hd : Disk w d cap fs F) :
    Calls Tryz.prog 72 #[d, .string ⟨k.toArray⟩] w fun e w' => e = .returned (.tuple #[.int .i64 ((if allS [k] fs = 0 then ((getA k fs).getD ([], 0)).2 else 0 : Nat) : Int), .int .i64 (allS [k] fs)]) ∧ Kept w w' := by
  obtain ⟨db, mb, st, rfl, rfl, hd⟩ := hd
  have HD := Lib.hid hd
  have c0 := hd.c0
  have HC := Lib.hid (show ∀ v W, Kept w W → Txts W v [k] → _ from fun v W hk hv => check_any [k] v mb st F W hv (hd.tbl.kept hk))
  rw [← allT_eq, ← filA_mapV]
  clear hd
  by_cases h0 : allT [k] st = 0
  · rw [if_pos h0, h0]
    rw [h0] at HC
    have hkl : k.length ≤ 40 := by
      rw [allT_one] at h0
      cases hk : okN k with
      | true => exact okN_len hk
      | false => rw [hk] at h0; simp at h0
    obtain ⟨A2, c2, hv2, ho2⟩ := (HD.out.tbl.file k).form
    generalize filA k st = f at *
    obtain ⟨fb, fsf⟩ := f
    simp only at *
    have HO2 := Lib.hid ho2
    have HV2 := Lib.hid hv2
    clear h0 hv2 ho2
    go_enter Tryz.func72, Tryz.ntmps72
    go_wp2_with fail
    refine (HC.out _ _ ((Kept.refl w).alloc _) (Txts.one w k _)).mono ?_
    rintro e w1 ⟨rfl, hk1⟩
    have hk2 := ((Kept.refl w).alloc _).trans hk1
    clear hk1
    have c0' := hk2.cell c0
    have hlk := (HD.out.tbl.kept hk2).owns.look k (by unfold maxLen; omega)
    rw [HV2.out] at hlk
    have hf1 := fld1
    go_wp2
    go_ret2
    exact ⟨rfl, hk2⟩
  · rw [if_neg h0]
    generalize allT [k] st = e0 at *
    have t0 : (e0 != 0) = true := by simpa using h0
    go_enter Tryz.func72, Tryz.ntmps72
    go_wp2_with fail
    refine (HC.out _ _ ((Kept.refl w).alloc _) (Txts.one w k _)).mono ?_
    rintro e w1 ⟨rfl, hk1⟩
    have hk2 := ((Kept.refl w).alloc _).trans hk1
    clear hk1
    go_wp2
    go_ret2
    exact ⟨rfl, hk2⟩
end Go.Proofs.YtngbgngfdklnlaaGreatDoor
set_option linter.unusedSimpArgs false
set_option linter.unusedVariables false
namespace Go.Proofs.YtngbgngfdklnlaaGreatDoor
open Go.RowKit
theorem cell_at {w : World} {b : Nat} {cs : Array Value} {t : TypeId} {m : Nat × Nat} (h : w.heap[b]? = some (.cells cs t m)) (i : Nat) : w.cell? ⟨b, i, none⟩ = cs[i]? := by simp [World.cell?, h]
theorem frozen_at {w : World} {b : Nat} {cs : Array Value} {t : TypeId} (h : w.heap[b]? = some (.cells cs t (0, 0))) (i : Nat) : w.frozen? ⟨b, i, none⟩ = false := by simp [World.frozen?, h]
theorem ext_low {F : Nat → Prop} {w W : World} {g : Nat} (h : ext F w W g) (hg : g < w.heap.size) : F g := by
  rcases h with h | h
  · exact h
  · omega
theorem ext_ext {F : Nat → Prop} {w W W' : World} (h1 : w.heap.size ≤ W.heap.size) (h2 : W.heap.size ≤ W'.heap.size) {g : Nat} (h : ext (ext F w W) W W' g) : ext F w W' g := by
  rcases h with (h | h) | h
  · exact .inl h
  · exact .inr ⟨h.1, by omega⟩
  · exact .inr ⟨by omega, h.2⟩
theorem ext_mono {F : Nat → Prop} {w W W' : World} (h2 : W.heap.size ≤ W'.heap.size) {g : Nat} (h : ext F w W g) : ext F w W' g := by
  rcases h with h | h
  · exact .inl h
  · exact .inr ⟨h.1, by omega⟩
/-- The blocks that a store at k may turn: the disk's own, the table's, the file's row. -/
def foot (db mb : Nat) (v : Value) : Nat → Prop := fun g => g = db ∨ g = mb ∨ rowD v = some g
theorem valA_mem {k : Nm} {st : St} {g : Nat} (h : rowD (valA k st) = some g) : (k, (valA k st, filA k st)) ∈ st := by
  unfold valA filA at *
  cases hg : getA k st with
  | none => rw [hg] at h; simp [zeroF, rowD, Value.ownBlock] at h
  | some v =>
    have := getA_mem hg
    simpa using this
theorem Dsk.foot_F {w : World} {db mb : Nat} {st : St} {cap : Nat} {F : Nat → Prop} (h : Dsk w db mb st cap F) (k : Nm) {g : Nat} (hg : foot db mb (valA k st) g) : F g := by
  rcases hg with rfl | rfl | hg
  · exact h.inF
  · exact h.tbl.inF
  · exact h.tbl.rows _ (valA_mem hg) g hg
/-- Another file's row is none of these. -/
theorem Dsk.foot_other {w : World} {db mb : Nat} {st : St} {cap : Nat} {F : Nat → Prop} (h : Dsk w db mb st cap F) {k : Nm} {p : Nm × (Value × Fl)} (hp : p ∈ st) (hne : p.1 ≠ k) {g : Nat} (hg : rowD p.2.1 = some g) : ¬ foot db mb (valA k st) g := by
  rintro (e | e | e)
  · exact h.row_ne hp hg e
  · exact h.tbl.row_ne hp hg e
  · have hm := valA_mem e
    have hne' : p ≠ (k, (valA k st, filA k st)) := fun x => hne (by rw [x])
    obtain ⟨a, b, hab⟩ := List.append_of_mem hm
    have hap := h.tbl.apart
    unfold Apart at hap
    rw [hab] at hap hp
    rcases List.mem_append.1 hp with hp | hp
    · exact (List.pairwise_append.1 hap).2.2 p hp (k, (valA k st, filA k st)) (by simp) g hg e
    · rcases List.mem_cons.1 hp with hp | hp
      · exact hne' hp
      · exact (List.pairwise_cons.1 (List.pairwise_append.1 hap).2.1).1 p hp g e hg
theorem Dsk.put {w w' : World} {db mb : Nat} {st : St} {cap : Nat} {F : Nat → Prop} (h : Dsk w db mb st cap F) {k : Nm} {v : Value} {f : Fl}
    (hc : w'.heap[db]? = some (.cells #[.map (some mb), .int .i64 (cap : Int), .int .i64 (used (putA k f (mapV Prod.snd st)) : Int)] 85 (0, 0)))
    (ho : Owns w' mb (putA k (v, f) st)) (hv : FileAt w' v f) (c : Chg (foot db mb (valA k st)) w w') (hr : ∀ g, rowD v = some g → rowD (valA k st) = some g ∨ (w.heap.size ≤ g ∧ g < w'.heap.size))
    (hk : okN k = true) (hf : f.2 ≤ f.1.length) (hu : used (putA k f (mapV Prod.snd st)) ≤ cap) (hn : (putA k (v, f) st).length ≤ 2000000000000) : Dsk w' db mb (putA k (v, f) st) cap (ext F w w') := by
  have hm := mapV_put Prod.snd k (v, f) st
  refine ⟨by rw [hm]; exact hc, ?_, .inl h.inF, by rw [hm]; exact h.good.put hk hf, by rw [hm]; exact hu, h.capLe⟩
  refine Tbl.put (w := w) (h.tbl.mono fun _ x => .inl x) ho hn hv (fun p hp hne => (h.tbl.files p hp).chg c (fun g hg => h.foot_other hp hne hg)) (fun p hp hne g hg hpg => ?_) (fun g hg => ?_)
  · rcases hr g hg with e | e
    · exact h.foot_other hp hne hpg (.inr (.inr e))
    · have := h.tbl.row_lt hp hpg
      omega
  · rcases hr g hg with e | e
    · exact .inl (h.foot_F k (.inr (.inr e)))
    · exact .inr e
theorem Dsk.cut {w w' : World} {db mb : Nat} {st : St} {cap : Nat} {F : Nat → Prop} (h : Dsk w db mb st cap F) {k : Nm}
    (hc : w'.heap[db]? = some (.cells #[.map (some mb), .int .i64 (cap : Int), .int .i64 (used (cutA k (mapV Prod.snd st)) : Int)] 85 (0, 0)))
    (ho : Owns w' mb (cutA k st)) (c : Chg (fun g => g = db ∨ g = mb) w w') : Dsk w' db mb (cutA k st) cap F := by
  have hm := mapV_cut Prod.snd k st
  refine ⟨by rw [hm]; exact hc, ⟨ho, srt_cut h.tbl.srt, fun p hp => (h.tbl.files p (mem_cut hp).1).chg c (fun g hg => ?_), h.tbl.apart.filter _, by have := length_cut k st; have := h.tbl.small; omega, h.tbl.inF, fun p hp => h.tbl.rows p (mem_cut hp).1⟩, h.inF, by rw [hm]; exact h.good.cut k, by rw [hm]; have := used_cut h.good.1 k; have := h.fits; omega, h.capLe⟩
  rintro (e | e)
  · exact h.row_ne (mem_cut hp).1 hg e
  · exact h.tbl.row_ne (mem_cut hp).1 hg e
theorem Dsk.ren {w w' : World} {db mb : Nat} {st : St} {cap : Nat} {F : Nat → Prop} (h : Dsk w db mb st cap F) {a b : Nm} (hab : a ≠ b) (hb : okN b = true)
    (hc : w'.heap[db]? = some (.cells #[.map (some mb), .int .i64 (cap : Int), .int .i64 (used (cutA a (putA b (filA a st) (mapV Prod.snd st))) : Int)] 85 (0, 0)))
    (ho : Owns w' mb (cutA a (putA b (valA a st, filA a st) st))) (c : Chg (fun g => g = db ∨ g = mb) w w') (hn : (cutA a (putA b (valA a st, filA a st) st)).length ≤ 2000000000000) (hle : used (cutA a (putA b (filA a st) (mapV Prod.snd st))) ≤ cap) : Dsk w' db mb (cutA a (putA b (valA a st, filA a st) st)) cap F := by
  have hm : mapV Prod.snd (cutA a (putA b (valA a st, filA a st) st)) = cutA a (putA b (filA a st) (mapV Prod.snd st)) := by rw [mapV_cut, mapV_put]
  have hfa : (filA a st).2 ≤ (filA a st).1.length := by rw [filA_mapV]; exact h.good.getD a
  have hfoot : ∀ (p : Nm × (Value × Fl)), p ∈ st → ∀ g, rowD p.2.1 = some g → ¬ (g = db ∨ g = mb) := fun p hp g hg => by
    rintro (e | e)
    · exact h.row_ne hp hg e
    · exact h.tbl.row_ne hp hg e
  refine ⟨by rw [hm]; exact hc, ⟨ho, srt_cut (srt_put h.tbl.srt), fun p hp => ?_, ?_, hn, h.tbl.inF, fun p hp g hg => ?_⟩, h.inF, by rw [hm]; exact (h.good.put hb hfa).cut a, by rw [hm]; exact hle, h.capLe⟩
  · rcases mem_put (mem_cut hp).1 with rfl | ⟨hp1, -⟩
    · exact (h.tbl.file a).chg c (fun g hg => hfoot _ (valA_mem hg) g hg)
    · exact (h.tbl.files p hp1).chg c (hfoot p hp1)
  · have hsym : ∀ {p q : Nm × (Value × Fl)}, (∀ g, rowD p.2.1 = some g → rowD q.2.1 ≠ some g) → (∀ g, rowD q.2.1 = some g → rowD p.2.1 ≠ some g) := fun h g hg hp => h g hp hg
    have hp1 : (cutA a (putA b (valA a st, filA a st) st)).Perm ((b, (valA a st, filA a st)) :: cutA a (cutA b st)) := by
      have := (put_perm b (valA a st, filA a st) st).filter (fun p => !(p.1 == a))
      unfold cutA at this ⊢
      rw [List.filter_cons] at this
      simpa [Ne.symm hab] using this
    refine (hp1.pairwise_iff (fun h => hsym h)).2 (List.pairwise_cons.2 ⟨fun p hp g hg hpg => ?_, (h.tbl.apart.filter _).filter _⟩)
    obtain ⟨hp, hna⟩ := mem_cut hp
    exact h.foot_other (mem_cut hp).1 hna hpg (.inr (.inr hg))
  · rcases mem_put (mem_cut hp).1 with rfl | ⟨hp1, -⟩
    · exact h.tbl.rows _ (valA_mem hg) g hg
    · exact h.tbl.rows p hp1 g hg
/-- A region that draws, whose tail is forced: the world behind the draw under a name. -/
theorem still_tail {P : Program} {id : Nat} {Q : Exit → Act → World → Prop} {a : Act} {w : World} {l : List Oper} (n : Nat) (hm : P.follows .mixedOrders = true) (hB : Region.lexTailB .any l.toArray n = true)
    (h : ∀ wd, Kept w wd → wpStill P l.toArray wd (fun a' => wpList P l.toArray Q (l.drop n) a' wd) (l.take n) a) : (Code.region id l.toArray true).wp P Q a w :=
  wp_region_still_tail n hm hB (h _ (Kept.refl w).drew)
theorem Dsk.chain {w W W' : World} {db mb : Nat} {st : St} {cap : Nat} {F : Nat → Prop} (h : Dsk W' db mb st cap (ext (ext F w W) W W')) (h1 : w.heap.size ≤ W.heap.size) (h2 : W.heap.size ≤ W'.heap.size) : Dsk W' db mb st cap (ext F w W') := h.mono (fun _ x => ext_ext h1 h2 x)
theorem Chg.chain {F : Nat → Prop} {w W W' : World} (c : Chg F w W) (c' : Chg (ext F w W) W W') : Chg F w W' := c.trans c' (fun _ hg x => ext_low x hg)
theorem length_put_has {α : Type} {k : Nm} {v : α} {m : List (Nm × α)} (hs : Srt m) (h : hasA k m = true) : (putA k v m).length = m.length := by
  rw [hasA_get] at h
  cases hg : getA k m with
  | none => rw [hg] at h; cases h
  | some x =>
    obtain ⟨a, b, rfl⟩ := get_split hg
    rw [put_at hs]
    simp
theorem names_put_has {α : Type} {k : Nm} {v : α} {m : List (Nm × α)} (hs : Srt m) (h : hasA k m = true) : namesA (putA k v m) = namesA m := by
  rw [hasA_get] at h
  cases hg : getA k m with
  | none => rw [hg] at h; cases h
  | some x =>
    obtain ⟨a, b, rfl⟩ := get_split hg
    rw [put_at hs]
    simp [namesA]
theorem length_ren {α : Type} {a b : Nm} {v : α} {m : List (Nm × α)} (hs : Srt m) (hab : a ≠ b) (h : hasA a m = true) : (cutA a (putA b v m)).length ≤ m.length := by
  rw [hasA_get, ← getA_put_other hab v m] at h
  have hl := length_put b v m
  cases hg : getA a (putA b v m) with
  | none => rw [hg] at h; cases h
  | some x =>
    obtain ⟨p, q, e⟩ := get_split hg
    have hs' : Srt (putA b v m) := srt_put hs
    rw [e] at hs' hl ⊢
    rw [cut_at hs']
    simp only [List.length_append, List.length_cons] at hl ⊢
    omega
theorem hasA_names {α β : Type} {m : List (Nm × α)} {m' : List (Nm × β)} (h : namesA m = namesA m') (k : Nm) : hasA k m = hasA k m' := by
  have e : ∀ {γ : Type} (l : List (Nm × γ)), hasA k l = (namesA l).any (fun x => x == k) := by
    intro γ l
    unfold hasA namesA
    rw [List.any_map]
    rfl
  rw [e, e, h]
theorem length_names {α β : Type} {m : List (Nm × α)} {m' : List (Nm × β)} (h : namesA m = namesA m') : m.length = m'.length := by
  have := congrArg List.length h
  simpa [namesA] using this
end Go.Proofs.YtngbgngfdklnlaaGreatDoor
