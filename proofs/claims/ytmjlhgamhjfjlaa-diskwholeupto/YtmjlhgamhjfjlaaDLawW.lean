/- The walk of DiskWhole. -/
import Derived.Test.YtmjlhgamhjfjlaaDLawK
set_option linter.unusedSimpArgs false
set_option linter.unusedVariables false
namespace Go.Proofs.Ytmjlhgamhjfjlaa
open Go.RowKit
/-- The files behind so many steps. -/
def fsW (o f : List UInt8) : Nat → Fls
  | 0 => [([102], (o, o.length))]
  | 1 => [([102], (o, o.length)), ([102, 46, 110, 101, 119], (f, 0))]
  | 2 => [([102], (o, o.length)), ([102, 46, 110, 101, 119], (f, f.length))]
  | _ => [([102], (f, f.length))]
def wantL (o f : List UInt8) (k : Nat) : List UInt8 := if k = 3 then f else o
theorem used_fsW (o f : List UInt8) (k : Nat) : used (fsW o f k) ≤ o.length + f.length := by
  match k with
  | 0 => simp [fsW, used]
  | 1 => simp [fsW, used]
  | 2 => simp [fsW, used]
  | (n + 3) => simp [fsW, used]
theorem step0 (o f : List UInt8) : appS [102, 46, 110, 101, 119] f (fsW o f 0) = fsW o f 1 := by
  simp [fsW, appS, putA, cutA, ins, getA, bytesBefore]
theorem step1 (o f : List UInt8) : syncS [[102, 46, 110, 101, 119]] (fsW o f 1) = fsW o f 2 := by
  simp [fsW, syncS, sync1, putA, cutA, ins, getA, bytesBefore]
theorem step2 (o f : List UInt8) : renS [102, 46, 110, 101, 119] [102] (fsW o f 2) = fsW o f 3 := by
  simp [fsW, renS, putA, cutA, ins, getA, bytesBefore]
theorem all1 (o f : List UInt8) : allS [[102, 46, 110, 101, 119]] (fsW o f 1) = 0 := by
  have : okN [102, 46, 110, 101, 119] = true := by decide
  simp [allS, fsW, hasA, this]
theorem ren2 (o f : List UInt8) : renE [102, 46, 110, 101, 119] [102] (fsW o f 2) = 0 := by
  have h1 : okN [102, 46, 110, 101, 119] = true := by decide
  have h2 : okN [102] = true := by decide
  simp [renE, allS, fsW, hasA, h1, h2]
theorem crash_want (o f : List UInt8) (c : Int) (k : Nat) (hk : k ≤ 3) : allS [[102]] (crashS [c, c] (fsW o f k)) = 0 ∧ ((getA [102] (crashS [c, c] (fsW o f k))).getD ([], 0)).1 = wantL o f k := by
  have h2 : okN [102] = true := by decide
  match k, hk with
  | 0, _ => simp [fsW, crashS, allS, hasA, getA, wantL, h2]
  | 1, _ =>
    have e : crashS [c, c] (fsW o f 1) = ([102], (o, o.length)) :: crashS [c, c] [([102, 46, 110, 101, 119], (f, 0))] := by
      rw [show fsW o f 1 = ([102], (o, o.length)) :: [([102, 46, 110, 101, 119], (f, 0))] from rfl, crashS, if_pos rfl]
    rw [e]
    simp [allS, hasA, getA, wantL, h2]
  | 2, _ => simp [fsW, crashS, allS, hasA, getA, wantL, h2]
  | 3, _ => simp [fsW, crashS, allS, hasA, getA, wantL, h2]
set_option maxRecDepth 100000 in
set_option maxHeartbeats 4000000 in
theorem diskWhole_walk (o f : List UInt8) (vo vf : Value) (stop cut : Int) (w : World) (ho : Bts w vo o) (hf : Bts w vf f) (hlen : o.length + f.length ≤ 1073741824) :
    Calls Try.prog 6 #[.agg #[vo, vf, .int .i64 stop, .int .i64 cut]] w fun e w' => e = .returned (.bool true) ∧ Kept w w' := by
  have HO := Lib.hid ho
  have HF := Lib.hid hf
  obtain ⟨Ao, co, rfl, hco1, hco2, -⟩ := ho
  obtain ⟨Af, cf, rfl, hcf1, hcf2, -⟩ := hf
  unfold maxLen at hco2 hcf2
  go_enter Try.func6, Try.ntmps6
  go_wp2
  go_quiet (fail)
  rename_i nq
  have hK0 : Kept w ((w.alloc (.cells #[.slice Ao o.length co, .slice Af f.length cf, .int .i64 stop, .int .i64 cut] 63)).drewN nq) := ((Kept.refl w).alloc _).drewN nq
  generalize (w.alloc (.cells #[.slice Ao o.length co, .slice Af f.length cf, .int .i64 stop, .int .i64 cut] 63)).drewN nq = w0 at *
  go_wp2_with fail
  refine (new_dk 1073741824 w w0 hK0 (by omega)).mono ?_
  rintro e w1 ⟨db, rfl, h1⟩
  have H1 := Lib.hid h1
  clear h1
  go_wp2_with fail
  refine (copy_any o _ w1 (HO.out.kept H1.out.2) (by omega)).mono ?_
  rintro e w2 ⟨v2, rfl, ho2, k2⟩
  have HO2 := Lib.hid (Bts.of_own ho2)
  clear ho2
  go_wp2_with fail
  refine (append_first [102] o v2 _ 1073741824 w w1 w2 H1.out k2 HO2.out (by decide) (by omega)).mono ?_
  rintro e w3 ⟨rfl, h3⟩
  have H3 := Lib.hid h3
  clear h3
  go_wp2_with fail
  refine (sync_one [102] _ _ _ _ 1073741824 w w3 H3.out (by decide)).mono ?_
  rintro e w4 ⟨rfl, h4⟩
  have H4 := Lib.hid (show DK w w4 _ 1073741824 (fsW o f 0) from h4)
  clear h4
  go_wp2
  go_loopw [9, 10] (fun v9 i W => ∃ k : Nat, i = .int .i64 (k : Int) ∧ k ≤ 3 ∧ DK w W (.pointer (some ⟨db, 0, none⟩)) 1073741824 (fsW o f k) ∧ Bts w v9 (wantL o f k)) (fun _ i _ => 3 - (intOf i).toNat)
  case atStart => exact ⟨0, rfl, by omega, H4.out, HO.out⟩
  case round =>
    obtain ⟨k, rfl, hk, hdk, hwv⟩ := hrel
    obtain ⟨A9, c9, rfl, -, -, -⟩ := id hwv
    have HDK := Lib.hid hdk
    have HWV := Lib.hid hwv
    clear hdk hwv
    by_cases hx : k = 3 ∨ (k : Int) = stop
    · by_cases h3 : k = 3
      · have t1 : decide ((k : Int) < 3) = false := by simp; omega
        clear hx h3
        obtain ⟨hwa, hwb⟩ := crash_want o f cut k (by omega)
        have HWA := Lib.hid hwa
        have HWB := Lib.hid hwb
        clear hwa hwb
        go_wp2_with fail
        refine (crash_dk [cut, cut] _ _ 1073741824 _ w wr _ HDK.out ((Kept.refl wr).alloc _) (Ints.lit2 w wr wr [cut, cut] _ (Nat.le_refl _) (by simp [maxLen]))).mono ?_
        rintro e w7 ⟨rfl, h7, -⟩
        have H7 := Lib.hid h7
        clear h7
        go_wp2_with fail
        refine (read_dk [102] _ 1073741824 _ w w7 H7.out).mono ?_
        rintro e w8 ⟨v8, rfl, h8, k8⟩
        rw [HWA.out, if_pos rfl, HWB.out] at h8
        rw [HWA.out]
        obtain ⟨A8, c8, rfl⟩ := own_form h8
        have H8 := Lib.hid h8
        clear h8
        go_wp2_with fail
        refine (same_any (wantL o f k) (wantL o f k) _ _ w8 (Bts.of_own H8.out) (HWV.out.kept (H7.out.2.trans k8))).mono ?_
        rintro e w10 ⟨rfl, hw10⟩
        subst hw10
        rw [show (wantL o f k == wantL o f k) = true by simp]
        go_wp2_with fail
        refine (awake_any w8).mono ?_
        rintro e w14 ⟨rfl, k14⟩
        go_wp2
        go_ret
        exact ⟨rfl, (H7.out.2.trans k8).trans k14⟩
      · have t1 : decide ((k : Int) < 3) = true := by simp; omega
        have hst : (k : Int) = stop := by rcases hx with h | h; exact absurd h h3; exact h
        have t2 : ((k : Int) != stop) = false := by simp [hst]
        clear hx h3 hst
        obtain ⟨hwa, hwb⟩ := crash_want o f cut k (by omega)
        have HWA := Lib.hid hwa
        have HWB := Lib.hid hwb
        clear hwa hwb
        go_wp2_with fail
        refine (crash_dk [cut, cut] _ _ 1073741824 _ w wr _ HDK.out ((Kept.refl wr).alloc _) (Ints.lit2 w wr wr [cut, cut] _ (Nat.le_refl _) (by simp [maxLen]))).mono ?_
        rintro e w7 ⟨rfl, h7, -⟩
        have H7 := Lib.hid h7
        clear h7
        go_wp2_with fail
        refine (read_dk [102] _ 1073741824 _ w w7 H7.out).mono ?_
        rintro e w8 ⟨v8, rfl, h8, k8⟩
        rw [HWA.out, if_pos rfl, HWB.out] at h8
        rw [HWA.out]
        obtain ⟨A8, c8, rfl⟩ := own_form h8
        have H8 := Lib.hid h8
        clear h8
        go_wp2_with fail
        refine (same_any (wantL o f k) (wantL o f k) _ _ w8 (Bts.of_own H8.out) (HWV.out.kept (H7.out.2.trans k8))).mono ?_
        rintro e w10 ⟨rfl, hw10⟩
        subst hw10
        rw [show (wantL o f k == wantL o f k) = true by simp]
        go_wp2_with fail
        refine (awake_any w8).mono ?_
        rintro e w14 ⟨rfl, k14⟩
        go_wp2
        go_ret
        exact ⟨rfl, (H7.out.2.trans k8).trans k14⟩
    · have t1 : decide ((k : Int) < 3) = true := by simp; omega
      have t2 : ((k : Int) != stop) = true := by simp; omega
      have hk3 : k < 3 := by omega
      clear hx
      obtain rfl | rfl | rfl : k = 0 ∨ k = 1 ∨ k = 2 := by omega
      · have hu0 : used (fsW o f 0) + f.length ≤ 1073741824 := by simpa [fsW, used] using hlen
        go_wp2_with fail
        refine (copy_any f _ wr (HF.out.kept HDK.out.2) (by omega)).mono ?_
        rintro e w5 ⟨v5, rfl, ho5, k5⟩
        have HO5 := Lib.hid (Bts.of_own ho5)
        clear ho5
        go_wp2_with fail
        refine (append_dk [102, 46, 110, 101, 119] f v5 _ 1073741824 _ w wr w5 HDK.out k5 HO5.out (by simp [fsW])).mono ?_
        rintro e w6 ⟨rfl, h6, -⟩
        rw [okA_zero (by decide) hu0] at h6 ⊢
        rw [if_pos rfl, step0] at h6
        have H6 := Lib.hid h6
        clear h6
        go_wp2
        go_roundw
        case rel => exact ⟨1, by go_num, by omega, H6.out, HWV.out⟩
        case measure => simp [intOf]
      · go_wp2_with fail
        refine (sync_dk [[102, 46, 110, 101, 119]] _ _ 1073741824 _ w wr _ HDK.out ((Kept.refl wr).alloc _) (Txts.fresh w wr [102, 46, 110, 101, 119] _)).mono ?_
        rintro e w6 ⟨rfl, h6, -⟩
        rw [all1] at h6 ⊢
        rw [if_pos rfl, step1] at h6
        have H6 := Lib.hid h6
        clear h6
        go_wp2
        go_roundw
        case rel => exact ⟨2, by go_num, by omega, H6.out, HWV.out⟩
        case measure => simp [intOf]
      · go_wp2_with fail
        refine (rename_dk [102, 46, 110, 101, 119] [102] _ 1073741824 _ w wr wr HDK.out (Kept.refl wr)).mono ?_
        rintro e w6 ⟨rfl, h6, -⟩
        rw [ren2] at h6 ⊢
        rw [if_pos rfl, step2] at h6
        have H6 := Lib.hid h6
        clear h6
        go_wp2
        go_roundw
        case rel => exact ⟨3, by go_num, by omega, H6.out, HF.out⟩
        case measure => simp [intOf]
end Go.Proofs.Ytmjlhgamhjfjlaa
