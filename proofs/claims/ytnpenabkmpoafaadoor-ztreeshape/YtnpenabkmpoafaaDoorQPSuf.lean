/- The walks of Suffix, and of the document's Digits and Suffix. -/
import Derived.Test.YtnpenabkmpoafaaDoorQPTold
import Derived.Test.YtnpenabkmpoafaaDoorQPRefParts
import Derived.Test.YtnpenabkmpoafaaDoorQPDig
import Derived.Lib.AppendIntMem
import Derived.Lib.ItoaMem
import Derived.Laws.IdiomStrings
namespace Go.Proofs.YtnpenabkmpoafaaDoor
open Go.RowKit
theorem kept_grow (w : World) (k : Nat) (os : Array Obj) : Kept w (Sort.grow (w.drewN k) os) := by
  refine ⟨rfl, rfl, rfl, ?_, fun i hi => ?_⟩
  · show w.heap.size ≤ (w.heap ++ os).size
    simp
  · show (w.heap ++ os)[i]? = w.heap[i]?
    rw [Array.getElem?_append_left hi]
theorem itoa_any (n : Nat) (w : World) (hn : n ≤ 9999999999) (htab : Lib.TabIs Tryd.prog w "internal/strconv.uint64pow10" .u64 Lib.pow10Tab) :
    Calls Tryd.prog 52 #[.int .i64 (n : Int)] w fun e w' => e = .returned (.string ⟨(Lib.decDigits n).toArray⟩) ∧ Kept w w' := by
  refine (Tryd.strconv_Itoa (n : Int) (by omega) (by omega) w htab).mono ?_
  rintro e w' ⟨rfl, k, os, rfl⟩
  rw [Lib.itoa_nonneg]
  exact ⟨rfl, kept_grow w k os⟩
theorem repeat_any (c : Nat) (w : World) (hc : c ≤ 1000) :
    Calls Tryd.prog 53 #[.string ⟨#[48]⟩, .int .i64 (c : Int)] w fun e w' => e = .returned (.string ⟨(List.replicate c 48).toArray⟩) ∧ Kept w w' := by
  refine (Tryd.strings_Repeat ⟨#[48]⟩ c w (by omega) (by show 1 * c ≤ _; omega)).mono ?_
  rintro e w' ⟨rfl, hb⟩
  refine ⟨?_, hb⟩
  show Ending.returned (.string ⟨(Lib.repeatL [48] c).toArray⟩) = _
  rw [repeat_eq]

set_option maxRecDepth 100000 in
set_option maxHeartbeats 1000000 in
theorem suffix_any (l : List UInt8) (n : Int) (w : World) (htab : Lib.TabIs Tryd.prog w "internal/strconv.uint64pow10" .u64 Lib.pow10Tab) :
    Calls Tryd.prog 42 #[.string ⟨l.toArray⟩, .int .i64 n] w fun e w' => e = .returned (.tuple #[.string ⟨(strO (sufOf l n)).toArray⟩, .int .i64 (errO (sufOf l n))]) ∧ Kept w w' := by
  have HC := Lib.hid (check_any l w)
  have HTAB := Lib.hid htab
  clear htab
  rcases path_cases l with h | rfl | ⟨init, b, h, hfl, hb, hi, hne⟩
  · have hp : sufOf l n = none := by unfold sufOf; rw [h]
    rw [hp]
    rw [chk_none h] at HC
    clear hp h
    go_enter Tryd.func42, Tryd.ntmps42
    go_wp2_with fail
    refine HC.out.mono ?_
    rintro e w' ⟨rfl, hk⟩
    go_wp2
    go_ret2
    exact ⟨rfl, hk⟩
  · have hp : sufOf [47] n = none := by unfold sufOf; rw [show names [47] = some [] from rfl]; simp
    rw [hp]
    rw [chk_root] at HC
    clear hp
    go_enter Tryd.func42, Tryd.ntmps42
    go_wp2_with fail
    refine HC.out.mono ?_
    rintro e w' ⟨rfl, hk⟩
    go_wp2
    go_ret2
    exact ⟨rfl, hk⟩
  · have t0 : (l == [47]) = false := by simpa using hne
    rw [chk_some h] at HC
    by_cases h0 : n < 0
    · have hp : sufOf l n = none := by unfold sufOf; rw [h]; simp [h0]
      rw [hp]
      clear hp h hfl hne
      go_enter Tryd.func42, Tryd.ntmps42
      go_wp2_with fail
      refine HC.out.mono ?_
      rintro e w' ⟨rfl, hk⟩
      go_wp2
      go_ret2
      exact ⟨rfl, hk⟩
    by_cases h9 : 9999999999 < n
    · have hp : sufOf l n = none := by unfold sufOf; rw [h]; simp [h9]
      rw [hp]
      clear hp h hfl hne
      go_enter Tryd.func42, Tryd.ntmps42
      go_wp2_with fail
      refine HC.out.mono ?_
      rintro e w' ⟨rfl, hk⟩
      go_wp2
      go_ret2
      exact ⟨rfl, hk⟩
    obtain ⟨m, rfl⟩ := Int.eq_ofNat_of_zero_le (show 0 ≤ n by omega)
    have hm : m ≤ 9999999999 := by omega
    have hp : sufOf l (m : Int) = if (names (l ++ dk 10 m)).isSome = true then some (l ++ dk 10 m) else none := by
      unfold sufOf; rw [h]; simp only; rw [if_neg (by simp; omega), Int.toNat_natCast]
    obtain ⟨hd, hpad⟩ := pad_dk 10 m (by omega) (by omega)
    have hll := (names_len h).2
    have HPAD := Lib.hid hpad
    have hck : chk (l ++ dk 10 m) = if (names (l ++ dk 10 m)).isSome = true then 0 else 20 := rfl
    have HCK := Lib.hid (show ∀ w, _ from fun w => check_any (l ++ dk 10 m) w)
    rw [hck] at HCK
    have HI := Lib.hid (show ∀ W, Kept w W → _ from fun W hW => itoa_any m W hm (Lib.tabBelow_of_tabIs HTAB.out W hW))
    have hdl := dk_len 10 m
    have t1 : decide ((m : Int) < 0) = false := by simp
    have t2 : decide ((9999999999 : Int) < (m : Int)) = false := by simp; omega
    rw [← HPAD.out] at HCK hp
    rw [hp]
    clear hp h hfl hne hpad hck h0 h9 hdl HPAD
    generalize Lib.decDigits m = d at *
    have HR := Lib.hid (show ∀ W, _ from fun W => repeat_any (10 - d.length) W (by omega))
    have hrl : (List.replicate (10 - d.length) (48 : UInt8)).length ≤ 10 := by simp
    generalize List.replicate (10 - d.length) (48 : UInt8) = z at *
    have hcast : ((10 - d.length : Nat) : Int) = 10 - (d.length : Int) := by omega
    rw [hcast] at HR
    clear hcast
    cases hs : (names (l ++ (z ++ d))).isSome with
    | true =>
      rw [hs, if_pos rfl] at HCK
      rw [if_pos rfl]
      clear hs
      go_enter Tryd.func42, Tryd.ntmps42
      go_wp2_with fail
      refine HC.out.mono ?_
      rintro e w1 ⟨rfl, hk1⟩
      go_wp2_with fail
      refine (HI.out _ hk1).mono ?_
      rintro e w2 ⟨rfl, hk2⟩
      have hk3 := hk1.trans hk2
      clear hk1 hk2
      go_wp2_with fail
      refine (HR.out _).mono ?_
      rintro e w4 ⟨rfl, hk4⟩
      have hk5 := hk3.trans hk4
      clear hk3 hk4
      go_wp2_with fail
      rw [str_append, str_append, List.append_assoc]
      refine (HCK.out _).mono ?_
      rintro e w6 ⟨rfl, hk6⟩
      have hk7 := hk5.trans hk6
      clear hk5 hk6
      go_wp2
      go_ret2
      exact ⟨rfl, hk7⟩
    | false =>
      rw [hs, if_neg (by simp)] at HCK
      rw [if_neg (by simp)]
      clear hs
      go_enter Tryd.func42, Tryd.ntmps42
      go_wp2_with fail
      refine HC.out.mono ?_
      rintro e w1 ⟨rfl, hk1⟩
      go_wp2_with fail
      refine (HI.out _ hk1).mono ?_
      rintro e w2 ⟨rfl, hk2⟩
      have hk3 := hk1.trans hk2
      clear hk1 hk2
      go_wp2_with fail
      refine (HR.out _).mono ?_
      rintro e w4 ⟨rfl, hk4⟩
      have hk5 := hk3.trans hk4
      clear hk3 hk4
      go_wp2_with fail
      rw [str_append, str_append, List.append_assoc]
      refine (HCK.out _).mono ?_
      rintro e w6 ⟨rfl, hk6⟩
      have hk7 := hk5.trans hk6
      clear hk5 hk6
      go_wp2
      go_ret2
      exact ⟨rfl, hk7⟩

theorem conv_digit (w : World) (m : Nat) : (convert 30 9 (.slice (some ⟨w.heap.size, 0, none⟩) 1 1)).run Tryd.prog (w.alloc (.cells #[.int .u8 (48 + (m : Int) % 10)] 5)) = .ok (.string ⟨#[UInt8.ofNat (48 + m % 10)]⟩) (w.alloc (.cells #[.int .u8 (48 + (m : Int) % 10)] 5)) := by
  refine run_convert_bytes_back _ 30 9 5 ⟨w.heap.size, 0, none⟩ 1 [UInt8.ofNat (48 + m % 10)] Tryd.underlying30 Tryd.underlying5 Tryd.underlying9 (fun j hj => ?_)
  obtain rfl : j = 0 := by simp at hj; omega
  have e : ((⟨w.heap.size, 0, none⟩ : Addr).add 0) = ⟨w.heap.size, 0, none⟩ := by unfold Addr.add; split <;> simp_all
  rw [e]
  have e2 : ((UInt8.ofNat (48 + m % 10)).toNat : Int) = 48 + (m : Int) % 10 := by rw [UInt8.toNat_ofNat']; omega
  simp only [List.getElem_cons_zero, e2]
  simp [go_sem]
set_option maxRecDepth 100000 in
set_option maxHeartbeats 1000000 in
theorem digits_any (n : Nat) (w : World) (hn : n ≤ 9999999999) :
    Calls Tryd.prog 15 #[.int .i64 (n : Int)] w fun e w' => e = .returned (.string ⟨(dk 10 n).toArray⟩) ∧ Kept w w' := by
  go_enter Tryd.func15, Tryd.ntmps15
  go_wp2
  go_loopw [0, 3, 4] (fun a s i W => ∃ k : Nat, i = .int .i64 (k : Int) ∧ k ≤ 10 ∧ a = .int .i64 ((n / 10 ^ k : Nat) : Int) ∧ s = .string ⟨(dk k n).toArray⟩ ∧ Kept w W) (fun _ _ i _ => 10 - (intOf i).toNat)
  case atStart => exact ⟨0, rfl, by omega, by simp, rfl, Kept.refl _⟩
  case round =>
    obtain ⟨k, rfl, hk, rfl, rfl, hK⟩ := hrel
    by_cases hlt : k < 10
    · have hm : n / 10 ^ k ≤ 9999999999 := Nat.le_trans (Nat.div_le_self _ _) hn
      have HD := Lib.hid (dk_cons k n)
      have hq : n / 10 ^ (k + 1) = n / 10 ^ k / 10 := by rw [Nat.pow_succ, Nat.div_div_eq_div_mul]
      have HQ := Lib.hid hq
      have hdl := dk_len k n
      have HL := Lib.hid hdl
      have hle : (dk k n).length ≤ 10 := by omega
      clear hq hdl
      generalize dk k n = s at *
      generalize n / 10 ^ k = m at *
      have hcv := conv_digit wr m
      have HKC := Lib.hid (hK.alloc (.cells #[.int .u8 (48 + (m : Int) % 10)] 5))
      go_wp2
      go_roundw
      case rel => exact ⟨k + 1, by go_num, by omega, by rw [HQ.out]; go_num, by rw [str_cons, HD.out, UInt8.ofNat_add]; rfl, HKC.out⟩
      case measure => simp [intOf]; omega
    · obtain rfl : k = 10 := by omega
      go_wp2
      go_ret
      exact ⟨rfl, hK⟩

end Go.Proofs.YtnpenabkmpoafaaDoor
