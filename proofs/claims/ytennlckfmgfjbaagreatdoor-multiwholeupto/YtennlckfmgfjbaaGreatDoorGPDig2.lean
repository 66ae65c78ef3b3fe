/- Ten digits of a number, and the suffix of a path, as lists of bytes. No program in it. The walks of Suffix, and of the document's Digits and Suffix. -/
import Derived.Lib.ItoaNum
import Derived.Lib.Repeat
import Derived.Test.YtennlckfmgfjbaaGreatDoorGPMath2
import Derived.Test.YtennlckfmgfjbaaGreatDoorQPTold
import Derived.Test.YtennlckfmgfjbaaGreatDoorGPRefName2
import Derived.Lib.AppendIntMem
import Derived.Lib.ItoaMem
import Derived.Laws.IdiomStrings
namespace Go.Proofs.YtennlckfmgfjbaaGreatDoor
/-- The lowest k decimal digits of n. -/
def dk : Nat → Nat → List UInt8
  | 0, _ => []
  | k + 1, n => dk k (n / 10) ++ [UInt8.ofNat (48 + n % 10)]
theorem dk_len (k n : Nat) : (dk k n).length = k := by
  induction k generalizing n with
  | zero => rfl
  | succ k ih => simp [dk, ih]
theorem dk_zero (k : Nat) : dk k 0 = List.replicate k 48 := by
  induction k with
  | zero => rfl
  | succ k ih =>
    rw [List.replicate_succ', dk, Nat.zero_div, ih]
    rfl
theorem dk_cons (k n : Nat) : dk (k + 1) n = UInt8.ofNat (48 + n / 10 ^ k % 10) :: dk k n := by
  induction k generalizing n with
  | zero => simp [dk]
  | succ k ih =>
    rw [dk, ih (n / 10), List.cons_append]
    congr 1
    rw [Nat.div_div_eq_div_mul, Nat.pow_succ, Nat.mul_comm 10]
theorem pad_dk (k n : Nat) (hk : 1 ≤ k) (h : n < 10 ^ k) : (Lib.decDigits n).length ≤ k ∧ List.replicate (k - (Lib.decDigits n).length) 48 ++ Lib.decDigits n = dk k n := by
  induction k generalizing n with
  | zero => omega
  | succ k ih =>
    by_cases hs : n < 10
    · rw [Lib.decDigits_one hs]
      refine ⟨by simp, ?_⟩
      rw [dk, show n / 10 = 0 by omega, dk_zero, show n % 10 = n by omega]
      simp
    · have hk1 : 1 ≤ k := by
        rcases Nat.eq_zero_or_pos k with rfl | h'
        · simp at h; omega
        · exact h'
      rw [Nat.pow_succ] at h
      obtain ⟨a, b⟩ := ih (n / 10) hk1 (by omega)
      rw [Lib.decDigits, dif_neg hs]
      refine ⟨by simp; omega, ?_⟩
      rw [dk, ← b, List.length_append, List.length_singleton, show k + 1 - ((Lib.decDigits (n / 10)).length + 1) = k - (Lib.decDigits (n / 10)).length by omega, List.append_assoc]
theorem repeat_eq (c : Nat) : Lib.repeatL [48] c = List.replicate c 48 := by
  induction c with
  | zero => rfl
  | succ c ih => rw [Lib.repeatL, ih]; rfl
/-- Digits keep the order of numbers. -/
theorem digit_lt {a b : Nat} (ha : a < 10) (hb : b < 10) : UInt8.ofNat (48 + a) < UInt8.ofNat (48 + b) ↔ a < b := by
  rw [UInt8.lt_iff_toNat_lt, UInt8.toNat_ofNat', UInt8.toNat_ofNat']
  omega
theorem digit_inj {a b : Nat} (ha : a < 10) (hb : b < 10) (h : UInt8.ofNat (48 + a) = UInt8.ofNat (48 + b)) : a = b := by
  have := congrArg UInt8.toNat h
  rw [UInt8.toNat_ofNat', UInt8.toNat_ofNat'] at this
  omega
theorem dk_mod (k n : Nat) : dk k (n % 10 ^ k) = dk k n := by
  induction k generalizing n with
  | zero => rfl
  | succ k ih =>
    rw [dk, dk, ← ih (n / 10), ← ih (n % 10 ^ (k + 1) / 10)]
    have e1 : n % 10 ^ (k + 1) / 10 % 10 ^ k = n / 10 % 10 ^ k := by
      rw [Nat.pow_succ, Nat.mul_comm, Nat.mod_mul_right_div_self, Nat.mod_mod]
    have e2 : n % 10 ^ (k + 1) % 10 = n % 10 := by
      rw [Nat.pow_succ, Nat.mul_comm, Nat.mod_mul_right_mod]
    rw [e1, e2]
theorem dk_lt (k : Nat) : ∀ a b : Nat, a < 10 ^ k → b < 10 ^ k → (a < b ↔ dk k a < dk k b) := by
  induction k with
  | zero => intro a b ha hb; simp at ha hb; simp [ha, hb, dk]
  | succ k ih =>
    intro a b ha hb
    have hp : 0 < 10 ^ k := Nat.pow_pos (by decide)
    have qa : a / 10 ^ k < 10 := by rw [Nat.div_lt_iff_lt_mul hp, Nat.mul_comm, ← Nat.pow_succ]; exact ha
    have qb : b / 10 ^ k < 10 := by rw [Nat.div_lt_iff_lt_mul hp, Nat.mul_comm, ← Nat.pow_succ]; exact hb
    have ea := Nat.div_add_mod a (10 ^ k)
    have eb := Nat.div_add_mod b (10 ^ k)
    have ra := Nat.mod_lt a hp
    have rb := Nat.mod_lt b hp
    have i := ih (a % 10 ^ k) (b % 10 ^ k) ra rb
    rw [dk_mod, dk_mod] at i
    rw [dk_cons, dk_cons, Nat.mod_eq_of_lt qa, Nat.mod_eq_of_lt qb, List.cons_lt_cons_iff, digit_lt qa qb, ← i]
    generalize a / 10 ^ k = x at *
    generalize b / 10 ^ k = y at *
    generalize a % 10 ^ k = u at *
    generalize b % 10 ^ k = v at *
    generalize 10 ^ k = p at *
    constructor
    · intro h
      rcases Nat.lt_trichotomy x y with hx | hx | hx
      · exact .inl hx
      · subst hx; exact .inr ⟨rfl, by omega⟩
      · have : p * (y + 1) ≤ p * x := Nat.mul_le_mul_left p hx
        rw [Nat.mul_add] at this
        omega
    · rintro (hx | ⟨hx, hy⟩)
      · have : p * (x + 1) ≤ p * y := Nat.mul_le_mul_left p hx
        rw [Nat.mul_add] at this
        omega
      · have := digit_inj qa qb hx
        subst this
        omega
theorem dk_inj (k a b : Nat) (ha : a < 10 ^ k) (hb : b < 10 ^ k) (h : dk k a = dk k b) : a = b := by
  have h1 := dk_lt k a b ha hb
  have h2 := dk_lt k b a hb ha
  rw [h] at h1 h2
  have h3 : ¬ dk k b < dk k b := List.lt_irrefl _
  have h4 : ¬ a < b := fun x => h3 (h1.1 x)
  have h5 : ¬ b < a := fun x => h3 (h2.1 x)
  omega
/-- A path with ten digits behind it. -/
def sufOf (l : List UInt8) (n : Int) : Option (List UInt8) := match names l with
  | some ls => if ls = [] ∨ n < 0 ∨ 9999999999 < n then none else if (names (l ++ dk 10 n.toNat)).isSome = true then some (l ++ dk 10 n.toNat) else none
  | none => none
end Go.Proofs.YtennlckfmgfjbaaGreatDoor
namespace Go.Proofs.YtennlckfmgfjbaaGreatDoor
open Go.RowKit
theorem kept_grow (w : World) (k : Nat) (os : Array Obj) : Kept w (Sort.grow (w.drewN k) os) := by
  refine ⟨rfl, rfl, rfl, ?_, fun i hi => ?_⟩
  · show w.heap.size ≤ (w.heap ++ os).size
    simp
  · show (w.heap ++ os)[i]? = w.heap[i]?
    rw [Array.getElem?_append_left hi]
theorem itoa_any (n : Nat) (w : World) (hn : n ≤ 9999999999) (htab : Lib.TabIs Tryz.prog w "internal/strconv.uint64pow10" .u64 Lib.pow10Tab) :
    Calls Tryz.prog 91 #[.int .i64 (n : Int)] w fun e w' => e = .returned (.string ⟨(Lib.decDigits n).toArray⟩) ∧ Kept w w' := by
  refine (Tryz.strconv_Itoa (n : Int) (by omega) (by omega) w htab).mono ?_
  rintro e w' ⟨rfl, k, os, rfl⟩
  rw [Lib.itoa_nonneg]
  exact ⟨rfl, kept_grow w k os⟩
theorem repeat_any (c : Nat) (w : World) (hc : c ≤ 1000) :
    Calls Tryz.prog 92 #[.string ⟨#[48]⟩, .int .i64 (c : Int)] w fun e w' => e = .returned (.string ⟨(List.replicate c 48).toArray⟩) ∧ Kept w w' := by
  refine (Tryz.strings_Repeat ⟨#[48]⟩ c w (by omega) (by show 1 * c ≤ _; omega)).mono ?_
  rintro e w' ⟨rfl, hb⟩
  refine ⟨?_, hb⟩
  show Ending.returned (.string ⟨(Lib.repeatL [48] c).toArray⟩) = _
  rw [repeat_eq]

set_option maxRecDepth 100000 in
set_option maxHeartbeats 1000000 in
theorem suffix_any (l : List UInt8) (n : Int) (w : World) (htab : Lib.TabIs Tryz.prog w "internal/strconv.uint64pow10" .u64 Lib.pow10Tab) :
    Calls Tryz.prog 71 #[.string ⟨l.toArray⟩, .int .i64 n] w fun e w' => e = .returned (.tuple #[.string ⟨(strO (sufOf l n)).toArray⟩, .int .i64 (errO (sufOf l n))]) ∧ Kept w w' := by
  have HC := Lib.hid (check_any l w)
  have HTAB := Lib.hid htab
  clear htab
  rcases path_cases l with h | rfl | ⟨init, b, h, hfl, hb, hi, hne⟩
  · have hp : sufOf l n = none := by unfold sufOf; rw [h]
    rw [hp]
    rw [chk_none h] at HC
    clear hp h
    go_enter Tryz.func71, Tryz.ntmps71
    go_wp2_with fail
    refine HC.out.mono ?_
    rintro e w' ⟨rfl, hk⟩
    go_wp2
    go_ret2
    exact ⟨rfl, hk⟩
  · have hp : sufOf [47] n = none := by unfold sufOf; rw [show names [47] = some [] from rfl]; simp
    rw [hp]
    rw [chk_root] at HC
    clear hp
    go_enter Tryz.func71, Tryz.ntmps71
    go_wp2_with fail
    refine HC.out.mono ?_
    rintro e w' ⟨rfl, hk⟩
    go_wp2
    go_ret2
    exact ⟨rfl, hk⟩
  · have t0 : (l == [47]) = false := by simpa using hne
    rw [chk_some h] at HC
    by_cases h0 : n < 0
    · have hp : sufOf l n = none := by unfold sufOf; rw [h]; simp [h0]
      rw [hp]
      clear hp h hfl hne
      go_enter Tryz.func71, Tryz.ntmps71
      go_wp2_with fail
      refine HC.out.mono ?_
      rintro e w' ⟨rfl, hk⟩
      go_wp2
      go_ret2
      exact ⟨rfl, hk⟩
    by_cases h9 : 9999999999 < n
    · have hp : sufOf l n = none := by unfold sufOf; rw [h]; simp [h9]
      rw [hp]
      clear hp h hfl hne
      go_enter Tryz.func71, Tryz.ntmps71
      go_wp2_with fail
      refine HC.out.mono ?_
      rintro e w' ⟨rfl, hk⟩
      go_wp2
      go_ret2
      exact ⟨rfl, hk⟩
    obtain ⟨m, rfl⟩ := Int.eq_ofNat_of_zero_le (show 0 ≤ n by omega)
    have hm : m ≤ 9999999999 := by omega
    have hp : sufOf l (m : Int) = if (names (l ++ dk 10 m)).isSome = true then some (l ++ dk 10 m) else none := by
      unfold sufOf; rw [h]; simp only; rw [if_neg (by simp; omega), Int.toNat_natCast]
    obtain ⟨hd, hpad⟩ := pad_dk 10 m (by omega) (by omega)
    have hll := (names_len h).2
    have HPAD := Lib.hid hpad
    have hck : chk (l ++ dk 10 m) = if (names (l ++ dk 10 m)).isSome = true then 0 else 20 := rfl
    have HCK := Lib.hid (show ∀ w, _ from fun w => check_any (l ++ dk 10 m) w)
    rw [hck] at HCK
    have HI := Lib.hid (show ∀ W, Kept w W → _ from fun W hW => itoa_any m W hm (Lib.tabBelow_of_tabIs HTAB.out W hW))
    have hdl := dk_len 10 m
    have t1 : decide ((m : Int) < 0) = false := by simp
    have t2 : decide ((9999999999 : Int) < (m : Int)) = false := by simp; omega
    rw [← HPAD.out] at HCK hp
    rw [hp]
    clear hp h hfl hne hpad hck h0 h9 hdl HPAD
    generalize Lib.decDigits m = d at *
    have HR := Lib.hid (show ∀ W, _ from fun W => repeat_any (10 - d.length) W (by omega))
    have hrl : (List.replicate (10 - d.length) (48 : UInt8)).length ≤ 10 := by simp
    generalize List.replicate (10 - d.length) (48 : UInt8) = z at *
    have hcast : ((10 - d.length : Nat) : Int) = 10 - (d.length : Int) := by omega
    rw [hcast] at HR
    clear hcast
    cases hs : (names (l ++ (z ++ d))).isSome with
    | true =>
      rw [hs, if_pos rfl] at HCK
      rw [if_pos rfl]
      clear hs
      go_enter Tryz.func71, Tryz.ntmps71
      go_wp2_with fail
      refine HC.out.mono ?_
      rintro e w1 ⟨rfl, hk1⟩
      go_wp2_with fail
      refine (HI.out _ hk1).mono ?_
      rintro e w2 ⟨rfl, hk2⟩
      have hk3 := hk1.trans hk2
      clear hk1 hk2
      go_wp2_with fail
      refine (HR.out _).mono ?_
      rintro e w4 ⟨rfl, hk4⟩
      have hk5 := hk3.trans hk4
      clear hk3 hk4
      go_wp2_with fail
      rw [str_append, str_append, List.append_assoc]
      refine (HCK.out _).mono ?_
      rintro e w6 ⟨rfl, hk6⟩
      have hk7 := hk5.trans hk6
      clear hk5 hk6
      go_wp2
      go_ret2
      exact ⟨rfl, hk7⟩
    | false =>
      rw [hs, if_neg (by simp)] at HCK
      rw [if_neg (by simp)]
      clear hs
      go_enter Tryz.func71, Tryz.ntmps71
      go_wp2_with fail
      refine HC.out.mono ?_
      rintro e w1 ⟨rfl, hk1⟩
      go_wp2_with fail
      refine (HI.out _ hk1).mono ?_
      rintro e w2 ⟨rfl, hk2⟩
      have hk3 := hk1.trans hk2
      clear hk1 hk2
      go_wp2_with fail
      refine (HR.out _).mono ?_
      rintro e w4 ⟨rfl, hk4⟩
      have hk5 := hk3.trans hk4
      clear hk3 hk4
      go_wp2_with fail
      rw [str_append, str_append, List.append_assoc]
      refine (HCK.out _).mono ?_
      rintro e w6 ⟨rfl, hk6⟩
      have hk7 := hk5.trans hk6
      clear hk5 hk6
      go_wp2
      go_ret2
      exact ⟨rfl, hk7⟩

theorem conv_digit (w : World) (m : Nat) : (convert 39 9 (.slice (some ⟨w.heap.size, 0, none⟩) 1 1)).run Tryz.prog (w.alloc (.cells #[.int .u8 (48 + (m : Int) % 10)] 5)) = .ok (.string ⟨#[UInt8.ofNat (48 + m % 10)]⟩) (w.alloc (.cells #[.int .u8 (48 + (m : Int) % 10)] 5)) := by
  refine run_convert_bytes_back _ 39 9 5 ⟨w.heap.size, 0, none⟩ 1 [UInt8.ofNat (48 + m % 10)] Tryz.underlying39 Tryz.underlying5 Tryz.underlying9 (fun j hj => ?_)
  obtain rfl : j = 0 := by simp at hj; omega
  have e : ((⟨w.heap.size, 0, none⟩ : Addr).add 0) = ⟨w.heap.size, 0, none⟩ := by unfold Addr.add; split <;> simp_all
  rw [e]
  have e2 : ((UInt8.ofNat (48 + m % 10)).toNat : Int) = 48 + (m : Int) % 10 := by rw [UInt8.toNat_ofNat']; omega
  simp only [List.getElem_cons_zero, e2]
  simp [go_sem]
end Go.Proofs.YtennlckfmgfjbaaGreatDoor
