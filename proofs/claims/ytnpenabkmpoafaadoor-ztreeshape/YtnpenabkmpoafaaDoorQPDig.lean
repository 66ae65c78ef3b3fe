/- Ten digits of a number, and the suffix of a path, as lists of bytes. No program in it. -/
import Derived.Lib.ItoaNum
import Derived.Lib.Repeat
import Derived.Test.YtnpenabkmpoafaaDoorQPMath
namespace Go.Proofs.YtnpenabkmpoafaaDoor
/-- The lowest k decimal digits of n. -/
def dk : Nat → Nat → List UInt8
  | 0, _ => []
  | k + 1, n => dk k (n / 10) ++ [UInt8.ofNat (48 + n % 10)]
theorem dk_len (k n : Nat) : (dk k n).length = k := by
  induction k generalizing n with
  | zero => rfl
  | succ k ih => simp [dk, ih]
theorem dk_zero (k : Nat) : dk k 0 = List.replicate k 48 := by
  induction k with
  | zero => rfl
  | succ k ih =>
    rw [List.replicate_succ', dk, Nat.zero_div, ih]
    rfl
theorem dk_cons (k n : Nat) : dk (k + 1) n = UInt8.ofNat (48 + n / 10 ^ k % 10) :: dk k n := by
  induction k generalizing n with
  | zero => simp [dk]
  | succ k ih =>
    rw [dk, ih (n / 10), List.cons_append]
    congr 1
    rw [Nat.div_div_eq_div_mul, Nat.pow_succ, Nat.mul_comm 10]
theorem pad_dk (k n : Nat) (hk : 1 ≤ k) (h : n < 10 ^ k) : (Lib.decDigits n).length ≤ k ∧ List.replicate (k - (Lib.decDigits n).length) 48 ++ Lib.decDigits n = dk k n := by
  induction k generalizing n with
  | zero => omega
  | succ k ih =>
    by_cases hs : n < 10
    · rw [Lib.decDigits_one hs]
      refine ⟨by simp, ?_⟩
      rw [dk, show n / 10 = 0 by omega, dk_zero, show n % 10 = n by omega]
      simp
    · have hk1 : 1 ≤ k := by
        rcases Nat.eq_zero_or_pos k with rfl | h'
        · simp at h; omega
        · exact h'
      rw [Nat.pow_succ] at h
      obtain ⟨a, b⟩ := ih (n / 10) hk1 (by omega)
      rw [Lib.decDigits, dif_neg hs]
      refine ⟨by simp; omega, ?_⟩
      rw [dk, ← b, List.length_append, List.length_singleton, show k + 1 - ((Lib.decDigits (n / 10)).length + 1) = k - (Lib.decDigits (n / 10)).length by omega, List.append_assoc]
theorem repeat_eq (c : Nat) : Lib.repeatL [48] c = List.replicate c 48 := by
  induction c with
  | zero => rfl
  | succ c ih => rw [Lib.repeatL, ih]; rfl
/-- Digits keep the order of numbers. -/
theorem digit_lt {a b : Nat} (ha : a < 10) (hb : b < 10) : UInt8.ofNat (48 + a) < UInt8.ofNat (48 + b) ↔ a < b := by
  rw [UInt8.lt_iff_toNat_lt, UInt8.toNat_ofNat', UInt8.toNat_ofNat']
  omega
theorem digit_inj {a b : Nat} (ha : a < 10) (hb : b < 10) (h : UInt8.ofNat (48 + a) = UInt8.ofNat (48 + b)) : a = b := by
  have := congrArg UInt8.toNat h
  rw [UInt8.toNat_ofNat', UInt8.toNat_ofNat'] at this
  omega
theorem dk_mod (k n : Nat) : dk k (n % 10 ^ k) = dk k n := by
  induction k generalizing n with
  | zero => rfl
  | succ k ih =>
    rw [dk, dk, ← ih (n / 10), ← ih (n % 10 ^ (k + 1) / 10)]
    have e1 : n % 10 ^ (k + 1) / 10 % 10 ^ k = n / 10 % 10 ^ k := by
      rw [Nat.pow_succ, Nat.mul_comm, Nat.mod_mul_right_div_self, Nat.mod_mod]
    have e2 : n % 10 ^ (k + 1) % 10 = n % 10 := by
      rw [Nat.pow_succ, Nat.mul_comm, Nat.mod_mul_right_mod]
    rw [e1, e2]
theorem dk_lt (k : Nat) : ∀ a b : Nat, a < 10 ^ k → b < 10 ^ k → (a < b ↔ dk k a < dk k b) := by
  induction k with
  | zero => intro a b ha hb; simp at ha hb; simp [ha, hb, dk]
  | succ k ih =>
    intro a b ha hb
    have hp : 0 < 10 ^ k := Nat.pow_pos (by decide)
    have qa : a / 10 ^ k < 10 := by rw [Nat.div_lt_iff_lt_mul hp, Nat.mul_comm, ← Nat.pow_succ]; exact ha
    have qb : b / 10 ^ k < 10 := by rw [Nat.div_lt_iff_lt_mul hp, Nat.mul_comm, ← Nat.pow_succ]; exact hb
    have ea := Nat.div_add_mod a (10 ^ k)
    have eb := Nat.div_add_mod b (10 ^ k)
    have ra := Nat.mod_lt a hp
    have rb := Nat.mod_lt b hp
    have i := ih (a % 10 ^ k) (b % 10 ^ k) ra rb
    rw [dk_mod, dk_mod] at i
    rw [dk_cons, dk_cons, Nat.mod_eq_of_lt qa, Nat.mod_eq_of_lt qb, List.cons_lt_cons_iff, digit_lt qa qb, ← i]
    generalize a / 10 ^ k = x at *
    generalize b / 10 ^ k = y at *
    generalize a % 10 ^ k = u at *
    generalize b % 10 ^ k = v at *
    generalize 10 ^ k = p at *
    constructor
    · intro h
      rcases Nat.lt_trichotomy x y with hx | hx | hx
      · exact .inl hx
      · subst hx; exact .inr ⟨rfl, by omega⟩
      · have : p * (y + 1) ≤ p * x := Nat.mul_le_mul_left p hx
        rw [Nat.mul_add] at this
        omega
    · rintro (hx | ⟨hx, hy⟩)
      · have : p * (x + 1) ≤ p * y := Nat.mul_le_mul_left p hx
        rw [Nat.mul_add] at this
        omega
      · have := digit_inj qa qb hx
        subst this
        omega
theorem dk_inj (k a b : Nat) (ha : a < 10 ^ k) (hb : b < 10 ^ k) (h : dk k a = dk k b) : a = b := by
  have h1 := dk_lt k a b ha hb
  have h2 := dk_lt k b a hb ha
  rw [h] at h1 h2
  have h3 : ¬ dk k b < dk k b := List.lt_irrefl _
  have h4 : ¬ a < b := fun x => h3 (h1.1 x)
  have h5 : ¬ b < a := fun x => h3 (h2.1 x)
  omega
/-- A path with ten digits behind it. -/
def sufOf (l : List UInt8) (n : Int) : Option (List UInt8) := match names l with
  | some ls => if ls = [] ∨ n < 0 ∨ 9999999999 < n then none else if (names (l ++ dk 10 n.toNat)).isSome = true then some (l ++ dk 10 n.toNat) else none
  | none => none
end Go.Proofs.YtnpenabkmpoafaaDoor
