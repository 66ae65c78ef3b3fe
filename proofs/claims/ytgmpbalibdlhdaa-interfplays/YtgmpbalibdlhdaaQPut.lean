/- A number's form, as plain arithmetic. No program in it. -/
import Derived.Laws.BitsAllLaws
namespace Go.Proofs.Ytgmpbalibdlhdaa
/-- The bytes of a number of at most k groups. -/
def putF : Nat → Nat → List UInt8
  | 0, _ => []
  | k + 1, n => if n < 128 then [UInt8.ofNat n] else UInt8.ofNat (128 + n % 128) :: putF k (n / 128)
/-- The bytes of a number. -/
def put (n : Nat) : List UInt8 := putF 9 n
/-- The greatest number, and who is none. -/
def maxNum : Nat := 4611686018427387903
def okNum (n : Int) : Bool := decide (0 ≤ n) && decide (n ≤ 4611686018427387903)
theorem putF_short {k n : Nat} (h : n < 128) : putF (k + 1) n = [UInt8.ofNat n] := by simp [putF, h]
theorem putF_long {k n : Nat} (h : ¬ n < 128) : putF (k + 1) n = UInt8.ofNat (128 + n % 128) :: putF k (n / 128) := by simp [putF, h]
theorem putF_len (k : Nat) : ∀ n, (putF k n).length ≤ k := by
  induction k with
  | zero => intro n; simp [putF]
  | succ k ih =>
    intro n
    by_cases h : n < 128
    · rw [putF_short h]; simp
    · rw [putF_long h]; have := ih (n / 128); simp; omega
theorem pow_step {k n : Nat} (h : n < 128 ^ (k + 1)) : n / 128 < 128 ^ k := by
  rw [Nat.pow_succ] at h
  exact Nat.div_lt_of_lt_mul (by rw [Nat.mul_comm]; exact h)
theorem byte_low (n : Nat) (h : n < 128) : (UInt8.ofNat n).toNat = n := by rw [UInt8.toNat_ofNat']; omega
theorem byte_more (n : Nat) : (UInt8.ofNat (128 + n % 128)).toNat = 128 + n % 128 := by rw [UInt8.toNat_ofNat']; omega
/-- 'byte(n) | 128', as the model spells it. -/
theorem or_more (n : Nat) : bits BinOp.or IntKind.u8 ((n : Int) % 256) 128 = ((128 + n % 128 : Nat) : Int) := by
  have e : ((n : Int) % 256) = ((n % 256 : Nat) : Int) := by omega
  have h := u8_or_nat (n % 256) 128 (by omega) (by decide)
  rw [e]
  refine h.trans ?_
  congr 1
  have h1 : n % 256 = 128 * (n % 256 / 128) + n % 128 := by omega
  have h2 : n % 256 / 128 = 0 ∨ n % 256 / 128 = 1 := by omega
  have h3 : n % 128 ||| 128 = 128 + n % 128 := by
    rw [Nat.or_comm]
    exact nat_join 7 128 (n % 128) (by decide) (by omega)
  rcases h2 with h2 | h2 <;> rw [h2] at h1
  · rw [show n % 256 = n % 128 by omega]; exact h3
  · rw [show n % 256 = 128 ||| n % 128 by rw [Nat.or_comm, h3]; omega, Nat.or_assoc, h3, ← h3, Nat.or_comm, Nat.or_assoc, Nat.or_self]
end Go.Proofs.Ytgmpbalibdlhdaa
