/- The checksum as plain arithmetic on natural numbers: its rounds, that they stay below 2^32, and that none of them forgets anything. No program in it. -/
import Derived.Laws.BitsAllLaws
namespace Go.Proofs.YtlkcooedlkhacaaDoor

def crcBit (s : Nat) : Nat := (s / 2) ^^^ (s % 2 * 3988292384)
def crcBits : Nat → Nat → Nat
  | 0, s => s
  | k + 1, s => crcBits k (crcBit s)
def crcStep (s : Nat) (b : UInt8) : Nat := crcBits 8 (s ^^^ b.toNat)
def crcRun (s : Nat) (l : List UInt8) : Nat := l.foldl crcStep s
def crc (l : List UInt8) : Nat := 4294967295 - crcRun 4294967295 l

theorem crcBit_lt {s : Nat} (h : s < 4294967296) : crcBit s < 4294967296 := by
  unfold crcBit
  exact Nat.xor_lt_two_pow (n := 32) (by omega) (by omega)
theorem crcBits_lt (k : Nat) : ∀ {s : Nat}, s < 4294967296 → crcBits k s < 4294967296 := by
  induction k with
  | zero => intro s h; exact h
  | succ k ih => intro s h; exact ih (crcBit_lt h)
theorem xor_byte_lt {s : Nat} (h : s < 4294967296) (b : UInt8) : s ^^^ b.toNat < 4294967296 :=
  Nat.xor_lt_two_pow (n := 32) (by omega) (by have := b.toNat_lt; omega)
theorem crcStep_lt {s : Nat} (h : s < 4294967296) (b : UInt8) : crcStep s b < 4294967296 := crcBits_lt 8 (xor_byte_lt h b)
theorem crcRun_lt (l : List UInt8) : ∀ {s : Nat}, s < 4294967296 → crcRun s l < 4294967296 := by
  induction l with
  | nil => intro s h; exact h
  | cons b l ih => intro s h; exact ih (crcStep_lt h b)
theorem crcRun_append (s : Nat) (l m : List UInt8) : crcRun s (l ++ m) = crcRun (crcRun s l) m := by simp [crcRun]
theorem crcRun_snoc (s : Nat) (l : List UInt8) (b : UInt8) : crcRun s (l ++ [b]) = crcStep (crcRun s l) b := by simp [crcRun]
theorem crcBits_snoc (k s : Nat) : crcBits (k + 1) s = crcBit (crcBits k s) := by
  induction k generalizing s with
  | zero => rfl
  | succ k ih => exact ih (crcBit s)

/-- The top bit of a round's result tells the bit that was shifted out, so no round forgets anything. -/
theorem crcBit_inj {s t : Nat} (hs : s < 4294967296) (ht : t < 4294967296) (h : crcBit s = crcBit t) : s = t := by
  unfold crcBit at h
  have e1 : s % 2 = 0 ∨ s % 2 = 1 := by omega
  have e2 : t % 2 = 0 ∨ t % 2 = 1 := by omega
  have top : ∀ x, x < 2147483648 → (x ^^^ 3988292384).testBit 31 = true := fun x hx => by
    rw [Nat.testBit_xor, Nat.testBit_lt_two_pow (x := x) (i := 31) (by omega)]; decide
  have low : ∀ x, x < 2147483648 → x.testBit 31 = false := fun x hx => Nat.testBit_lt_two_pow (by omega)
  rcases e1 with e1 | e1 <;> rcases e2 with e2 | e2 <;> rw [e1, e2] at h <;> simp only [Nat.zero_mul, Nat.one_mul, Nat.xor_zero] at h
  · omega
  · exact absurd (congrArg (Nat.testBit · 31) h) (by simp only [top _ (show t / 2 < 2147483648 by omega), low _ (show s / 2 < 2147483648 by omega)]; decide)
  · exact absurd (congrArg (Nat.testBit · 31) h) (by simp only [top _ (show s / 2 < 2147483648 by omega), low _ (show t / 2 < 2147483648 by omega)]; decide)
  · have h2 := congrArg (· ^^^ 3988292384) h
    simp only [Nat.xor_assoc, Nat.xor_self, Nat.xor_zero] at h2
    omega
theorem crcBits_inj (k : Nat) : ∀ {s t : Nat}, s < 4294967296 → t < 4294967296 → crcBits k s = crcBits k t → s = t := by
  induction k with
  | zero => intro s t _ _ h; exact h
  | succ k ih => intro s t hs ht h; exact crcBit_inj hs ht (ih (crcBit_lt hs) (crcBit_lt ht) h)
theorem xor_left_inj {a b c : Nat} (h : a ^^^ c = b ^^^ c) : a = b := by
  have h2 := congrArg (· ^^^ c) h
  simpa [Nat.xor_assoc] using h2
theorem crcStep_inj {s t : Nat} (hs : s < 4294967296) (ht : t < 4294967296) {b : UInt8} (h : crcStep s b = crcStep t b) : s = t :=
  xor_left_inj (crcBits_inj 8 (xor_byte_lt hs b) (xor_byte_lt ht b) h)
theorem crcStep_inj_byte {s : Nat} (hs : s < 4294967296) {b c : UInt8} (h : crcStep s b = crcStep s c) : b = c := by
  have h1 := crcBits_inj 8 (xor_byte_lt hs b) (xor_byte_lt hs c) h
  rw [Nat.xor_comm s, Nat.xor_comm s] at h1
  exact UInt8.toNat_inj.1 (xor_left_inj h1)
theorem crcRun_inj (l : List UInt8) : ∀ {s t : Nat}, s < 4294967296 → t < 4294967296 → crcRun s l = crcRun t l → s = t := by
  induction l with
  | nil => intro s t _ _ h; exact h
  | cons b l ih => intro s t hs ht h; exact crcStep_inj hs ht (ih (crcStep_lt hs b) (crcStep_lt ht b) h)
/-- One byte that is another one makes another sum. -/
theorem crc_byte_ne (l m : List UInt8) {b c : UInt8} (h : b ≠ c) : crc (l ++ b :: m) ≠ crc (l ++ c :: m) := by
  intro e
  have h0 : (4294967295 : Nat) < 4294967296 := by decide
  have hl := crcRun_lt l h0
  unfold crc at e
  have e1 : ∀ x, crcRun 4294967295 (l ++ x :: m) = crcRun (crcStep (crcRun 4294967295 l) x) m := fun x => by simp [crcRun]
  rw [e1, e1] at e
  have k1 := crcRun_lt m (crcStep_lt hl b)
  have k2 := crcRun_lt m (crcStep_lt hl c)
  have e2 : crcRun (crcStep (crcRun 4294967295 l) b) m = crcRun (crcStep (crcRun 4294967295 l) c) m := by omega
  exact h (crcStep_inj_byte hl (crcRun_inj m (crcStep_lt hl b) (crcStep_lt hl c) e2))
theorem crc_le (l : List UInt8) : crc l ≤ 4294967295 := Nat.sub_le _ _
theorem crc_awake : crc [49, 50, 51, 52, 53, 54, 55, 56, 57] = 3421780262 := by decide +kernel

theorem xor_ones (s : Nat) (h : s < 4294967296) : 4294967295 ^^^ s = 4294967295 - s := by
  have e : 4294967295 - s = 2 ^ 32 - (s + 1) := by omega
  rw [e]
  apply Nat.eq_of_testBit_eq
  intro i
  rw [Nat.testBit_xor, Nat.testBit_two_pow_sub_succ (by omega), show (4294967295 : Nat) = 2 ^ 32 - 1 by decide, Nat.testBit_two_pow_sub_one]
  by_cases hi : i < 32
  · simp [hi]
  · have : s.testBit i = false := Nat.testBit_lt_two_pow (Nat.lt_of_lt_of_le h (Nat.pow_le_pow_right (n := 2) (i := 32) (by decide) (by omega)))
    simp [hi, this]
theorem u32_not (s : Nat) (h : s < 4294967296) : bits BinOp.xor IntKind.u32 IntKind.u32.max (s : Int) = ((4294967295 - s : Nat) : Int) := by
  have e : IntKind.u32.max = ((4294967295 : Nat) : Int) := rfl
  rw [e, u32_xor_nat _ _ (by decide) h, xor_ones s h]
/-- The rounds as the model spells them. -/
theorem u32_round (s : Nat) (h : s < 4294967296) :
    bits BinOp.xor IntKind.u32 ((s : Int) / 2) (bits BinOp.and IntKind.u32 (s : Int) 1 * 3988292384 % 4294967296) = (crcBit s : Int) := by
  have h1 : bits BinOp.and IntKind.u32 (s : Int) 1 = ((s % 2 : Nat) : Int) := by
    have := u32_and_nat s 1 h (by decide)
    rw [nat_mask1] at this
    exact this
  rw [h1]
  have h2 : ((s : Int) / 2) = ((s / 2 : Nat) : Int) := by omega
  have h3 : ((s % 2 : Nat) : Int) * 3988292384 % 4294967296 = ((s % 2 * 3988292384 : Nat) : Int) := by omega
  rw [h2, h3, u32_xor_nat _ _ (by omega) (by omega)]
  rfl

theorem i64_xor_nat (a b : Nat) (ha : a < 9223372036854775808) (hb : b < 9223372036854775808) : bits .xor .i64 (a : Int) (b : Int) = ((a ^^^ b : Nat) : Int) := by
  have hx : a ^^^ b < 2 ^ 63 := Nat.xor_lt_two_pow (by omega) (by omega)
  show IntKind.i64.wrap ((BitVec.ofInt 64 (a : Int) ^^^ BitVec.ofInt 64 (b : Int)).toNat : Int) = _
  rw [BitVec.toNat_xor, ofInt_u64 a (by omega), ofInt_u64 b (by omega)]
  simp [IntKind.wrap, IntKind.bits, IntKind.signed]
  omega
theorem i64_or_nat (a b : Nat) (ha : a < 9223372036854775808) (hb : b < 9223372036854775808) : bits .or .i64 (a : Int) (b : Int) = ((a ||| b : Nat) : Int) := by
  have hx : a ||| b < 2 ^ 63 := Nat.or_lt_two_pow (by omega) (by omega)
  show IntKind.i64.wrap ((BitVec.ofInt 64 (a : Int) ||| BitVec.ofInt 64 (b : Int)).toNat : Int) = _
  rw [BitVec.toNat_or, ofInt_u64 a (by omega), ofInt_u64 b (by omega)]
  simp [IntKind.wrap, IntKind.bits, IntKind.signed]
  omega
end Go.Proofs.YtlkcooedlkhacaaDoor
