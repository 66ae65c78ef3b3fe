/- Reading a number, as plain arithmetic. No program in it. -/
import Derived.Test.YtlkcooedlkhacaaDoorPut
namespace Go.Proofs.YtlkcooedlkhacaaDoor
/-- The number in groups of seven bits, the lowest first. -/
def valOf : List UInt8 → Nat
  | [] => 0
  | b :: s => b.toNat % 128 + 128 * valOf s
/-- What stands at the head of s: the number, how many bytes it has, the error. -/
def numOf (s : List UInt8) : Nat × Nat × Nat :=
  match (s.take 9).findIdx? (fun b => decide (b.toNat < 128)) with
  | none => if s.length < 9 then (0, 0, 12) else (0, 0, 13)
  | some j => if (0 < j ∧ s.getD j 0 = 0) ∨ 4611686018427387903 < valOf (s.take (j + 1)) then (0, 0, 13) else (valOf (s.take (j + 1)), j + 1, 0)
/-- What Number tells at a place. -/
def numAt (l : List UInt8) (at_ : Int) : Int × Int × Int :=
  if at_ < 0 ∨ (l.length : Int) < at_ then (0, 0, 11)
  else match numOf (l.drop at_.toNat) with
    | (n, c, 0) => ((n : Int), at_ + c, 0)
    | (_, _, e) => (0, 0, (e : Int))

theorem numOf_low {s : List UInt8} {k : Nat} (hk : k < s.length) (h9 : k < 9) (hall : ∀ j (h : j < k), 128 ≤ (s[j]'(by omega)).toNat) (hlow : s[k].toNat < 128) :
    numOf s = if (0 < k ∧ s[k] = 0) ∨ 4611686018427387903 < valOf (s.take (k + 1)) then (0, 0, 13) else (valOf (s.take (k + 1)), k + 1, 0) := by
  have h : (s.take 9).findIdx? (fun b => decide (b.toNat < 128)) = some k := by
    rw [List.findIdx?_eq_some_iff_getElem]
    refine ⟨by simp; omega, by simpa using hlow, fun j hj => ?_⟩
    have := hall j hj
    simp
    omega
  unfold numOf
  rw [h]
  simp only [List.getD_eq_getElem?_getD, List.getElem?_eq_getElem hk, Option.getD_some]
theorem numOf_none {s : List UInt8} (hall : ∀ j (h : j < s.length), j < 9 → 128 ≤ s[j].toNat) : numOf s = if s.length < 9 then (0, 0, 12) else (0, 0, 13) := by
  have h : (s.take 9).findIdx? (fun b => decide (b.toNat < 128)) = none := by
    rw [List.findIdx?_eq_none_iff]
    intro x hx
    obtain ⟨j, hj, rfl⟩ := List.mem_iff_getElem.1 hx
    rw [List.length_take] at hj
    have := hall j (by omega) (by omega)
    simp
    omega
  unfold numOf
  rw [h]
theorem numAt_bad {l : List UInt8} {a : Int} (h : a < 0 ∨ (l.length : Int) < a) : numAt l a = (0, 0, 11) := by unfold numAt; rw [if_pos h]
theorem numAt_good {l : List UInt8} {a : Nat} (h : a ≤ l.length) : numAt l (a : Int) = match numOf (l.drop a) with
    | (n, c, 0) => ((n : Int), (a : Int) + c, 0)
    | (_, _, e) => (0, 0, (e : Int)) := by
  unfold numAt; rw [if_neg (by omega), Int.toNat_natCast]
theorem valOf_snoc (s : List UInt8) (b : UInt8) : valOf (s ++ [b]) = valOf s + 128 ^ s.length * (b.toNat % 128) := by
  induction s with
  | nil => simp [valOf]
  | cons c s ih => rw [List.cons_append, valOf, valOf, ih, List.length_cons, Nat.pow_succ, Nat.mul_add, ← Nat.mul_assoc, Nat.mul_comm 128 (128 ^ s.length), Nat.add_assoc]
theorem valOf_lt (s : List UInt8) : valOf s < 128 ^ s.length := by
  induction s with
  | nil => simp [valOf]
  | cons b s ih =>
    rw [valOf, List.length_cons, Nat.pow_succ]
    have := Nat.mod_lt b.toNat (show 0 < 128 by decide)
    omega
theorem valOf_take_succ (s : List UInt8) (k : Nat) (h : k < s.length) : valOf (s.take (k + 1)) = valOf (s.take k) + 128 ^ k * (s[k].toNat % 128) := by
  rw [List.take_succ_eq_append_getElem h, valOf_snoc, List.length_take, Nat.min_eq_left (Nat.le_of_lt h)]
theorem valOf_take_lt (s : List UInt8) (k : Nat) (h : k ≤ s.length) : valOf (s.take k) < 128 ^ k := by
  have := valOf_lt (s.take k)
  rwa [List.length_take, Nat.min_eq_left h] at this
theorem pow128 (k : Nat) : (128 : Nat) ^ k = 2 ^ (7 * k) := by rw [show (128 : Nat) = 2 ^ 7 by decide, ← Nat.pow_mul]
theorem pow128_le {k m : Nat} (h : k ≤ m) : (128 : Nat) ^ k ≤ 128 ^ m := Nat.pow_le_pow_right (by decide) h
/-- 'n | x << 7i' is a sum: n lies below the bits of x. -/
theorem or_shift (n x k : Nat) (hn : n < 128 ^ k) : n ||| x * 2 ^ (7 * k) = n + 128 ^ k * x := by
  rw [Nat.or_comm, nat_join (7 * k) (x * 2 ^ (7 * k)) n (Nat.mul_mod_left _ _) (by rw [← pow128]; exact hn), pow128, Nat.mul_comm]
  omega
/-- Of nine groups the last alone tells whether the number is too great. -/
theorem too_great (s : List UInt8) (k : Nat) (h : k < s.length) (h9 : k < 9) (hlow : s[k].toNat < 128) : (4611686018427387903 < valOf (s.take (k + 1))) ↔ (k = 8 ∧ 63 < s[k].toNat) := by
  rw [valOf_take_succ s k h, Nat.mod_eq_of_lt hlow]
  have hlt := valOf_take_lt s k (by omega)
  by_cases e : k = 8
  · subst e
    have : (128 : Nat) ^ 8 = 72057594037927936 := by decide
    rw [this] at hlt ⊢
    constructor
    · intro h1; exact ⟨rfl, by omega⟩
    · intro h1; omega
  · have h1 : (128 : Nat) ^ k * s[k].toNat ≤ 128 ^ k * 127 := Nat.mul_le_mul_left _ (by omega)
    have h2 : (128 : Nat) ^ (k + 1) ≤ 128 ^ 8 := pow128_le (by omega)
    have h3 : (128 : Nat) ^ 8 = 72057594037927936 := by decide
    rw [Nat.pow_succ] at h2
    constructor
    · intro h4; omega
    · intro h4; exact absurd h4.1 e
theorem getD_all {s : List UInt8} {k : Nat} (hk : k ≤ s.length) (h : ∀ j, j < k → 128 ≤ (s.getD j 0).toNat) : ∀ j (hj : j < k), 128 ≤ (s[j]'(by omega)).toNat := fun j hj => by
  have := h j hj
  rwa [List.getD_eq_getElem?_getD, List.getElem?_eq_getElem (by omega), Option.getD_some] at this
theorem numAt_low_bad {l : List UInt8} {a k : Nat} (h : a ≤ l.length) (hk : k < (l.drop a).length) (h9 : k < 9) (hall : ∀ j, j < k → 128 ≤ ((l.drop a).getD j 0).toNat) (hlow : (l.drop a)[k].toNat < 128)
    (hbad : (0 < k ∧ (l.drop a)[k] = 0) ∨ 4611686018427387903 < valOf ((l.drop a).take (k + 1))) : numAt l (a : Int) = (0, 0, 13) := by
  rw [numAt_good h, numOf_low hk h9 (getD_all (Nat.le_of_lt hk) hall) hlow, if_pos hbad]; rfl
theorem numAt_low_good {l : List UInt8} {a k : Nat} (h : a ≤ l.length) (hk : k < (l.drop a).length) (h9 : k < 9) (hall : ∀ j, j < k → 128 ≤ ((l.drop a).getD j 0).toNat) (hlow : (l.drop a)[k].toNat < 128)
    (hgood : ¬ ((0 < k ∧ (l.drop a)[k] = 0) ∨ 4611686018427387903 < valOf ((l.drop a).take (k + 1)))) : numAt l (a : Int) = (((valOf ((l.drop a).take (k + 1)) : Nat) : Int), (a : Int) + k + 1, 0) := by
  rw [numAt_good h, numOf_low hk h9 (getD_all (Nat.le_of_lt hk) hall) hlow, if_neg hgood]
  show (_, (a : Int) + ((k + 1 : Nat) : Int), _) = _
  rw [Int.natCast_add, Int.add_assoc]; rfl
theorem numAt_short {l : List UInt8} {a : Nat} (h : a ≤ l.length) (h9 : l.length < a + 9) (hall : ∀ j, j < l.length - a → 128 ≤ ((l.drop a).getD j 0).toNat) : numAt l (a : Int) = (0, 0, 12) := by
  rw [numAt_good h, numOf_none (fun j hj _ => getD_all (k := l.length - a) (by simp) hall j (by simpa using hj)), if_pos (by simp; omega)]; rfl
theorem numAt_long {l : List UInt8} {a : Nat} (h9 : a + 9 ≤ l.length) (hall : ∀ j, j < 9 → 128 ≤ ((l.drop a).getD j 0).toNat) : numAt l (a : Int) = (0, 0, 13) := by
  rw [numAt_good (by omega), numOf_none (fun j _ h => getD_all (k := 9) (by simp; omega) hall j h), if_neg (by simp; omega)]; rfl
theorem getD_all_succ {s : List UInt8} {k : Nat} (hk : k < s.length) (h : ∀ j, j < k → 128 ≤ (s.getD j 0).toNat) (hx : 128 ≤ s[k].toNat) : ∀ j, j < k + 1 → 128 ≤ (s.getD j 0).toNat := fun j hj => by
  by_cases e : j < k
  · exact h j e
  · obtain rfl : j = k := by omega
    rwa [List.getD_eq_getElem?_getD, List.getElem?_eq_getElem hk, Option.getD_some]
end Go.Proofs.YtlkcooedlkhacaaDoor
