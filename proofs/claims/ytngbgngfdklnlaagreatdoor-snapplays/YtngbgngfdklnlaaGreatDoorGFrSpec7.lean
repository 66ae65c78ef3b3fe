/- Frames: what they are. No program in it. Opening a frame, as plain arithmetic. A frame in which one bit of the payload or of the sum has been turned is not taken. No program in it. A number's form, as plain arithmetic. No program in it. Reading a number, as plain arithmetic. No program in it. What is read as a number is what is written for it, and the other way round. No program in it. What a log can hold of its files, in plain lists. No program in it. -/
import Derived.Test.YtngbgngfdklnlaaGreatDoorQFld
import Derived.Test.YtngbgngfdklnlaaGreatDoorGCrc3
import Derived.Laws.BitsAllLaws
import Derived.Test.YtngbgngfdklnlaaGreatDoorGDPure2
set_option linter.unusedSimpArgs false
namespace Go.Proofs.YtngbgngfdklnlaaGreatDoor
def frameOf (p : List UInt8) : List UInt8 := le4 p.length ++ (le4 (crc (le4 p.length ++ p)) ++ p)
def frRes (p : List UInt8) : List UInt8 := if 65536 < p.length then [] else frameOf p
def frErr (p : List UInt8) : Int := if 65536 < p.length then 14 else 0
theorem Bts.form {w : World} {v : Value} {l : List UInt8} (h : Bts w v l) : ∃ A c, v = .slice A l.length c := by
  obtain ⟨A, c, rfl, -⟩ := h
  exact ⟨A, c, rfl⟩
theorem le4_len (n : Nat) : (le4 n).length = 4 := rfl
theorem frameOf_len (p : List UInt8) : (frameOf p).length = 8 + p.length := by
  unfold frameOf; rw [List.length_append, List.length_append, le4_len, le4_len]; omega
end Go.Proofs.YtngbgngfdklnlaaGreatDoor
namespace Go.Proofs.YtngbgngfdklnlaaGreatDoor
def unOf (s : List UInt8) (a : Int) : List UInt8 × Int × Int :=
  if s.length < 8 then ([], 0, 12) else if 65536 < val4 s then ([], 0, 14) else if s.length < 8 + val4 s then ([], 0, 12)
  else if crc (s.take 4 ++ (s.drop 8).take (val4 s)) = val4 (s.drop 4) then ((s.drop 8).take (val4 s), a + 8 + (val4 s : Nat), 0) else ([], 0, 15)
/-- What Unframe tells at a place: the payload, the place behind it, the error. -/
def unAt (l : List UInt8) (a : Int) : List UInt8 × Int × Int := if a < 0 ∨ (l.length : Int) < a then ([], 0, 11) else unOf (l.drop a.toNat) a
theorem unAt_bad {l : List UInt8} {a : Int} (h : a < 0 ∨ (l.length : Int) < a) : unAt l a = ([], 0, 11) := by unfold unAt; rw [if_pos h]
theorem unAt_good {l : List UInt8} {a : Nat} (h : a ≤ l.length) : unAt l (a : Int) = unOf (l.drop a) a := by unfold unAt; rw [if_neg (by omega), Int.toNat_natCast]
theorem unOf_short {s : List UInt8} {a : Int} (h : s.length < 8) : unOf s a = ([], 0, 12) := by unfold unOf; rw [if_pos h]
theorem unOf_long {s : List UInt8} {a : Int} (h : ¬ s.length < 8) (h1 : 65536 < val4 s) : unOf s a = ([], 0, 14) := by unfold unOf; rw [if_neg h, if_pos h1]
theorem unOf_part {s : List UInt8} {a : Int} (h : ¬ s.length < 8) (h1 : ¬ 65536 < val4 s) (h2 : s.length < 8 + val4 s) : unOf s a = ([], 0, 12) := by unfold unOf; rw [if_neg h, if_neg h1, if_pos h2]
theorem unOf_sum {s : List UInt8} {a : Int} (h : ¬ s.length < 8) (h1 : ¬ 65536 < val4 s) (h2 : ¬ s.length < 8 + val4 s) (h3 : ¬ crc (s.take 4 ++ (s.drop 8).take (val4 s)) = val4 (s.drop 4)) : unOf s a = ([], 0, 15) := by unfold unOf; rw [if_neg h, if_neg h1, if_neg h2, if_neg h3]
theorem unOf_ok {s : List UInt8} {a : Int} (h : ¬ s.length < 8) (h1 : ¬ 65536 < val4 s) (h2 : ¬ s.length < 8 + val4 s) (h3 : crc (s.take 4 ++ (s.drop 8).take (val4 s)) = val4 (s.drop 4)) : unOf s a = ((s.drop 8).take (val4 s), a + 8 + (val4 s : Nat), 0) := by unfold unOf; rw [if_neg h, if_neg h1, if_neg h2, if_pos h3]
end Go.Proofs.YtngbgngfdklnlaaGreatDoor
namespace Go.Proofs.YtngbgngfdklnlaaGreatDoor
/-- The bytes with one of them turned. -/
def turned (s : List UInt8) (k : Nat) (b : UInt8) : List UInt8 := s.set k (s.getD k 0 ^^^ b)
theorem byte_xor_ne (x b : UInt8) (h : b ≠ 0) : x ^^^ b ≠ x := by
  intro e
  apply h
  have h1 := congrArg (x ^^^ ·) e
  simp only [← UInt8.xor_assoc, UInt8.xor_self, UInt8.zero_xor] at h1
  exact h1
theorem set_split (s : List UInt8) (k : Nat) (y : UInt8) (h : k < s.length) : s.set k y = s.take k ++ y :: s.drop (k + 1) := by
  rw [List.set_eq_take_append_cons_drop, if_pos h]
theorem split_at (s : List UInt8) (k : Nat) (h : k < s.length) : s = s.take k ++ s[k] :: s.drop (k + 1) := by
  rw [← List.drop_eq_getElem_cons h, List.take_append_drop]
/-- A turned byte of the payload makes another sum. -/
theorem crc_turned (h s : List UInt8) (k : Nat) (y : UInt8) (hk : k < s.length) (hy : y ≠ s[k]) : crc (h ++ s.set k y) ≠ crc (h ++ s) := by
  rw [set_split s k y hk]
  conv => rhs; rw [split_at s k hk]
  rw [← List.append_assoc, ← List.append_assoc]
  exact crc_byte_ne _ _ hy
theorem val4_set (s : List UInt8) (k : Nat) (y : UInt8) (hk : k < 4) (hl : 4 ≤ s.length) (hy : y ≠ s.getD k 0) : val4 (s.set k y) ≠ val4 s := by
  have e : ∀ j, (s.set k y).getD j 0 = if k = j then y else s.getD j 0 := fun j => by
    simp only [List.getD_eq_getElem?_getD, List.getElem?_set]
    by_cases h : k = j
    · subst h; simp [show k < s.length by omega]
    · simp [h]
  intro h
  apply hy
  apply UInt8.toNat_inj.1
  unfold val4 at h
  rw [e, e, e, e] at h
  have h0 := (s.getD 0 0).toNat_lt; have h1 := (s.getD 1 0).toNat_lt; have h2 := (s.getD 2 0).toNat_lt; have h3 := (s.getD 3 0).toNat_lt; have hyy := y.toNat_lt
  match k, hk with
  | 0, _ => rw [if_pos rfl, if_neg (by decide), if_neg (by decide), if_neg (by decide)] at h; omega
  | 1, _ => rw [if_neg (by decide), if_pos rfl, if_neg (by decide), if_neg (by decide)] at h; omega
  | 2, _ => rw [if_neg (by decide), if_neg (by decide), if_pos rfl, if_neg (by decide)] at h; omega
  | 3, _ => rw [if_neg (by decide), if_neg (by decide), if_neg (by decide), if_pos rfl] at h; omega
theorem take4_frame (p : List UInt8) : (frameOf p).take 4 = le4 p.length := by unfold frameOf; rw [List.take_append_of_le_length (by rw [le4_len]; decide), List.take_of_length_le (by rw [le4_len]; decide)]
theorem drop4_frame (p : List UInt8) : (frameOf p).drop 4 = le4 (crc (le4 p.length ++ p)) ++ p := by unfold frameOf; rw [List.drop_append_of_le_length (by rw [le4_len]; decide), List.drop_eq_nil_of_le (by rw [le4_len]; decide), List.nil_append]
theorem drop8_frame (p : List UInt8) : (frameOf p).drop 8 = p := by
  have : (frameOf p).drop 8 = ((frameOf p).drop 4).drop 4 := by rw [List.drop_drop]
  rw [this, drop4_frame, List.drop_append_of_le_length (by rw [le4_len]; decide), List.drop_eq_nil_of_le (by rw [le4_len]; decide), List.nil_append]
theorem val4_frame (p : List UInt8) (h : p.length ≤ 65536) : val4 (frameOf p) = p.length := by unfold frameOf; exact val4_le4 _ (by omega) _
theorem val4_sum (p : List UInt8) : val4 ((frameOf p).drop 4) = crc (le4 p.length ++ p) := by
  rw [drop4_frame]; exact val4_le4 _ (by have := crc_le (le4 p.length ++ p); omega) _
/-- The frame as it is is taken. -/
theorem unOf_frame (p s : List UInt8) (a : Int) (h : p.length ≤ 65536) : unOf (frameOf p ++ s) a = (p, a + 8 + (p.length : Nat), 0) := by
  have hl := frameOf_len p
  have e0 : val4 (frameOf p ++ s) = p.length := by unfold frameOf; rw [List.append_assoc]; exact val4_le4 _ (by omega) _
  have e4 : val4 ((frameOf p ++ s).drop 4) = crc (le4 p.length ++ p) := by
    rw [List.drop_append_of_le_length (by omega), drop4_frame, List.append_assoc]; exact val4_le4 _ (by have := crc_le (le4 p.length ++ p); omega) _
  have et : (frameOf p ++ s).take 4 = le4 p.length := by rw [List.take_append_of_le_length (by omega), take4_frame]
  have eb : ((frameOf p ++ s).drop 8).take p.length = p := by rw [List.drop_append_of_le_length (by omega), drop8_frame, List.take_append_of_le_length (Nat.le_refl _), List.take_length]
  rw [unOf_ok (by rw [List.length_append]; omega) (by rw [e0]; omega) (by rw [e0, List.length_append]; omega) (by rw [e0, e4, et, eb]), e0, eb]
/-- One byte behind the length is turned: it is not taken. -/
theorem unOf_turned (p : List UInt8) (k : Nat) (y : UInt8) (a : Int) (h : p.length ≤ 65536) (hk : 4 ≤ k) (hk8 : k < 8 + p.length) (hy : y ≠ (frameOf p).getD k 0) : unOf ((frameOf p).set k y) a = ([], 0, 15) := by
  have hl := frameOf_len p
  have e0 : val4 ((frameOf p).set k y) = p.length := by
    rw [← val4_frame p h]
    unfold val4
    simp only [List.getD_eq_getElem?_getD]
    rw [List.getElem?_set_ne (by omega), List.getElem?_set_ne (by omega), List.getElem?_set_ne (by omega), List.getElem?_set_ne (by omega)]
  have et : ((frameOf p).set k y).take 4 = le4 p.length := by rw [List.take_set_of_le (by omega), take4_frame]
  refine unOf_sum (by rw [List.length_set]; omega) (by rw [e0]; omega) (by rw [e0, List.length_set]; omega) ?_
  rw [e0, et]
  by_cases hk4 : k < 8
  · -- the sum is turned
    have ed8 : ((frameOf p).set k y).drop 8 = p := by rw [List.drop_set_of_lt hk4, drop8_frame]
    have ed4 : ((frameOf p).set k y).drop 4 = ((frameOf p).drop 4).set (k - 4) y := by rw [List.drop_set, if_neg (by omega)]
    rw [ed8, ed4, List.take_length, ← val4_sum p]
    intro e
    refine val4_set ((frameOf p).drop 4) (k - 4) y (by omega) (by rw [List.length_drop]; omega) ?_ e.symm
    rw [List.getD_eq_getElem?_getD, List.getElem?_drop, show 4 + (k - 4) = k by omega, ← List.getD_eq_getElem?_getD]
    exact hy
  · -- the payload is turned
    have ed8 : ((frameOf p).set k y).drop 8 = p.set (k - 8) y := by rw [List.drop_set, if_neg (by omega), drop8_frame]
    have ed4 : val4 (((frameOf p).set k y).drop 4) = crc (le4 p.length ++ p) := by
      rw [List.drop_set, if_neg (by omega), ← val4_sum p]
      unfold val4
      simp only [List.getD_eq_getElem?_getD]
      rw [List.getElem?_set_ne (by omega), List.getElem?_set_ne (by omega), List.getElem?_set_ne (by omega), List.getElem?_set_ne (by omega)]
    rw [ed8, ed4, List.take_of_length_le (by rw [List.length_set]; exact Nat.le_refl _)]
    refine crc_turned _ p (k - 8) y (by omega) ?_
    intro e
    apply hy
    have h1 : (frameOf p)[k]? = p[k - 8]? := by
      have := congrArg (·[k - 8]?) (drop8_frame p)
      simp only [List.getElem?_drop] at this
      rwa [show 8 + (k - 8) = k by omega] at this
    rw [List.getD_eq_getElem?_getD, h1, List.getElem?_eq_getElem (by omega), Option.getD_some]
    exact e
end Go.Proofs.YtngbgngfdklnlaaGreatDoor
namespace Go.Proofs.YtngbgngfdklnlaaGreatDoor
/-- The bytes of a number of at most k groups. -/
def putF : Nat → Nat → List UInt8
  | 0, _ => []
  | k + 1, n => if n < 128 then [UInt8.ofNat n] else UInt8.ofNat (128 + n % 128) :: putF k (n / 128)
/-- The bytes of a number. -/
def put (n : Nat) : List UInt8 := putF 9 n
/-- The greatest number, and who is none. -/
def maxNum : Nat := 4611686018427387903
def okNum (n : Int) : Bool := decide (0 ≤ n) && decide (n ≤ 4611686018427387903)
theorem putF_short {k n : Nat} (h : n < 128) : putF (k + 1) n = [UInt8.ofNat n] := by simp [putF, h]
theorem putF_long {k n : Nat} (h : ¬ n < 128) : putF (k + 1) n = UInt8.ofNat (128 + n % 128) :: putF k (n / 128) := by simp [putF, h]
theorem putF_len (k : Nat) : ∀ n, (putF k n).length ≤ k := by
  induction k with
  | zero => intro n; simp [putF]
  | succ k ih =>
    intro n
    by_cases h : n < 128
    · rw [putF_short h]; simp
    · rw [putF_long h]; have := ih (n / 128); simp; omega
theorem pow_step {k n : Nat} (h : n < 128 ^ (k + 1)) : n / 128 < 128 ^ k := by
  rw [Nat.pow_succ] at h
  exact Nat.div_lt_of_lt_mul (by rw [Nat.mul_comm]; exact h)
theorem byte_low (n : Nat) (h : n < 128) : (UInt8.ofNat n).toNat = n := by rw [UInt8.toNat_ofNat']; omega
theorem byte_more (n : Nat) : (UInt8.ofNat (128 + n % 128)).toNat = 128 + n % 128 := by rw [UInt8.toNat_ofNat']; omega
/-- 'byte(n) | 128', as the model spells it. -/
theorem or_more (n : Nat) : bits BinOp.or IntKind.u8 ((n : Int) % 256) 128 = ((128 + n % 128 : Nat) : Int) := by
  have e : ((n : Int) % 256) = ((n % 256 : Nat) : Int) := by omega
  have h := u8_or_nat (n % 256) 128 (by omega) (by decide)
  rw [e]
  refine h.trans ?_
  congr 1
  have h1 : n % 256 = 128 * (n % 256 / 128) + n % 128 := by omega
  have h2 : n % 256 / 128 = 0 ∨ n % 256 / 128 = 1 := by omega
  have h3 : n % 128 ||| 128 = 128 + n % 128 := by
    rw [Nat.or_comm]
    exact nat_join 7 128 (n % 128) (by decide) (by omega)
  rcases h2 with h2 | h2 <;> rw [h2] at h1
  · rw [show n % 256 = n % 128 by omega]; exact h3
  · rw [show n % 256 = 128 ||| n % 128 by rw [Nat.or_comm, h3]; omega, Nat.or_assoc, h3, ← h3, Nat.or_comm, Nat.or_assoc, Nat.or_self]
end Go.Proofs.YtngbgngfdklnlaaGreatDoor
namespace Go.Proofs.YtngbgngfdklnlaaGreatDoor
/-- The number in groups of seven bits, the lowest first. -/
def valOf : List UInt8 → Nat
  | [] => 0
  | b :: s => b.toNat % 128 + 128 * valOf s
/-- What stands at the head of s: the number, how many bytes it has, the error. -/
def numOf (s : List UInt8) : Nat × Nat × Nat :=
  match (s.take 9).findIdx? (fun b => decide (b.toNat < 128)) with
  | none => if s.length < 9 then (0, 0, 12) else (0, 0, 13)
  | some j => if (0 < j ∧ s.getD j 0 = 0) ∨ 4611686018427387903 < valOf (s.take (j + 1)) then (0, 0, 13) else (valOf (s.take (j + 1)), j + 1, 0)
/-- What Number tells at a place. -/
def numAt (l : List UInt8) (at_ : Int) : Int × Int × Int :=
  if at_ < 0 ∨ (l.length : Int) < at_ then (0, 0, 11)
  else match numOf (l.drop at_.toNat) with
    | (n, c, 0) => ((n : Int), at_ + c, 0)
    | (_, _, e) => (0, 0, (e : Int))

theorem numOf_low {s : List UInt8} {k : Nat} (hk : k < s.length) (h9 : k < 9) (hall : ∀ j (h : j < k), 128 ≤ (s[j]'(by omega)).toNat) (hlow : s[k].toNat < 128) :
    numOf s = if (0 < k ∧ s[k] = 0) ∨ 4611686018427387903 < valOf (s.take (k + 1)) then (0, 0, 13) else (valOf (s.take (k + 1)), k + 1, 0) := by
  have h : (s.take 9).findIdx? (fun b => decide (b.toNat < 128)) = some k := by
    rw [List.findIdx?_eq_some_iff_getElem]
    refine ⟨by simp; omega, by simpa using hlow, fun j hj => ?_⟩
    have := hall j hj
    simp
    omega
  unfold numOf
  rw [h]
  simp only [List.getD_eq_getElem?_getD, List.getElem?_eq_getElem hk, Option.getD_some]
theorem numOf_none {s : List UInt8} (hall : ∀ j (h : j < s.length), j < 9 → 128 ≤ s[j].toNat) : numOf s = if s.length < 9 then (0, 0, 12) else (0, 0, 13) := by
  have h : (s.take 9).findIdx? (fun b => decide (b.toNat < 128)) = none := by
    rw [List.findIdx?_eq_none_iff]
    intro x hx
    obtain ⟨j, hj, rfl⟩ := List.mem_iff_getElem.1 hx
    rw [List.length_take] at hj
    have := hall j (by omega) (by omega)
    simp
    omega
  unfold numOf
  rw [h]
theorem numAt_bad {l : List UInt8} {a : Int} (h : a < 0 ∨ (l.length : Int) < a) : numAt l a = (0, 0, 11) := by unfold numAt; rw [if_pos h]
theorem numAt_good {l : List UInt8} {a : Nat} (h : a ≤ l.length) : numAt l (a : Int) = match numOf (l.drop a) with
    | (n, c, 0) => ((n : Int), (a : Int) + c, 0)
    | (_, _, e) => (0, 0, (e : Int)) := by
  unfold numAt; rw [if_neg (by omega), Int.toNat_natCast]
theorem valOf_snoc (s : List UInt8) (b : UInt8) : valOf (s ++ [b]) = valOf s + 128 ^ s.length * (b.toNat % 128) := by
  induction s with
  | nil => simp [valOf]
  | cons c s ih => rw [List.cons_append, valOf, valOf, ih, List.length_cons, Nat.pow_succ, Nat.mul_add, ← Nat.mul_assoc, Nat.mul_comm 128 (128 ^ s.length), Nat.add_assoc]
theorem valOf_lt (s : List UInt8) : valOf s < 128 ^ s.length := by
  induction s with
  | nil => simp [valOf]
  | cons b s ih =>
    rw [valOf, List.length_cons, Nat.pow_succ]
    have := Nat.mod_lt b.toNat (show 0 < 128 by decide)
    omega
theorem valOf_take_succ (s : List UInt8) (k : Nat) (h : k < s.length) : valOf (s.take (k + 1)) = valOf (s.take k) + 128 ^ k * (s[k].toNat % 128) := by
  rw [List.take_succ_eq_append_getElem h, valOf_snoc, List.length_take, Nat.min_eq_left (Nat.le_of_lt h)]
theorem valOf_take_lt (s : List UInt8) (k : Nat) (h : k ≤ s.length) : valOf (s.take k) < 128 ^ k := by
  have := valOf_lt (s.take k)
  rwa [List.length_take, Nat.min_eq_left h] at this
theorem pow128 (k : Nat) : (128 : Nat) ^ k = 2 ^ (7 * k) := by rw [show (128 : Nat) = 2 ^ 7 by decide, ← Nat.pow_mul]
theorem pow128_le {k m : Nat} (h : k ≤ m) : (128 : Nat) ^ k ≤ 128 ^ m := Nat.pow_le_pow_right (by decide) h
/-- 'n | x << 7i' is a sum: n lies below the bits of x. -/
theorem or_shift (n x k : Nat) (hn : n < 128 ^ k) : n ||| x * 2 ^ (7 * k) = n + 128 ^ k * x := by
  rw [Nat.or_comm, nat_join (7 * k) (x * 2 ^ (7 * k)) n (Nat.mul_mod_left _ _) (by rw [← pow128]; exact hn), pow128, Nat.mul_comm]
  omega
/-- Of nine groups the last alone tells whether the number is too great. -/
theorem too_great (s : List UInt8) (k : Nat) (h : k < s.length) (h9 : k < 9) (hlow : s[k].toNat < 128) : (4611686018427387903 < valOf (s.take (k + 1))) ↔ (k = 8 ∧ 63 < s[k].toNat) := by
  rw [valOf_take_succ s k h, Nat.mod_eq_of_lt hlow]
  have hlt := valOf_take_lt s k (by omega)
  by_cases e : k = 8
  · subst e
    have : (128 : Nat) ^ 8 = 72057594037927936 := by decide
    rw [this] at hlt ⊢
    constructor
    · intro h1; exact ⟨rfl, by omega⟩
    · intro h1; omega
  · have h1 : (128 : Nat) ^ k * s[k].toNat ≤ 128 ^ k * 127 := Nat.mul_le_mul_left _ (by omega)
    have h2 : (128 : Nat) ^ (k + 1) ≤ 128 ^ 8 := pow128_le (by omega)
    have h3 : (128 : Nat) ^ 8 = 72057594037927936 := by decide
    rw [Nat.pow_succ] at h2
    constructor
    · intro h4; omega
    · intro h4; exact absurd h4.1 e
theorem getD_all {s : List UInt8} {k : Nat} (hk : k ≤ s.length) (h : ∀ j, j < k → 128 ≤ (s.getD j 0).toNat) : ∀ j (hj : j < k), 128 ≤ (s[j]'(by omega)).toNat := fun j hj => by
  have := h j hj
  rwa [List.getD_eq_getElem?_getD, List.getElem?_eq_getElem (by omega), Option.getD_some] at this
theorem numAt_low_bad {l : List UInt8} {a k : Nat} (h : a ≤ l.length) (hk : k < (l.drop a).length) (h9 : k < 9) (hall : ∀ j, j < k → 128 ≤ ((l.drop a).getD j 0).toNat) (hlow : (l.drop a)[k].toNat < 128)
    (hbad : (0 < k ∧ (l.drop a)[k] = 0) ∨ 4611686018427387903 < valOf ((l.drop a).take (k + 1))) : numAt l (a : Int) = (0, 0, 13) := by
  rw [numAt_good h, numOf_low hk h9 (getD_all (Nat.le_of_lt hk) hall) hlow, if_pos hbad]; rfl
theorem numAt_low_good {l : List UInt8} {a k : Nat} (h : a ≤ l.length) (hk : k < (l.drop a).length) (h9 : k < 9) (hall : ∀ j, j < k → 128 ≤ ((l.drop a).getD j 0).toNat) (hlow : (l.drop a)[k].toNat < 128)
    (hgood : ¬ ((0 < k ∧ (l.drop a)[k] = 0) ∨ 4611686018427387903 < valOf ((l.drop a).take (k + 1)))) : numAt l (a : Int) = (((valOf ((l.drop a).take (k + 1)) : Nat) : Int), (a : Int) + k + 1, 0) := by
  rw [numAt_good h, numOf_low hk h9 (getD_all (Nat.le_of_lt hk) hall) hlow, if_neg hgood]
  show (_, (a : Int) + ((k + 1 : Nat) : Int), _) = _
  rw [Int.natCast_add, Int.add_assoc]; rfl
theorem numAt_short {l : List UInt8} {a : Nat} (h : a ≤ l.length) (h9 : l.length < a + 9) (hall : ∀ j, j < l.length - a → 128 ≤ ((l.drop a).getD j 0).toNat) : numAt l (a : Int) = (0, 0, 12) := by
  rw [numAt_good h, numOf_none (fun j hj _ => getD_all (k := l.length - a) (by simp) hall j (by simpa using hj)), if_pos (by simp; omega)]; rfl
theorem numAt_long {l : List UInt8} {a : Nat} (h9 : a + 9 ≤ l.length) (hall : ∀ j, j < 9 → 128 ≤ ((l.drop a).getD j 0).toNat) : numAt l (a : Int) = (0, 0, 13) := by
  rw [numAt_good (by omega), numOf_none (fun j _ h => getD_all (k := 9) (by simp; omega) hall j h), if_neg (by simp; omega)]; rfl
theorem getD_all_succ {s : List UInt8} {k : Nat} (hk : k < s.length) (h : ∀ j, j < k → 128 ≤ (s.getD j 0).toNat) (hx : 128 ≤ s[k].toNat) : ∀ j, j < k + 1 → 128 ≤ (s.getD j 0).toNat := fun j hj => by
  by_cases e : j < k
  · exact h j e
  · obtain rfl : j = k := by omega
    rwa [List.getD_eq_getElem?_getD, List.getElem?_eq_getElem hk, Option.getD_some]
end Go.Proofs.YtngbgngfdklnlaaGreatDoor
namespace Go.Proofs.YtngbgngfdklnlaaGreatDoor
/-- The bytes of a number: all but the last have the bit 80; the last is not 0, but if it is alone. -/
def Formed : List UInt8 → Prop
  | [] => False
  | [b] => b.toNat < 128
  | b :: c :: s => 128 ≤ b.toNat ∧ Formed (c :: s) ∧ 0 < valOf (c :: s)
theorem byte_eq (b : UInt8) (n : Nat) (h : b.toNat = n) : UInt8.ofNat n = b := by rw [← h]; exact UInt8.ofNat_toNat
theorem put_valOf (k : Nat) : ∀ g : List UInt8, Formed g → g.length ≤ k → putF k (valOf g) = g := by
  induction k with
  | zero => intro g hg hl; cases g <;> simp_all [Formed]
  | succ k ih =>
    intro g hg hl
    match g, hg with
    | [b], hb =>
      have hb : b.toNat < 128 := hb
      have e : valOf [b] = b.toNat := by simp [valOf, Nat.mod_eq_of_lt hb]
      rw [e, putF_short hb, byte_eq b _ rfl]
    | b :: c :: s, h =>
      obtain ⟨h1, h2, h3⟩ : 128 ≤ b.toNat ∧ Formed (c :: s) ∧ 0 < valOf (c :: s) := h
      have hb := b.toNat_lt
      rw [valOf]
      have hm := Nat.mod_lt b.toNat (show 0 < 128 by decide)
      generalize hn : valOf (c :: s) = n at *
      rw [putF_long (by omega), show (b.toNat % 128 + 128 * n) % 128 = b.toNat % 128 by omega, show (b.toNat % 128 + 128 * n) / 128 = n by omega, byte_eq b _ (by omega), ← hn, ih (c :: s) h2 (by simpa using hl)]
/-- The groups of a number that is read. -/
theorem formed_take {s : List UInt8} : ∀ {k : Nat} (hk : k < s.length), (∀ j (h : j < k), 128 ≤ (s[j]'(by omega)).toNat) → s[k].toNat < 128 → (0 < k → s[k] ≠ 0) → Formed (s.take (k + 1)) ∧ (0 < k → 0 < valOf (s.take (k + 1))) := by
  induction s with
  | nil => intro k hk; simp at hk
  | cons b s ih =>
    intro k hk hall hlow hne
    match k with
    | 0 => exact ⟨by simpa [Formed] using hlow, fun h => absurd h (by omega)⟩
    | k + 1 =>
      have hk' : k < s.length := by simpa using hk
      have h1 : 128 ≤ b.toNat := hall 0 (by omega)
      have hlow' : s[k].toNat < 128 := hlow
      have hne' : s[k] ≠ 0 := hne (by omega)
      obtain ⟨h2, h3⟩ := ih hk' (fun j hj => hall (j + 1) (by omega)) hlow' (fun _ => hne')
      have hpos : 0 < valOf (s.take (k + 1)) := by
        by_cases e : 0 < k
        · exact h3 e
        · obtain rfl : k = 0 := by omega
          rw [valOf_take_succ s 0 hk']
          have : s[0].toNat ≠ 0 := fun e => hne' (UInt8.toNat_inj.1 e)
          rw [Nat.mod_eq_of_lt hlow']
          simp; omega
      rw [List.take_succ_cons]
      cases hs : s.take (k + 1) with
      | nil => rw [hs] at hpos; simp [valOf] at hpos
      | cons c t =>
        rw [hs] at h2 hpos
        exact ⟨⟨h1, h2, hpos⟩, fun _ => by rw [valOf]; omega⟩
theorem numOf_ok {s : List UInt8} {n c : Nat} (h : numOf s = (n, c, 0)) : c ≤ s.length ∧ put n = s.take c ∧ n ≤ 4611686018427387903 := by
  unfold numOf at h
  cases hf : (s.take 9).findIdx? (fun b => decide (b.toNat < 128)) with
  | none =>
    rw [hf] at h
    simp only at h
    split at h <;> simp at h
  | some j =>
    rw [hf] at h
    simp only at h
    obtain ⟨hj, hlow, hall⟩ := List.findIdx?_eq_some_iff_getElem.1 hf
    rw [List.length_take] at hj
    have hjs : j < s.length := by omega
    split at h
    · simp at h
    · next hc =>
      simp only [Prod.mk.injEq] at h
      obtain ⟨rfl, rfl, -⟩ := h
      simp at hlow
      have hall' : ∀ i (hi : i < j), 128 ≤ (s[i]'(by omega)).toNat := fun i hi => by
        have := hall i hi
        simp at this
        omega
      have hne : 0 < j → s[j] ≠ 0 := fun e1 e2 => hc (.inl ⟨e1, by rw [List.getD_eq_getElem?_getD, List.getElem?_eq_getElem hjs, Option.getD_some]; exact e2⟩)
      exact ⟨by omega, put_valOf 9 _ (formed_take hjs hall' hlow hne).1 (by rw [List.length_take]; omega), by have := fun e => hc (.inr e); omega⟩
/-- What stands behind a number that is written is read as that number. -/
theorem putF_spec (k : Nat) : ∀ n, n < 128 ^ (k + 1) → ∃ j, (putF (k + 1) n).length = j + 1 ∧ j ≤ k ∧ Formed (putF (k + 1) n) ∧ valOf (putF (k + 1) n) = n := by
  induction k with
  | zero =>
    intro n hn
    have h : n < 128 := by simpa using hn
    rw [putF_short h]
    exact ⟨0, rfl, Nat.le_refl _, by simpa [Formed, byte_low n h] using h, by rw [valOf, valOf, byte_low n h]; omega⟩
  | succ k ih =>
    intro n hn
    by_cases h : n < 128
    · rw [putF_short h]
      exact ⟨0, rfl, Nat.zero_le _, by simpa [Formed, byte_low n h] using h, by rw [valOf, valOf, byte_low n h]; omega⟩
    · obtain ⟨j, h1, h2, h3, h4⟩ := ih (n / 128) (pow_step hn)
      rw [putF_long h]
      refine ⟨j + 1, by rw [List.length_cons, h1], by omega, ?_, by rw [valOf, h4, byte_more]; omega⟩
      cases hp : putF (k + 1) (n / 128) with
      | nil => rw [hp] at h1; simp at h1
      | cons c t =>
        rw [hp] at h3 h4
        exact ⟨by rw [byte_more]; omega, h3, by rw [h4]; omega⟩
theorem formed_low : ∀ {g : List UInt8} (_ : Formed g) {j : Nat} (hj : g.length = j + 1), (∀ i (h : i < j), 128 ≤ (g[i]'(by omega)).toNat) ∧ (g[j]'(by omega)).toNat < 128 ∧ (0 < j → (g[j]'(by omega)) ≠ 0) := by
  intro g
  induction g with
  | nil => intro hg; exact hg.elim
  | cons b s ih =>
    intro hg j hj
    match s, hg with
    | [], hb =>
      obtain rfl : j = 0 := by simpa using hj.symm
      exact ⟨fun i hi => absurd hi (by omega), hb, fun h => absurd h (by omega)⟩
    | c :: t, hc =>
      obtain ⟨h1, h2, h3⟩ : 128 ≤ b.toNat ∧ Formed (c :: t) ∧ 0 < valOf (c :: t) := hc
      match j with
      | 0 => simp at hj
      | j + 1 =>
        obtain ⟨a1, a2, a3⟩ := ih h2 (j := j) (by simpa using hj)
        refine ⟨fun i hi => ?_, a2, fun _ => ?_⟩
        · match i with
          | 0 => exact h1
          | i + 1 => exact a1 i (by omega)
        · by_cases e : 0 < j
          · exact a3 e
          · obtain rfl : j = 0 := by omega
            have ht : t = [] := List.eq_nil_of_length_eq_zero (by simpa using hj)
            subst ht
            intro e0
            have e0 : c = 0 := e0
            subst e0
            simp [valOf] at h3
theorem numOf_put (n : Nat) (hn : n ≤ 4611686018427387903) (s : List UInt8) : numOf (put n ++ s) = (n, (put n).length, 0) := by
  obtain ⟨j, h1, h2, h3, h4⟩ := putF_spec 8 n (by have : (128 : Nat) ^ (8 + 1) = 9223372036854775808 := by decide
                                                  omega)
  show numOf (putF 9 n ++ s) = (n, (putF 9 n).length, 0)
  generalize hg : putF (8 + 1) n = g at *
  obtain ⟨a1, a2, a3⟩ := formed_low h3 h1
  have hj : j < (g ++ s).length := by rw [List.length_append]; omega
  have ht : (g ++ s).take (j + 1) = g := by rw [List.take_append_of_le_length (by omega), List.take_of_length_le (by omega)]
  rw [numOf_low hj (by omega) (fun i hi => by rw [List.getElem_append_left (by omega)]; exact a1 i hi) (by rw [List.getElem_append_left (by omega)]; exact a2), ht, h4, if_neg, h1]
  rintro (⟨e1, e2⟩ | e)
  · rw [List.getElem_append_left (by omega)] at e2
    exact a3 e1 e2
  · omega
/-- What Number can tell. -/
theorem numAt_cases (l : List UInt8) (a : Int) : (∃ e : Nat, e ≠ 0 ∧ e ≤ 13 ∧ numAt l a = (0, 0, (e : Int))) ∨
    ∃ m n c : Nat, a = m ∧ numAt l a = ((n : Int), (m : Int) + c, 0) ∧ 0 < c ∧ m + c ≤ l.length ∧ put n = (l.drop m).take c ∧ n ≤ 4611686018427387903 := by
  by_cases h : a < 0 ∨ (l.length : Int) < a
  · exact .inl ⟨11, by decide, by decide, numAt_bad h⟩
  · obtain ⟨m, rfl⟩ := Int.eq_ofNat_of_zero_le (show 0 ≤ a by omega)
    have hm : m ≤ l.length := by omega
    rw [numAt_good hm]
    cases hn : numOf (l.drop m) with
    | mk n r =>
      obtain ⟨c, e⟩ := r
      match e, hn with
      | 0, hn =>
        obtain ⟨h1, h2, h3⟩ := numOf_ok hn
        rw [List.length_drop] at h1
        refine .inr ⟨m, n, c, rfl, rfl, ?_, by omega, h2, h3⟩
        rcases Nat.eq_zero_or_pos c with e | e
        · subst e
          obtain ⟨j, hj, -⟩ := putF_spec 8 n (by have : (128 : Nat) ^ (8 + 1) = 9223372036854775808 := by decide
                                                 omega)
          have := congrArg List.length h2
          rw [show put n = putF (8 + 1) n from rfl, hj] at this
          simp at this
        · exact e
      | e + 1, hn =>
        refine .inl ⟨e + 1, by omega, ?_, rfl⟩
        unfold numOf at hn
        split at hn <;> split at hn <;> simp only [Prod.mk.injEq] at hn <;> omega
end Go.Proofs.YtngbgngfdklnlaaGreatDoor
set_option linter.unusedSimpArgs false
set_option linter.unusedVariables false
namespace Go.Proofs.YtngbgngfdklnlaaGreatDoor

/-! ### a frame that can be opened is the frame of its payload -/
theorem le4_val4 (s : List UInt8) (h : 4 ≤ s.length) : le4 (val4 s) = s.take 4 := by
  match s, h with
  | a :: b :: c :: d :: t, _ =>
    have ha := a.toNat_lt; have hb := b.toNat_lt; have hc := c.toNat_lt; have hd := d.toNat_lt
    simp only [val4, List.getD_cons_zero, List.getD_cons_succ, le4, List.take_succ_cons, List.take_zero]
    congr 1
    · exact byte_eq a _ (by omega)
    congr 1
    · exact byte_eq b _ (by omega)
    congr 1
    · exact byte_eq c _ (by omega)
    congr 1
    exact byte_eq d _ (by omega)
theorem unOf_inv {s r : List UInt8} {a e : Int} (h : unOf s a = (r, e, 0)) : e = a + 8 + (r.length : Nat) ∧ 8 + r.length ≤ s.length ∧ r.length ≤ 65536 ∧ s.take (8 + r.length) = frameOf r := by
  unfold unOf at h
  split at h
  · simp at h
  split at h
  · simp at h
  split at h
  · simp at h
  split at h
  · rename_i h1 h2 h3 h4
    simp only [Prod.mk.injEq, and_true] at h
    obtain ⟨rfl, rfl⟩ := h
    have hl : ((s.drop 8).take (val4 s)).length = val4 s := by rw [List.length_take, List.length_drop]; omega
    refine ⟨by rw [hl], by rw [hl]; omega, by rw [hl]; omega, ?_⟩
    unfold frameOf
    rw [hl, le4_val4 s (by omega), h4, le4_val4 (s.drop 4) (by rw [List.length_drop]; omega)]
    have e1 : s.take (8 + val4 s) = s.take 4 ++ ((s.drop 4).take 4 ++ (s.drop 8).take (val4 s)) := by
      rw [show 8 + val4 s = 4 + (4 + val4 s) by omega, List.take_add, List.take_add, List.drop_drop]
    exact e1
  · simp at h
theorem unAt_inv {b r : List UInt8} {a : Nat} {e : Int} (h : unAt b (a : Int) = (r, e, 0)) : e = ((a + 8 + r.length : Nat) : Int) ∧ a + 8 + r.length ≤ b.length ∧ r.length ≤ 65536 ∧ (b.drop a).take (8 + r.length) = frameOf r := by
  by_cases hc : (b.length : Int) < a
  · rw [unAt_bad (.inr hc)] at h; simp at h
  · rw [unAt_good (by omega)] at h
    obtain ⟨h1, h2, h3, h4⟩ := unOf_inv h
    rw [List.length_drop] at h2
    exact ⟨by rw [h1]; omega, by omega, h3, h4⟩
/-- There is a frame at that place. -/
theorem unAt_frame (s t p : List UInt8) (h : p.length ≤ 65536) : unAt (s ++ (frameOf p ++ t)) (s.length : Nat) = (p, ((s.length + (8 + p.length) : Nat) : Int), 0) := by
  rw [unAt_good (by simp), List.drop_left, unOf_frame p t _ h]
  congr 2
  omega
/-- A frame that is cut is not opened. -/
theorem unAt_torn (s t : List UInt8) (p : List UInt8) (c : Nat) (hp : p.length ≤ 65536) (hc : c < 8 + p.length) (ht : t = (frameOf p).take c) : (unAt (s ++ t) (s.length : Nat)).2.2 ≠ 0 := by
  rw [unAt_good (by simp), List.drop_left]
  subst ht
  have hl : ((frameOf p).take c).length = c := by rw [List.length_take, frameOf_len]; omega
  intro h0
  by_cases h8 : c < 8
  · rw [unOf_short (by rw [hl]; exact h8)] at h0
    simp at h0
  · have hv : val4 ((frameOf p).take c) = p.length := by
      have e : (frameOf p).take c = le4 p.length ++ ((frameOf p).take c).drop 4 := by
        have h4 : ((frameOf p).take c).take 4 = le4 p.length := by
          rw [List.take_take, Nat.min_eq_left (by omega)]
          unfold frameOf
          rw [List.take_left' (le4_len _)]
        rw [← h4, List.take_append_drop]
      rw [e, val4_le4 _ (by omega)]
    rw [unOf_part (by rw [hl]; omega) (by rw [hv]; omega) (by rw [hl, hv]; omega)] at h0
    simp at h0

/-! ### segments -/
structure Sg where
  num : Nat
  fst : Nat
  siz : Nat
  recs : List (List UInt8)
def Sg.next (s : Sg) : Nat := s.fst + s.recs.length
def recBytes (rs : List (List UInt8)) : List UInt8 := (rs.map frameOf).flatten
def segBytes (first : Nat) (rs : List (List UInt8)) : List UInt8 := frameOf (put first) ++ recBytes rs
def short (rs : List (List UInt8)) : Prop := ∀ r ∈ rs, r.length ≤ 65536
theorem recBytes_snoc (rs : List (List UInt8)) (r : List UInt8) : recBytes (rs ++ [r]) = recBytes rs ++ frameOf r := by simp [recBytes]
theorem recBytes_cons (rs : List (List UInt8)) (r : List UInt8) : recBytes (r :: rs) = frameOf r ++ recBytes rs := by simp [recBytes]
theorem recBytes_app (rs qs : List (List UInt8)) : recBytes (rs ++ qs) = recBytes rs ++ recBytes qs := by simp [recBytes]
theorem segBytes_snoc (f : Nat) (rs : List (List UInt8)) (r : List UInt8) : segBytes f (rs ++ [r]) = segBytes f rs ++ frameOf r := by unfold segBytes; rw [recBytes_snoc, List.append_assoc]
theorem put_len (n : Nat) : (put n).length ≤ 9 := putF_len 9 n
/-- The records from a place on, and the place behind them. -/
def recsF : Nat → List UInt8 → Nat → List (List UInt8) × Nat
  | 0, _, a => ([], a)
  | f + 1, b, a => if (unAt b (a : Int)).2.2 = 0 then ((unAt b (a : Int)).1 :: (recsF f b (unAt b (a : Int)).2.1.toNat).1, (recsF f b (unAt b (a : Int)).2.1.toNat).2) else ([], a)
def recsAt (b : List UInt8) (a : Nat) : List (List UInt8) × Nat := recsF (b.length - a) b a
theorem recsF_fuel (b : List UInt8) : ∀ (f g a : Nat), b.length - a ≤ f → b.length - a ≤ g → recsF f b a = recsF g b a := by
  intro f
  induction f with
  | zero =>
    intro g a hf hg
    cases g with
    | zero => rfl
    | succ g =>
      simp only [recsF]
      rw [if_neg]
      intro h0
      obtain ⟨h1, h2, -⟩ := unAt_inv (b := b) (a := a) (r := (unAt b (a : Int)).1) (e := (unAt b (a : Int)).2.1) (by rw [← h0])
      omega
  | succ f ih =>
    intro g a hf hg
    cases g with
    | zero =>
      simp only [recsF]
      rw [if_neg]
      intro h0
      obtain ⟨h1, h2, -⟩ := unAt_inv (b := b) (a := a) (r := (unAt b (a : Int)).1) (e := (unAt b (a : Int)).2.1) (by rw [← h0])
      omega
    | succ g =>
      simp only [recsF]
      by_cases h0 : (unAt b (a : Int)).2.2 = 0
      · obtain ⟨h1, h2, -⟩ := unAt_inv (b := b) (a := a) (r := (unAt b (a : Int)).1) (e := (unAt b (a : Int)).2.1) (by rw [← h0])
        rw [if_pos h0, if_pos h0, h1, Int.toNat_natCast, ih g _ (by omega) (by omega)]
      · rw [if_neg h0, if_neg h0]
theorem recsAt_stop {b : List UInt8} {a : Nat} (h : (unAt b (a : Int)).2.2 ≠ 0) : recsAt b a = ([], a) := by
  unfold recsAt
  cases b.length - a with
  | zero => rfl
  | succ f => simp only [recsF]; rw [if_neg h]
theorem recsAt_go {b r : List UInt8} {a : Nat} {e : Int} (h : unAt b (a : Int) = (r, e, 0)) : recsAt b a = (r :: (recsAt b (a + 8 + r.length)).1, (recsAt b (a + 8 + r.length)).2) := by
  obtain ⟨h1, h2, -⟩ := unAt_inv h
  unfold recsAt
  rw [show b.length - a = (b.length - a - 1) + 1 by omega]
  simp only [recsF]
  rw [h, if_pos rfl]
  simp only
  rw [h1, Int.toNat_natCast, recsF_fuel b (b.length - a - 1) (b.length - (a + 8 + r.length)) _ (by omega) (by omega)]
/-- What the records are: frames, one behind the other, as far as they go. -/
theorem recsAt_bytes (b : List UInt8) : ∀ (n a : Nat), b.length - a ≤ n → a ≤ b.length → (recsAt b a).2 ≤ b.length ∧ a ≤ (recsAt b a).2 ∧ (b.drop a).take ((recsAt b a).2 - a) = recBytes (recsAt b a).1 ∧ short (recsAt b a).1 ∧ (unAt b ((recsAt b a).2 : Int)).2.2 ≠ 0 := by
  intro n
  induction n with
  | zero =>
    intro a hn ha
    have hstop : (unAt b (a : Int)).2.2 ≠ 0 := by
      intro h0
      obtain ⟨h1, h2, -⟩ := unAt_inv (b := b) (a := a) (r := (unAt b (a : Int)).1) (e := (unAt b (a : Int)).2.1) (by rw [← h0])
      omega
    rw [recsAt_stop hstop]
    refine ⟨ha, Nat.le_refl _, by simp [recBytes], fun r hr => by simp at hr, hstop⟩
  | succ n ih =>
    intro a hn ha
    by_cases h0 : (unAt b (a : Int)).2.2 = 0
    · have hu : unAt b (a : Int) = ((unAt b (a : Int)).1, (unAt b (a : Int)).2.1, 0) := by rw [← h0]
      obtain ⟨h1, h2, h3, h4⟩ := unAt_inv hu
      generalize (unAt b (a : Int)).1 = r at *
      rw [recsAt_go hu]
      obtain ⟨i1, i2, i3, i4, i5⟩ := ih (a + 8 + r.length) (by omega) (by omega)
      simp only
      generalize recsAt b (a + 8 + r.length) = q at *
      refine ⟨i1, by omega, ?_, fun x hx => ?_, i5⟩
      · rw [recBytes_cons, ← h4, ← i3, show q.2 - a = (8 + r.length) + (q.2 - (a + 8 + r.length)) by omega, List.take_add, List.drop_drop, show a + (8 + r.length) = a + 8 + r.length by omega]
      · rcases List.mem_cons.1 hx with rfl | hx
        · exact h3
        · exact i4 x hx
    · rw [recsAt_stop h0]
      exact ⟨ha, Nat.le_refl _, by simp [recBytes], fun r hr => by simp at hr, h0⟩
/-- Frames that stand there are read, and then what is behind them. -/
theorem recsAt_app (rs : List (List UInt8)) (hs : short rs) : ∀ (p t : List UInt8), recsAt (p ++ (recBytes rs ++ t)) p.length = (rs ++ (recsAt (p ++ (recBytes rs ++ t)) (p.length + (recBytes rs).length)).1, (recsAt (p ++ (recBytes rs ++ t)) (p.length + (recBytes rs).length)).2) := by
  induction rs with
  | nil => intro p t; simp [recBytes]
  | cons r rs ih =>
    intro p t
    have hu := unAt_frame p (recBytes rs ++ t) r (hs r (by simp))
    rw [← List.append_assoc (frameOf r), ← recBytes_cons] at hu
    rw [recsAt_go hu]
    have i := ih (fun x hx => hs x (by simp [hx])) (p ++ frameOf r) t
    rw [List.append_assoc, ← List.append_assoc (frameOf r), ← recBytes_cons, List.length_append, frameOf_len] at i
    rw [show p.length + 8 + r.length = p.length + (8 + r.length) by omega, i, recBytes_cons, List.length_append, frameOf_len, show p.length + (8 + r.length) + (recBytes rs).length = p.length + (8 + r.length + (recBytes rs).length) by omega]
    simp
/-- What is read of a segment's bytes. -/
def parseS (n : Nat) (b : List UInt8) : Option Sg :=
  if (unAt b 0).2.2 ≠ 0 then none
  else if (numAt (unAt b 0).1 0).2.2 ≠ 0 ∨ (numAt (unAt b 0).1 0).2.1 ≠ ((unAt b 0).1.length : Int) then none
  else some ⟨n, (numAt (unAt b 0).1 0).1.toNat, (recsAt b (8 + (unAt b 0).1.length)).2, (recsAt b (8 + (unAt b 0).1.length)).1⟩
/-- What is read is what is written for it. -/
theorem parse_inv {n : Nat} {b : List UInt8} {s : Sg} (h : parseS n b = some s) : s.num = n ∧ s.siz ≤ b.length ∧ b.take s.siz = segBytes s.fst s.recs ∧ s.fst ≤ 4611686018427387903 ∧ short s.recs ∧ s.siz = (segBytes s.fst s.recs).length := by
  unfold parseS at h
  by_cases h0 : (unAt b 0).2.2 = 0
  · have hu : unAt b ((0 : Nat) : Int) = ((unAt b 0).1, (unAt b 0).2.1, 0) := Prod.ext rfl (Prod.ext rfl h0)
    obtain ⟨h1, h2, h3, h4⟩ := unAt_inv hu
    rw [if_neg (by simpa using h0)] at h
    generalize (unAt b 0).1 = p at *
    split at h
    · cases h
    · rename_i hn
      obtain ⟨rfl⟩ : _ = s := by simpa using h
      simp only [not_or, Classical.not_not] at hn
      obtain ⟨hn1, hn2⟩ := hn
      rcases numAt_cases p 0 with ⟨e, he, -, hx⟩ | ⟨m, x, c, hm, hx, hc, hl, hp, hmax⟩
      · rw [hx] at hn1
        exact absurd hn1 (by simpa using he)
      · obtain rfl : m = 0 := by omega
        rw [hx] at hn2
        have hcl : c = p.length := by simp at hn2; omega
        rw [hx]
        simp only [Int.toNat_natCast]
        have hpx : put x = p := by rw [hp, hcl]; simp
        obtain ⟨i1, i2, i3, i4, -⟩ := recsAt_bytes b _ (8 + p.length) (Nat.le_refl _) (by omega)
        generalize recsAt b (8 + p.length) = q at *
        have hb : b.take q.2 = segBytes x q.1 := by
          unfold segBytes
          rw [hpx, ← i3, ← h4, show q.2 = (8 + p.length) + (q.2 - (8 + p.length)) by omega, List.take_add, List.drop_zero, show (8 + p.length) + (q.2 - (8 + p.length)) - (8 + p.length) = q.2 - (8 + p.length) by omega]
        refine ⟨trivial, i1, hb, hmax, i4, ?_⟩
        show q.2 = (segBytes x q.1).length
        rw [← hb, List.length_take]
        omega
  · rw [if_pos (by simpa using h0)] at h
    cases h
/-- A segment's bytes, and what is behind them, are read. -/
theorem parse_of (n first : Nat) (rs : List (List UInt8)) (t : List UInt8) (hf : first ≤ 4611686018427387903) (hs : short rs) :
    parseS n (segBytes first rs ++ t) = some ⟨n, first, (recsAt (segBytes first rs ++ t) (segBytes first rs).length).2, rs ++ (recsAt (segBytes first rs ++ t) (segBytes first rs).length).1⟩ := by
  have hp := put_len first
  have hu := unAt_frame [] (recBytes rs ++ t) (put first) (by omega)
  rw [List.nil_append, ← List.append_assoc] at hu
  have hu : unAt (segBytes first rs ++ t) 0 = (put first, ((8 + (put first).length : Nat) : Int), 0) := by simpa [segBytes] using hu
  have hnum : numAt (put first) 0 = ((first : Int), ((put first).length : Int), 0) := by
    have := numOf_put first hf []
    rw [List.append_nil] at this
    have e := numAt_good (l := put first) (a := 0) (Nat.zero_le _)
    rw [List.drop_zero, this] at e
    simpa using e
  unfold parseS
  rw [hu]
  simp only [hnum]
  rw [if_neg (by simp), if_neg (by simp)]
  have i := recsAt_app rs hs (frameOf (put first)) t
  rw [← List.append_assoc, frameOf_len] at i
  have e : recsAt (segBytes first rs ++ t) (8 + (put first).length) = _ := i
  rw [e]
  simp only [Int.toNat_natCast, segBytes, List.length_append, frameOf_len]
theorem parse_whole (n first : Nat) (rs : List (List UInt8)) (hf : first ≤ 4611686018427387903) (hs : short rs) : parseS n (segBytes first rs) = some ⟨n, first, (segBytes first rs).length, rs⟩ := by
  have h := parse_of n first rs [] hf hs
  rw [List.append_nil] at h
  have hstop : (unAt (segBytes first rs) ((segBytes first rs).length : Int)).2.2 ≠ 0 := by
    rw [unAt_good (Nat.le_refl _), List.drop_length, unOf_short (by simp)]
    simp
  rw [recsAt_stop hstop] at h
  simpa using h
/-- Of a segment that is cut a beginning of the records is read, or nothing. -/
theorem parse_torn (n first : Nat) (hf : first ≤ 4611686018427387903) (rs : List (List UInt8)) (hs : short rs) (c : Nat) (hc : c ≤ (segBytes first rs).length) :
    (c < 8 + (put first).length ∧ parseS n ((segBytes first rs).take c) = none) ∨
    ∃ j, j ≤ rs.length ∧ parseS n ((segBytes first rs).take c) = some ⟨n, first, (segBytes first (rs.take j)).length, rs.take j⟩ ∧ (segBytes first (rs.take j)).length ≤ c ∧ (j < rs.length → c < (segBytes first (rs.take (j + 1))).length) := by
  have hp := put_len first
  by_cases hh : c < 8 + (put first).length
  · left
    refine ⟨hh, ?_⟩
    have e : (segBytes first rs).take c = [] ++ (frameOf (put first)).take c := by
      unfold segBytes
      rw [List.take_append_of_le_length (by rw [frameOf_len]; omega), List.nil_append]
    have := unAt_torn [] _ (put first) c (by omega) hh rfl
    rw [← e] at this
    unfold parseS
    rw [if_pos (by simpa using this)]
  · right
    clear hc
    -- the records that are whole
    have key : ∀ (k : Nat), k ≤ rs.length → (segBytes first (rs.take k)).length ≤ c → ∃ j, j ≤ rs.length ∧ (segBytes first (rs.take j)).length ≤ c ∧ (j < rs.length → c < (segBytes first (rs.take (j + 1))).length) := by
      intro k hk
      induction hd : rs.length - k generalizing k with
      | zero => intro hl; exact ⟨k, hk, hl, fun h => by omega⟩
      | succ d ih =>
        intro hl
        by_cases hn : (segBytes first (rs.take (k + 1))).length ≤ c
        · exact ih (k + 1) (by omega) (by omega) hn
        · exact ⟨k, hk, hl, fun _ => by omega⟩
    obtain ⟨j, hj, hjl, hjn⟩ := key 0 (Nat.zero_le _) (by simp [segBytes, recBytes, frameOf_len]; omega)
    refine ⟨j, hj, ?_, hjl, hjn⟩
    have hsplit : segBytes first rs = segBytes first (rs.take j) ++ recBytes (rs.drop j) := by
      unfold segBytes
      rw [List.append_assoc, ← recBytes_app, List.take_append_drop]
    have hst : short (rs.take j) := fun r hr => hs r (List.mem_of_mem_take hr)
    have htk : (segBytes first rs).take c = segBytes first (rs.take j) ++ (recBytes (rs.drop j)).take (c - (segBytes first (rs.take j)).length) := by
      rw [hsplit, List.take_append, List.take_of_length_le hjl]
    have hstop : (unAt ((segBytes first rs).take c) ((segBytes first (rs.take j)).length : Int)).2.2 ≠ 0 := by
      rw [htk]
      by_cases hjr : j < rs.length
      · have hd : rs.drop j = rs[j] :: rs.drop (j + 1) := List.drop_eq_getElem_cons hjr
        have hlen := hjn hjr
        rw [List.take_succ_eq_append_getElem hjr, segBytes_snoc, List.length_append, frameOf_len] at hlen
        refine unAt_torn _ _ rs[j] (c - (segBytes first (rs.take j)).length) (hs _ (List.getElem_mem hjr)) (by omega) ?_
        rw [hd, recBytes_cons, List.take_append_of_le_length (by rw [frameOf_len]; omega)]
      · rw [List.drop_of_length_le (by omega)]
        simp only [recBytes, List.map_nil, List.flatten_nil, List.take_nil, List.append_nil]
        rw [unAt_good (Nat.le_refl _), List.drop_length, unOf_short (by simp)]
        simp
    have h := parse_of n first (rs.take j) ((recBytes (rs.drop j)).take (c - (segBytes first (rs.take j)).length)) hf hst
    rw [← htk, recsAt_stop hstop] at h
    simpa using h
end Go.Proofs.YtngbgngfdklnlaaGreatDoor
