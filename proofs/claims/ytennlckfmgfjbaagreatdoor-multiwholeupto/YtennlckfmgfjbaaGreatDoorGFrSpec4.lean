/- Frames: what they are. No program in it. A number's form, as plain arithmetic. No program in it. Reading a number, as plain arithmetic. No program in it. What is read as a number is what is written for it, and the other way round. No program in it. -/
import Derived.Test.YtennlckfmgfjbaaGreatDoorQFld
import Derived.Test.YtennlckfmgfjbaaGreatDoorGCrc3
import Derived.Laws.BitsAllLaws
set_option linter.unusedSimpArgs false
namespace Go.Proofs.YtennlckfmgfjbaaGreatDoor
def frameOf (p : List UInt8) : List UInt8 := le4 p.length ++ (le4 (crc (le4 p.length ++ p)) ++ p)
def frRes (p : List UInt8) : List UInt8 := if 65536 < p.length then [] else frameOf p
def frErr (p : List UInt8) : Int := if 65536 < p.length then 14 else 0
theorem Bts.form {w : World} {v : Value} {l : List UInt8} (h : Bts w v l) : ∃ A c, v = .slice A l.length c := by
  obtain ⟨A, c, rfl, -⟩ := h
  exact ⟨A, c, rfl⟩
theorem le4_len (n : Nat) : (le4 n).length = 4 := rfl
theorem frameOf_len (p : List UInt8) : (frameOf p).length = 8 + p.length := by
  unfold frameOf; rw [List.length_append, List.length_append, le4_len, le4_len]; omega
end Go.Proofs.YtennlckfmgfjbaaGreatDoor
namespace Go.Proofs.YtennlckfmgfjbaaGreatDoor
/-- The bytes of a number of at most k groups. -/
def putF : Nat → Nat → List UInt8
  | 0, _ => []
  | k + 1, n => if n < 128 then [UInt8.ofNat n] else UInt8.ofNat (128 + n % 128) :: putF k (n / 128)
/-- The bytes of a number. -/
def put (n : Nat) : List UInt8 := putF 9 n
/-- The greatest number, and who is none. -/
def maxNum : Nat := 4611686018427387903
def okNum (n : Int) : Bool := decide (0 ≤ n) && decide (n ≤ 4611686018427387903)
theorem putF_short {k n : Nat} (h : n < 128) : putF (k + 1) n = [UInt8.ofNat n] := by simp [putF, h]
theorem putF_long {k n : Nat} (h : ¬ n < 128) : putF (k + 1) n = UInt8.ofNat (128 + n % 128) :: putF k (n / 128) := by simp [putF, h]
theorem putF_len (k : Nat) : ∀ n, (putF k n).length ≤ k := by
  induction k with
  | zero => intro n; simp [putF]
  | succ k ih =>
    intro n
    by_cases h : n < 128
    · rw [putF_short h]; simp
    · rw [putF_long h]; have := ih (n / 128); simp; omega
theorem pow_step {k n : Nat} (h : n < 128 ^ (k + 1)) : n / 128 < 128 ^ k := by
  rw [Nat.pow_succ] at h
  exact Nat.div_lt_of_lt_mul (by rw [Nat.mul_comm]; exact h)
theorem byte_low (n : Nat) (h : n < 128) : (UInt8.ofNat n).toNat = n := by rw [UInt8.toNat_ofNat']; omega
theorem byte_more (n : Nat) : (UInt8.ofNat (128 + n % 128)).toNat = 128 + n % 128 := by rw [UInt8.toNat_ofNat']; omega
/-- 'byte(n) | 128', as the model spells it. -/
theorem or_more (n : Nat) : bits BinOp.or IntKind.u8 ((n : Int) % 256) 128 = ((128 + n % 128 : Nat) : Int) := by
  have e : ((n : Int) % 256) = ((n % 256 : Nat) : Int) := by omega
  have h := u8_or_nat (n % 256) 128 (by omega) (by decide)
  rw [e]
  refine h.trans ?_
  congr 1
  have h1 : n % 256 = 128 * (n % 256 / 128) + n % 128 := by omega
  have h2 : n % 256 / 128 = 0 ∨ n % 256 / 128 = 1 := by omega
  have h3 : n % 128 ||| 128 = 128 + n % 128 := by
    rw [Nat.or_comm]
    exact nat_join 7 128 (n % 128) (by decide) (by omega)
  rcases h2 with h2 | h2 <;> rw [h2] at h1
  · rw [show n % 256 = n % 128 by omega]; exact h3
  · rw [show n % 256 = 128 ||| n % 128 by rw [Nat.or_comm, h3]; omega, Nat.or_assoc, h3, ← h3, Nat.or_comm, Nat.or_assoc, Nat.or_self]
end Go.Proofs.YtennlckfmgfjbaaGreatDoor
namespace Go.Proofs.YtennlckfmgfjbaaGreatDoor
/-- The number in groups of seven bits, the lowest first. -/
def valOf : List UInt8 → Nat
  | [] => 0
  | b :: s => b.toNat % 128 + 128 * valOf s
/-- What stands at the head of s: the number, how many bytes it has, the error. -/
def numOf (s : List UInt8) : Nat × Nat × Nat :=
  match (s.take 9).findIdx? (fun b => decide (b.toNat < 128)) with
  | none => if s.length < 9 then (0, 0, 12) else (0, 0, 13)
  | some j => if (0 < j ∧ s.getD j 0 = 0) ∨ 4611686018427387903 < valOf (s.take (j + 1)) then (0, 0, 13) else (valOf (s.take (j + 1)), j + 1, 0)
/-- What Number tells at a place. -/
def numAt (l : List UInt8) (at_ : Int) : Int × Int × Int :=
  if at_ < 0 ∨ (l.length : Int) < at_ then (0, 0, 11)
  else match numOf (l.drop at_.toNat) with
    | (n, c, 0) => ((n : Int), at_ + c, 0)
    | (_, _, e) => (0, 0, (e : Int))

theorem numOf_low {s : List UInt8} {k : Nat} (hk : k < s.length) (h9 : k < 9) (hall : ∀ j (h : j < k), 128 ≤ (s[j]'(by omega)).toNat) (hlow : s[k].toNat < 128) :
    numOf s = if (0 < k ∧ s[k] = 0) ∨ 4611686018427387903 < valOf (s.take (k + 1)) then (0, 0, 13) else (valOf (s.take (k + 1)), k + 1, 0) := by
  have h : (s.take 9).findIdx? (fun b => decide (b.toNat < 128)) = some k := by
    rw [List.findIdx?_eq_some_iff_getElem]
    refine ⟨by simp; omega, by simpa using hlow, fun j hj => ?_⟩
    have := hall j hj
    simp
    omega
  unfold numOf
  rw [h]
  simp only [List.getD_eq_getElem?_getD, List.getElem?_eq_getElem hk, Option.getD_some]
theorem numOf_none {s : List UInt8} (hall : ∀ j (h : j < s.length), j < 9 → 128 ≤ s[j].toNat) : numOf s = if s.length < 9 then (0, 0, 12) else (0, 0, 13) := by
  have h : (s.take 9).findIdx? (fun b => decide (b.toNat < 128)) = none := by
    rw [List.findIdx?_eq_none_iff]
    intro x hx
    obtain ⟨j, hj, rfl⟩ := List.mem_iff_getElem.1 hx
    rw [List.length_take] at hj
    have := hall j (by omega) (by omega)
    simp
    omega
  unfold numOf
  rw [h]
theorem numAt_bad {l : List UInt8} {a : Int} (h : a < 0 ∨ (l.length : Int) < a) : numAt l a = (0, 0, 11) := by unfold numAt; rw [if_pos h]
theorem numAt_good {l : List UInt8} {a : Nat} (h : a ≤ l.length) : numAt l (a : Int) = match numOf (l.drop a) with
    | (n, c, 0) => ((n : Int), (a : Int) + c, 0)
    | (_, _, e) => (0, 0, (e : Int)) := by
  unfold numAt; rw [if_neg (by omega), Int.toNat_natCast]
theorem valOf_snoc (s : List UInt8) (b : UInt8) : valOf (s ++ [b]) = valOf s + 128 ^ s.length * (b.toNat % 128) := by
  induction s with
  | nil => simp [valOf]
  | cons c s ih => rw [List.cons_append, valOf, valOf, ih, List.length_cons, Nat.pow_succ, Nat.mul_add, ← Nat.mul_assoc, Nat.mul_comm 128 (128 ^ s.length), Nat.add_assoc]
theorem valOf_lt (s : List UInt8) : valOf s < 128 ^ s.length := by
  induction s with
  | nil => simp [valOf]
  | cons b s ih =>
    rw [valOf, List.length_cons, Nat.pow_succ]
    have := Nat.mod_lt b.toNat (show 0 < 128 by decide)
    omega
theorem valOf_take_succ (s : List UInt8) (k : Nat) (h : k < s.length) : valOf (s.take (k + 1)) = valOf (s.take k) + 128 ^ k * (s[k].toNat % 128) := by
  rw [List.take_succ_eq_append_getElem h, valOf_snoc, List.length_take, Nat.min_eq_left (Nat.le_of_lt h)]
theorem valOf_take_lt (s : List UInt8) (k : Nat) (h : k ≤ s.length) : valOf (s.take k) < 128 ^ k := by
  have := valOf_lt (s.take k)
  rwa [List.length_take, Nat.min_eq_left h] at this
theorem pow128 (k : Nat) : (128 : Nat) ^ k = 2 ^ (7 * k) := by rw [show (128 : Nat) = 2 ^ 7 by decide, ← Nat.pow_mul]
theorem pow128_le {k m : Nat} (h : k ≤ m) : (128 : Nat) ^ k ≤ 128 ^ m := Nat.pow_le_pow_right (by decide) h
/-- 'n | x << 7i' is a sum: n lies below the bits of x. -/
theorem or_shift (n x k : Nat) (hn : n < 128 ^ k) : n ||| x * 2 ^ (7 * k) = n + 128 ^ k * x := by
  rw [Nat.or_comm, nat_join (7 * k) (x * 2 ^ (7 * k)) n (Nat.mul_mod_left _ _) (by rw [← pow128]; exact hn), pow128, Nat.mul_comm]
  omega
/-- Of nine groups the last alone tells whether the number is too great. -/
theorem too_great (s : List UInt8) (k : Nat) (h : k < s.length) (h9 : k < 9) (hlow : s[k].toNat < 128) : (4611686018427387903 < valOf (s.take (k + 1))) ↔ (k = 8 ∧ 63 < s[k].toNat) := by
  rw [valOf_take_succ s k h, Nat.mod_eq_of_lt hlow]
  have hlt := valOf_take_lt s k (by omega)
  by_cases e : k = 8
  · subst e
    have : (128 : Nat) ^ 8 = 72057594037927936 := by decide
    rw [this] at hlt ⊢
    constructor
    · intro h1; exact ⟨rfl, by omega⟩
    · intro h1; omega
  · have h1 : (128 : Nat) ^ k * s[k].toNat ≤ 128 ^ k * 127 := Nat.mul_le_mul_left _ (by omega)
    have h2 : (128 : Nat) ^ (k + 1) ≤ 128 ^ 8 := pow128_le (by omega)
    have h3 : (128 : Nat) ^ 8 = 72057594037927936 := by decide
    rw [Nat.pow_succ] at h2
    constructor
    · intro h4; omega
    · intro h4; exact absurd h4.1 e
theorem getD_all {s : List UInt8} {k : Nat} (hk : k ≤ s.length) (h : ∀ j, j < k → 128 ≤ (s.getD j 0).toNat) : ∀ j (hj : j < k), 128 ≤ (s[j]'(by omega)).toNat := fun j hj => by
  have := h j hj
  rwa [List.getD_eq_getElem?_getD, List.getElem?_eq_getElem (by omega), Option.getD_some] at this
theorem numAt_low_bad {l : List UInt8} {a k : Nat} (h : a ≤ l.length) (hk : k < (l.drop a).length) (h9 : k < 9) (hall : ∀ j, j < k → 128 ≤ ((l.drop a).getD j 0).toNat) (hlow : (l.drop a)[k].toNat < 128)
    (hbad : (0 < k ∧ (l.drop a)[k] = 0) ∨ 4611686018427387903 < valOf ((l.drop a).take (k + 1))) : numAt l (a : Int) = (0, 0, 13) := by
  rw [numAt_good h, numOf_low hk h9 (getD_all (Nat.le_of_lt hk) hall) hlow, if_pos hbad]; rfl
theorem numAt_low_good {l : List UInt8} {a k : Nat} (h : a ≤ l.length) (hk : k < (l.drop a).length) (h9 : k < 9) (hall : ∀ j, j < k → 128 ≤ ((l.drop a).getD j 0).toNat) (hlow : (l.drop a)[k].toNat < 128)
    (hgood : ¬ ((0 < k ∧ (l.drop a)[k] = 0) ∨ 4611686018427387903 < valOf ((l.drop a).take (k + 1)))) : numAt l (a : Int) = (((valOf ((l.drop a).take (k + 1)) : Nat) : Int), (a : Int) + k + 1, 0) := by
  rw [numAt_good h, numOf_low hk h9 (getD_all (Nat.le_of_lt hk) hall) hlow, if_neg hgood]
  show (_, (a : Int) + ((k + 1 : Nat) : Int), _) = _
  rw [Int.natCast_add, Int.add_assoc]; rfl
theorem numAt_short {l : List UInt8} {a : Nat} (h : a ≤ l.length) (h9 : l.length < a + 9) (hall : ∀ j, j < l.length - a → 128 ≤ ((l.drop a).getD j 0).toNat) : numAt l (a : Int) = (0, 0, 12) := by
  rw [numAt_good h, numOf_none (fun j hj _ => getD_all (k := l.length - a) (by simp) hall j (by simpa using hj)), if_pos (by simp; omega)]; rfl
theorem numAt_long {l : List UInt8} {a : Nat} (h9 : a + 9 ≤ l.length) (hall : ∀ j, j < 9 → 128 ≤ ((l.drop a).getD j 0).toNat) : numAt l (a : Int) = (0, 0, 13) := by
  rw [numAt_good (by omega), numOf_none (fun j _ h => getD_all (k := 9) (by simp; omega) hall j h), if_neg (by simp; omega)]; rfl
theorem getD_all_succ {s : List UInt8} {k : Nat} (hk : k < s.length) (h : ∀ j, j < k → 128 ≤ (s.getD j 0).toNat) (hx : 128 ≤ s[k].toNat) : ∀ j, j < k + 1 → 128 ≤ (s.getD j 0).toNat := fun j hj => by
  by_cases e : j < k
  · exact h j e
  · obtain rfl : j = k := by omega
    rwa [List.getD_eq_getElem?_getD, List.getElem?_eq_getElem hk, Option.getD_some]
end Go.Proofs.YtennlckfmgfjbaaGreatDoor
namespace Go.Proofs.YtennlckfmgfjbaaGreatDoor
/-- The bytes of a number: all but the last have the bit 80; the last is not 0, but if it is alone. -/
def Formed : List UInt8 → Prop
  | [] => False
  | [b] => b.toNat < 128
  | b :: c :: s => 128 ≤ b.toNat ∧ Formed (c :: s) ∧ 0 < valOf (c :: s)
theorem byte_eq (b : UInt8) (n : Nat) (h : b.toNat = n) : UInt8.ofNat n = b := by rw [← h]; exact UInt8.ofNat_toNat
theorem put_valOf (k : Nat) : ∀ g : List UInt8, Formed g → g.length ≤ k → putF k (valOf g) = g := by
  induction k with
  | zero => intro g hg hl; cases g <;> simp_all [Formed]
  | succ k ih =>
    intro g hg hl
    match g, hg with
    | [b], hb =>
      have hb : b.toNat < 128 := hb
      have e : valOf [b] = b.toNat := by simp [valOf, Nat.mod_eq_of_lt hb]
      rw [e, putF_short hb, byte_eq b _ rfl]
    | b :: c :: s, h =>
      obtain ⟨h1, h2, h3⟩ : 128 ≤ b.toNat ∧ Formed (c :: s) ∧ 0 < valOf (c :: s) := h
      have hb := b.toNat_lt
      rw [valOf]
      have hm := Nat.mod_lt b.toNat (show 0 < 128 by decide)
      generalize hn : valOf (c :: s) = n at *
      rw [putF_long (by omega), show (b.toNat % 128 + 128 * n) % 128 = b.toNat % 128 by omega, show (b.toNat % 128 + 128 * n) / 128 = n by omega, byte_eq b _ (by omega), ← hn, ih (c :: s) h2 (by simpa using hl)]
/-- The groups of a number that is read. -/
theorem formed_take {s : List UInt8} : ∀ {k : Nat} (hk : k < s.length), (∀ j (h : j < k), 128 ≤ (s[j]'(by omega)).toNat) → s[k].toNat < 128 → (0 < k → s[k] ≠ 0) → Formed (s.take (k + 1)) ∧ (0 < k → 0 < valOf (s.take (k + 1))) := by
  induction s with
  | nil => intro k hk; simp at hk
  | cons b s ih =>
    intro k hk hall hlow hne
    match k with
    | 0 => exact ⟨by simpa [Formed] using hlow, fun h => absurd h (by omega)⟩
    | k + 1 =>
      have hk' : k < s.length := by simpa using hk
      have h1 : 128 ≤ b.toNat := hall 0 (by omega)
      have hlow' : s[k].toNat < 128 := hlow
      have hne' : s[k] ≠ 0 := hne (by omega)
      obtain ⟨h2, h3⟩ := ih hk' (fun j hj => hall (j + 1) (by omega)) hlow' (fun _ => hne')
      have hpos : 0 < valOf (s.take (k + 1)) := by
        by_cases e : 0 < k
        · exact h3 e
        · obtain rfl : k = 0 := by omega
          rw [valOf_take_succ s 0 hk']
          have : s[0].toNat ≠ 0 := fun e => hne' (UInt8.toNat_inj.1 e)
          rw [Nat.mod_eq_of_lt hlow']
          simp; omega
      rw [List.take_succ_cons]
      cases hs : s.take (k + 1) with
      | nil => rw [hs] at hpos; simp [valOf] at hpos
      | cons c t =>
        rw [hs] at h2 hpos
        exact ⟨⟨h1, h2, hpos⟩, fun _ => by rw [valOf]; omega⟩
theorem numOf_ok {s : List UInt8} {n c : Nat} (h : numOf s = (n, c, 0)) : c ≤ s.length ∧ put n = s.take c ∧ n ≤ 4611686018427387903 := by
  unfold numOf at h
  cases hf : (s.take 9).findIdx? (fun b => decide (b.toNat < 128)) with
  | none =>
    rw [hf] at h
    simp only at h
    split at h <;> simp at h
  | some j =>
    rw [hf] at h
    simp only at h
    obtain ⟨hj, hlow, hall⟩ := List.findIdx?_eq_some_iff_getElem.1 hf
    rw [List.length_take] at hj
    have hjs : j < s.length := by omega
    split at h
    · simp at h
    · next hc =>
      simp only [Prod.mk.injEq] at h
      obtain ⟨rfl, rfl, -⟩ := h
      simp at hlow
      have hall' : ∀ i (hi : i < j), 128 ≤ (s[i]'(by omega)).toNat := fun i hi => by
        have := hall i hi
        simp at this
        omega
      have hne : 0 < j → s[j] ≠ 0 := fun e1 e2 => hc (.inl ⟨e1, by rw [List.getD_eq_getElem?_getD, List.getElem?_eq_getElem hjs, Option.getD_some]; exact e2⟩)
      exact ⟨by omega, put_valOf 9 _ (formed_take hjs hall' hlow hne).1 (by rw [List.length_take]; omega), by have := fun e => hc (.inr e); omega⟩
/-- What stands behind a number that is written is read as that number. -/
theorem putF_spec (k : Nat) : ∀ n, n < 128 ^ (k + 1) → ∃ j, (putF (k + 1) n).length = j + 1 ∧ j ≤ k ∧ Formed (putF (k + 1) n) ∧ valOf (putF (k + 1) n) = n := by
  induction k with
  | zero =>
    intro n hn
    have h : n < 128 := by simpa using hn
    rw [putF_short h]
    exact ⟨0, rfl, Nat.le_refl _, by simpa [Formed, byte_low n h] using h, by rw [valOf, valOf, byte_low n h]; omega⟩
  | succ k ih =>
    intro n hn
    by_cases h : n < 128
    · rw [putF_short h]
      exact ⟨0, rfl, Nat.zero_le _, by simpa [Formed, byte_low n h] using h, by rw [valOf, valOf, byte_low n h]; omega⟩
    · obtain ⟨j, h1, h2, h3, h4⟩ := ih (n / 128) (pow_step hn)
      rw [putF_long h]
      refine ⟨j + 1, by rw [List.length_cons, h1], by omega, ?_, by rw [valOf, h4, byte_more]; omega⟩
      cases hp : putF (k + 1) (n / 128) with
      | nil => rw [hp] at h1; simp at h1
      | cons c t =>
        rw [hp] at h3 h4
        exact ⟨by rw [byte_more]; omega, h3, by rw [h4]; omega⟩
theorem formed_low : ∀ {g : List UInt8} (_ : Formed g) {j : Nat} (hj : g.length = j + 1), (∀ i (h : i < j), 128 ≤ (g[i]'(by omega)).toNat) ∧ (g[j]'(by omega)).toNat < 128 ∧ (0 < j → (g[j]'(by omega)) ≠ 0) := by
  intro g
  induction g with
  | nil => intro hg; exact hg.elim
  | cons b s ih =>
    intro hg j hj
    match s, hg with
    | [], hb =>
      obtain rfl : j = 0 := by simpa using hj.symm
      exact ⟨fun i hi => absurd hi (by omega), hb, fun h => absurd h (by omega)⟩
    | c :: t, hc =>
      obtain ⟨h1, h2, h3⟩ : 128 ≤ b.toNat ∧ Formed (c :: t) ∧ 0 < valOf (c :: t) := hc
      match j with
      | 0 => simp at hj
      | j + 1 =>
        obtain ⟨a1, a2, a3⟩ := ih h2 (j := j) (by simpa using hj)
        refine ⟨fun i hi => ?_, a2, fun _ => ?_⟩
        · match i with
          | 0 => exact h1
          | i + 1 => exact a1 i (by omega)
        · by_cases e : 0 < j
          · exact a3 e
          · obtain rfl : j = 0 := by omega
            have ht : t = [] := List.eq_nil_of_length_eq_zero (by simpa using hj)
            subst ht
            intro e0
            have e0 : c = 0 := e0
            subst e0
            simp [valOf] at h3
theorem numOf_put (n : Nat) (hn : n ≤ 4611686018427387903) (s : List UInt8) : numOf (put n ++ s) = (n, (put n).length, 0) := by
  obtain ⟨j, h1, h2, h3, h4⟩ := putF_spec 8 n (by have : (128 : Nat) ^ (8 + 1) = 9223372036854775808 := by decide
                                                  omega)
  show numOf (putF 9 n ++ s) = (n, (putF 9 n).length, 0)
  generalize hg : putF (8 + 1) n = g at *
  obtain ⟨a1, a2, a3⟩ := formed_low h3 h1
  have hj : j < (g ++ s).length := by rw [List.length_append]; omega
  have ht : (g ++ s).take (j + 1) = g := by rw [List.take_append_of_le_length (by omega), List.take_of_length_le (by omega)]
  rw [numOf_low hj (by omega) (fun i hi => by rw [List.getElem_append_left (by omega)]; exact a1 i hi) (by rw [List.getElem_append_left (by omega)]; exact a2), ht, h4, if_neg, h1]
  rintro (⟨e1, e2⟩ | e)
  · rw [List.getElem_append_left (by omega)] at e2
    exact a3 e1 e2
  · omega
/-- What Number can tell. -/
theorem numAt_cases (l : List UInt8) (a : Int) : (∃ e : Nat, e ≠ 0 ∧ e ≤ 13 ∧ numAt l a = (0, 0, (e : Int))) ∨
    ∃ m n c : Nat, a = m ∧ numAt l a = ((n : Int), (m : Int) + c, 0) ∧ 0 < c ∧ m + c ≤ l.length ∧ put n = (l.drop m).take c ∧ n ≤ 4611686018427387903 := by
  by_cases h : a < 0 ∨ (l.length : Int) < a
  · exact .inl ⟨11, by decide, by decide, numAt_bad h⟩
  · obtain ⟨m, rfl⟩ := Int.eq_ofNat_of_zero_le (show 0 ≤ a by omega)
    have hm : m ≤ l.length := by omega
    rw [numAt_good hm]
    cases hn : numOf (l.drop m) with
    | mk n r =>
      obtain ⟨c, e⟩ := r
      match e, hn with
      | 0, hn =>
        obtain ⟨h1, h2, h3⟩ := numOf_ok hn
        rw [List.length_drop] at h1
        refine .inr ⟨m, n, c, rfl, rfl, ?_, by omega, h2, h3⟩
        rcases Nat.eq_zero_or_pos c with e | e
        · subst e
          obtain ⟨j, hj, -⟩ := putF_spec 8 n (by have : (128 : Nat) ^ (8 + 1) = 9223372036854775808 := by decide
                                                 omega)
          have := congrArg List.length h2
          rw [show put n = putF (8 + 1) n from rfl, hj] at this
          simp at this
        · exact e
      | e + 1, hn =>
        refine .inl ⟨e + 1, by omega, ?_, rfl⟩
        unfold numOf at hn
        split at hn <;> split at hn <;> simp only [Prod.mk.injEq] at hn <;> omega
end Go.Proofs.YtennlckfmgfjbaaGreatDoor
