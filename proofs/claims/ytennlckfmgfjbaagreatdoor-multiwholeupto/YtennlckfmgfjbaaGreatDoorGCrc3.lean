/- The checksum as plain arithmetic on natural numbers: its rounds, that they stay below 2^32, and that none of them forgets anything. No program in it. Words for memory: a slice of bytes that reads as a list, a slice of such slices; what keeps them. No program in it. More words for memory: pieces of a slice. No program in it. -/
import Derived.Laws.BitsAllLaws
import Derived.WalkKit
import Derived.WalkSpells
import Derived.WalkLawsBesides
import Derived.Lib.UnsafeStr
import Derived.Lib.Hide
namespace Go.Proofs.YtennlckfmgfjbaaGreatDoor

def crcBit (s : Nat) : Nat := (s / 2) ^^^ (s % 2 * 3988292384)
def crcBits : Nat → Nat → Nat
  | 0, s => s
  | k + 1, s => crcBits k (crcBit s)
def crcStep (s : Nat) (b : UInt8) : Nat := crcBits 8 (s ^^^ b.toNat)
def crcRun (s : Nat) (l : List UInt8) : Nat := l.foldl crcStep s
def crc (l : List UInt8) : Nat := 4294967295 - crcRun 4294967295 l

theorem crcBit_lt {s : Nat} (h : s < 4294967296) : crcBit s < 4294967296 := by
  unfold crcBit
  exact Nat.xor_lt_two_pow (n := 32) (by omega) (by omega)
theorem crcBits_lt (k : Nat) : ∀ {s : Nat}, s < 4294967296 → crcBits k s < 4294967296 := by
  induction k with
  | zero => intro s h; exact h
  | succ k ih => intro s h; exact ih (crcBit_lt h)
theorem xor_byte_lt {s : Nat} (h : s < 4294967296) (b : UInt8) : s ^^^ b.toNat < 4294967296 :=
  Nat.xor_lt_two_pow (n := 32) (by omega) (by have := b.toNat_lt; omega)
theorem crcStep_lt {s : Nat} (h : s < 4294967296) (b : UInt8) : crcStep s b < 4294967296 := crcBits_lt 8 (xor_byte_lt h b)
theorem crcRun_lt (l : List UInt8) : ∀ {s : Nat}, s < 4294967296 → crcRun s l < 4294967296 := by
  induction l with
  | nil => intro s h; exact h
  | cons b l ih => intro s h; exact ih (crcStep_lt h b)
theorem crcRun_append (s : Nat) (l m : List UInt8) : crcRun s (l ++ m) = crcRun (crcRun s l) m := by simp [crcRun]
theorem crcRun_snoc (s : Nat) (l : List UInt8) (b : UInt8) : crcRun s (l ++ [b]) = crcStep (crcRun s l) b := by simp [crcRun]
theorem crcBits_snoc (k s : Nat) : crcBits (k + 1) s = crcBit (crcBits k s) := by
  induction k generalizing s with
  | zero => rfl
  | succ k ih => exact ih (crcBit s)

/-- The top bit of a round's result tells the bit that was shifted out, so no round forgets anything. -/
theorem crcBit_inj {s t : Nat} (hs : s < 4294967296) (ht : t < 4294967296) (h : crcBit s = crcBit t) : s = t := by
  unfold crcBit at h
  have e1 : s % 2 = 0 ∨ s % 2 = 1 := by omega
  have e2 : t % 2 = 0 ∨ t % 2 = 1 := by omega
  have top : ∀ x, x < 2147483648 → (x ^^^ 3988292384).testBit 31 = true := fun x hx => by
    rw [Nat.testBit_xor, Nat.testBit_lt_two_pow (x := x) (i := 31) (by omega)]; decide
  have low : ∀ x, x < 2147483648 → x.testBit 31 = false := fun x hx => Nat.testBit_lt_two_pow (by omega)
  rcases e1 with e1 | e1 <;> rcases e2 with e2 | e2 <;> rw [e1, e2] at h <;> simp only [Nat.zero_mul, Nat.one_mul, Nat.xor_zero] at h
  · omega
  · exact absurd (congrArg (Nat.testBit · 31) h) (by simp only [top _ (show t / 2 < 2147483648 by omega), low _ (show s / 2 < 2147483648 by omega)]; decide)
  · exact absurd (congrArg (Nat.testBit · 31) h) (by simp only [top _ (show s / 2 < 2147483648 by omega), low _ (show t / 2 < 2147483648 by omega)]; decide)
  · have h2 := congrArg (· ^^^ 3988292384) h
    simp only [Nat.xor_assoc, Nat.xor_self, Nat.xor_zero] at h2
    omega
theorem crcBits_inj (k : Nat) : ∀ {s t : Nat}, s < 4294967296 → t < 4294967296 → crcBits k s = crcBits k t → s = t := by
  induction k with
  | zero => intro s t _ _ h; exact h
  | succ k ih => intro s t hs ht h; exact crcBit_inj hs ht (ih (crcBit_lt hs) (crcBit_lt ht) h)
theorem xor_left_inj {a b c : Nat} (h : a ^^^ c = b ^^^ c) : a = b := by
  have h2 := congrArg (· ^^^ c) h
  simpa [Nat.xor_assoc] using h2
theorem crcStep_inj {s t : Nat} (hs : s < 4294967296) (ht : t < 4294967296) {b : UInt8} (h : crcStep s b = crcStep t b) : s = t :=
  xor_left_inj (crcBits_inj 8 (xor_byte_lt hs b) (xor_byte_lt ht b) h)
theorem crcStep_inj_byte {s : Nat} (hs : s < 4294967296) {b c : UInt8} (h : crcStep s b = crcStep s c) : b = c := by
  have h1 := crcBits_inj 8 (xor_byte_lt hs b) (xor_byte_lt hs c) h
  rw [Nat.xor_comm s, Nat.xor_comm s] at h1
  exact UInt8.toNat_inj.1 (xor_left_inj h1)
theorem crcRun_inj (l : List UInt8) : ∀ {s t : Nat}, s < 4294967296 → t < 4294967296 → crcRun s l = crcRun t l → s = t := by
  induction l with
  | nil => intro s t _ _ h; exact h
  | cons b l ih => intro s t hs ht h; exact crcStep_inj hs ht (ih (crcStep_lt hs b) (crcStep_lt ht b) h)
/-- One byte that is another one makes another sum. -/
theorem crc_byte_ne (l m : List UInt8) {b c : UInt8} (h : b ≠ c) : crc (l ++ b :: m) ≠ crc (l ++ c :: m) := by
  intro e
  have h0 : (4294967295 : Nat) < 4294967296 := by decide
  have hl := crcRun_lt l h0
  unfold crc at e
  have e1 : ∀ x, crcRun 4294967295 (l ++ x :: m) = crcRun (crcStep (crcRun 4294967295 l) x) m := fun x => by simp [crcRun]
  rw [e1, e1] at e
  have k1 := crcRun_lt m (crcStep_lt hl b)
  have k2 := crcRun_lt m (crcStep_lt hl c)
  have e2 : crcRun (crcStep (crcRun 4294967295 l) b) m = crcRun (crcStep (crcRun 4294967295 l) c) m := by omega
  exact h (crcStep_inj_byte hl (crcRun_inj m (crcStep_lt hl b) (crcStep_lt hl c) e2))
theorem crc_le (l : List UInt8) : crc l ≤ 4294967295 := Nat.sub_le _ _
theorem crc_awake : crc [49, 50, 51, 52, 53, 54, 55, 56, 57] = 3421780262 := by decide +kernel

theorem xor_ones (s : Nat) (h : s < 4294967296) : 4294967295 ^^^ s = 4294967295 - s := by
  have e : 4294967295 - s = 2 ^ 32 - (s + 1) := by omega
  rw [e]
  apply Nat.eq_of_testBit_eq
  intro i
  rw [Nat.testBit_xor, Nat.testBit_two_pow_sub_succ (by omega), show (4294967295 : Nat) = 2 ^ 32 - 1 by decide, Nat.testBit_two_pow_sub_one]
  by_cases hi : i < 32
  · simp [hi]
  · have : s.testBit i = false := Nat.testBit_lt_two_pow (Nat.lt_of_lt_of_le h (Nat.pow_le_pow_right (n := 2) (i := 32) (by decide) (by omega)))
    simp [hi, this]
theorem u32_not (s : Nat) (h : s < 4294967296) : bits BinOp.xor IntKind.u32 IntKind.u32.max (s : Int) = ((4294967295 - s : Nat) : Int) := by
  have e : IntKind.u32.max = ((4294967295 : Nat) : Int) := rfl
  rw [e, u32_xor_nat _ _ (by decide) h, xor_ones s h]
/-- The rounds as the model spells them. -/
theorem u32_round (s : Nat) (h : s < 4294967296) :
    bits BinOp.xor IntKind.u32 ((s : Int) / 2) (bits BinOp.and IntKind.u32 (s : Int) 1 * 3988292384 % 4294967296) = (crcBit s : Int) := by
  have h1 : bits BinOp.and IntKind.u32 (s : Int) 1 = ((s % 2 : Nat) : Int) := by
    have := u32_and_nat s 1 h (by decide)
    rw [nat_mask1] at this
    exact this
  rw [h1]
  have h2 : ((s : Int) / 2) = ((s / 2 : Nat) : Int) := by omega
  have h3 : ((s % 2 : Nat) : Int) * 3988292384 % 4294967296 = ((s % 2 * 3988292384 : Nat) : Int) := by omega
  rw [h2, h3, u32_xor_nat _ _ (by omega) (by omega)]
  rfl

theorem i64_xor_nat (a b : Nat) (ha : a < 9223372036854775808) (hb : b < 9223372036854775808) : bits .xor .i64 (a : Int) (b : Int) = ((a ^^^ b : Nat) : Int) := by
  have hx : a ^^^ b < 2 ^ 63 := Nat.xor_lt_two_pow (by omega) (by omega)
  show IntKind.i64.wrap ((BitVec.ofInt 64 (a : Int) ^^^ BitVec.ofInt 64 (b : Int)).toNat : Int) = _
  rw [BitVec.toNat_xor, ofInt_u64 a (by omega), ofInt_u64 b (by omega)]
  simp [IntKind.wrap, IntKind.bits, IntKind.signed]
  omega
theorem i64_or_nat (a b : Nat) (ha : a < 9223372036854775808) (hb : b < 9223372036854775808) : bits .or .i64 (a : Int) (b : Int) = ((a ||| b : Nat) : Int) := by
  have hx : a ||| b < 2 ^ 63 := Nat.or_lt_two_pow (by omega) (by omega)
  show IntKind.i64.wrap ((BitVec.ofInt 64 (a : Int) ||| BitVec.ofInt 64 (b : Int)).toNat : Int) = _
  rw [BitVec.toNat_or, ofInt_u64 a (by omega), ofInt_u64 b (by omega)]
  simp [IntKind.wrap, IntKind.bits, IntKind.signed]
  omega
end Go.Proofs.YtennlckfmgfjbaaGreatDoor
namespace Go.Proofs.YtennlckfmgfjbaaGreatDoor
open Go.RowKit

/-- The value is a slice of bytes that reads as l (nil too, where l is empty). -/
def Bts (w : World) (v : Value) (l : List UInt8) : Prop :=
  ∃ A c, v = .slice A l.length c ∧ l.length ≤ c ∧ c ≤ maxLen ∧ (0 < l.length → ∃ b o, A = some ⟨b, o, none⟩ ∧ ∀ k x, l[k]? = some x → w.cell? ⟨b, o + k, none⟩ = some (.int .u8 (x.toNat : Int)))
/-- The value is a slice of slices of bytes. -/
def Parts (w : World) (v : Value) (ls : List (List UInt8)) : Prop :=
  ∃ A c, v = .slice A ls.length c ∧ ls.length ≤ c ∧ c ≤ maxLen ∧ (0 < ls.length → ∃ b o, A = some ⟨b, o, none⟩ ∧ ∀ k l, ls[k]? = some l → ∃ u, w.cell? ⟨b, o + k, none⟩ = some u ∧ Bts w u l)
/-- The value is a slice of ints that reads as l. -/
def Ints (w : World) (v : Value) (l : List Int) : Prop :=
  ∃ A c, v = .slice A l.length c ∧ l.length ≤ c ∧ c ≤ maxLen ∧ (0 < l.length → ∃ b o, A = some ⟨b, o, none⟩ ∧ ∀ k x, l[k]? = some x → w.cell? ⟨b, o + k, none⟩ = some (.int .i64 x))

/-- All that was there reads as it did. -/
def Kept (w w' : World) : Prop := Below w.heap.size w w'

theorem Kept.refl (w : World) : Kept w w := Below.refl _ w
theorem Kept.trans {w w1 w2 : World} (h : Kept w w1) (k : Kept w1 w2) : Kept w w2 := Below.trans h (Below.mono k h.size)
theorem Kept.cell {w w' : World} (h : Kept w w') {a : Addr} {v : Value} (hc : w.cell? a = some v) : w'.cell? a = some v := by
  rw [Below.cell h (World.block_lt_of_cell? _ _ hc)]; exact hc
theorem Kept.alloc {w w' : World} (h : Kept w w') (o : Obj) : Kept w (w'.alloc o) := Below.alloc h h.size o
theorem Kept.drew {w w' : World} (h : Kept w w') : Kept w w'.drew := Below.trans h ⟨rfl, rfl, rfl, Nat.le_refl _, fun _ _ => rfl⟩
theorem Kept.drewN {w w' : World} (h : Kept w w') (n : Nat) : Kept w (w'.drewN n) := Below.trans h ⟨rfl, rfl, rfl, Nat.le_refl _, fun _ _ => rfl⟩

theorem Bts.kept {w w' : World} {v : Value} {l : List UInt8} (h : Bts w v l) (k : Kept w w') : Bts w' v l := by
  obtain ⟨A, c, rfl, h1, h2, h3⟩ := h
  refine ⟨A, c, rfl, h1, h2, fun hl => ?_⟩
  obtain ⟨b, o, rfl, hc⟩ := h3 hl
  exact ⟨b, o, rfl, fun i x hx => k.cell (hc i x hx)⟩
theorem Ints.kept {w w' : World} {v : Value} {l : List Int} (h : Ints w v l) (k : Kept w w') : Ints w' v l := by
  obtain ⟨A, c, rfl, h1, h2, h3⟩ := h
  refine ⟨A, c, rfl, h1, h2, fun hl => ?_⟩
  obtain ⟨b, o, rfl, hc⟩ := h3 hl
  exact ⟨b, o, rfl, fun i x hx => k.cell (hc i x hx)⟩
theorem Parts.kept {w w' : World} {v : Value} {ls : List (List UInt8)} (h : Parts w v ls) (k : Kept w w') : Parts w' v ls := by
  obtain ⟨A, c, rfl, h1, h2, h3⟩ := h
  refine ⟨A, c, rfl, h1, h2, fun hl => ?_⟩
  obtain ⟨b, o, rfl, hc⟩ := h3 hl
  refine ⟨b, o, rfl, fun i x hx => ?_⟩
  obtain ⟨u, hu, hb⟩ := hc i x hx
  exact ⟨u, k.cell hu, hb.kept k⟩
theorem Bts.len {w : World} {v : Value} {l : List UInt8} (h : Bts w v l) : l.length ≤ maxLen := by
  obtain ⟨A, c, rfl, h1, h2, h3⟩ := h; omega
theorem Bts.nil (w : World) : Bts w (.slice none 0 0) [] := ⟨none, 0, rfl, Nat.le_refl _, by decide, fun h => absurd h (by simp)⟩
theorem Bts.empty (w : World) (A : Option Addr) (c : Nat) (hc : c ≤ maxLen) : Bts w (.slice A 0 c) [] := ⟨A, c, rfl, Nat.zero_le _, hc, fun h => absurd h (by simp)⟩

/-- A row of the call's own reads as a slice of bytes. -/
theorem Bts.of_own {w : World} {base : Nat} {e : TypeId} {v : Value} {n : Nat} {l : List UInt8} (h : w.ownsRow base e 1 v n (Lib.byteCells l)) : Bts w v l := by
  have hn : l.length = n := by have := h.1; simpa [Lib.byteCells] using this
  rcases h.2 with ⟨rfl, h0⟩ | ⟨g, cap, cur, rfl, hB, hg, hc, hm, hs, ht⟩
  · obtain rfl : l = [] := List.eq_nil_of_length_eq_zero (by omega)
    exact Bts.nil w
  · subst hn
    refine ⟨_, cap, rfl, hc, hm, fun _ => ⟨g, 0, rfl, fun k x hx => ?_⟩⟩
    have := h.cells (g := g) rfl k (.int .u8 (x.toNat : Int)) (by simp [Lib.byteCells, hx])
    have e : ((⟨g, 0, none⟩ : Addr).add k) = ⟨g, 0 + k, none⟩ := by unfold Addr.add; split <;> simp_all
    rw [e] at this
    exact this
theorem byteCells_length (l : List UInt8) : (Lib.byteCells l).length = l.length := by simp [Lib.byteCells]
/-- One slice among a new array of slices. -/
theorem Parts.one {w : World} {u : Value} {l : List UInt8} {t : TypeId} (h : Bts w u l) : Parts (w.alloc (.cells #[u] t)) (.slice (some ⟨w.heap.size, 0, none⟩) 1 1) [l] := by
  refine ⟨_, 1, rfl, Nat.le_refl _, by decide, fun _ => ⟨_, 0, rfl, fun k x hx => ?_⟩⟩
  match k, hx with
  | 0, hx =>
    obtain rfl : l = x := by simpa using hx
    exact ⟨u, by simp [go_sem], h.kept ((Kept.refl w).alloc _)⟩
theorem Parts.two {w : World} {u u' : Value} {l l' : List UInt8} {t : TypeId} (h : Bts w u l) (h' : Bts w u' l') : Parts (w.alloc (.cells #[u, u'] t)) (.slice (some ⟨w.heap.size, 0, none⟩) 2 2) [l, l'] := by
  refine ⟨_, 2, rfl, Nat.le_refl _, by decide, fun _ => ⟨_, 0, rfl, fun k x hx => ?_⟩⟩
  match k, hx with
  | 0, hx =>
    obtain rfl : l = x := by simpa using hx
    exact ⟨u, by simp [go_sem], h.kept ((Kept.refl w).alloc _)⟩
  | 1, hx =>
    obtain rfl : l' = x := by simpa using hx
    exact ⟨u', by simp [go_sem], h'.kept ((Kept.refl w).alloc _)⟩
theorem Parts.three {w : World} {u u' u'' : Value} {l l' l'' : List UInt8} {t : TypeId} (h : Bts w u l) (h' : Bts w u' l') (h'' : Bts w u'' l'') : Parts (w.alloc (.cells #[u, u', u''] t)) (.slice (some ⟨w.heap.size, 0, none⟩) 3 3) [l, l', l''] := by
  refine ⟨_, 3, rfl, Nat.le_refl _, by decide, fun _ => ⟨_, 0, rfl, fun k x hx => ?_⟩⟩
  match k, hx with
  | 0, hx =>
    obtain rfl : l = x := by simpa using hx
    exact ⟨u, by simp [go_sem], h.kept ((Kept.refl w).alloc _)⟩
  | 1, hx =>
    obtain rfl : l' = x := by simpa using hx
    exact ⟨u', by simp [go_sem], h'.kept ((Kept.refl w).alloc _)⟩
  | 2, hx =>
    obtain rfl : l'' = x := by simpa using hx
    exact ⟨u'', by simp [go_sem], h''.kept ((Kept.refl w).alloc _)⟩
end Go.Proofs.YtennlckfmgfjbaaGreatDoor
namespace Go.Proofs.YtennlckfmgfjbaaGreatDoor
open Go.RowKit
/-- A piece of a slice that holds bytes. -/
theorem Bts.cut {w : World} {l : List UInt8} {b o c : Nat} (h : Bts w (.slice (some ⟨b, o, none⟩) l.length c) l) (m n : Nat) (hn : m + n ≤ l.length) : Bts w (.slice (some ⟨b, o + m, none⟩) n (c - m)) ((l.drop m).take n) := by
  obtain ⟨A, c', hv, h1, h2, h3⟩ := h
  obtain ⟨rfl, -, rfl⟩ : some (⟨b, o, none⟩ : Addr) = A ∧ l.length = l.length ∧ c = c' := by simpa using hv
  have hlen : ((l.drop m).take n).length = n := by rw [List.length_take, List.length_drop]; omega
  refine ⟨_, c - m, by rw [hlen], by rw [hlen]; omega, by omega, fun hp => ⟨b, o + m, rfl, fun k x hx => ?_⟩⟩
  rw [hlen] at hp
  obtain ⟨b', o', e, hc⟩ := h3 (by omega)
  cases e
  rw [Nat.add_assoc]
  refine hc (m + k) x ?_
  have hk : k < n := by
    have := (List.getElem?_eq_some_iff.1 hx).1
    omega
  rw [List.getElem?_take_of_lt hk, List.getElem?_drop] at hx
  exact hx
/-- A slice that holds bytes has an address. -/
theorem Bts.addr {w : World} {A : Option Addr} {n c : Nat} {l : List UInt8} (h : Bts w (.slice A n c) l) (hp : 0 < l.length) : ∃ b o, A = some ⟨b, o, none⟩ := by
  obtain ⟨A', c', hv, -, -, h3⟩ := h
  obtain ⟨rfl, -, -⟩ : A = A' ∧ n = l.length ∧ c = c' := by simpa using hv
  obtain ⟨b, o, e, -⟩ := h3 hp
  exact ⟨b, o, e⟩
end Go.Proofs.YtennlckfmgfjbaaGreatDoor
