/- What is read as a number is what is written for it, and the other way round. No program in it. -/
import Derived.Test.YtlkcooedlkhacaaDoorNumSpec
namespace Go.Proofs.YtlkcooedlkhacaaDoor
/-- The bytes of a number: all but the last have the bit 80; the last is not 0, but if it is alone. -/
def Formed : List UInt8 → Prop
  | [] => False
  | [b] => b.toNat < 128
  | b :: c :: s => 128 ≤ b.toNat ∧ Formed (c :: s) ∧ 0 < valOf (c :: s)
theorem byte_eq (b : UInt8) (n : Nat) (h : b.toNat = n) : UInt8.ofNat n = b := by rw [← h]; exact UInt8.ofNat_toNat
theorem put_valOf (k : Nat) : ∀ g : List UInt8, Formed g → g.length ≤ k → putF k (valOf g) = g := by
  induction k with
  | zero => intro g hg hl; cases g <;> simp_all [Formed]
  | succ k ih =>
    intro g hg hl
    match g, hg with
    | [b], hb =>
      have hb : b.toNat < 128 := hb
      have e : valOf [b] = b.toNat := by simp [valOf, Nat.mod_eq_of_lt hb]
      rw [e, putF_short hb, byte_eq b _ rfl]
    | b :: c :: s, h =>
      obtain ⟨h1, h2, h3⟩ : 128 ≤ b.toNat ∧ Formed (c :: s) ∧ 0 < valOf (c :: s) := h
      have hb := b.toNat_lt
      rw [valOf]
      have hm := Nat.mod_lt b.toNat (show 0 < 128 by decide)
      generalize hn : valOf (c :: s) = n at *
      rw [putF_long (by omega), show (b.toNat % 128 + 128 * n) % 128 = b.toNat % 128 by omega, show (b.toNat % 128 + 128 * n) / 128 = n by omega, byte_eq b _ (by omega), ← hn, ih (c :: s) h2 (by simpa using hl)]
/-- The groups of a number that is read. -/
theorem formed_take {s : List UInt8} : ∀ {k : Nat} (hk : k < s.length), (∀ j (h : j < k), 128 ≤ (s[j]'(by omega)).toNat) → s[k].toNat < 128 → (0 < k → s[k] ≠ 0) → Formed (s.take (k + 1)) ∧ (0 < k → 0 < valOf (s.take (k + 1))) := by
  induction s with
  | nil => intro k hk; simp at hk
  | cons b s ih =>
    intro k hk hall hlow hne
    match k with
    | 0 => exact ⟨by simpa [Formed] using hlow, fun h => absurd h (by omega)⟩
    | k + 1 =>
      have hk' : k < s.length := by simpa using hk
      have h1 : 128 ≤ b.toNat := hall 0 (by omega)
      have hlow' : s[k].toNat < 128 := hlow
      have hne' : s[k] ≠ 0 := hne (by omega)
      obtain ⟨h2, h3⟩ := ih hk' (fun j hj => hall (j + 1) (by omega)) hlow' (fun _ => hne')
      have hpos : 0 < valOf (s.take (k + 1)) := by
        by_cases e : 0 < k
        · exact h3 e
        · obtain rfl : k = 0 := by omega
          rw [valOf_take_succ s 0 hk']
          have : s[0].toNat ≠ 0 := fun e => hne' (UInt8.toNat_inj.1 e)
          rw [Nat.mod_eq_of_lt hlow']
          simp; omega
      rw [List.take_succ_cons]
      cases hs : s.take (k + 1) with
      | nil => rw [hs] at hpos; simp [valOf] at hpos
      | cons c t =>
        rw [hs] at h2 hpos
        exact ⟨⟨h1, h2, hpos⟩, fun _ => by rw [valOf]; omega⟩
theorem numOf_ok {s : List UInt8} {n c : Nat} (h : numOf s = (n, c, 0)) : c ≤ s.length ∧ put n = s.take c ∧ n ≤ 4611686018427387903 := by
  unfold numOf at h
  cases hf : (s.take 9).findIdx? (fun b => decide (b.toNat < 128)) with
  | none =>
    rw [hf] at h
    simp only at h
    split at h <;> simp at h
  | some j =>
    rw [hf] at h
    simp only at h
    obtain ⟨hj, hlow, hall⟩ := List.findIdx?_eq_some_iff_getElem.1 hf
    rw [List.length_take] at hj
    have hjs : j < s.length := by omega
    split at h
    · simp at h
    · next hc =>
      simp only [Prod.mk.injEq] at h
      obtain ⟨rfl, rfl, -⟩ := h
      simp at hlow
      have hall' : ∀ i (hi : i < j), 128 ≤ (s[i]'(by omega)).toNat := fun i hi => by
        have := hall i hi
        simp at this
        omega
      have hne : 0 < j → s[j] ≠ 0 := fun e1 e2 => hc (.inl ⟨e1, by rw [List.getD_eq_getElem?_getD, List.getElem?_eq_getElem hjs, Option.getD_some]; exact e2⟩)
      exact ⟨by omega, put_valOf 9 _ (formed_take hjs hall' hlow hne).1 (by rw [List.length_take]; omega), by have := fun e => hc (.inr e); omega⟩
/-- What stands behind a number that is written is read as that number. -/
theorem putF_spec (k : Nat) : ∀ n, n < 128 ^ (k + 1) → ∃ j, (putF (k + 1) n).length = j + 1 ∧ j ≤ k ∧ Formed (putF (k + 1) n) ∧ valOf (putF (k + 1) n) = n := by
  induction k with
  | zero =>
    intro n hn
    have h : n < 128 := by simpa using hn
    rw [putF_short h]
    exact ⟨0, rfl, Nat.le_refl _, by simpa [Formed, byte_low n h] using h, by rw [valOf, valOf, byte_low n h]; omega⟩
  | succ k ih =>
    intro n hn
    by_cases h : n < 128
    · rw [putF_short h]
      exact ⟨0, rfl, Nat.zero_le _, by simpa [Formed, byte_low n h] using h, by rw [valOf, valOf, byte_low n h]; omega⟩
    · obtain ⟨j, h1, h2, h3, h4⟩ := ih (n / 128) (pow_step hn)
      rw [putF_long h]
      refine ⟨j + 1, by rw [List.length_cons, h1], by omega, ?_, by rw [valOf, h4, byte_more]; omega⟩
      cases hp : putF (k + 1) (n / 128) with
      | nil => rw [hp] at h1; simp at h1
      | cons c t =>
        rw [hp] at h3 h4
        exact ⟨by rw [byte_more]; omega, h3, by rw [h4]; omega⟩
theorem formed_low : ∀ {g : List UInt8} (_ : Formed g) {j : Nat} (hj : g.length = j + 1), (∀ i (h : i < j), 128 ≤ (g[i]'(by omega)).toNat) ∧ (g[j]'(by omega)).toNat < 128 ∧ (0 < j → (g[j]'(by omega)) ≠ 0) := by
  intro g
  induction g with
  | nil => intro hg; exact hg.elim
  | cons b s ih =>
    intro hg j hj
    match s, hg with
    | [], hb =>
      obtain rfl : j = 0 := by simpa using hj.symm
      exact ⟨fun i hi => absurd hi (by omega), hb, fun h => absurd h (by omega)⟩
    | c :: t, hc =>
      obtain ⟨h1, h2, h3⟩ : 128 ≤ b.toNat ∧ Formed (c :: t) ∧ 0 < valOf (c :: t) := hc
      match j with
      | 0 => simp at hj
      | j + 1 =>
        obtain ⟨a1, a2, a3⟩ := ih h2 (j := j) (by simpa using hj)
        refine ⟨fun i hi => ?_, a2, fun _ => ?_⟩
        · match i with
          | 0 => exact h1
          | i + 1 => exact a1 i (by omega)
        · by_cases e : 0 < j
          · exact a3 e
          · obtain rfl : j = 0 := by omega
            have ht : t = [] := List.eq_nil_of_length_eq_zero (by simpa using hj)
            subst ht
            intro e0
            have e0 : c = 0 := e0
            subst e0
            simp [valOf] at h3
theorem numOf_put (n : Nat) (hn : n ≤ 4611686018427387903) (s : List UInt8) : numOf (put n ++ s) = (n, (put n).length, 0) := by
  obtain ⟨j, h1, h2, h3, h4⟩ := putF_spec 8 n (by have : (128 : Nat) ^ (8 + 1) = 9223372036854775808 := by decide
                                                  omega)
  show numOf (putF 9 n ++ s) = (n, (putF 9 n).length, 0)
  generalize hg : putF (8 + 1) n = g at *
  obtain ⟨a1, a2, a3⟩ := formed_low h3 h1
  have hj : j < (g ++ s).length := by rw [List.length_append]; omega
  have ht : (g ++ s).take (j + 1) = g := by rw [List.take_append_of_le_length (by omega), List.take_of_length_le (by omega)]
  rw [numOf_low hj (by omega) (fun i hi => by rw [List.getElem_append_left (by omega)]; exact a1 i hi) (by rw [List.getElem_append_left (by omega)]; exact a2), ht, h4, if_neg, h1]
  rintro (⟨e1, e2⟩ | e)
  · rw [List.getElem_append_left (by omega)] at e2
    exact a3 e1 e2
  · omega
/-- What Number can tell. -/
theorem numAt_cases (l : List UInt8) (a : Int) : (∃ e : Nat, e ≠ 0 ∧ e ≤ 13 ∧ numAt l a = (0, 0, (e : Int))) ∨
    ∃ m n c : Nat, a = m ∧ numAt l a = ((n : Int), (m : Int) + c, 0) ∧ 0 < c ∧ m + c ≤ l.length ∧ put n = (l.drop m).take c ∧ n ≤ 4611686018427387903 := by
  by_cases h : a < 0 ∨ (l.length : Int) < a
  · exact .inl ⟨11, by decide, by decide, numAt_bad h⟩
  · obtain ⟨m, rfl⟩ := Int.eq_ofNat_of_zero_le (show 0 ≤ a by omega)
    have hm : m ≤ l.length := by omega
    rw [numAt_good hm]
    cases hn : numOf (l.drop m) with
    | mk n r =>
      obtain ⟨c, e⟩ := r
      match e, hn with
      | 0, hn =>
        obtain ⟨h1, h2, h3⟩ := numOf_ok hn
        rw [List.length_drop] at h1
        refine .inr ⟨m, n, c, rfl, rfl, ?_, by omega, h2, h3⟩
        rcases Nat.eq_zero_or_pos c with e | e
        · subst e
          obtain ⟨j, hj, -⟩ := putF_spec 8 n (by have : (128 : Nat) ^ (8 + 1) = 9223372036854775808 := by decide
                                                 omega)
          have := congrArg List.length h2
          rw [show put n = putF (8 + 1) n from rfl, hj] at this
          simp at this
        · exact e
      | e + 1, hn =>
        refine .inl ⟨e + 1, by omega, ?_, rfl⟩
        unfold numOf at hn
        split at hn <;> split at hn <;> simp only [Prod.mk.injEq] at hn <;> omega
end Go.Proofs.YtlkcooedlkhacaaDoor
