/- A frame in which one bit of the payload or of the sum has been turned is not taken. No program in it. -/
import Derived.Test.YtlkcooedlkhacaaDoorUnSpec
namespace Go.Proofs.YtlkcooedlkhacaaDoor
/-- The bytes with one of them turned. -/
def turned (s : List UInt8) (k : Nat) (b : UInt8) : List UInt8 := s.set k (s.getD k 0 ^^^ b)
theorem byte_xor_ne (x b : UInt8) (h : b ≠ 0) : x ^^^ b ≠ x := by
  intro e
  apply h
  have h1 := congrArg (x ^^^ ·) e
  simp only [← UInt8.xor_assoc, UInt8.xor_self, UInt8.zero_xor] at h1
  exact h1
theorem set_split (s : List UInt8) (k : Nat) (y : UInt8) (h : k < s.length) : s.set k y = s.take k ++ y :: s.drop (k + 1) := by
  rw [List.set_eq_take_append_cons_drop, if_pos h]
theorem split_at (s : List UInt8) (k : Nat) (h : k < s.length) : s = s.take k ++ s[k] :: s.drop (k + 1) := by
  rw [← List.drop_eq_getElem_cons h, List.take_append_drop]
/-- A turned byte of the payload makes another sum. -/
theorem crc_turned (h s : List UInt8) (k : Nat) (y : UInt8) (hk : k < s.length) (hy : y ≠ s[k]) : crc (h ++ s.set k y) ≠ crc (h ++ s) := by
  rw [set_split s k y hk]
  conv => rhs; rw [split_at s k hk]
  rw [← List.append_assoc, ← List.append_assoc]
  exact crc_byte_ne _ _ hy
theorem val4_set (s : List UInt8) (k : Nat) (y : UInt8) (hk : k < 4) (hl : 4 ≤ s.length) (hy : y ≠ s.getD k 0) : val4 (s.set k y) ≠ val4 s := by
  have e : ∀ j, (s.set k y).getD j 0 = if k = j then y else s.getD j 0 := fun j => by
    simp only [List.getD_eq_getElem?_getD, List.getElem?_set]
    by_cases h : k = j
    · subst h; simp [show k < s.length by omega]
    · simp [h]
  intro h
  apply hy
  apply UInt8.toNat_inj.1
  unfold val4 at h
  rw [e, e, e, e] at h
  have h0 := (s.getD 0 0).toNat_lt; have h1 := (s.getD 1 0).toNat_lt; have h2 := (s.getD 2 0).toNat_lt; have h3 := (s.getD 3 0).toNat_lt; have hyy := y.toNat_lt
  match k, hk with
  | 0, _ => rw [if_pos rfl, if_neg (by decide), if_neg (by decide), if_neg (by decide)] at h; omega
  | 1, _ => rw [if_neg (by decide), if_pos rfl, if_neg (by decide), if_neg (by decide)] at h; omega
  | 2, _ => rw [if_neg (by decide), if_neg (by decide), if_pos rfl, if_neg (by decide)] at h; omega
  | 3, _ => rw [if_neg (by decide), if_neg (by decide), if_neg (by decide), if_pos rfl] at h; omega
theorem take4_frame (p : List UInt8) : (frameOf p).take 4 = le4 p.length := by unfold frameOf; rw [List.take_append_of_le_length (by rw [le4_len]; decide), List.take_of_length_le (by rw [le4_len]; decide)]
theorem drop4_frame (p : List UInt8) : (frameOf p).drop 4 = le4 (crc (le4 p.length ++ p)) ++ p := by unfold frameOf; rw [List.drop_append_of_le_length (by rw [le4_len]; decide), List.drop_eq_nil_of_le (by rw [le4_len]; decide), List.nil_append]
theorem drop8_frame (p : List UInt8) : (frameOf p).drop 8 = p := by
  have : (frameOf p).drop 8 = ((frameOf p).drop 4).drop 4 := by rw [List.drop_drop]
  rw [this, drop4_frame, List.drop_append_of_le_length (by rw [le4_len]; decide), List.drop_eq_nil_of_le (by rw [le4_len]; decide), List.nil_append]
theorem val4_frame (p : List UInt8) (h : p.length ≤ 65536) : val4 (frameOf p) = p.length := by unfold frameOf; exact val4_le4 _ (by omega) _
theorem val4_sum (p : List UInt8) : val4 ((frameOf p).drop 4) = crc (le4 p.length ++ p) := by
  rw [drop4_frame]; exact val4_le4 _ (by have := crc_le (le4 p.length ++ p); omega) _
/-- The frame as it is is taken. -/
theorem unOf_frame (p s : List UInt8) (a : Int) (h : p.length ≤ 65536) : unOf (frameOf p ++ s) a = (p, a + 8 + (p.length : Nat), 0) := by
  have hl := frameOf_len p
  have e0 : val4 (frameOf p ++ s) = p.length := by unfold frameOf; rw [List.append_assoc]; exact val4_le4 _ (by omega) _
  have e4 : val4 ((frameOf p ++ s).drop 4) = crc (le4 p.length ++ p) := by
    rw [List.drop_append_of_le_length (by omega), drop4_frame, List.append_assoc]; exact val4_le4 _ (by have := crc_le (le4 p.length ++ p); omega) _
  have et : (frameOf p ++ s).take 4 = le4 p.length := by rw [List.take_append_of_le_length (by omega), take4_frame]
  have eb : ((frameOf p ++ s).drop 8).take p.length = p := by rw [List.drop_append_of_le_length (by omega), drop8_frame, List.take_append_of_le_length (Nat.le_refl _), List.take_length]
  rw [unOf_ok (by rw [List.length_append]; omega) (by rw [e0]; omega) (by rw [e0, List.length_append]; omega) (by rw [e0, e4, et, eb]), e0, eb]
/-- One byte behind the length is turned: it is not taken. -/
theorem unOf_turned (p : List UInt8) (k : Nat) (y : UInt8) (a : Int) (h : p.length ≤ 65536) (hk : 4 ≤ k) (hk8 : k < 8 + p.length) (hy : y ≠ (frameOf p).getD k 0) : unOf ((frameOf p).set k y) a = ([], 0, 15) := by
  have hl := frameOf_len p
  have e0 : val4 ((frameOf p).set k y) = p.length := by
    rw [← val4_frame p h]
    unfold val4
    simp only [List.getD_eq_getElem?_getD]
    rw [List.getElem?_set_ne (by omega), List.getElem?_set_ne (by omega), List.getElem?_set_ne (by omega), List.getElem?_set_ne (by omega)]
  have et : ((frameOf p).set k y).take 4 = le4 p.length := by rw [List.take_set_of_le (by omega), take4_frame]
  refine unOf_sum (by rw [List.length_set]; omega) (by rw [e0]; omega) (by rw [e0, List.length_set]; omega) ?_
  rw [e0, et]
  by_cases hk4 : k < 8
  · -- the sum is turned
    have ed8 : ((frameOf p).set k y).drop 8 = p := by rw [List.drop_set_of_lt hk4, drop8_frame]
    have ed4 : ((frameOf p).set k y).drop 4 = ((frameOf p).drop 4).set (k - 4) y := by rw [List.drop_set, if_neg (by omega)]
    rw [ed8, ed4, List.take_length, ← val4_sum p]
    intro e
    refine val4_set ((frameOf p).drop 4) (k - 4) y (by omega) (by rw [List.length_drop]; omega) ?_ e.symm
    rw [List.getD_eq_getElem?_getD, List.getElem?_drop, show 4 + (k - 4) = k by omega, ← List.getD_eq_getElem?_getD]
    exact hy
  · -- the payload is turned
    have ed8 : ((frameOf p).set k y).drop 8 = p.set (k - 8) y := by rw [List.drop_set, if_neg (by omega), drop8_frame]
    have ed4 : val4 (((frameOf p).set k y).drop 4) = crc (le4 p.length ++ p) := by
      rw [List.drop_set, if_neg (by omega), ← val4_sum p]
      unfold val4
      simp only [List.getD_eq_getElem?_getD]
      rw [List.getElem?_set_ne (by omega), List.getElem?_set_ne (by omega), List.getElem?_set_ne (by omega), List.getElem?_set_ne (by omega)]
    rw [ed8, ed4, List.take_of_length_le (by rw [List.length_set]; exact Nat.le_refl _)]
    refine crc_turned _ p (k - 8) y (by omega) ?_
    intro e
    apply hy
    have h1 : (frameOf p)[k]? = p[k - 8]? := by
      have := congrArg (·[k - 8]?) (drop8_frame p)
      simp only [List.getElem?_drop] at this
      rwa [show 8 + (k - 8) = k by omega] at this
    rw [List.getD_eq_getElem?_getD, h1, List.getElem?_eq_getElem (by omega), Option.getD_some]
    exact e
end Go.Proofs.YtlkcooedlkhacaaDoor
