/- The walks of the statements PathSuffixes and PathOrder. What the listed variable and the world's shape give: the table of powers of ten. -/
import Derived.Test.YtennlckfmgfjbaaGreatDoorGPDig2
import Derived.Test.YtennlckfmgfjbaaGreatDoorRows
import Derived.LaidSub
import Derived.MakeChecks
import Derived.LaidMore
namespace Go.Proofs.YtennlckfmgfjbaaGreatDoor
open Go.RowKit
theorem errO_errB (o : Option (List UInt8)) : errO o = errB o.isSome := rfl
theorem suf_cases (l : List UInt8) (n : Int) : sufOf l n = none ∨ ∃ m : Nat, n = m ∧ m ≤ 9999999999 ∧ sufOf l n = some (l ++ dk 10 m) ∧ l.length ≤ 128 := by
  unfold sufOf
  cases h : names l with
  | none => exact .inl rfl
  | some ls =>
    simp only
    split
    · exact .inl rfl
    · rename_i hx
      split
      · exact .inr ⟨n.toNat, by omega, by omega, rfl, (names_len h).2⟩
      · exact .inl rfl
theorem less_app (l p q : List UInt8) : Op.bytesLess (l ++ p) (l ++ q) = Op.bytesLess p q := by
  induction l with
  | nil => rfl
  | cons c l ih =>
    rw [List.cons_append, List.cons_append, Op.bytesLess, ih]
    simp [UInt8.lt_irrefl]
theorem less_lt (x y : List UInt8) : Op.bytesLess x y = decide (x < y) := by
  induction x generalizing y with
  | nil =>
    cases y with
    | nil => rfl
    | cons b y => simp [Op.bytesLess]
  | cons a x ih =>
    cases y with
    | nil => simp [Op.bytesLess]
    | cons b y =>
      rw [Op.bytesLess, ih, Bool.eq_iff_iff]
      simp [List.cons_lt_cons_iff]
theorem order_facts (l : List UInt8) (m k : Nat) (hm : m ≤ 9999999999) (hk : k ≤ 9999999999) :
    Op.bytesLess (l ++ dk 10 m) (l ++ dk 10 k) = decide (m < k) ∧ ((l ++ dk 10 m) == (l ++ dk 10 k)) = ((m : Int) == (k : Int)) ∧ (l ++ dk 10 m).length = l.length + 10 := by
  refine ⟨?_, ?_, by rw [List.length_append, dk_len]⟩
  · rw [less_app, less_lt, Bool.eq_iff_iff]
    simp only [decide_eq_true_eq]
    exact (dk_lt 10 m k (by omega) (by omega)).symm
  · rw [Bool.eq_iff_iff]
    simp only [beq_iff_eq, List.append_cancel_left_eq]
    constructor
    · intro h
      have := dk_inj 10 m k (by omega) (by omega) h
      omega
    · intro h
      have : m = k := by omega
      rw [this]
end Go.Proofs.YtennlckfmgfjbaaGreatDoor
namespace Go.Proofs.YtennlckfmgfjbaaGreatDoor
open Go.RowKit
theorem tab_one {W : World} {laid : List (String × DataW Unit)} (h : laidMetH Tryz.prog laid W)
    (hf : (laid.filter fun x => x.1 == "internal/strconv.uint64pow10") = [("internal/strconv.uint64pow10", Lib.tabData .u64 Lib.pow10Tab)]) : Lib.TabIs Tryz.prog W "internal/strconv.uint64pow10" .u64 Lib.pow10Tab := by
  have h1 := h.filter (fun x => x.1 == "internal/strconv.uint64pow10")
  rw [hf, MakeChecks.laidMetH_plain _ _ _ (by kernel_rfl)] at h1
  exact Lib.tabIs_of_head (g := 2) (t := 214) (e := 179) (n := 20) (by kernel_rfl) (by kernel_rfl) (by kernel_rfl) (by kernel_rfl) (by kernel_rfl) (by kernel_rfl) h1
end Go.Proofs.YtennlckfmgfjbaaGreatDoor
