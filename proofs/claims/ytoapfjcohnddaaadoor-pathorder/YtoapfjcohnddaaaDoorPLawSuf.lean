/- The walks of the statements PathSuffixes and PathOrder. -/
import Derived.Test.YtoapfjcohnddaaaDoorPSuf
namespace Go.Proofs.YtoapfjcohnddaaaDoor
open Go.RowKit
theorem errO_errB (o : Option (List UInt8)) : errO o = errB o.isSome := rfl
set_option maxRecDepth 100000 in
set_option maxHeartbeats 1000000 in
theorem pathSuffixes_walk (l : List UInt8) (n : Int) (w : World) (htab : Lib.TabIs Tryd.prog w "internal/strconv.uint64pow10" .u64 Lib.pow10Tab) :
    Calls Tryd.prog 4 #[.string ⟨l.toArray⟩, .int .i64 n] w fun e w' => e = .returned (.bool true) ∧ Kept w w' := by
  have H1 := Lib.hid (suffix_any l n w htab)
  have H2 := Lib.hid (show ∀ W, _ from fun W => refSuffix_any l n W)
  rw [errO_errB] at H1
  clear htab
  generalize sufOf l n = j at *
  have H5 := Lib.hid (show ∀ W, _ from fun W => told_any j.isSome W)
  generalize j.isSome = z at *
  generalize strO j = s at *
  go_enter Tryd.func4, Tryd.ntmps4
  go_wp2_with fail
  refine H1.out.mono ?_
  rintro e w1 ⟨rfl, k1⟩
  go_wp2_with fail
  refine (H2.out _).mono ?_
  rintro e w2 ⟨rfl, k2⟩
  have k3 := k1.trans k2
  clear k1 k2
  go_wp2_with fail
  refine (awake_any _).mono ?_
  rintro e w8 ⟨rfl, k8⟩
  have k9 := k3.trans k8
  clear k3 k8
  go_wp2_with fail
  refine (H5.out _).mono ?_
  rintro e w10 ⟨rfl, rfl⟩
  go_wp2
  go_ret
  exact ⟨rfl, k9⟩
theorem suf_cases (l : List UInt8) (n : Int) : sufOf l n = none ∨ ∃ m : Nat, n = m ∧ m ≤ 9999999999 ∧ sufOf l n = some (l ++ dk 10 m) ∧ l.length ≤ 128 := by
  unfold sufOf
  cases h : names l with
  | none => exact .inl rfl
  | some ls =>
    simp only
    split
    · exact .inl rfl
    · rename_i hx
      split
      · exact .inr ⟨n.toNat, by omega, by omega, rfl, (names_len h).2⟩
      · exact .inl rfl
theorem less_app (l p q : List UInt8) : Op.bytesLess (l ++ p) (l ++ q) = Op.bytesLess p q := by
  induction l with
  | nil => rfl
  | cons c l ih =>
    rw [List.cons_append, List.cons_append, Op.bytesLess, ih]
    simp [UInt8.lt_irrefl]
theorem less_lt (x y : List UInt8) : Op.bytesLess x y = decide (x < y) := by
  induction x generalizing y with
  | nil =>
    cases y with
    | nil => rfl
    | cons b y => simp [Op.bytesLess]
  | cons a x ih =>
    cases y with
    | nil => simp [Op.bytesLess]
    | cons b y =>
      rw [Op.bytesLess, ih, Bool.eq_iff_iff]
      simp [List.cons_lt_cons_iff]
theorem order_facts (l : List UInt8) (m k : Nat) (hm : m ≤ 9999999999) (hk : k ≤ 9999999999) :
    Op.bytesLess (l ++ dk 10 m) (l ++ dk 10 k) = decide (m < k) ∧ ((l ++ dk 10 m) == (l ++ dk 10 k)) = ((m : Int) == (k : Int)) ∧ (l ++ dk 10 m).length = l.length + 10 := by
  refine ⟨?_, ?_, by rw [List.length_append, dk_len]⟩
  · rw [less_app, less_lt, Bool.eq_iff_iff]
    simp only [decide_eq_true_eq]
    exact (dk_lt 10 m k (by omega) (by omega)).symm
  · rw [Bool.eq_iff_iff]
    simp only [beq_iff_eq, List.append_cancel_left_eq]
    constructor
    · intro h
      have := dk_inj 10 m k (by omega) (by omega) h
      omega
    · intro h
      have : m = k := by omega
      rw [this]
set_option maxRecDepth 100000 in
set_option maxHeartbeats 1000000 in
theorem pathOrder_walk (l : List UInt8) (a b : Int) (w : World) (htab : Lib.TabIs Tryd.prog w "internal/strconv.uint64pow10" .u64 Lib.pow10Tab) :
    Calls Tryd.prog 5 #[.string ⟨l.toArray⟩, .int .i64 a, .int .i64 b] w fun e w' => e = .returned (.bool true) ∧ Kept w w' := by
  have H1 := Lib.hid (suffix_any l a w htab)
  have H2 := Lib.hid (show ∀ W, Kept w W → _ from fun W hW => suffix_any l b W (Lib.tabBelow_of_tabIs htab W hW))
  clear htab
  rcases suf_cases l a with ha | ⟨m, rfl, hm, ha, hl⟩
  · rw [ha] at H1
    rw [show errO none = 20 from rfl] at H1
    generalize sufOf l b = j at *
    generalize errO j = x at *
    generalize strO j = s at *
    clear ha
    go_enter Tryd.func5, Tryd.ntmps5
    go_wp2_with fail
    refine H1.out.mono ?_
    rintro e w1 ⟨rfl, k1⟩
    go_wp2_with fail
    refine (H2.out _ k1).mono ?_
    rintro e w2 ⟨rfl, k2⟩
    have k3 := k1.trans k2
    clear k1 k2
    go_wp2_with fail
    refine (awake_any _).mono ?_
    rintro e w8 ⟨rfl, k8⟩
    have k9 := k3.trans k8
    clear k3 k8
    go_wp2
    go_ret
    exact ⟨rfl, k9⟩
  · rw [ha] at H1
    rw [show errO (some (l ++ dk 10 m)) = 0 from rfl, show strO (some (l ++ dk 10 m)) = l ++ dk 10 m from rfl] at H1
    rcases suf_cases l b with hb | ⟨k, rfl, hk, hb, -⟩
    · rw [hb] at H2
      rw [show errO none = 20 from rfl] at H2
      clear ha hb
      go_enter Tryd.func5, Tryd.ntmps5
      go_wp2_with fail
      refine H1.out.mono ?_
      rintro e w1 ⟨rfl, k1⟩
      go_wp2_with fail
      refine (H2.out _ k1).mono ?_
      rintro e w2 ⟨rfl, k2⟩
      have k3 := k1.trans k2
      clear k1 k2
      go_wp2_with fail
      refine (awake_any _).mono ?_
      rintro e w8 ⟨rfl, k8⟩
      have k9 := k3.trans k8
      clear k3 k8
      go_wp2
      go_ret
      exact ⟨rfl, k9⟩
    · rw [hb] at H2
      rw [show errO (some (l ++ dk 10 k)) = 0 from rfl, show strO (some (l ++ dk 10 k)) = l ++ dk 10 k from rfl] at H2
      clear ha hb
      obtain ⟨f1, f2, f3⟩ := order_facts l m k hm hk
      generalize l ++ dk 10 m = x at *
      generalize l ++ dk 10 k = y at *
      have f4 : ((x.length : Int) == (l.length : Int) + 10) = true := by rw [beq_iff_eq]; omega
      have f5 : (x.length : Int) = (l.length : Int) + 10 := by omega
      clear f3
      go_enter Tryd.func5, Tryd.ntmps5
      go_wp2_with fail
      refine H1.out.mono ?_
      rintro e w1 ⟨rfl, k1⟩
      go_wp2_with fail
      refine (H2.out _ k1).mono ?_
      rintro e w2 ⟨rfl, k2⟩
      have k3 := k1.trans k2
      clear k1 k2
      go_wp2_with fail
      refine (awake_any _).mono ?_
      rintro e w8 ⟨rfl, k8⟩
      have k9 := k3.trans k8
      clear k3 k8
      go_wp2
      go_ret
      exact ⟨rfl, k9⟩
end Go.Proofs.YtoapfjcohnddaaaDoor
