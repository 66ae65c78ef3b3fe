/- The library's Clone, Cut, CutPrefix, LastIndex and HasPrefix at the separator of paths, in lists of bytes. -/
import Derived.Test.YtennlckfmgfjbaaGreatDoorGDShelf4
import Derived.Test.YtennlckfmgfjbaaGreatDoorGPMath2
import Derived.BigQuiet
namespace Go.Proofs.YtennlckfmgfjbaaGreatDoor
open Go.RowKit
def cutA (l : List UInt8) : List UInt8 := l.takeWhile (· != 47)
def cutB (l : List UInt8) : List UInt8 := (l.dropWhile (· != 47)).drop 1
def cutC (l : List UInt8) : Bool := l.contains 47
theorem index_cut (l : List UInt8) : Lib.indexByte l 47 = if cutC l then ((cutA l).length : Int) else -1 := by
  induction l with
  | nil => rfl
  | cons b l ih =>
    by_cases h : b = 47
    · subst h; simp [Lib.indexByte, cutC, cutA]
    · have hb : (b == 47) = false := by simpa using h
      have h2 : (47 : UInt8) ≠ b := fun e => h e.symm
      unfold Lib.indexByte
      rw [hb, ih]
      by_cases hc : (47 : UInt8) ∈ l
      · have e1 : cutC l = true := by simpa [cutC] using hc
        have e2 : cutC (b :: l) = true := by simp [cutC, hc]
        have e3 : cutA (b :: l) = b :: cutA l := by simp [cutA, h]
        rw [e1, e2, e3]
        simp
      · have e1 : cutC l = false := by simpa [cutC] using hc
        have e2 : cutC (b :: l) = false := by simp [cutC, hc, h2]
        rw [e1, e2]
        simp
theorem cutA_free (l : List UInt8) : (47 : UInt8) ∉ cutA l := by
  unfold cutA
  induction l with
  | nil => simp
  | cons b l ih =>
    by_cases h : b = 47
    · simp [h]
    · simp [h, ih]; exact fun e => h e.symm
theorem cutA_self (l : List UInt8) (h : (47 : UInt8) ∉ l) : cutA l = l := by
  unfold cutA
  induction l with
  | nil => rfl
  | cons b l ih =>
    have h1 : b ≠ 47 := fun e => h (by simp [e])
    have h2 : (47 : UInt8) ∉ l := fun e => h (by simp [e])
    simp [h1, ih h2]
theorem cut_split (l : List UInt8) (h : cutC l = true) : l = cutA l ++ 47 :: cutB l ∧ (47 : UInt8) ∉ cutA l := by
  have hf := cutA_free l
  refine ⟨?_, hf⟩
  have h1 : cutA l ++ l.dropWhile (· != 47) = l := List.takeWhile_append_dropWhile
  cases hd : l.dropWhile (· != 47) with
  | nil =>
    rw [hd, List.append_nil] at h1
    have : (47 : UInt8) ∈ l := by simpa [cutC] using h
    rw [← h1] at this
    exact absurd this hf
  | cons c r =>
    have hc : c = 47 := by
      have := List.head?_dropWhile_not (p := fun x : UInt8 => x != 47) (l := l)
      rw [hd] at this
      simpa using this
    subst hc
    unfold cutB
    rw [hd] at h1 ⊢
    exact h1.symm
theorem cut_none (l : List UInt8) (h : cutC l = false) : cutA l = l ∧ (47 : UInt8) ∉ l := by
  have hf : (47 : UInt8) ∉ l := by simpa [cutC] using h
  exact ⟨cutA_self l hf, hf⟩
theorem sp_true (l : List UInt8) (h : cutC l = true) : sp l = cutA l :: sp (cutB l) := by
  obtain ⟨h1, h2⟩ := cut_split l h
  have := sp_cut (cutA l) (cutB l) h2
  rw [← h1] at this
  exact this
theorem sp_false (l : List UInt8) (h : cutC l = false) : sp l = [cutA l] := by
  obtain ⟨h1, h2⟩ := cut_none l h
  rw [h1, sp_free l h2]
theorem cutB_len (l : List UInt8) (h : cutC l = true) : (cutA l).length + 1 + (cutB l).length = l.length := by
  have := congrArg List.length (cut_split l h).1
  simp at this
  omega
theorem cut_take (l : List UInt8) (h : cutC l = true) : l.take (cutA l).length = cutA l ∧ l.drop ((cutA l).length + 1) = cutB l := by
  obtain ⟨h1, -⟩ := cut_split l h
  constructor
  · conv => lhs; arg 2; rw [h1]
    exact List.take_left
  · conv => lhs; arg 2; rw [h1]
    rw [show cutA l ++ 47 :: cutB l = (cutA l ++ [47]) ++ cutB l by simp]
    exact List.drop_left' (by simp)

theorem str_extract (l : List UInt8) (a b : Nat) : (⟨l.toArray⟩ : ByteArray).extract a b = ⟨((l.drop a).take (b - a)).toArray⟩ := by
  rw [Lib.extract_eq]
theorem ret_cut {a b a' b' : ByteArray} {c : Bool} (h : a = a') (k : b = b') : Ending.returned (.tuple #[.string a, .string b, .bool c]) = .returned (.tuple #[.string a', .string b', .bool c]) := by rw [h, k]
set_option maxHeartbeats 400000 in
theorem cutLite_any (l : List UInt8) (w : World) (hl : l.length ≤ 140737488355328) :
    Calls Tryz.prog 87 #[.string ⟨l.toArray⟩, .string ⟨#[47]⟩] w fun e w' => e = .returned (.tuple #[.string ⟨(cutA l).toArray⟩, .string ⟨(if cutC l then cutB l else []).toArray⟩, .bool (cutC l)]) ∧ Kept w w' := by
  have hix := Tryz.stringslite_Index_one ⟨l.toArray⟩ 47 w
  rw [index_cut] at hix
  cases hc : cutC l with
  | true =>
    rw [hc, if_pos rfl] at hix
    have hlen := cutB_len l hc
    obtain ⟨e1, e2⟩ := cut_take l hc
    have E1 := Lib.hid e1
    have E2 := Lib.hid e2
    have HI := Lib.hid hix
    clear e1 e2 hix hc
    have c1 : (0 : Int) ≤ ((cutA l).length : Int) := by omega
    have c2 : ((cutA l).length : Int) ≤ (l.length : Int) := by omega
    have c3 : (0 : Int) ≤ ((cutA l).length : Int) + 1 := by omega
    have c4 : ((cutA l).length : Int) + 1 ≤ (l.length : Int) := by omega
    rw [if_pos rfl]
    go_enter Tryz.func87, Tryz.ntmps87
    go_wp2_with fail
    refine HI.out.mono ?_
    rintro e w' ⟨rfl, rfl⟩
    go_wp2
    go_quiet (fail)
    go_wp2
    go_ret3
    refine ⟨ret_cut ?_ ?_, (Kept.refl _).drewN _⟩
    · rw [str_extract, Nat.sub_zero, List.drop_zero, E1.out]
    · rw [str_extract, E2.out, List.take_of_length_le (by omega)]
  | false =>
    rw [hc, if_neg (by simp)] at hix
    obtain ⟨e1, -⟩ := cut_none l hc
    have E1 := Lib.hid e1
    have HI := Lib.hid hix
    clear e1 hix hc
    rw [if_neg (by simp), E1.out]
    go_enter Tryz.func87, Tryz.ntmps87
    go_wp2_with fail
    refine HI.out.mono ?_
    rintro e w' ⟨rfl, rfl⟩
    go_wp2
    go_ret3
    exact ⟨rfl, Kept.refl _⟩
theorem cut_any (l : List UInt8) (w : World) (hl : l.length ≤ 140737488355328) :
    Calls Tryz.prog 64 #[.string ⟨l.toArray⟩, .string ⟨#[47]⟩] w fun e w' => e = .returned (.tuple #[.string ⟨(cutA l).toArray⟩, .string ⟨(if cutC l then cutB l else []).toArray⟩, .bool (cutC l)]) ∧ Kept w w' := by
  have hcut := cutLite_any l w hl
  generalize (if cutC l then cutB l else []) = b at *
  generalize cutC l = c at *
  generalize cutA l = a at *
  have HC := Lib.hid hcut
  clear hcut
  go_enter Tryz.func64, Tryz.ntmps64
  go_wp2_with fail
  refine HC.out.mono ?_
  rintro e w' ⟨rfl, hk⟩
  go_wp2
  go_ret3
  exact ⟨rfl, hk⟩
theorem clone_any (l : List UInt8) (w : World) (hl : l.length ≤ 140737488355328) :
    Calls Tryz.prog 49 #[.string ⟨l.toArray⟩] w fun e w' => e = .returned (.string ⟨l.toArray⟩) ∧ Kept w w' := by
  go_enter Tryz.func49, Tryz.ntmps49
  go_wp2_with fail
  refine (Tryz.stringslite_Clone ⟨l.toArray⟩ w (by rw [str_size]; omega)).mono ?_
  rintro e w' ⟨rfl, hk⟩
  go_wp2
  go_ret
  exact ⟨rfl, hk⟩
theorem cutPrefix_root (r : List UInt8) (w : World) :
    Calls Tryz.prog 63 #[.string ⟨(47 :: r).toArray⟩, .string ⟨#[47]⟩] w fun e w' => e = .returned (.tuple #[.string ⟨r.toArray⟩, .bool true]) ∧ w = w' := by
  refine (Tryz.strings_CutPrefix ⟨(47 :: r).toArray⟩ ⟨#[47]⟩ w).mono ?_
  rintro e w' ⟨rfl, rfl⟩
  exact ⟨by simp [Lib.trimPrefix, Lib.hasPrefix], rfl⟩
theorem cutPrefix_other (l : List UInt8) (w : World) (h : l.head? ≠ some 47) :
    Calls Tryz.prog 63 #[.string ⟨l.toArray⟩, .string ⟨#[47]⟩] w fun e w' => e = .returned (.tuple #[.string ⟨l.toArray⟩, .bool false]) ∧ w = w' := by
  refine (Tryz.strings_CutPrefix ⟨l.toArray⟩ ⟨#[47]⟩ w).mono ?_
  rintro e w' ⟨rfl, rfl⟩
  have hp : Lib.hasPrefix l [47] = false := by
    cases l with
    | nil => rfl
    | cons c r =>
      have : c ≠ 47 := by simpa using h
      have h2 : (47 : UInt8) ≠ c := fun e => this e.symm
      simp [Lib.hasPrefix, List.isPrefixOf, h2]
  refine ⟨?_, rfl⟩
  show Ending.returned (.tuple #[.string ⟨(Lib.trimPrefix l [47]).toArray⟩, .bool (Lib.hasPrefix l [47])]) = _
  rw [Lib.trimPrefix, hp, if_neg (by simp)]
theorem hasPrefix_any (l p : List UInt8) (w : World) :
    Calls Tryz.prog 66 #[.string ⟨l.toArray⟩, .string ⟨p.toArray⟩] w fun e w' => e = .returned (.bool (p.isPrefixOf l)) ∧ w = w' := by
  refine (Tryz.strings_HasPrefix ⟨l.toArray⟩ ⟨p.toArray⟩ w).mono ?_
  rintro e w' ⟨rfl, rfl⟩
  exact ⟨rfl, rfl⟩
theorem lastIdx_split (a b : List UInt8) (h : (47 : UInt8) ∉ b) : Lib.lastIndexByte ⟨(a ++ 47 :: b).toArray⟩ 47 = (a.length : Int) := by
  have hget : ∀ j (hj : j < (a ++ 47 :: b).length), ((⟨(a ++ 47 :: b).toArray⟩ : ByteArray).data[j]!) = (a ++ 47 :: b)[j] := by
    intro j hj
    simp
    rw [List.getElem?_eq_getElem hj]
    rfl
  have hz : (⟨(a ++ 47 :: b).toArray⟩ : ByteArray).size = a.length + 1 + b.length := by rw [str_size]; simp; omega
  rcases Lib.lastIndexByte_spec ⟨(a ++ 47 :: b).toArray⟩ 47 with ⟨-, hn⟩ | ⟨i, hi, e, hc, hn⟩
  · have := hn a.length (by omega)
    rw [hget a.length (by simp)] at this
    simp at this
  · rw [e]
    have h1 : i ≤ a.length := by
      rcases Nat.lt_or_ge a.length i with hgt | hle
      · rw [hget i (by simp; omega)] at hc
        have hb : (a ++ 47 :: b)[i]'(by simp; omega) ∈ b := by
          have : (a ++ 47 :: b)[i]'(by simp; omega) = b[i - a.length - 1]'(by omega) := by
            rw [List.getElem_append_right (by omega), List.getElem_cons, dif_neg (by omega)]
          rw [this]
          exact List.getElem_mem _
        have e47 : (a ++ 47 :: b)[i]'(by simp; omega) = 47 := by
          apply UInt8.toNat_inj.1
          have : ((47 : UInt8).toNat : Int) = 47 := rfl
          omega
        rw [e47] at hb
        exact absurd hb h
      · exact hle
    have h2 : ¬ i < a.length := by
      intro hlt
      have := hn a.length hlt (by omega)
      rw [hget a.length (by simp)] at this
      simp at this
    omega
theorem lastIndex_any (a b : List UInt8) (w : World) (h : (47 : UInt8) ∉ b) (hl : (a ++ 47 :: b).length ≤ 140737488355328) :
    Calls Tryz.prog 90 #[.string ⟨(a ++ 47 :: b).toArray⟩, .string ⟨#[47]⟩] w fun e w' => e = .returned (.int .i64 (a.length : Int)) ∧ w = w' := by
  refine (Tryz.strings_LastIndex_one ⟨(a ++ 47 :: b).toArray⟩ ⟨#[47]⟩ rfl (by rw [str_size]; omega) w).mono ?_
  rintro e w' ⟨rfl, rfl⟩
  refine ⟨?_, rfl⟩
  have := lastIdx_split a b h
  exact congrArg (fun x => Ending.returned (.int .i64 x)) this
end Go.Proofs.YtennlckfmgfjbaaGreatDoor
