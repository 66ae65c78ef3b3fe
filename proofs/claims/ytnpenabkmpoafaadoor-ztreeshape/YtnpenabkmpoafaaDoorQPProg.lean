/- The walks of Parent, Base and Home. -/
import Derived.Test.YtnpenabkmpoafaaDoorQPCheck
namespace Go.Proofs.YtnpenabkmpoafaaDoor
open Go.RowKit
/-- What stands above a path; its last name; its first name. None: the call refuses. -/
def parentOf (l : List UInt8) : Option (List UInt8) := match names l with
  | some ls => if ls = [] then none else some (mk ls.dropLast)
  | none => none
def baseOf (l : List UInt8) : Option (List UInt8) := match names l with
  | some ls => ls.getLast?
  | none => none
def homeOf (l : List UInt8) : Option (List UInt8) := match names l with
  | some ls => some (ls.headD [])
  | none => none
/-- The error beside what is told. -/
def errO (o : Option (List UInt8)) : Int := if o.isSome then 0 else 20
def strO (o : Option (List UInt8)) : List UInt8 := o.getD []
theorem chk_none {l : List UInt8} (h : names l = none) : chk l = 20 := by unfold chk; rw [h]; rfl
theorem chk_some {l : List UInt8} {ls : List (List UInt8)} (h : names l = some ls) : chk l = 0 := by unfold chk; rw [h]; rfl
/-- A path is no path, or the root, or names with a last one. -/
theorem path_cases (l : List UInt8) : names l = none ∨ l = [47] ∨ ∃ init b, names l = some (init ++ [b]) ∧ l = flat init ++ 47 :: b ∧ isName b = true ∧ okNames init = true ∧ l ≠ [47] := by
  cases h : names l with
  | none => exact .inl rfl
  | some ls =>
    right
    obtain ⟨h1, h2⟩ := names_some h
    rcases List.eq_nil_or_concat ls with rfl | ⟨init, b, hc⟩
    · exact .inl (h2.trans mk_nil)
    · rw [List.concat_eq_append] at hc
      subst hc
      right
      rw [mk_ne (by simp), flat_append, flat_one] at h2
      refine ⟨init, b, rfl, h2, (okNames_all h1).1 b (by simp), okNames_prefix h1, ?_⟩
      rintro rfl
      simp [names] at h
theorem ret_pair {a a' : ByteArray} {x : Value} (h : a = a') : Ending.returned (.tuple #[.string a, x]) = .returned (.tuple #[.string a', x]) := by rw [h]
theorem ret_err {a : ByteArray} {l : List UInt8} {x y : Int} (h : a = ⟨l.toArray⟩) (k : x = y) : Ending.returned (.tuple #[.string a, .int .i64 x]) = .returned (.tuple #[.string ⟨l.toArray⟩, .int .i64 y]) := by rw [h, k]

set_option maxHeartbeats 1000000 in
theorem parent_any (l : List UInt8) (w : World) :
    Calls Tryd.prog 26 #[.string ⟨l.toArray⟩] w fun e w' => e = .returned (.tuple #[.string ⟨(strO (parentOf l)).toArray⟩, .int .i64 (errO (parentOf l))]) ∧ Kept w w' := by
  have HC := Lib.hid (check_any l w)
  rcases path_cases l with h | rfl | ⟨init, b, h, hfl, hb, hi, hne⟩
  · have hp : parentOf l = none := by unfold parentOf; rw [h]
    rw [hp]
    have hc := chk_none h
    rw [hc] at HC
    clear hp h hc
    go_enter Tryd.func26, Tryd.ntmps26
    go_wp2_with fail
    refine HC.out.mono ?_
    rintro e w' ⟨rfl, hk⟩
    go_wp2
    go_ret2
    exact ⟨rfl, hk⟩
  · have hc := chk_root
    rw [hc] at HC
    clear hc
    go_enter Tryd.func26, Tryd.ntmps26
    go_wp2_with fail
    refine HC.out.mono ?_
    rintro e w' ⟨rfl, hk⟩
    go_wp2
    go_ret2
    exact ⟨rfl, hk⟩
  · have hl : l.length ≤ 140737488355328 := by have := (names_len h).2; omega
    have hp : parentOf l = some (mk init) := by unfold parentOf; rw [h]; simp
    rw [hp]
    have hc := chk_some h
    rw [hc] at HC
    have t0 : (l == [47]) = false := by simpa using hne
    have hL := fun w => lastIndex_any (flat init) b w (isName_free hb) (by rw [← hfl]; exact hl)
    rw [← hfl] at hL
    have HL := Lib.hid hL
    have hlen : (flat init).length ≤ l.length := by rw [hfl]; simp
    have htake : l.take (flat init).length = flat init := by
      conv => lhs; arg 2; rw [hfl]
      exact List.take_left
    have HT := Lib.hid htake
    clear hp h hc hne hL hfl htake
    by_cases hz : init = []
    · subst hz
      rw [flat_nil] at HL
      go_enter Tryd.func26, Tryd.ntmps26
      go_wp2_with fail
      refine HC.out.mono ?_
      rintro e w' ⟨rfl, hk⟩
      go_wp2_with fail
      refine (HL.out _).mono ?_
      rintro e w1 ⟨rfl, rfl⟩
      go_wp2
      go_ret2
      exact ⟨rfl, hk⟩
    · have hpos : 0 < (flat init).length := by
        rcases Nat.eq_zero_or_pos (flat init).length with e | e
        · exact absurd (flat_eq_nil (List.eq_nil_of_length_eq_zero e)) hz
        · exact e
      rw [mk_ne hz]
      have t1 : (((flat init).length : Int) == 0) = false := by rw [beq_eq_false_iff_ne]; omega
      clear hz
      go_enter Tryd.func26, Tryd.ntmps26
      go_wp2_with fail
      refine HC.out.mono ?_
      rintro e w' ⟨rfl, hk⟩
      go_wp2_with fail
      refine (HL.out _).mono ?_
      rintro e w1 ⟨rfl, rfl⟩
      go_wp2_with fail
      rw [str_extract, Nat.sub_zero, List.drop_zero, HT.out]
      refine (clone_any (flat init) _ (by omega)).mono ?_
      rintro e w2 ⟨rfl, hk2⟩
      have hk3 := hk.trans hk2
      clear hk hk2
      go_wp2
      go_ret2
      exact ⟨rfl, hk3⟩

set_option maxHeartbeats 1000000 in
theorem base_any (l : List UInt8) (w : World) :
    Calls Tryd.prog 27 #[.string ⟨l.toArray⟩] w fun e w' => e = .returned (.tuple #[.string ⟨(strO (baseOf l)).toArray⟩, .int .i64 (errO (baseOf l))]) ∧ Kept w w' := by
  have HC := Lib.hid (check_any l w)
  rcases path_cases l with h | rfl | ⟨init, b, h, hfl, hb, hi, hne⟩
  · have hp : baseOf l = none := by unfold baseOf; rw [h]
    rw [hp]
    have hc := chk_none h
    rw [hc] at HC
    clear hp h hc
    go_enter Tryd.func27, Tryd.ntmps27
    go_wp2_with fail
    refine HC.out.mono ?_
    rintro e w' ⟨rfl, hk⟩
    go_wp2
    go_ret2
    exact ⟨rfl, hk⟩
  · have hc := chk_root
    rw [hc] at HC
    clear hc
    go_enter Tryd.func27, Tryd.ntmps27
    go_wp2_with fail
    refine HC.out.mono ?_
    rintro e w' ⟨rfl, hk⟩
    go_wp2
    go_ret2
    exact ⟨rfl, hk⟩
  · have hl : l.length ≤ 140737488355328 := by have := (names_len h).2; omega
    have hp : baseOf l = some b := by unfold baseOf; rw [h]; simp
    rw [hp]
    have hc := chk_some h
    rw [hc] at HC
    have t0 : (l == [47]) = false := by simpa using hne
    have hL := fun w => lastIndex_any (flat init) b w (isName_free hb) (by rw [← hfl]; exact hl)
    rw [← hfl] at hL
    have HL := Lib.hid hL
    have hlen : (flat init).length + 1 + b.length = l.length := by rw [hfl]; simp; omega
    have hdrop : (l.drop ((flat init).length + 1)).take (l.length - ((flat init).length + 1)) = b := by
      rw [List.take_of_length_le (by rw [List.length_drop]; exact Nat.le_refl _)]
      conv => lhs; arg 2; rw [hfl]
      rw [show flat init ++ 47 :: b = (flat init ++ [47]) ++ b by simp]
      exact List.drop_left' (by simp)
    have HT := Lib.hid hdrop
    have HLEN := Lib.hid hlen
    have hle : (flat init).length + 1 ≤ l.length := by omega
    have hbl : b.length ≤ 140737488355328 := by omega
    clear hp h hc hne hL hfl hdrop hlen
    go_enter Tryd.func27, Tryd.ntmps27
    go_wp2_with fail
    refine HC.out.mono ?_
    rintro e w' ⟨rfl, hk⟩
    go_wp2_with fail
    refine (HL.out _).mono ?_
    rintro e w1 ⟨rfl, rfl⟩
    go_wp2_with fail
    rw [str_extract, HT.out]
    refine (clone_any b _ hbl).mono ?_
    rintro e w2 ⟨rfl, hk2⟩
    have hk3 := hk.trans hk2
    clear hk hk2
    go_wp2
    go_ret2
    exact ⟨rfl, hk3⟩

theorem home_cut (r : List UInt8) (ls : List (List UInt8)) (h : names (47 :: r) = some ls) : ls.headD [] = cutA r := by
  obtain ⟨h1, h2⟩ := names_some h
  cases ls with
  | nil =>
    rw [mk_nil] at h2
    obtain rfl : r = [] := by simpa using h2
    rfl
  | cons x t =>
    rw [mk_cons, flat_cons] at h2
    have e := (List.cons.inj h2).2
    have hx := isName_free ((okNames_all h1).1 x (by simp))
    show x = cutA r
    cases t with
    | nil =>
      rw [flat_nil, List.append_nil] at e
      rw [e, cutA_self x hx]
    | cons y u =>
      rw [flat_cons] at e
      have hc : cutC r = true := by rw [e]; simp [cutC]
      have h3 := sp_true r hc
      have h4 := sp_cut x (y ++ flat u) hx
      rw [← e, h3] at h4
      exact (List.cons.inj h4).1.symm

end Go.Proofs.YtnpenabkmpoafaaDoor
