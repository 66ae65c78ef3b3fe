/- The walk of Check. The walks of Parent, Base and Home. -/
import Derived.Test.YtennlckfmgfjbaaGreatDoorQPLib
namespace Go.Proofs.YtennlckfmgfjbaaGreatDoor
open Go.RowKit
theorem chk_root : chk [47] = 0 := by decide
theorem chk_other (l : List UInt8) (h : l.head? ≠ some 47) : chk l = 20 := by
  have hn : names l = none := by
    unfold names
    rw [if_neg (by rintro rfl; exact h rfl), if_neg (by simp [h])]
  unfold chk
  rw [hn]
  rfl
theorem chk_long (l : List UInt8) (h : 128 < l.length) : chk l = 20 := by
  unfold chk
  cases hn : names l with
  | none => rfl
  | some ls => have := names_len hn; omega
theorem names_slash (r : List UInt8) (h0 : r ≠ []) (hl : (47 :: r).length ≤ 128) : names (47 :: r) = if (sp r).all isName = true ∧ (sp r).length ≤ 8 then some (sp r) else none := by
  unfold names
  rw [if_neg (by simp [h0])]
  have e : okNames (sp r) = true ↔ (sp r).all isName = true ∧ (sp r).length ≤ 8 := by
    unfold okNames
    rw [flat_sp]
    simp only [Bool.and_eq_true, decide_eq_true_eq]
    constructor
    · rintro ⟨⟨a, b⟩, -⟩; exact ⟨a, b⟩
    · rintro ⟨a, b⟩; exact ⟨⟨a, b⟩, hl⟩
  by_cases hk : (sp r).all isName = true ∧ (sp r).length ≤ 8
  · rw [if_pos hk, if_pos (by simp only [List.drop_succ_cons, List.drop_zero]; exact ⟨rfl, e.2 hk⟩)]; rfl
  · rw [if_neg hk, if_neg (by simp only [List.drop_succ_cons, List.drop_zero]; exact fun ⟨_, x⟩ => hk (e.1 x))]
theorem chk_slash (r : List UInt8) (h0 : r ≠ []) (hl : (47 :: r).length ≤ 128) : chk (47 :: r) = if (sp r).all isName = true ∧ (sp r).length ≤ 8 then 0 else 20 := by
  unfold chk
  rw [names_slash r h0 hl]
  by_cases hk : (sp r).all isName = true ∧ (sp r).length ≤ 8
  · rw [if_pos hk, if_pos hk]; rfl
  · rw [if_neg hk, if_neg hk]; rfl
theorem ret_int {k : IntKind} {a b : Int} (h : a = b) : Ending.returned (.int k a) = .returned (.int k b) := by rw [h]

set_option maxRecDepth 100000 in
set_option maxHeartbeats 1000000 in
theorem check_slash (r : List UInt8) (w : World) (h0 : r ≠ []) (hl : (47 :: r).length ≤ 128) :
    Calls Tryz.prog 37 #[.string ⟨(47 :: r).toArray⟩] w fun e w' => e = .returned (.int .i64 (chk (47 :: r))) ∧ Kept w w' := by
  have HF := Lib.hid (chk_slash r h0 hl)
  have HP := Lib.hid (cutPrefix_root r w)
  have t0 : ((47 :: r) == [47]) = false := by simpa using h0
  have hr : r.length ≤ 127 := by simp at hl; omega
  have t1 : decide ((128 : Int) < ((47 :: r).length : Int)) = false := by simp; omega
  clear hl
  generalize hd : (47 :: r) = l at *
  have HD := Lib.hid hd
  clear hd h0
  go_enter Tryz.func37, Tryz.ntmps37
  go_wp2_with fail
  refine HP.out.mono ?_
  rintro e w' ⟨rfl, rfl⟩
  go_wp2
  go_loopw [3, 22] (fun t i W => ∃ (k : Nat) (r' : List UInt8) (ds : List (List UInt8)), i = .int .i64 (k : Int) ∧ t = .string ⟨r'.toArray⟩ ∧ k ≤ 8 ∧ r'.length ≤ 127 ∧ ds.length = k ∧ sp r = ds ++ sp r' ∧ ds.all isName = true ∧ Kept w W) (fun _ i _ => 8 - (intOf i).toNat)
  case atStart => exact ⟨0, r, [], rfl, rfl, by omega, hr, rfl, rfl, rfl, Kept.refl _⟩
  case round =>
    obtain ⟨k, r', ds, rfl, rfl, hk, hr', hds, hsp, hall, hK⟩ := hrel
    have HS := Lib.hid hsp
    have HDS := Lib.hid hds
    have HA := Lib.hid hall
    clear hsp hds hall
    by_cases hlt : k < 8
    · go_wp2_with fail
      refine (cut_any r' _ (by omega)).mono ?_
      rintro e w1 ⟨rfl, hk1⟩
      have hK1 := hK.trans hk1
      clear hk1
      cases hc : cutC r' with
      | true =>
        have hlen := cutB_len r' hc
        have hsq : sp r = (ds ++ [cutA r']) ++ sp (cutB r') := by rw [HS.out, sp_true r' hc]; simp
        have HQ := Lib.hid hsq
        clear hsq hc
        rw [if_pos rfl]
        go_wp2_with fail
        refine (name_any (cutA r') _).mono ?_
        rintro e w2 ⟨rfl, hk2⟩
        have hK2 := hK1.trans hk2
        clear hk2
        cases hn : isName (cutA r') with
        | true =>
          have HN := Lib.hid hn
          clear hn
          go_wp2
          go_roundw
          case rel => exact ⟨k + 1, cutB r', ds ++ [cutA r'], by go_num, rfl, by omega, by omega, by simp [HDS.out], HQ.out, by simp [HA.out, HN.out], hK2⟩
          case measure => simp [intOf]; omega
        | false =>
          have HN := Lib.hid hn
          clear hn
          go_wp2
          go_ret
          refine ⟨ret_int ?_, hK2⟩
          rw [HF.out, HQ.out, if_neg (by simp [HN.out])]
      | false =>
        have hsq : sp r = ds ++ [cutA r'] := by rw [HS.out, sp_false r' hc]
        have HQ := Lib.hid hsq
        clear hsq hc
        rw [if_neg (by simp)]
        go_wp2_with fail
        refine (name_any (cutA r') _).mono ?_
        rintro e w2 ⟨rfl, hk2⟩
        have hK2 := hK1.trans hk2
        clear hk2
        cases hn : isName (cutA r') with
        | true =>
          have HN := Lib.hid hn
          clear hn
          go_wp2
          go_ret
          refine ⟨ret_int ?_, hK2⟩
          rw [HF.out, HQ.out, if_pos ⟨by simp [HA.out, HN.out], by simp [HDS.out]; omega⟩]
        | false =>
          have HN := Lib.hid hn
          clear hn
          go_wp2
          go_ret
          refine ⟨ret_int ?_, hK2⟩
          rw [HF.out, HQ.out, if_neg (by simp [HN.out])]
    · obtain rfl : k = 8 := by omega
      have hpos : 1 ≤ (sp r').length := by
        cases hs : sp r' with
        | nil => exact absurd hs (sp_ne r')
        | cons x t => simp
      go_wp2
      go_ret
      refine ⟨ret_int ?_, hK⟩
      rw [HF.out, HS.out, if_neg (by intro hx; have := hx.2; rw [List.length_append, HDS.out] at this; omega)]

set_option maxHeartbeats 400000 in
theorem check_any (l : List UInt8) (w : World) :
    Calls Tryz.prog 37 #[.string ⟨l.toArray⟩] w fun e w' => e = .returned (.int .i64 (chk l)) ∧ Kept w w' := by
  by_cases h0 : l = [47]
  · subst h0
    go_enter Tryz.func37, Tryz.ntmps37
    go_wp2
    go_ret
    exact ⟨rfl, Kept.refl _⟩
  have t0 : (l == [47]) = false := by simpa using h0
  by_cases h1 : l.head? = some 47
  · obtain ⟨r, rfl⟩ : ∃ r, l = 47 :: r := by
      cases l with
      | nil => simp at h1
      | cons c r => exact ⟨r, by simp at h1; rw [h1]⟩
    by_cases h2 : (47 :: r).length ≤ 128
    · exact check_slash r w (fun e => h0 (by rw [e])) h2
    · have HP := Lib.hid (cutPrefix_root r w)
      have HF := Lib.hid (chk_long (47 :: r) (by omega))
      have t1 : decide ((128 : Int) < ((47 :: r).length : Int)) = true := by simp at h2 ⊢; omega
      clear h0 h1 h2
      generalize (47 :: r) = l at *
      go_enter Tryz.func37, Tryz.ntmps37
      go_wp2_with fail
      refine HP.out.mono ?_
      rintro e w' ⟨rfl, rfl⟩
      go_wp2
      go_ret
      exact ⟨ret_int HF.out.symm, Kept.refl _⟩
  · have HP := Lib.hid (cutPrefix_other l w h1)
    have HF := Lib.hid (chk_other l h1)
    clear h0 h1
    go_enter Tryz.func37, Tryz.ntmps37
    go_wp2_with fail
    refine HP.out.mono ?_
    rintro e w' ⟨rfl, rfl⟩
    go_wp2
    go_ret
    exact ⟨ret_int HF.out.symm, Kept.refl _⟩
end Go.Proofs.YtennlckfmgfjbaaGreatDoor
namespace Go.Proofs.YtennlckfmgfjbaaGreatDoor
open Go.RowKit
/-- What stands above a path; its last name; its first name. None: the call refuses. -/
def parentOf (l : List UInt8) : Option (List UInt8) := match names l with
  | some ls => if ls = [] then none else some (mk ls.dropLast)
  | none => none
def baseOf (l : List UInt8) : Option (List UInt8) := match names l with
  | some ls => ls.getLast?
  | none => none
def homeOf (l : List UInt8) : Option (List UInt8) := match names l with
  | some ls => some (ls.headD [])
  | none => none
/-- The error beside what is told. -/
def errO (o : Option (List UInt8)) : Int := if o.isSome then 0 else 20
def strO (o : Option (List UInt8)) : List UInt8 := o.getD []
theorem chk_none {l : List UInt8} (h : names l = none) : chk l = 20 := by unfold chk; rw [h]; rfl
theorem chk_some {l : List UInt8} {ls : List (List UInt8)} (h : names l = some ls) : chk l = 0 := by unfold chk; rw [h]; rfl
/-- A path is no path, or the root, or names with a last one. -/
theorem path_cases (l : List UInt8) : names l = none ∨ l = [47] ∨ ∃ init b, names l = some (init ++ [b]) ∧ l = flat init ++ 47 :: b ∧ isName b = true ∧ okNames init = true ∧ l ≠ [47] := by
  cases h : names l with
  | none => exact .inl rfl
  | some ls =>
    right
    obtain ⟨h1, h2⟩ := names_some h
    rcases List.eq_nil_or_concat ls with rfl | ⟨init, b, hc⟩
    · exact .inl (h2.trans mk_nil)
    · rw [List.concat_eq_append] at hc
      subst hc
      right
      rw [mk_ne (by simp), flat_append, flat_one] at h2
      refine ⟨init, b, rfl, h2, (okNames_all h1).1 b (by simp), okNames_prefix h1, ?_⟩
      rintro rfl
      simp [names] at h
theorem ret_pair {a a' : ByteArray} {x : Value} (h : a = a') : Ending.returned (.tuple #[.string a, x]) = .returned (.tuple #[.string a', x]) := by rw [h]
theorem ret_err {a : ByteArray} {l : List UInt8} {x y : Int} (h : a = ⟨l.toArray⟩) (k : x = y) : Ending.returned (.tuple #[.string a, .int .i64 x]) = .returned (.tuple #[.string ⟨l.toArray⟩, .int .i64 y]) := by rw [h, k]

set_option maxHeartbeats 1000000 in
theorem parent_any (l : List UInt8) (w : World) :
    Calls Tryz.prog 70 #[.string ⟨l.toArray⟩] w fun e w' => e = .returned (.tuple #[.string ⟨(strO (parentOf l)).toArray⟩, .int .i64 (errO (parentOf l))]) ∧ Kept w w' := by
  have HC := Lib.hid (check_any l w)
  rcases path_cases l with h | rfl | ⟨init, b, h, hfl, hb, hi, hne⟩
  · have hp : parentOf l = none := by unfold parentOf; rw [h]
    rw [hp]
    have hc := chk_none h
    rw [hc] at HC
    clear hp h hc
    go_enter Tryz.func70, Tryz.ntmps70
    go_wp2_with fail
    refine HC.out.mono ?_
    rintro e w' ⟨rfl, hk⟩
    go_wp2
    go_ret2
    exact ⟨rfl, hk⟩
  · have hc := chk_root
    rw [hc] at HC
    clear hc
    go_enter Tryz.func70, Tryz.ntmps70
    go_wp2_with fail
    refine HC.out.mono ?_
    rintro e w' ⟨rfl, hk⟩
    go_wp2
    go_ret2
    exact ⟨rfl, hk⟩
  · have hl : l.length ≤ 140737488355328 := by have := (names_len h).2; omega
    have hp : parentOf l = some (mk init) := by unfold parentOf; rw [h]; simp
    rw [hp]
    have hc := chk_some h
    rw [hc] at HC
    have t0 : (l == [47]) = false := by simpa using hne
    have hL := fun w => lastIndex_any (flat init) b w (isName_free hb) (by rw [← hfl]; exact hl)
    rw [← hfl] at hL
    have HL := Lib.hid hL
    have hlen : (flat init).length ≤ l.length := by rw [hfl]; simp
    have htake : l.take (flat init).length = flat init := by
      conv => lhs; arg 2; rw [hfl]
      exact List.take_left
    have HT := Lib.hid htake
    clear hp h hc hne hL hfl htake
    by_cases hz : init = []
    · subst hz
      rw [flat_nil] at HL
      go_enter Tryz.func70, Tryz.ntmps70
      go_wp2_with fail
      refine HC.out.mono ?_
      rintro e w' ⟨rfl, hk⟩
      go_wp2_with fail
      refine (HL.out _).mono ?_
      rintro e w1 ⟨rfl, rfl⟩
      go_wp2
      go_ret2
      exact ⟨rfl, hk⟩
    · have hpos : 0 < (flat init).length := by
        rcases Nat.eq_zero_or_pos (flat init).length with e | e
        · exact absurd (flat_eq_nil (List.eq_nil_of_length_eq_zero e)) hz
        · exact e
      rw [mk_ne hz]
      have t1 : (((flat init).length : Int) == 0) = false := by rw [beq_eq_false_iff_ne]; omega
      clear hz
      go_enter Tryz.func70, Tryz.ntmps70
      go_wp2_with fail
      refine HC.out.mono ?_
      rintro e w' ⟨rfl, hk⟩
      go_wp2_with fail
      refine (HL.out _).mono ?_
      rintro e w1 ⟨rfl, rfl⟩
      go_wp2_with fail
      rw [str_extract, Nat.sub_zero, List.drop_zero, HT.out]
      refine (clone_any (flat init) _ (by omega)).mono ?_
      rintro e w2 ⟨rfl, hk2⟩
      have hk3 := hk.trans hk2
      clear hk hk2
      go_wp2
      go_ret2
      exact ⟨rfl, hk3⟩

theorem home_cut (r : List UInt8) (ls : List (List UInt8)) (h : names (47 :: r) = some ls) : ls.headD [] = cutA r := by
  obtain ⟨h1, h2⟩ := names_some h
  cases ls with
  | nil =>
    rw [mk_nil] at h2
    obtain rfl : r = [] := by simpa using h2
    rfl
  | cons x t =>
    rw [mk_cons, flat_cons] at h2
    have e := (List.cons.inj h2).2
    have hx := isName_free ((okNames_all h1).1 x (by simp))
    show x = cutA r
    cases t with
    | nil =>
      rw [flat_nil, List.append_nil] at e
      rw [e, cutA_self x hx]
    | cons y u =>
      rw [flat_cons] at e
      have hc : cutC r = true := by rw [e]; simp [cutC]
      have h3 := sp_true r hc
      have h4 := sp_cut x (y ++ flat u) hx
      rw [← e, h3] at h4
      exact (List.cons.inj h4).1.symm

set_option maxHeartbeats 1000000 in
theorem home_any (l : List UInt8) (w : World) :
    Calls Tryz.prog 42 #[.string ⟨l.toArray⟩] w fun e w' => e = .returned (.tuple #[.string ⟨(strO (homeOf l)).toArray⟩, .int .i64 (errO (homeOf l))]) ∧ Kept w w' := by
  have HC := Lib.hid (check_any l w)
  cases h : names l with
  | none =>
    have hp : homeOf l = none := by unfold homeOf; rw [h]
    rw [hp]
    have hc := chk_none h
    rw [hc] at HC
    clear hp h hc
    go_enter Tryz.func42, Tryz.ntmps42
    go_wp2_with fail
    refine HC.out.mono ?_
    rintro e w' ⟨rfl, hk⟩
    go_wp2
    go_ret2
    exact ⟨rfl, hk⟩
  | some ls =>
    obtain ⟨r, rfl⟩ := names_head h
    have hp : homeOf (47 :: r) = some (cutA r) := by unfold homeOf; rw [h]; simp only; rw [home_cut r ls h]
    rw [hp]
    have hc := chk_some h
    rw [hc] at HC
    have hlen := (names_len h).2
    have hr : r.length ≤ 127 := by simp at hlen; omega
    have hle : 1 ≤ (47 :: r).length := by simp
    have hdrop : ((47 :: r).drop 1).take ((47 :: r).length - 1) = r := by simp
    have hcl : (cutA r).length ≤ 140737488355328 := by
      have : (cutA r).length ≤ r.length := by unfold cutA; exact (List.takeWhile_sublist _).length_le
      omega
    have HT := Lib.hid hdrop
    clear hp h hc hdrop hlen
    generalize (47 :: r) = l at *
    go_enter Tryz.func42, Tryz.ntmps42
    go_wp2_with fail
    refine HC.out.mono ?_
    rintro e w' ⟨rfl, hk⟩
    go_wp2_with fail
    rw [str_extract, HT.out]
    refine (cut_any r _ (by omega)).mono ?_
    generalize (if cutC r then cutB r else []) = y at *
    generalize cutC r = z at *
    rintro e w1 ⟨rfl, hk1⟩
    have hk3 := hk.trans hk1
    clear hk hk1
    go_wp2_with fail
    refine (clone_any (cutA r) _ hcl).mono ?_
    rintro e w2 ⟨rfl, hk2⟩
    have hk4 := hk3.trans hk2
    clear hk3 hk2
    go_wp2
    go_ret2
    exact ⟨rfl, hk4⟩
end Go.Proofs.YtennlckfmgfjbaaGreatDoor
