/- The walk of Check. -/
import Derived.Test.YtnpenabkmpoafaaDoorQPLib
namespace Go.Proofs.YtnpenabkmpoafaaDoor
open Go.RowKit
theorem chk_root : chk [47] = 0 := by decide
theorem chk_other (l : List UInt8) (h : l.head? ≠ some 47) : chk l = 20 := by
  have hn : names l = none := by
    unfold names
    rw [if_neg (by rintro rfl; exact h rfl), if_neg (by simp [h])]
  unfold chk
  rw [hn]
  rfl
theorem chk_long (l : List UInt8) (h : 128 < l.length) : chk l = 20 := by
  unfold chk
  cases hn : names l with
  | none => rfl
  | some ls => have := names_len hn; omega
theorem names_slash (r : List UInt8) (h0 : r ≠ []) (hl : (47 :: r).length ≤ 128) : names (47 :: r) = if (sp r).all isName = true ∧ (sp r).length ≤ 8 then some (sp r) else none := by
  unfold names
  rw [if_neg (by simp [h0])]
  have e : okNames (sp r) = true ↔ (sp r).all isName = true ∧ (sp r).length ≤ 8 := by
    unfold okNames
    rw [flat_sp]
    simp only [Bool.and_eq_true, decide_eq_true_eq]
    constructor
    · rintro ⟨⟨a, b⟩, -⟩; exact ⟨a, b⟩
    · rintro ⟨a, b⟩; exact ⟨⟨a, b⟩, hl⟩
  by_cases hk : (sp r).all isName = true ∧ (sp r).length ≤ 8
  · rw [if_pos hk, if_pos (by simp only [List.drop_succ_cons, List.drop_zero]; exact ⟨rfl, e.2 hk⟩)]; rfl
  · rw [if_neg hk, if_neg (by simp only [List.drop_succ_cons, List.drop_zero]; exact fun ⟨_, x⟩ => hk (e.1 x))]
theorem chk_slash (r : List UInt8) (h0 : r ≠ []) (hl : (47 :: r).length ≤ 128) : chk (47 :: r) = if (sp r).all isName = true ∧ (sp r).length ≤ 8 then 0 else 20 := by
  unfold chk
  rw [names_slash r h0 hl]
  by_cases hk : (sp r).all isName = true ∧ (sp r).length ≤ 8
  · rw [if_pos hk, if_pos hk]; rfl
  · rw [if_neg hk, if_neg hk]; rfl
theorem ret_int {k : IntKind} {a b : Int} (h : a = b) : Ending.returned (.int k a) = .returned (.int k b) := by rw [h]

set_option maxRecDepth 100000 in
set_option maxHeartbeats 1000000 in
theorem check_slash (r : List UInt8) (w : World) (h0 : r ≠ []) (hl : (47 :: r).length ≤ 128) :
    Calls Tryd.prog 19 #[.string ⟨(47 :: r).toArray⟩] w fun e w' => e = .returned (.int .i64 (chk (47 :: r))) ∧ Kept w w' := by
  have HF := Lib.hid (chk_slash r h0 hl)
  have HP := Lib.hid (cutPrefix_root r w)
  have t0 : ((47 :: r) == [47]) = false := by simpa using h0
  have hr : r.length ≤ 127 := by simp at hl; omega
  have t1 : decide ((128 : Int) < ((47 :: r).length : Int)) = false := by simp; omega
  clear hl
  generalize hd : (47 :: r) = l at *
  have HD := Lib.hid hd
  clear hd h0
  go_enter Tryd.func19, Tryd.ntmps19
  go_wp2_with fail
  refine HP.out.mono ?_
  rintro e w' ⟨rfl, rfl⟩
  go_wp2
  go_loopw [3, 22] (fun t i W => ∃ (k : Nat) (r' : List UInt8) (ds : List (List UInt8)), i = .int .i64 (k : Int) ∧ t = .string ⟨r'.toArray⟩ ∧ k ≤ 8 ∧ r'.length ≤ 127 ∧ ds.length = k ∧ sp r = ds ++ sp r' ∧ ds.all isName = true ∧ Kept w W) (fun _ i _ => 8 - (intOf i).toNat)
  case atStart => exact ⟨0, r, [], rfl, rfl, by omega, hr, rfl, rfl, rfl, Kept.refl _⟩
  case round =>
    obtain ⟨k, r', ds, rfl, rfl, hk, hr', hds, hsp, hall, hK⟩ := hrel
    have HS := Lib.hid hsp
    have HDS := Lib.hid hds
    have HA := Lib.hid hall
    clear hsp hds hall
    by_cases hlt : k < 8
    · go_wp2_with fail
      refine (cut_any r' _ (by omega)).mono ?_
      rintro e w1 ⟨rfl, hk1⟩
      have hK1 := hK.trans hk1
      clear hk1
      cases hc : cutC r' with
      | true =>
        have hlen := cutB_len r' hc
        have hsq : sp r = (ds ++ [cutA r']) ++ sp (cutB r') := by rw [HS.out, sp_true r' hc]; simp
        have HQ := Lib.hid hsq
        clear hsq hc
        rw [if_pos rfl]
        go_wp2_with fail
        refine (name_any (cutA r') _).mono ?_
        rintro e w2 ⟨rfl, hk2⟩
        have hK2 := hK1.trans hk2
        clear hk2
        cases hn : isName (cutA r') with
        | true =>
          have HN := Lib.hid hn
          clear hn
          go_wp2
          go_roundw
          case rel => exact ⟨k + 1, cutB r', ds ++ [cutA r'], by go_num, rfl, by omega, by omega, by simp [HDS.out], HQ.out, by simp [HA.out, HN.out], hK2⟩
          case measure => simp [intOf]; omega
        | false =>
          have HN := Lib.hid hn
          clear hn
          go_wp2
          go_ret
          refine ⟨ret_int ?_, hK2⟩
          rw [HF.out, HQ.out, if_neg (by simp [HN.out])]
      | false =>
        have hsq : sp r = ds ++ [cutA r'] := by rw [HS.out, sp_false r' hc]
        have HQ := Lib.hid hsq
        clear hsq hc
        rw [if_neg (by simp)]
        go_wp2_with fail
        refine (name_any (cutA r') _).mono ?_
        rintro e w2 ⟨rfl, hk2⟩
        have hK2 := hK1.trans hk2
        clear hk2
        cases hn : isName (cutA r') with
        | true =>
          have HN := Lib.hid hn
          clear hn
          go_wp2
          go_ret
          refine ⟨ret_int ?_, hK2⟩
          rw [HF.out, HQ.out, if_pos ⟨by simp [HA.out, HN.out], by simp [HDS.out]; omega⟩]
        | false =>
          have HN := Lib.hid hn
          clear hn
          go_wp2
          go_ret
          refine ⟨ret_int ?_, hK2⟩
          rw [HF.out, HQ.out, if_neg (by simp [HN.out])]
    · obtain rfl : k = 8 := by omega
      have hpos : 1 ≤ (sp r').length := by
        cases hs : sp r' with
        | nil => exact absurd hs (sp_ne r')
        | cons x t => simp
      go_wp2
      go_ret
      refine ⟨ret_int ?_, hK⟩
      rw [HF.out, HS.out, if_neg (by intro hx; have := hx.2; rw [List.length_append, HDS.out] at this; omega)]

set_option maxHeartbeats 400000 in
theorem check_any (l : List UInt8) (w : World) :
    Calls Tryd.prog 19 #[.string ⟨l.toArray⟩] w fun e w' => e = .returned (.int .i64 (chk l)) ∧ Kept w w' := by
  by_cases h0 : l = [47]
  · subst h0
    go_enter Tryd.func19, Tryd.ntmps19
    go_wp2
    go_ret
    exact ⟨rfl, Kept.refl _⟩
  have t0 : (l == [47]) = false := by simpa using h0
  by_cases h1 : l.head? = some 47
  · obtain ⟨r, rfl⟩ : ∃ r, l = 47 :: r := by
      cases l with
      | nil => simp at h1
      | cons c r => exact ⟨r, by simp at h1; rw [h1]⟩
    by_cases h2 : (47 :: r).length ≤ 128
    · exact check_slash r w (fun e => h0 (by rw [e])) h2
    · have HP := Lib.hid (cutPrefix_root r w)
      have HF := Lib.hid (chk_long (47 :: r) (by omega))
      have t1 : decide ((128 : Int) < ((47 :: r).length : Int)) = true := by simp at h2 ⊢; omega
      clear h0 h1 h2
      generalize (47 :: r) = l at *
      go_enter Tryd.func19, Tryd.ntmps19
      go_wp2_with fail
      refine HP.out.mono ?_
      rintro e w' ⟨rfl, rfl⟩
      go_wp2
      go_ret
      exact ⟨ret_int HF.out.symm, Kept.refl _⟩
  · have HP := Lib.hid (cutPrefix_other l w h1)
    have HF := Lib.hid (chk_other l h1)
    clear h0 h1
    go_enter Tryd.func19, Tryd.ntmps19
    go_wp2_with fail
    refine HP.out.mono ?_
    rintro e w' ⟨rfl, rfl⟩
    go_wp2
    go_ret
    exact ⟨ret_int HF.out.symm, Kept.refl _⟩
end Go.Proofs.YtnpenabkmpoafaaDoor
