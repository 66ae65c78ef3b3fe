/- The walk of Join. -/
import Derived.Test.YtoapfjcohnddaaaPUnder
import Derived.Test.YtoapfjcohnddaaaPStrs
namespace Go.Proofs.Ytoapfjcohnddaaa
open Go.RowKit
/-- The path with names behind it. -/
def joinOf (l : List UInt8) (ns : List (List UInt8)) : Option (List UInt8) := match names l with
  | some ls => if okNames (ls ++ ns) = true then some (mk (ls ++ ns)) else none
  | none => none
theorem chk_mk (ls : List (List UInt8)) (h : ∀ x ∈ ls, isName x = true) : chk (mk ls) = if okNames ls = true then 0 else 20 := by
  unfold chk
  rw [names_mk ls h]
  by_cases hk : okNames ls = true
  · rw [if_pos hk, if_pos hk]; rfl
  · rw [if_neg hk, if_neg hk]; rfl
theorem mk_snoc (ls : List (List UInt8)) (x : List UInt8) : mk (ls ++ [x]) = if mk ls = [47] ∧ ls = [] then mk ls ++ x else mk ls ++ (47 :: x) := by
  rw [mk_ne (by simp), flat_append, flat_one]
  by_cases h : ls = []
  · subst h; simp [mk, flat]
  · rw [if_neg (by simp [h]), mk_ne h]

set_option maxRecDepth 100000 in
set_option maxHeartbeats 1000000 in
theorem join_any (l : List UInt8) (ns : List (List UInt8)) (v : Value) (w : World) (hv : Txts w v ns) :
    Calls Try.prog 5 #[.string ⟨l.toArray⟩, v] w fun e w' => e = .returned (.tuple #[.string ⟨(strO (joinOf l ns)).toArray⟩, .int .i64 (errO (joinOf l ns))]) ∧ Kept w w' := by
  have HV := Lib.hid hv
  obtain ⟨A, c, rfl, hc1, hc2⟩ := hv.form
  clear hv
  unfold maxLen at hc2
  have HC := Lib.hid (check_any l w)
  cases h : names l with
  | none =>
    have hp : joinOf l ns = none := by unfold joinOf; rw [h]
    rw [hp]
    have hc := chk_none h
    rw [hc] at HC
    clear hp h hc
    go_enter Try.func5, Try.ntmps5
    go_wp2_with fail
    refine HC.out.mono ?_
    rintro e w' ⟨rfl, hk⟩
    go_wp2
    go_ret2
    exact ⟨rfl, hk⟩
  | some ls =>
    have hp : joinOf l ns = if okNames (ls ++ ns) = true then some (mk (ls ++ ns)) else none := by unfold joinOf; rw [h]
    have HP := Lib.hid hp
    obtain ⟨hok, hmk⟩ := names_some h
    have HM := Lib.hid hmk
    have HOK := Lib.hid hok
    have hc := chk_some h
    rw [hc] at HC
    have hlen := (names_len h).2
    clear hp h hc hok hmk
    go_enter Try.func5, Try.ntmps5
    go_wp2_with fail
    refine HC.out.mono ?_
    rintro e w1 ⟨rfl, hk1⟩
    go_wp2_with fail
    refine (clone_any l _ (by omega)).mono ?_
    rintro e w2 ⟨rfl, hk2⟩
    have hk3 := hk1.trans hk2
    clear hk1 hk2
    go_wp2
    go_loopw [7, 20] (fun t i W => ∃ (k : Nat) (j : List UInt8), i = .int .i64 (k : Int) ∧ t = .string ⟨j.toArray⟩ ∧ k ≤ ns.length ∧ j = mk (ls ++ ns.take k) ∧ okNames (ls ++ ns.take k) = true ∧ Kept w W) (fun _ i _ => ns.length - (intOf i).toNat)
    case atStart => exact ⟨0, l, rfl, rfl, Nat.zero_le _, by simpa using HM.out, by simpa using HOK.out, hk3⟩
    case round =>
      obtain ⟨k, j, rfl, rfl, hk, hj, hO, hK⟩ := hrel
      by_cases hlt : k < ns.length
      · have hjl : j.length ≤ 128 := by rw [hj]; exact (mk_len hO).2
        obtain ⟨b, o, rfl, hcell⟩ := (HV.out.kept hK).at hlt
        have hts : ls ++ ns.take (k + 1) = (ls ++ ns.take k) ++ [ns[k]] := by rw [List.take_succ_eq_append_getElem hlt, List.append_assoc]
        cases hn : isName ns[k] with
        | false =>
          have hno : joinOf l ns = none := by
            rw [HP.out, if_neg]
            intro hx
            have := (okNames_all hx).1 ns[k] (by simp)
            rw [hn] at this
            cases this
          have HNO := Lib.hid hno
          have HN := Lib.hid (show ∀ w, _ from fun w => name_any ns[k] w)
          rw [hn] at HN
          clear hno hn hts hj hO
          generalize ns[k] = x at *
          go_wp2_with fail
          refine (HN.out _).mono ?_
          rintro e w4 ⟨rfl, hk4⟩
          have hk5 := hK.trans hk4
          clear hk4
          go_wp2
          go_ret2
          exact ⟨by rw [HNO.out]; rfl, hk5⟩
        | true =>
          have hall : ∀ x ∈ ls ++ ns.take (k + 1), isName x = true := by
            rw [hts]
            intro x hx
            rcases List.mem_append.1 hx with h1 | h1
            · exact (okNames_all hO).1 x h1
            · rw [List.mem_singleton.1 h1]; exact hn
          have hxl := (isName_len hn).2
          have hck := chk_mk _ hall
          have HN := Lib.hid (show ∀ w, _ from fun w => name_any ns[k] w)
          rw [hn] at HN
          have hnew := mk_snoc (ls ++ ns.take k) ns[k]
          rw [← hts, ← hj] at hnew
          have hroot : j = [47] ↔ ls ++ ns.take k = [] := by rw [hj]; exact mk_root hO
          have hnone : okNames (ls ++ ns.take (k + 1)) ≠ true → joinOf l ns = none := by
            intro hx
            rw [HP.out, if_neg]
            intro hy
            apply hx
            rw [← List.take_append_drop (k + 1) ns, ← List.append_assoc] at hy
            exact okNames_prefix hy
          have HNONE := Lib.hid hnone
          have HCK := Lib.hid hck
          clear hn hj hnone hck hts hall hO
          by_cases hj47 : j = [47]
          · rw [if_pos ⟨hj47, hroot.1 hj47⟩, hj47, List.cons_append, List.nil_append] at hnew
            have HNEW := Lib.hid hnew
            clear hnew hroot
            subst hj47
            generalize ns[k] = x at *
            go_wp2_with fail
            refine (HN.out _).mono ?_
            rintro e w4 ⟨rfl, hk4⟩
            have hk5 := hK.trans hk4
            clear hk4
            go_wp2_with fail
            rw [str_cons]
            have hcy : chk (47 :: x) = if okNames (ls ++ ns.take (k + 1)) = true then 0 else 20 := by rw [← HNEW.out]; exact HCK.out
            have HCY := Lib.hid (show ∀ w, _ from fun w => check_any (47 :: x) w)
            rw [hcy] at HCY
            clear hcy
            cases hok : okNames (ls ++ ns.take (k + 1)) with
            | true =>
              rw [hok, if_pos rfl] at HCY
              have HO2 := Lib.hid hok
              clear hok
              refine (HCY.out _).mono ?_
              rintro e w6 ⟨rfl, hk6⟩
              have hk7 := hk5.trans hk6
              clear hk5 hk6
              go_wp2
              go_roundw
              case rel => exact ⟨k + 1, 47 :: x, by go_num, rfl, by omega, HNEW.out.symm, HO2.out, hk7⟩
              case measure => simp [intOf]; omega
            | false =>
              have HNO := Lib.hid (HNONE.out (by rw [hok]; simp))
              rw [hok, if_neg (by simp)] at HCY
              clear hok
              refine (HCY.out _).mono ?_
              rintro e w6 ⟨rfl, hk6⟩
              have hk7 := hk5.trans hk6
              clear hk5 hk6
              go_wp2
              go_ret2
              exact ⟨by rw [HNO.out]; rfl, hk7⟩
          · have t0 : (j == [47]) = false := by simpa using hj47
            rw [if_neg (fun hx => hj47 hx.1)] at hnew
            have HNEW := Lib.hid hnew
            clear hnew hroot hj47
            generalize ns[k] = x at *
            go_wp2_with fail
            refine (HN.out _).mono ?_
            rintro e w4 ⟨rfl, hk4⟩
            have hk5 := hK.trans hk4
            clear hk4
            go_wp2_with fail
            rw [str_snoc, str_append, List.append_assoc, List.cons_append, List.nil_append]
            have hcy : chk (j ++ 47 :: x) = if okNames (ls ++ ns.take (k + 1)) = true then 0 else 20 := by rw [← HNEW.out]; exact HCK.out
            have HCY := Lib.hid (show ∀ w, _ from fun w => check_any (j ++ 47 :: x) w)
            rw [hcy] at HCY
            clear hcy
            cases hok : okNames (ls ++ ns.take (k + 1)) with
            | true =>
              rw [hok, if_pos rfl] at HCY
              have HO2 := Lib.hid hok
              clear hok
              refine (HCY.out _).mono ?_
              rintro e w6 ⟨rfl, hk6⟩
              have hk7 := hk5.trans hk6
              clear hk5 hk6
              go_wp2
              go_roundw
              case rel => exact ⟨k + 1, j ++ 47 :: x, by go_num, rfl, by omega, HNEW.out.symm, HO2.out, hk7⟩
              case measure => simp [intOf]; omega
            | false =>
              have HNO := Lib.hid (HNONE.out (by rw [hok]; simp))
              rw [hok, if_neg (by simp)] at HCY
              clear hok
              refine (HCY.out _).mono ?_
              rintro e w6 ⟨rfl, hk6⟩
              have hk7 := hk5.trans hk6
              clear hk5 hk6
              go_wp2
              go_ret2
              exact ⟨by rw [HNO.out]; rfl, hk7⟩
      · obtain rfl : k = ns.length := by omega
        rw [List.take_length] at hj hO
        have hp : joinOf l ns = some j := by rw [HP.out, if_pos hO, hj]
        have HJ := Lib.hid hp
        clear hp hj hO
        go_wp2
        go_ret2
        exact ⟨by rw [HJ.out]; rfl, hK⟩
end Go.Proofs.Ytoapfjcohnddaaa
