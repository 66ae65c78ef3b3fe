/- The walk of the document's Make. -/
import Derived.Test.YtnpenabkmpoafaaDoorQPRefParts
import Derived.Test.YtnpenabkmpoafaaDoorQPTold
namespace Go.Proofs.YtnpenabkmpoafaaDoor
open Go.RowKit
theorem flat_take (ls : List (List UInt8)) (k : Nat) (h : k < ls.length) : flat (ls.take (k + 1)) = flat (ls.take k) ++ 47 :: ls[k] := by
  rw [List.take_succ_eq_append_getElem h, flat_append, flat_one]
set_option maxRecDepth 100000 in
set_option maxHeartbeats 400000 in
theorem make_any (ls : List (List UInt8)) (v : Value) (w : World) (hv : Txts w v ls) (hlim : (flat ls).length ≤ 1000000) :
    Calls Tryd.prog 29 #[v] w fun e w' => e = .returned (.string ⟨(mk ls).toArray⟩) ∧ w = w' := by
  have HV := Lib.hid hv
  obtain ⟨A, c, rfl, hc1, hc2⟩ := hv.form
  clear hv
  unfold maxLen at hc2
  by_cases h0 : ls = []
  · subst h0
    go_enter Tryd.func29, Tryd.ntmps29
    go_wp2
    go_ret
    exact ⟨rfl, rfl⟩
  · have hpos : 1 ≤ ls.length := by
      cases ls with
      | nil => exact absurd rfl h0
      | cons x t => simp
    have t0 : ((ls.length : Int) == 0) = false := by rw [beq_eq_false_iff_ne]; omega
    rw [mk_ne h0]
    clear h0
    go_enter Tryd.func29, Tryd.ntmps29
    go_wp2
    go_loop [3, 4] (fun s i => ∃ (k : Nat) (x : List UInt8), i = .int .i64 (k : Int) ∧ k ≤ ls.length ∧ s = .string ⟨x.toArray⟩ ∧ x = flat (ls.take k)) (fun _ i => ls.length - (intOf i).toNat)
    case atStart => exact ⟨0, [], rfl, Nat.zero_le _, rfl, rfl⟩
    case round =>
      obtain ⟨k, x, rfl, hk, rfl, hx⟩ := hrel
      have HX := Lib.hid hx
      clear hx
      by_cases hlt : k < ls.length
      · obtain ⟨b, o, rfl, hcell⟩ := HV.out.at hlt
        have HT := Lib.hid (flat_take ls k hlt)
        have hle : x.length + 1 + ls[k].length ≤ 1000000 := by
          have h1 := congrArg List.length HT.out
          rw [← HX.out] at h1
          have h2 : (flat (ls.take (k + 1))).length ≤ (flat ls).length := by
            have := congrArg List.length (flat_append (ls.take (k + 1)) (ls.drop (k + 1)))
            rw [List.take_append_drop, List.length_append] at this
            omega
          simp at h1
          omega
        generalize ls[k] = y at *
        go_wp2
        go_round
        case rel => exact ⟨k + 1, x ++ 47 :: y, by go_num, by omega, by rw [str_cons, str_append], by rw [HT.out, HX.out]⟩
        case measure => simp [intOf]; omega
      · obtain rfl : k = ls.length := by omega
        have hx := HX.out
        rw [List.take_length] at hx
        have HX2 := Lib.hid hx
        clear hx HX
        go_wp2
        go_ret
        exact ⟨congrArg (fun z : List UInt8 => Ending.returned (.string ⟨z.toArray⟩)) HX2.out, rfl⟩
end Go.Proofs.YtnpenabkmpoafaaDoor
