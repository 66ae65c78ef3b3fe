/- The walk of the document's SameTexts, at one list. -/
import Derived.Test.YtgmpbalibdlhdaaQIHm
set_option linter.unusedSimpArgs false
set_option linter.unusedVariables false
namespace Go.Proofs.Ytgmpbalibdlhdaa
open Go.RowKit
set_option maxRecDepth 100000 in
set_option maxHeartbeats 1000000 in
theorem sameTexts_any (ls : List (List UInt8)) (v u : Value) (w : World) (hv : Txts w v ls) (hu : Txts w u ls) :
    Calls Try.prog 13 #[v, u] w fun e w' => e = .returned (.bool true) ∧ Kept w w' := by
  have HV := Lib.hid hv
  have HU := Lib.hid hu
  obtain ⟨A, c, rfl, d1, d2⟩ := hv.form
  obtain ⟨A', c', rfl, d3, d4⟩ := hu.form
  unfold maxLen at d2 d4
  clear hv hu
  go_enter Try.func13, Try.ntmps13
  go_wp2
  go_loopw [5] (fun i W => ∃ k : Nat, i = .int .i64 (k : Int) ∧ k ≤ ls.length ∧ Kept w W) (fun i _ => ls.length - (intOf i).toNat)
  case atStart => exact ⟨0, rfl, Nat.zero_le _, Kept.refl _⟩
  case round =>
    obtain ⟨k, rfl, hk, hK⟩ := hrel
    by_cases hlt : k < ls.length
    · obtain ⟨b1, o1, rfl, hc1⟩ := (HV.out.kept hK).at hlt
      obtain ⟨b2, o2, rfl, hc2⟩ := (HU.out.kept hK).at hlt
      have g1 : (k : Int) < (ls.length : Int) := by omega
      generalize ls[k] = x at *
      go_wp2
      go_quiet (fail)
      go_wp2
      go_roundw
      case rel => exact ⟨k + 1, by go_num, by omega, hK.drewN _⟩
      case measure => simp [intOf]; omega
    · obtain rfl : k = ls.length := by omega
      go_wp2
      go_ret
      exact ⟨rfl, hK⟩
end Go.Proofs.Ytgmpbalibdlhdaa
