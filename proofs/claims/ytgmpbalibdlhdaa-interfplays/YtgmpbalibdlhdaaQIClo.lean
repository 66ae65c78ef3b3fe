/- strings.Clone: the text itself. -/
import Derived.Test.YtgmpbalibdlhdaaQIIx
import Derived.Test.YtgmpbalibdlhdaaQDShelf
set_option linter.unusedSimpArgs false
set_option linter.unusedVariables false
namespace Go.Proofs.Ytgmpbalibdlhdaa
open Go.RowKit
theorem sclone_any (l : List UInt8) (w : World) (hl : l.length ≤ 281474976710656) : Calls Try.prog 26 #[.string ⟨l.toArray⟩] w fun e w' => e = .returned (.string ⟨l.toArray⟩) ∧ Kept w w' := by
  have HC := Lib.hid (Try.stringslite_Clone ⟨l.toArray⟩ w (by show l.toArray.size ≤ _; simpa using hl))
  go_enter Try.func26, Try.ntmps26
  go_wp2_with fail
  refine HC.out.mono ?_
  rintro e w' ⟨rfl, hk⟩
  go_wp2
  go_ret
  exact ⟨rfl, hk⟩
end Go.Proofs.Ytgmpbalibdlhdaa
