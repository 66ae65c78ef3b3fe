/- The walks of told and of the statements' fixed question. -/
import Derived.Test.YtennlckfmgfjbaaGreatDoorGPCheck2
namespace Go.Proofs.YtennlckfmgfjbaaGreatDoor
open Go.RowKit
def errB (b : Bool) : Int := if b then 0 else 20
theorem str_append (l m : List UInt8) : (⟨l.toArray⟩ : ByteArray) ++ ⟨m.toArray⟩ = ⟨(l ++ m).toArray⟩ := by
  apply ByteArray.ext
  simp
theorem str_snoc (l : List UInt8) (c : UInt8) : (⟨l.toArray⟩ : ByteArray) ++ ⟨#[c]⟩ = ⟨(l ++ [c]).toArray⟩ := str_append l [c]
theorem str_cons (l : List UInt8) (c : UInt8) : (⟨#[c]⟩ : ByteArray) ++ ⟨l.toArray⟩ = ⟨(c :: l).toArray⟩ := str_append [c] l
theorem awake_facts : strO (parentOf [47, 97, 47, 98, 45, 49]) = [47, 97] ∧ errO (parentOf [47, 97, 47, 98, 45, 49]) = 0 ∧ strO (homeOf [47, 97, 47, 98, 45, 49]) = [97] ∧ errO (homeOf [47, 97, 47, 98, 45, 49]) = 0 ∧ chk [47, 65] = 20 := by decide +kernel
end Go.Proofs.YtennlckfmgfjbaaGreatDoor
