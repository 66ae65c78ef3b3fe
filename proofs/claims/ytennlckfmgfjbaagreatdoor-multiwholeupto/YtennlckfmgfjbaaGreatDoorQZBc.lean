/- bytes.Clone: a row of its own. -/
import Derived.Test.YtennlckfmgfjbaaGreatDoorGDShelf4
import Derived.Test.YtennlckfmgfjbaaGreatDoorGApp3
set_option linter.unusedSimpArgs false
set_option linter.unusedVariables false
namespace Go.Proofs.YtennlckfmgfjbaaGreatDoor
open Go.RowKit
theorem bclone_any (l : List UInt8) (v : Value) (w : World) (hv : Bts w v l) (hl : l.length ≤ 140737488355328) :
    Calls Tryz.prog 45 #[v] w fun e w' => ∃ v', e = .returned v' ∧ w'.ownsRow w.heap.size 5 1 v' l.length (Lib.byteCells l) ∧ Kept w w' := by
  obtain ⟨A, c, rfl, h1, h2, h3⟩ := hv
  cases A with
  | none =>
    have hm : l = [] := by
      rcases Nat.eq_zero_or_pos l.length with h | h
      · exact List.eq_nil_of_length_eq_zero h
      · obtain ⟨b, o, h, -⟩ := h3 h; cases h
    subst hm
    refine (Tryz.bytes_Clone_nil _ c w).mono ?_
    rintro e w' ⟨rfl, rfl⟩
    exact ⟨_, rfl, World.ownsRow_nil _ _ _ _, Kept.refl _⟩
  | some a =>
    have e : (l.map fun b : UInt8 => (b.toNat : Int)).map (Value.int .u8) = Lib.byteCells l := by simp [Lib.byteCells]
    refine (Tryz.bytes_Clone_at a l.length c (l.map fun b => (b.toNat : Int)) w (by simp) hl (fun i hi => ?_)).mono ?_
    · obtain ⟨b, o, h, hc⟩ := h3 (by omega)
      cases h
      have e : ((⟨b, o, none⟩ : Addr).add i) = ⟨b, o + i, none⟩ := by unfold Addr.add; split <;> simp_all
      rw [e, hc i l[i] (by simp [hi])]
      simp [List.getD, hi]
    · rintro e' w' ⟨v', rfl, h4, -, h5⟩
      rw [e] at h4
      exact ⟨v', rfl, h4, h5⟩
end Go.Proofs.YtennlckfmgfjbaaGreatDoor
