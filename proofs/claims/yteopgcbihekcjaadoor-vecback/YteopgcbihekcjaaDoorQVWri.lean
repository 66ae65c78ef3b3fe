/- The writer's Nums where its numbers are younger than the writer: the part of Wri2 that a seat without Blobs and Texts has. -/
import Derived.Test.YteopgcbihekcjaaDoorQNum
set_option linter.unusedSimpArgs false
set_option linter.unusedVariables false
namespace Go.Proofs.YteopgcbihekcjaaDoor
open Go.RowKit
theorem Ints.framed {w : World} {b : Nat} {v : Value} {ns : List Int} (h : Ints w v ns) (ha : ∀ bi o n c, v = .slice (some ⟨bi, o, none⟩) n c → bi ≠ b ∧ rowOf w b ≠ some bi) : ∀ W, WFr b w W → Ints W v ns := fun W hF => by
  obtain ⟨A, c, rfl, h1, h2, h3⟩ := h
  refine ⟨A, c, rfl, h1, h2, fun hl => ?_⟩
  obtain ⟨bi, o, rfl, hc⟩ := h3 hl
  obtain ⟨a1, a2⟩ := ha _ _ _ _ rfl
  exact ⟨bi, o, rfl, fun i x hx => hF.cell (hc i x hx) a1 a2⟩
set_option maxRecDepth 100000 in
set_option maxHeartbeats 400000 in
theorem nums_framed (b : Nat) (bad : Bool) (l : List UInt8) (ns : List Int) (v : Value) (w : World) (hv : ∀ W, WFr b w W → Ints W v ns)
    (h : IsW w b bad l) (hlim : l.length + 9 * ns.length ≤ 140737488355328) :
    Calls Tryd.prog 19 #[.pointer (some ⟨b, 0, none⟩), v] w fun e w' => e = .returned (.tuple #[]) ∧ IsW w' b (bad || badAll ns) (l ++ putAll ns) ∧ WFr b w w' := by
  obtain ⟨A, c, rfl, hc1, hc2, -⟩ := hv w (WFr.refl _ _)
  unfold maxLen at hc2
  have H := Lib.hid h
  have HV := Lib.hid hv
  clear h hv
  go_enter Tryd.func19, Tryd.ntmps19
  go_wp2
  go_loopw [8] (fun t W => ∃ k : Nat, t = .int .i64 (k : Int) ∧ k ≤ ns.length ∧ IsW W b (bad || badAll (ns.take k)) (l ++ putAll (ns.take k)) ∧ WFr b w W) (fun t _ => ns.length - (intOf t).toNat)
  case atStart => exact ⟨0, rfl, Nat.zero_le _, by simpa [badAll, putAll] using H.out, WFr.refl _ _⟩
  case round =>
    obtain ⟨k, rfl, hk, hI, hF⟩ := hrel
    by_cases hlt : k < ns.length
    · obtain ⟨A', c', hv', -, -, hcs⟩ := HV.out _ hF
      obtain ⟨bi, oi, rfl, hcs2⟩ := hcs (by omega)
      simp only [Value.slice.injEq] at hv'
      obtain ⟨rfl, -, rfl⟩ := hv'
      have hc0 := hcs2 k ns[k] (by simp [hlt])
      have hlen := putAll_len (ns.take k)
      rw [List.length_take] at hlen
      have e1 : badAll (ns.take (k + 1)) = (badAll (ns.take k) || !okNum ns[k]) := by rw [take_snoc _ _ hlt, badAll_snoc]
      have e2 : putAll (ns.take (k + 1)) = putAll (ns.take k) ++ if okNum ns[k] then put ns[k].toNat else [] := by rw [take_snoc _ _ hlt, putAll_snoc]
      have E1 := Lib.hid e1
      have E2 := Lib.hid e2
      clear e1 e2 hcs hcs2
      generalize ns[k] = n at *
      go_wp2_with fail
      refine (number_any b _ _ _ _ hI (by simp; omega)).mono ?_
      rintro e w2 ⟨rfl, hI2, hF2⟩
      go_wp2
      go_roundw
      case rel => exact ⟨k + 1, by go_num, by omega, by rw [E1.out, E2.out, ← Bool.or_assoc, ← List.append_assoc]; exact hI2, hF.trans hF2⟩
      case measure => simp [intOf]; omega
    · obtain rfl : k = ns.length := by omega
      rw [List.take_length] at hI
      go_wp2
      go_end0
      exact ⟨rfl, hI, hF⟩
end Go.Proofs.YteopgcbihekcjaaDoor
