/- The walks of checkNames, check, strings.Clone, put and bytes.Clone. -/
import Derived.Test.YtmjlhgamhjfjlaaDMem
import Derived.StillTailTactics
import Derived.Deep.RegionWith
set_option linter.unusedSimpArgs false
set_option linter.unusedVariables false
namespace Go.Proofs.Ytmjlhgamhjfjlaa
open Go.RowKit
theorem okL_bad {ls : List Nm} {k : Nat} (hk : k < ls.length) (h : okN ls[k] = false) : okL ls = 30 := by
  unfold okL
  rw [all_bad hk h]
  rfl
set_option maxHeartbeats 400000 in
theorem checkNames_any (ls : List Nm) (v : Value) (w : World) (hv : Txts w v ls) : Calls Try.prog 31 #[v] w fun e w' => e = .returned (.int .i64 (okL ls)) ∧ w = w' := by
  have HV := Lib.hid hv
  obtain ⟨A, c, rfl, hc1, hc2⟩ := hv.form
  clear hv
  unfold maxLen at hc2
  go_enter Try.func31, Try.ntmps31
  go_wp2
  go_loop [7] (fun i => ∃ k : Nat, k ≤ ls.length ∧ i = .int .i64 (k : Int) ∧ (ls.take k).all okN = true) (fun i => ls.length - (intOf i).toNat)
  case atStart => exact ⟨0, Nat.zero_le _, rfl, rfl⟩
  case round =>
    obtain ⟨k, hk, rfl, hall⟩ := hrel
    have HA := Lib.hid hall
    clear hall
    by_cases hlt : k < ls.length
    · obtain ⟨b, o, rfl, hcell⟩ := HV.out.at hlt
      have g1 : (k : Int) < (ls.length : Int) := by omega
      cases hb : okN ls[k] with
      | true =>
        have HB := Lib.hid hb
        have HN := Lib.hid (isName_any ls[k] w)
        rw [hb] at HN
        clear hb
        go_wp2_with fail
        refine HN.out.mono ?_
        rintro e w' ⟨rfl, rfl⟩
        go_wp2
        go_round
        case rel => exact ⟨k + 1, by omega, by go_num, all_take hlt HA.out HB.out⟩
        case measure => simp [intOf]; omega
      | false =>
        have HB := Lib.hid (okL_bad hlt hb)
        have HN := Lib.hid (isName_any ls[k] w)
        rw [hb] at HN
        clear hb
        go_wp2_with fail
        refine HN.out.mono ?_
        rintro e w' ⟨rfl, rfl⟩
        go_wp2
        go_ret
        exact ⟨ret_int HB.out.symm, rfl⟩
    · obtain rfl : k = ls.length := by omega
      rw [List.take_length] at HA
      go_wp2
      go_ret
      exact ⟨ret_int (by unfold okL; rw [HA.out]; rfl), rfl⟩
set_option maxHeartbeats 400000 in
theorem sclone_any (l : List UInt8) (w : World) (hl : l.length ≤ 281474976710656) : Calls Try.prog 45 #[.string ⟨l.toArray⟩] w fun e w' => e = .returned (.string ⟨l.toArray⟩) ∧ Kept w w' := by
  have HC := Lib.hid (Try.stringslite_Clone ⟨l.toArray⟩ w (by rw [str_size]; exact hl))
  go_enter Try.func45, Try.ntmps45
  go_wp2_with fail
  refine HC.out.mono ?_
  rintro e w' ⟨rfl, hk⟩
  go_wp2
  go_ret
  exact ⟨rfl, hk⟩
/-- bytes.Clone: a row of its own. -/
theorem bclone_any (l : List UInt8) (v : Value) (w : World) (hv : Bts w v l) (hl : l.length ≤ 140737488355328) :
    Calls Try.prog 43 #[v] w fun e w' => ∃ v', e = .returned v' ∧ w'.ownsRow w.heap.size 5 1 v' l.length (Lib.byteCells l) ∧ Kept w w' := by
  obtain ⟨A, c, rfl, h1, h2, h3⟩ := hv
  cases A with
  | none =>
    have hm : l = [] := by
      rcases Nat.eq_zero_or_pos l.length with h | h
      · exact List.eq_nil_of_length_eq_zero h
      · obtain ⟨b, o, h, -⟩ := h3 h; cases h
    subst hm
    refine (Try.bytes_Clone_nil _ c w).mono ?_
    rintro e w' ⟨rfl, rfl⟩
    exact ⟨_, rfl, World.ownsRow_nil _ _ _ _, Kept.refl _⟩
  | some a =>
    have e : (l.map fun b : UInt8 => (b.toNat : Int)).map (Value.int .u8) = Lib.byteCells l := by simp [Lib.byteCells]
    refine (Try.bytes_Clone_at a l.length c (l.map fun b => (b.toNat : Int)) w (by simp) hl (fun i hi => ?_)).mono ?_
    · obtain ⟨b, o, h, hc⟩ := h3 (by omega)
      cases h
      have e : ((⟨b, o, none⟩ : Addr).add i) = ⟨b, o + i, none⟩ := by unfold Addr.add; split <;> simp_all
      rw [e, hc i l[i] (by simp [hi])]
      simp [List.getD, hi]
    · rintro e' w' ⟨v', rfl, h4, -, h5⟩
      rw [e] at h4
      exact ⟨v', rfl, h4, h5⟩
end Go.Proofs.Ytmjlhgamhjfjlaa
