/- Places of names; the walk of the document's all; a file that is turned in its place. -/
import Derived.Test.YtmjlhgamhjfjlaaDDrp
set_option linter.unusedSimpArgs false
set_option linter.unusedVariables false
namespace Go.Proofs.Ytmjlhgamhjfjlaa
open Go.RowKit
theorem findI_mapV {α β : Type} (g : α → β) (k : Nm) (m : List (Nm × α)) : findI k (mapV g m) = findI k m := by
  unfold findI mapV
  rw [List.findIdx?_map]
  rfl
theorem find_neg {α : Type} {k : Nm} {m : List (Nm × α)} (h : hasA k m = false) : findI k m = -1 := by
  unfold findI
  have : m.findIdx? (fun p => p.1 == k) = none := by
    rw [List.findIdx?_eq_none_iff]
    intro x hx
    unfold hasA at h
    rw [List.any_eq_false] at h
    simpa using h x hx
  rw [this]
theorem find_pos {α : Type} {k : Nm} {m : List (Nm × α)} (h : hasA k m = true) : ∃ i, ∃ hi : i < m.length, findI k m = (i : Int) ∧ m[i].1 = k := by
  cases hf : m.findIdx? (fun p => p.1 == k) with
  | none =>
    rw [List.findIdx?_eq_none_iff] at hf
    unfold hasA at h
    obtain ⟨x, hx, hk⟩ := List.any_eq_true.1 h
    rw [hf x hx] at hk
    cases hk
  | some i =>
    have hf' := hf
    rw [List.findIdx?_eq_some_iff_getElem] at hf
    obtain ⟨hi, h1, -⟩ := hf
    refine ⟨i, hi, ?_, by simpa using h1⟩
    unfold findI
    rw [hf']
theorem put_set {α : Type} {m : List (Nm × α)} (hs : Srt m) {i : Nat} (hi : i < m.length) (v : α) : putA m[i].1 v m = m.set i (m[i].1, v) := by
  have e : m = m.take i ++ (m[i].1, m[i].2) :: m.drop (i + 1) := by
    have := List.take_append_drop i m
    rw [List.drop_eq_getElem_cons hi] at this
    exact this.symm
  generalize hk : m[i].1 = k at *
  generalize m[i].2 = v0 at *
  have hl : (m.take i).length = i := by simp; omega
  have h1 : putA k v m = m.take i ++ (k, v) :: m.drop (i + 1) := by
    have := put_at (v' := v) (e ▸ hs)
    rw [← e] at this
    exact this
  rw [h1, List.set_eq_take_append_cons_drop, if_pos hi]
theorem cut_drop {α : Type} {m : List (Nm × α)} (hs : Srt m) {i : Nat} (hi : i < m.length) : cutA m[i].1 m = dropAt i m := by
  have e : m = m.take i ++ (m[i].1, m[i].2) :: m.drop (i + 1) := by
    have := List.take_append_drop i m
    rw [List.drop_eq_getElem_cons hi] at this
    exact this.symm
  generalize m[i].1 = k at *
  generalize m[i].2 = v0 at *
  have := cut_at (e ▸ hs)
  rw [← e] at this
  exact this
theorem get_at {α : Type} {m : List (Nm × α)} (hs : Srt m) {i : Nat} (hi : i < m.length) : getA m[i].1 m = some m[i].2 := get_of_mem hs (List.getElem_mem hi)
set_option maxRecDepth 100000 in
set_option maxHeartbeats 4000000 in
theorem rall_any (ls : List Nm) (v : Value) (rb : Nat) (vL : Value) (rs : St) (cap : Nat) (G : Nat → Prop) (w : World) (h : RD w rb vL rs cap G) (hv : Txts w v ls) :
    Calls Try.prog 38 #[.pointer (some ⟨rb, 0, none⟩), v] w fun e w' => e = .returned (.int .i64 (allT ls rs)) ∧ w = w' := by
  have H := Lib.hid h
  have HV := Lib.hid hv
  obtain ⟨A, c, rfl, hc1, hc2⟩ := hv.form
  clear h hv
  unfold maxLen at hc2
  go_enter Try.func38, Try.ntmps38
  go_wp2
  go_loop [5] (fun i => ∃ k : Nat, k ≤ ls.length ∧ i = .int .i64 (k : Int) ∧ (ls.take k).all okN = true) (fun i => ls.length - (intOf i).toNat)
  case atStart => exact ⟨0, Nat.zero_le _, rfl, rfl⟩
  case round =>
    obtain ⟨k, hk, rfl, hall⟩ := hrel
    have HA := Lib.hid hall
    clear hall
    by_cases hlt : k < ls.length
    · obtain ⟨b, o, rfl, hcell⟩ := HV.out.at hlt
      have g1 : (k : Int) < (ls.length : Int) := by omega
      cases hb : okN ls[k] with
      | true =>
        have HB := Lib.hid hb
        have HN := Lib.hid (name_any ls[k] w)
        rw [hb] at HN
        clear hb
        go_wp2_with fail
        refine HN.out.mono ?_
        rintro e w' ⟨rfl, rfl⟩
        go_wp2
        go_round
        case rel => exact ⟨k + 1, by omega, by go_num, all_take hlt HA.out HB.out⟩
        case measure => simp [intOf]; omega
      | false =>
        have HB := Lib.hid (show allT ls rs = 30 by unfold allT; rw [all_bad hlt hb]; rfl)
        have HN := Lib.hid (name_any ls[k] w)
        rw [hb] at HN
        clear hb
        go_wp2_with fail
        refine HN.out.mono ?_
        rintro e w' ⟨rfl, rfl⟩
        go_wp2
        go_ret
        exact ⟨ret_int HB.out.symm, rfl⟩
    · obtain rfl : k = ls.length := by omega
      rw [List.take_length] at HA
      go_wp2
      go_loop [6] (fun i => ∃ k : Nat, k ≤ ls.length ∧ i = .int .i64 (k : Int) ∧ (ls.take k).all (fun k => hasA k rs) = true) (fun i => ls.length - (intOf i).toNat)
      case atStart => exact ⟨0, Nat.zero_le _, rfl, rfl⟩
      case round =>
        obtain ⟨k, hk2, rfl, hall⟩ := hrel
        have HA2 := Lib.hid hall
        clear hall
        by_cases hlt2 : k < ls.length
        · obtain ⟨b, o, rfl, hcell⟩ := HV.out.at hlt2
          have g1 : (k : Int) < (ls.length : Int) := by omega
          have HF := Lib.hid (rfind_any ls[k] rb vL rs cap G w H.out)
          cases hb : hasA ls[k] rs with
          | true =>
            have HB := Lib.hid hb
            obtain ⟨i, hi, hfi, -⟩ := find_pos hb
            rw [hfi] at HF
            have t1 : decide ((i : Int) < 0) = false := by simp
            clear hb hfi
            go_wp2_with fail
            refine HF.out.mono ?_
            rintro e w' ⟨rfl, rfl⟩
            go_wp2
            go_round
            case rel => exact ⟨k + 1, by omega, by go_num, all_take hlt2 HA2.out HB.out⟩
            case measure => simp [intOf]; omega
          | false =>
            have HB := Lib.hid (show allT ls rs = 31 by unfold allT; rw [HA.out, all_bad hlt2 hb]; rfl)
            rw [find_neg hb] at HF
            clear hb
            go_wp2_with fail
            refine HF.out.mono ?_
            rintro e w' ⟨rfl, rfl⟩
            go_wp2
            go_ret
            exact ⟨ret_int HB.out.symm, rfl⟩
        · obtain rfl : k = ls.length := by omega
          rw [List.take_length] at HA2
          go_wp2
          go_ret
          exact ⟨ret_int (by unfold allT; rw [HA.out, HA2.out]; rfl), rfl⟩
end Go.Proofs.Ytmjlhgamhjfjlaa
