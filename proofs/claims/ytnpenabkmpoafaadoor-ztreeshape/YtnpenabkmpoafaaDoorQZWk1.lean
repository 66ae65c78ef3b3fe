/- The walks of find, above, check, ofVersion and place. -/
import Derived.Test.YtnpenabkmpoafaaDoorQZMem
import Derived.Test.YtnpenabkmpoafaaDoorQPSuf
set_option linter.unusedSimpArgs false
set_option linter.unusedVariables false
namespace Go.Proofs.YtnpenabkmpoafaaDoor
open Go.RowKit
theorem names_lenZ {p : Pth} (h : (names p).isSome = true) : p.length ≤ 128 := by
  obtain ⟨ls, hls⟩ := Option.isSome_iff_exists.1 h
  obtain ⟨h1, h2⟩ := names_some hls
  obtain ⟨-, -, h3⟩ := okNames_all h1
  rw [h2]
  unfold mk
  split
  · decide
  · exact h3
theorem parent_names {p up : Pth} (h : parentOf p = some up) : (names p).isSome = true ∧ (names up).isSome = true := by
  unfold parentOf at h
  cases hn : names p with
  | none => rw [hn] at h; cases h
  | some ls =>
    rw [hn] at h
    refine ⟨rfl, ?_⟩
    by_cases e : ls = []
    · simp [e] at h
    · simp only [e, if_false, Option.some.injEq] at h
      obtain ⟨h1, -⟩ := names_some hn
      have h2 : okNames ls.dropLast = true := by
        have e2 : ls = ls.dropLast ++ [ls.getLast e] := (List.dropLast_concat_getLast e).symm
        rw [e2] at h1
        exact okNames_prefix h1
      rw [← h, names_mk_ok h2]
      rfl
theorem chk_isSome {p : Pth} (h : (names p).isSome = true) : chk p = 0 := by unfold chk; rw [if_pos h]
theorem chk_isNone {p : Pth} (h : ¬ (names p).isSome = true) : chk p = 20 := by unfold chk; rw [if_neg h]
def findE (st : ZSt) (p : Pth) : Int := if (names p).isSome then (if hasZ p st then 0 else 70) else 20
def findV (st : ZSt) (p : Pth) : Value := if findE st p = 0 then valZ p st else .pointer none
section
variable {w : World} {tb mb : Nat} {st : ZSt} {lim : Nat} {F : Nat → Prop}
set_option maxRecDepth 100000 in
set_option maxHeartbeats 1000000 in
theorem zfind_any (h : TreeAt w tb mb st lim F) (p : Pth) :
    Calls Tryd.prog 23 #[.pointer (some ⟨tb, 0, none⟩), .string ⟨p.toArray⟩] w fun e w' => e = .returned (.tuple #[findV st p, .int .i64 (findE st p)]) ∧ Kept w w' := by
  have HC := Lib.hid (check_any p w)
  unfold findV findE
  by_cases hn : (names p).isSome = true
  · have hlen := names_lenZ hn
    rw [chk_isSome hn] at HC
    rw [if_pos hn]
    have HL := Lib.hid (show ∀ W, Kept w W → _ from fun W k => (h.kept k).owns.look_ok p (by unfold maxLen; omega))
    have HC0 := Lib.hid (show ∀ W, Kept w W → _ from fun W k => (h.kept k).c0)
    clear h hn
    generalize valZ p st = vz at *
    cases hh : hasZ p st with
    | true =>
      rw [hh] at HL
      clear hh
      go_enter Tryd.func23, Tryd.ntmps23
      go_wp2_with fail
      refine HC.out.mono ?_
      rintro e w1 ⟨rfl, hk⟩
      have c0 := HC0.out w1 hk
      have hl := HL.out w1 hk
      have HK := Lib.hid hk
      clear hk
      go_wp2
      go_ret2
      exact ⟨rfl, HK.out⟩
    | false =>
      rw [hh] at HL
      clear hh
      go_enter Tryd.func23, Tryd.ntmps23
      go_wp2_with fail
      refine HC.out.mono ?_
      rintro e w1 ⟨rfl, hk⟩
      have c0 := HC0.out w1 hk
      have hl := HL.out w1 hk
      have HK := Lib.hid hk
      clear hk
      go_wp2
      go_ret2
      exact ⟨rfl, HK.out⟩
  · rw [chk_isNone hn] at HC
    rw [if_neg hn]
    clear h hn
    go_enter Tryd.func23, Tryd.ntmps23
    go_wp2_with fail
    refine HC.out.mono ?_
    rintro e w1 ⟨rfl, hk⟩
    go_wp2
    go_ret2
    exact ⟨rfl, hk⟩
theorem findE_ok {p : Pth} {e : ZE} (hn : (names p).isSome = true) (hg : getZ p st = some e) : findE st p = 0 ∧ findV st p = ptrZ e.nb := by
  have h1 : findE st p = 0 := by
    unfold findE
    rw [if_pos hn, hasZ_get, hg]
    rfl
  refine ⟨h1, ?_⟩
  unfold findV valZ
  rw [if_pos h1, hg]
  rfl
theorem findE_no {p : Pth} (hn : (names p).isSome = true) (hg : getZ p st = none) : findE st p = 70 ∧ findV st p = .pointer none := by
  have h1 : findE st p = 70 := by
    unfold findE
    rw [if_pos hn, hasZ_get, hg]
    rfl
  refine ⟨h1, ?_⟩
  unfold findV
  rw [if_neg (by rw [h1]; decide)]
theorem findE_bad {p : Pth} (hn : ¬ (names p).isSome = true) : findE st p = 20 ∧ findV st p = .pointer none := by
  have h1 : findE st p = 20 := by
    unfold findE
    rw [if_neg hn]
  refine ⟨h1, ?_⟩
  unfold findV
  rw [if_neg (by rw [h1]; decide)]
/-- above: there is no such parent. -/
theorem above_bad (h : TreeAt w tb mb st lim F) (p : Pth) (hp : parentOf p = none) :
    Calls Tryd.prog 31 #[.pointer (some ⟨tb, 0, none⟩), .string ⟨p.toArray⟩] w fun e w' => e = .returned (.tuple #[.pointer none, .int .i64 20]) ∧ Kept w w' := by
  have HP := Lib.hid (parent_any p w)
  rw [hp] at HP
  clear h hp
  go_enter Tryd.func31, Tryd.ntmps31
  go_wp2_with fail
  refine HP.out.mono ?_
  rintro e w1 ⟨rfl, hk⟩
  go_wp2
  go_ret2
  exact ⟨rfl, hk⟩
theorem above_any (h : TreeAt w tb mb st lim F) (p up : Pth) (hp : parentOf p = some up) :
    Calls Tryd.prog 31 #[.pointer (some ⟨tb, 0, none⟩), .string ⟨p.toArray⟩] w fun e w' => e = .returned (.tuple #[findV st up, .int .i64 (findE st up)]) ∧ Kept w w' := by
  have HP := Lib.hid (parent_any p w)
  rw [hp] at HP
  have HF := Lib.hid (show ∀ W, Kept w W → _ from fun W k => zfind_any (h.kept k) up)
  clear h hp
  generalize findV st up = fv at *
  generalize findE st up = fe at *
  go_enter Tryd.func31, Tryd.ntmps31
  go_wp2_with fail
  refine HP.out.mono ?_
  rintro e w1 ⟨rfl, hk⟩
  have HK := Lib.hid hk
  clear hk
  go_wp2_with fail
  refine (HF.out w1 HK.out).mono ?_
  rintro e w2 ⟨rfl, hk2⟩
  go_wp2
  go_ret2
  exact ⟨rfl, HK.out.trans hk2⟩
def zcheckE (p : Pth) (dl : Nat) : Int := if (parentOf p).isNone then 20 else if 256 < dl then 75 else 0
theorem zcheck_any (p : Pth) (data : List UInt8) (v : Value) (hv : Bts w v data) :
    Calls Tryd.prog 30 #[.string ⟨p.toArray⟩, v] w fun e w' => e = .returned (.int .i64 (zcheckE p data.length)) ∧ Kept w w' := by
  have HP := Lib.hid (parent_any p w)
  unfold zcheckE
  obtain ⟨A, c, rfl, hc1, hc2, -⟩ := hv
  unfold maxLen at hc2
  cases hp : parentOf p with
  | none =>
    rw [hp] at HP
    clear hp
    go_enter Tryd.func30, Tryd.ntmps30
    go_wp2_with fail
    refine HP.out.mono ?_
    rintro e w1 ⟨rfl, hk⟩
    go_wp2
    go_ret
    exact ⟨rfl, hk⟩
  | some up =>
    rw [hp] at HP
    clear hp
    by_cases hd : 256 < data.length
    · have t1 : decide ((256 : Int) < (data.length : Int)) = true := by simp; omega
      rw [if_neg (by simp), if_pos hd]
      clear hd
      go_enter Tryd.func30, Tryd.ntmps30
      go_wp2_with fail
      refine HP.out.mono ?_
      rintro e w1 ⟨rfl, hk⟩
      go_wp2
      go_ret
      exact ⟨rfl, hk⟩
    · have t1 : decide ((256 : Int) < (data.length : Int)) = false := by simp; omega
      rw [if_neg (by simp), if_neg hd]
      clear hd
      go_enter Tryd.func30, Tryd.ntmps30
      go_wp2_with fail
      refine HP.out.mono ?_
      rintro e w1 ⟨rfl, hk⟩
      go_wp2
      go_ret
      exact ⟨rfl, hk⟩
/-- ofVersion: there is no such node. -/
theorem ofVersion_no (h : TreeAt w tb mb st lim F) (p : Pth) (v : Int) (hf : findE st p ≠ 0) :
    Calls Tryd.prog 34 #[.pointer (some ⟨tb, 0, none⟩), .string ⟨p.toArray⟩, .int .i64 v] w fun e w' => e = .returned (.tuple #[.pointer none, .int .i64 (findE st p)]) ∧ Kept w w' := by
  have HF := Lib.hid (zfind_any h p)
  have hv : findV st p = .pointer none := by unfold findV; rw [if_neg hf]
  rw [hv] at HF
  have h2 : findE st p = 20 ∨ findE st p = 70 := by
    unfold findE at *
    by_cases h1 : (names p).isSome = true
    · rw [if_pos h1] at hf ⊢
      by_cases h2 : hasZ p st = true
      · rw [if_pos h2] at hf; exact absurd rfl hf
      · rw [if_neg h2]; exact .inr rfl
    · rw [if_neg h1]; exact .inl rfl
  clear h hv hf
  generalize findE st p = fe at *
  rcases h2 with rfl | rfl
  all_goals
    go_enter Tryd.func34, Tryd.ntmps34
    go_wp2_with fail
    refine HF.out.mono ?_
    rintro e w1 ⟨rfl, hk⟩
    go_wp2
    go_ret2
    exact ⟨rfl, hk⟩
theorem ofVersion_any (h : TreeAt w tb mb st lim F) (p : Pth) (v : Int) (e : ZE) (hn : (names p).isSome = true) (hg : getZ p st = some e) :
    Calls Tryd.prog 34 #[.pointer (some ⟨tb, 0, none⟩), .string ⟨p.toArray⟩, .int .i64 v] w fun x w' => x = .returned (.tuple #[if verOK v e.nd then ptrZ e.nb else .pointer none, .int .i64 (if verOK v e.nd then 0 else 72)]) ∧ Kept w w' := by
  have HF := Lib.hid (zfind_any h p)
  rw [(findE_ok hn hg).1, (findE_ok hn hg).2] at HF
  have HN := Lib.hid (show ∀ W, Kept w W → _ from fun W k => cell_at ((h.kept k).get hg).1.1 0)
  clear h hn hg
  unfold verOK
  obtain ⟨nb, dv, nd⟩ := e
  simp only at HF HN ⊢
  have hlt : nb < nb + 1 := by omega
  unfold ptrZ at *
  by_cases h1 : v = -1
  · subst h1
    go_enter Tryd.func34, Tryd.ntmps34
    go_wp2_with fail
    refine HF.out.mono ?_
    rintro x w1 ⟨rfl, hk⟩
    go_wp2
    go_ret2
    exact ⟨rfl, hk⟩
  · have t1 : (v == -1) = false := by simpa using h1
    have t1' : decide (v = -1) = false := by simpa using h1
    by_cases h2 : v = nd.ver
    · have t2 : (v == (nd.ver : Int)) = true := by simpa using h2
      have t2' : decide (v = (nd.ver : Int)) = true := by simpa using h2
      have t3 : (v != (nd.ver : Int)) = false := by simpa using h2
      have t4 : (v != -1) = true := by simpa using h1
      rw [t1', t2']
      simp only [Bool.false_or, if_true]
      clear h1 h2
      go_enter Tryd.func34, Tryd.ntmps34
      go_wp2_with fail
      refine HF.out.mono ?_
      rintro x w1 ⟨rfl, hk⟩
      have c0 := HN.out w1 hk
      simp only [List.getElem?_toArray, List.getElem?_cons_zero] at c0
      have HK := Lib.hid hk
      clear hk
      go_wp2
      go_ret2
      exact ⟨rfl, HK.out⟩
    · have t2 : (v == (nd.ver : Int)) = false := by simpa using h2
      have t2' : decide (v = (nd.ver : Int)) = false := by simpa using h2
      have t3 : (v != (nd.ver : Int)) = true := by simpa using h2
      have t4 : (v != -1) = true := by simpa using h1
      rw [t1', t2']
      simp only [Bool.or_self, Bool.false_eq_true, if_false]
      clear h1 h2
      go_enter Tryd.func34, Tryd.ntmps34
      go_wp2_with fail
      refine HF.out.mono ?_
      rintro x w1 ⟨rfl, hk⟩
      have c0 := HN.out w1 hk
      simp only [List.getElem?_toArray, List.getElem?_cons_zero] at c0
      have HK := Lib.hid hk
      clear hk
      go_wp2
      go_ret2
      exact ⟨rfl, HK.out⟩
end
end Go.Proofs.YtnpenabkmpoafaaDoor
