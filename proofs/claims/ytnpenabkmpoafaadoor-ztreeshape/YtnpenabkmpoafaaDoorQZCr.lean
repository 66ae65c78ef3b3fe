/- The walk of Create, refused. -/
import Derived.Test.YtnpenabkmpoafaaDoorQZTr
set_option linter.unusedSimpArgs false
set_option linter.unusedVariables false
namespace Go.Proofs.YtnpenabkmpoafaaDoor
open Go.RowKit
def plainZ (st : ZSt) : ZT := mapZ ZE.nd st
theorem plainZ_get {st : ZSt} {k : Pth} {n : ZN} (h : getZ k (plainZ st) = some n) : ∃ e, getZ k st = some e ∧ e.nd = n := by
  unfold plainZ at h
  rw [getZ_mapZ] at h
  cases hg : getZ k st with
  | none => rw [hg] at h; cases h
  | some e => rw [hg] at h; exact ⟨e, rfl, by simpa using h⟩
theorem plainZ_none {st : ZSt} {k : Pth} (h : getZ k (plainZ st) = none) : getZ k st = none := by
  unfold plainZ at h
  rw [getZ_mapZ] at h
  cases hg : getZ k st with
  | none => rfl
  | some e => rw [hg] at h; cases h
theorem plainZ_has (st : ZSt) (k : Pth) : hasZ k (plainZ st) = hasZ k st := hasZ_mapZ _ _ _
theorem create_cases (t : ZT) (p : Pth) (dl : Nat) (owner : Int) (seq : Bool) :
    (parentOf p = none ∧ createQ t p dl owner seq = (20, [])) ∨
    ∃ up, parentOf p = some up ∧
      ((256 < dl ∧ createQ t p dl owner seq = (75, [])) ∨
      (dl ≤ 256 ∧ ((owner < 0 ∨ 4611686018427387903 < owner) ∧ createQ t p dl owner seq = (10, []) ∨
        (0 ≤ owner ∧ owner ≤ 4611686018427387903) ∧
          (getZ up t = none ∧ createQ t p dl owner seq = (70, []) ∨
          ∃ n, getZ up t = some n ∧
            ((placeQ n p seq).1 ≠ 0 ∧ createQ t p dl owner seq = ((placeQ n p seq).1, []) ∨
            (placeQ n p seq).1 = 0 ∧ (hasZ (placeQ n p seq).2 t = true ∧ createQ t p dl owner seq = (71, []) ∨ hasZ (placeQ n p seq).2 t = false ∧ createQ t p dl owner seq = (0, (placeQ n p seq).2))))))) := by
  unfold createQ
  cases hp : parentOf p with
  | none => exact .inl ⟨rfl, rfl⟩
  | some up =>
    refine .inr ⟨up, rfl, ?_⟩
    by_cases h1 : 256 < dl
    · exact .inl ⟨h1, by simp only [if_pos h1]⟩
    · refine .inr ⟨by omega, ?_⟩
      by_cases h2 : owner < 0 ∨ 4611686018427387903 < owner
      · exact .inl ⟨h2, by simp only [if_neg h1, if_pos h2]⟩
      · refine .inr ⟨by omega, ?_⟩
        simp only [if_neg h1, if_neg h2]
        cases hg : getZ up t with
        | none => exact .inl ⟨rfl, rfl⟩
        | some n =>
          refine .inr ⟨n, rfl, ?_⟩
          by_cases h3 : (placeQ n p seq).1 = 0
          · refine .inr ⟨h3, ?_⟩
            simp only [h3, ne_eq, not_true_eq_false, if_false]
            cases hh : hasZ (placeQ n p seq).2 t with
            | true => exact .inl ⟨rfl, by simp⟩
            | false => exact .inr ⟨rfl, by simp⟩
          · exact .inl ⟨h3, by simp only [ne_eq, h3, not_false_eq_true, if_true]⟩
theorem placeQ_cases (n : ZN) (p : Pth) (seq : Bool) : ((placeQ n p seq).1 = 0 ∨ (placeQ n p seq).1 = 74 ∨ (placeQ n p seq).1 = 76 ∨ (placeQ n p seq).1 = 20) ∧ ((placeQ n p seq).1 ≠ 0 → (placeQ n p seq).2 = []) := by
  unfold placeQ
  by_cases h1 : n.own ≠ 0
  · rw [if_pos h1]; exact ⟨.inr (.inl rfl), fun _ => rfl⟩
  · rw [if_neg h1]
    by_cases h2 : 9999999999 < n.ctr
    · rw [if_pos h2]; exact ⟨.inr (.inr (.inl rfl)), fun _ => rfl⟩
    · rw [if_neg h2]
      cases (if seq then sufOf p n.ctr else some p) with
      | none => exact ⟨.inr (.inr (.inr rfl)), fun _ => rfl⟩
      | some q => exact ⟨.inl rfl, fun h => absurd rfl h⟩
section
variable {w : World} {tb mb : Nat} {st : ZSt} {lim : Nat} {F : Nat → Prop}
set_option maxRecDepth 100000 in
set_option maxHeartbeats 2000000 in
theorem create_bad (h : TreeAt w tb mb st lim F) (p : Pth) (data : List UInt8) (v : Value) (owner : Int) (seq : Bool) (hv : Bts w v data) (htab : TbZ w) (hE : createE (plainZ st) p data.length owner seq ≠ 0) :
    Calls Tryd.prog 13 #[.pointer (some ⟨tb, 0, none⟩), .string ⟨p.toArray⟩, v, .int .i64 owner, .bool seq] w fun e w' => e = .returned (.tuple #[.string ⟨#[]⟩, .int .i64 (createE (plainZ st) p data.length owner seq)]) ∧ Kept w w' := by
  have HCK := Lib.hid (zcheck_any p data v hv)
  unfold zcheckE at HCK
  obtain ⟨A, c, rfl, hc1, hc2, -⟩ := hv
  have H := Lib.hid h
  have HT := Lib.hid htab
  unfold createE at *
  rcases create_cases (plainZ st) p data.length owner seq with ⟨hp, hq⟩ | ⟨up, hp, hrest⟩
  · rw [hp] at HCK
    rw [hq]
    clear h htab hE hp hq hc1 hc2
    go_enter Tryd.func13, Tryd.ntmps13
    go_wp2_with fail
    refine HCK.out.mono ?_
    rintro e w1 ⟨rfl, hk⟩
    go_wp2
    go_ret2
    exact ⟨rfl, hk⟩
  have hpn := parent_names hp
  have hpl := names_lenZ hpn.1
  have HUN := Lib.hid hpn.2
  have HPP := Lib.hid hp
  rw [hp] at HCK
  rcases hrest with ⟨hd, hq⟩ | ⟨hd, hrest⟩
  · rw [if_neg (by simp), if_pos hd] at HCK
    rw [hq]
    clear h htab hE hp hq hd hc1 hc2 hpn
    go_enter Tryd.func13, Tryd.ntmps13
    go_wp2_with fail
    refine HCK.out.mono ?_
    rintro e w1 ⟨rfl, hk⟩
    go_wp2
    go_ret2
    exact ⟨rfl, hk⟩
  rw [if_neg (by simp), if_neg (by omega)] at HCK
  rcases hrest with ⟨ho, hq⟩ | ⟨ho, hrest⟩
  · rw [hq]
    by_cases h1 : owner < 0
    · have t1 : decide (owner < 0) = true := by simpa using h1
      clear h htab hE hp hq hd hc1 hc2 hpn ho h1
      go_enter Tryd.func13, Tryd.ntmps13
      go_wp2_with fail
      refine HCK.out.mono ?_
      rintro e w1 ⟨rfl, hk⟩
      go_wp2
      go_ret2
      exact ⟨rfl, hk⟩
    · have t1 : decide (owner < 0) = false := by simpa using h1
      have t2 : decide ((4611686018427387903 : Int) < owner) = true := by simp; omega
      clear h htab hE hp hq hd hc1 hc2 hpn ho h1
      go_enter Tryd.func13, Tryd.ntmps13
      go_wp2_with fail
      refine HCK.out.mono ?_
      rintro e w1 ⟨rfl, hk⟩
      go_wp2
      go_ret2
      exact ⟨rfl, hk⟩
  have t1 : decide (owner < 0) = false := by simp; omega
  have t2 : decide ((4611686018427387903 : Int) < owner) = false := by simp; omega
  have HAB := Lib.hid (show ∀ W, Kept w W → _ from fun W k => above_any (H.out.kept k) p up HPP.out)
  rcases hrest with ⟨hg, hq⟩ | ⟨n, hg, hrest⟩
  · rw [hq]
    have hn := findE_no HUN.out (plainZ_none hg)
    rw [hn.1, hn.2] at HAB
    clear h htab hE hp hq hd hc1 hc2 hpn ho hg hn
    go_enter Tryd.func13, Tryd.ntmps13
    go_wp2_with fail
    refine HCK.out.mono ?_
    rintro e w1 ⟨rfl, hk⟩
    have HK := Lib.hid hk
    clear hk
    go_wp2_with fail
    refine (HAB.out w1 HK.out).mono ?_
    rintro e w2 ⟨rfl, hk2⟩
    go_wp2
    go_ret2
    exact ⟨rfl, HK.out.trans hk2⟩
  obtain ⟨e, hge, rfl⟩ := plainZ_get hg
  have hn := findE_ok HUN.out hge
  rw [hn.1, hn.2] at HAB
  have HGE := Lib.hid hge
  have HPL := Lib.hid (show ∀ W, Kept w W → _ from fun W k => place_any e W p seq ((H.out.kept k).get HGE.out).1 (HT.out.kept k) hpl)
  have hpc := placeQ_cases e.nd p seq
  rcases hrest with ⟨h3, hq⟩ | ⟨h3, hrest⟩
  · rw [hq]
    rw [hpc.2 h3] at HPL
    have t3 : ((placeQ e.nd p seq).1 == 0) = false := by simpa using h3
    have t4 : ((placeQ e.nd p seq).1 != 0) = true := by simpa using h3
    clear h htab hE hp hq hd hc1 hc2 hpn ho hg hn hge hpc h3
    obtain ⟨er, her⟩ : ∃ er, (placeQ e.nd p seq).1 = er := ⟨_, rfl⟩
    rw [her] at t3 t4 HPL
    simp only [her]
    clear her
    go_enter Tryd.func13, Tryd.ntmps13
    go_wp2_with fail
    refine HCK.out.mono ?_
    rintro x w1 ⟨rfl, hk⟩
    have HK := Lib.hid hk
    clear hk
    go_wp2_with fail
    refine (HAB.out w1 HK.out).mono ?_
    rintro x w2 ⟨rfl, hk2⟩
    have HK2 := Lib.hid (HK.out.trans hk2)
    clear hk2
    go_wp2_with fail
    refine (HPL.out w2 HK2.out).mono ?_
    rintro x w3 ⟨rfl, hk3⟩
    have HK3 := Lib.hid (HK2.out.trans hk3)
    clear hk3
    go_wp2
    go_ret2
    exact ⟨rfl, HK3.out⟩
  rcases hrest with ⟨hh, hq⟩ | ⟨hh, hq⟩
  · rw [hq]
    rw [h3] at HPL
    rw [plainZ_has] at hh
    obtain ⟨q, hqq⟩ : ∃ q, (placeQ e.nd p seq).2 = q := ⟨_, rfl⟩
    rw [hqq] at HPL hh
    have hql : q.length ≤ 128 := by
      rw [← hqq]
      unfold placeQ at h3 ⊢
      by_cases e1 : e.nd.own ≠ 0
      · rw [if_pos e1]; simp
      · rw [if_neg e1] at h3 ⊢
        by_cases e2 : 9999999999 < e.nd.ctr
        · rw [if_pos e2]; simp
        · rw [if_neg e2]
          cases seq with
          | false => simpa using hpl
          | true =>
            simp only [if_true]
            cases hs : sufOf p e.nd.ctr with
            | none => simp
            | some r =>
              simp only
              unfold sufOf at hs
              cases hnm : names p with
              | none => rw [hnm] at hs; cases hs
              | some ls =>
                rw [hnm] at hs
                simp only at hs
                split at hs
                · cases hs
                · split at hs
                  · rename_i h9
                    simp only [Option.some.injEq] at hs
                    rw [← hs]
                    exact names_lenZ h9
                  · cases hs
    have HL := Lib.hid (show ∀ W, Kept w W → _ from fun W k => (H.out.kept k).owns.look_ok q (by unfold maxLen; omega))
    rw [hh] at HL
    have HC0 := Lib.hid (show ∀ W, Kept w W → _ from fun W k => (H.out.kept k).c0)
    clear h htab hE hp hq hd hc1 hc2 hpn ho hg hn hge hpc h3 hh hqq
    generalize valZ q st = vz at *
    go_enter Tryd.func13, Tryd.ntmps13
    go_wp2_with fail
    refine HCK.out.mono ?_
    rintro x w1 ⟨rfl, hk⟩
    have HK := Lib.hid hk
    clear hk
    go_wp2_with fail
    refine (HAB.out w1 HK.out).mono ?_
    rintro x w2 ⟨rfl, hk2⟩
    have HK2 := Lib.hid (HK.out.trans hk2)
    clear hk2
    go_wp2_with fail
    refine (HPL.out w2 HK2.out).mono ?_
    rintro x w3 ⟨rfl, hk3⟩
    have HK3 := Lib.hid (HK2.out.trans hk3)
    have c0 := HC0.out w3 HK3.out
    have hl := HL.out w3 HK3.out
    clear hk3
    go_wp2
    go_ret2
    exact ⟨rfl, HK3.out⟩
  · rw [hq] at hE
    exact absurd rfl hE
end
end Go.Proofs.YtnpenabkmpoafaaDoor
