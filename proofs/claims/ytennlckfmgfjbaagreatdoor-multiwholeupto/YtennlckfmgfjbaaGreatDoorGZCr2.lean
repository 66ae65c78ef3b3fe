/- The walk of Create, refused. The walk of Create, done. -/
import Derived.Test.YtennlckfmgfjbaaGreatDoorGZWk13
import Derived.Test.YtennlckfmgfjbaaGreatDoorQZBc
import Derived.Deep.CutBlock
import Derived.Deep.DeepCutAuto
set_option linter.unusedSimpArgs false
set_option linter.unusedVariables false
namespace Go.Proofs.YtennlckfmgfjbaaGreatDoor
open Go.RowKit
def plainZ (st : ZSt) : ZT := mapZ ZE.nd st
theorem plainZ_get {st : ZSt} {k : Pth} {n : ZN} (h : getZ k (plainZ st) = some n) : ∃ e, getZ k st = some e ∧ e.nd = n := by
  unfold plainZ at h
  rw [getZ_mapZ] at h
  cases hg : getZ k st with
  | none => rw [hg] at h; cases h
  | some e => rw [hg] at h; exact ⟨e, rfl, by simpa using h⟩
theorem plainZ_none {st : ZSt} {k : Pth} (h : getZ k (plainZ st) = none) : getZ k st = none := by
  unfold plainZ at h
  rw [getZ_mapZ] at h
  cases hg : getZ k st with
  | none => rfl
  | some e => rw [hg] at h; cases h
theorem plainZ_has (st : ZSt) (k : Pth) : hasZ k (plainZ st) = hasZ k st := hasZ_mapZ _ _ _
theorem create_cases (t : ZT) (p : Pth) (dl : Nat) (owner : Int) (seq : Bool) :
    (parentOf p = none ∧ createQ t p dl owner seq = (20, [])) ∨
    ∃ up, parentOf p = some up ∧
      ((256 < dl ∧ createQ t p dl owner seq = (75, [])) ∨
      (dl ≤ 256 ∧ ((owner < 0 ∨ 4611686018427387903 < owner) ∧ createQ t p dl owner seq = (10, []) ∨
        (0 ≤ owner ∧ owner ≤ 4611686018427387903) ∧
          (getZ up t = none ∧ createQ t p dl owner seq = (70, []) ∨
          ∃ n, getZ up t = some n ∧
            ((placeQ n p seq).1 ≠ 0 ∧ createQ t p dl owner seq = ((placeQ n p seq).1, []) ∨
            (placeQ n p seq).1 = 0 ∧ (hasZ (placeQ n p seq).2 t = true ∧ createQ t p dl owner seq = (71, []) ∨ hasZ (placeQ n p seq).2 t = false ∧ createQ t p dl owner seq = (0, (placeQ n p seq).2))))))) := by
  unfold createQ
  cases hp : parentOf p with
  | none => exact .inl ⟨rfl, rfl⟩
  | some up =>
    refine .inr ⟨up, rfl, ?_⟩
    by_cases h1 : 256 < dl
    · exact .inl ⟨h1, by simp only [if_pos h1]⟩
    · refine .inr ⟨by omega, ?_⟩
      by_cases h2 : owner < 0 ∨ 4611686018427387903 < owner
      · exact .inl ⟨h2, by simp only [if_neg h1, if_pos h2]⟩
      · refine .inr ⟨by omega, ?_⟩
        simp only [if_neg h1, if_neg h2]
        cases hg : getZ up t with
        | none => exact .inl ⟨rfl, rfl⟩
        | some n =>
          refine .inr ⟨n, rfl, ?_⟩
          by_cases h3 : (placeQ n p seq).1 = 0
          · refine .inr ⟨h3, ?_⟩
            simp only [h3, ne_eq, not_true_eq_false, if_false]
            cases hh : hasZ (placeQ n p seq).2 t with
            | true => exact .inl ⟨rfl, by simp⟩
            | false => exact .inr ⟨rfl, by simp⟩
          · exact .inl ⟨h3, by simp only [ne_eq, h3, not_false_eq_true, if_true]⟩
theorem placeQ_cases (n : ZN) (p : Pth) (seq : Bool) : ((placeQ n p seq).1 = 0 ∨ (placeQ n p seq).1 = 74 ∨ (placeQ n p seq).1 = 76 ∨ (placeQ n p seq).1 = 20) ∧ ((placeQ n p seq).1 ≠ 0 → (placeQ n p seq).2 = []) := by
  unfold placeQ
  by_cases h1 : n.own ≠ 0
  · rw [if_pos h1]; exact ⟨.inr (.inl rfl), fun _ => rfl⟩
  · rw [if_neg h1]
    by_cases h2 : 9999999999 < n.ctr
    · rw [if_pos h2]; exact ⟨.inr (.inr (.inl rfl)), fun _ => rfl⟩
    · rw [if_neg h2]
      cases (if seq then sufOf p n.ctr else some p) with
      | none => exact ⟨.inr (.inr (.inr rfl)), fun _ => rfl⟩
      | some q => exact ⟨.inl rfl, fun h => absurd rfl h⟩
section
variable {w : World} {tb mb : Nat} {st : ZSt} {lim : Nat} {F : Nat → Prop}
set_option maxRecDepth 100000 in
set_option maxHeartbeats 2000000 in
theorem create_bad (h : TreeAt w tb mb st lim F) (p : Pth) (data : List UInt8) (v : Value) (owner : Int) (seq : Bool) (hv : Bts w v data) (htab : TbZ w) (hE : createE (plainZ st) p data.length owner seq ≠ 0) :
    Calls Tryz.prog 18 #[.pointer (some ⟨tb, 0, none⟩), .string ⟨p.toArray⟩, v, .int .i64 owner, .bool seq] w fun e w' => e = .returned (.tuple #[.string ⟨#[]⟩, .int .i64 (createE (plainZ st) p data.length owner seq)]) ∧ Kept w w' := by
  have HCK := Lib.hid (zcheck_any p data v hv)
  unfold zcheckE at HCK
  obtain ⟨A, c, rfl, hc1, hc2, -⟩ := hv
  have H := Lib.hid h
  have HT := Lib.hid htab
  unfold createE at *
  rcases create_cases (plainZ st) p data.length owner seq with ⟨hp, hq⟩ | ⟨up, hp, hrest⟩
  · rw [hp] at HCK
    rw [hq]
    clear h htab hE hp hq hc1 hc2
    go_enter Tryz.func18, Tryz.ntmps18
    go_wp2_with fail
    refine HCK.out.mono ?_
    rintro e w1 ⟨rfl, hk⟩
    go_wp2
    go_ret2
    exact ⟨rfl, hk⟩
  have hpn := parent_names hp
  have hpl := names_lenZ hpn.1
  have HUN := Lib.hid hpn.2
  have HPP := Lib.hid hp
  rw [hp] at HCK
  rcases hrest with ⟨hd, hq⟩ | ⟨hd, hrest⟩
  · rw [if_neg (by simp), if_pos hd] at HCK
    rw [hq]
    clear h htab hE hp hq hd hc1 hc2 hpn
    go_enter Tryz.func18, Tryz.ntmps18
    go_wp2_with fail
    refine HCK.out.mono ?_
    rintro e w1 ⟨rfl, hk⟩
    go_wp2
    go_ret2
    exact ⟨rfl, hk⟩
  rw [if_neg (by simp), if_neg (by omega)] at HCK
  rcases hrest with ⟨ho, hq⟩ | ⟨ho, hrest⟩
  · rw [hq]
    by_cases h1 : owner < 0
    · have t1 : decide (owner < 0) = true := by simpa using h1
      clear h htab hE hp hq hd hc1 hc2 hpn ho h1
      go_enter Tryz.func18, Tryz.ntmps18
      go_wp2_with fail
      refine HCK.out.mono ?_
      rintro e w1 ⟨rfl, hk⟩
      go_wp2
      go_ret2
      exact ⟨rfl, hk⟩
    · have t1 : decide (owner < 0) = false := by simpa using h1
      have t2 : decide ((4611686018427387903 : Int) < owner) = true := by simp; omega
      clear h htab hE hp hq hd hc1 hc2 hpn ho h1
      go_enter Tryz.func18, Tryz.ntmps18
      go_wp2_with fail
      refine HCK.out.mono ?_
      rintro e w1 ⟨rfl, hk⟩
      go_wp2
      go_ret2
      exact ⟨rfl, hk⟩
  have t1 : decide (owner < 0) = false := by simp; omega
  have t2 : decide ((4611686018427387903 : Int) < owner) = false := by simp; omega
  have HAB := Lib.hid (show ∀ W, Kept w W → _ from fun W k => above_any (H.out.kept k) p up HPP.out)
  rcases hrest with ⟨hg, hq⟩ | ⟨n, hg, hrest⟩
  · rw [hq]
    have hn := findE_no HUN.out (plainZ_none hg)
    rw [hn.1, hn.2] at HAB
    clear h htab hE hp hq hd hc1 hc2 hpn ho hg hn
    go_enter Tryz.func18, Tryz.ntmps18
    go_wp2_with fail
    refine HCK.out.mono ?_
    rintro e w1 ⟨rfl, hk⟩
    have HK := Lib.hid hk
    clear hk
    go_wp2_with fail
    refine (HAB.out w1 HK.out).mono ?_
    rintro e w2 ⟨rfl, hk2⟩
    go_wp2
    go_ret2
    exact ⟨rfl, HK.out.trans hk2⟩
  obtain ⟨e, hge, rfl⟩ := plainZ_get hg
  have hn := findE_ok HUN.out hge
  rw [hn.1, hn.2] at HAB
  have HGE := Lib.hid hge
  have HPL := Lib.hid (show ∀ W, Kept w W → _ from fun W k => place_any e W p seq ((H.out.kept k).get HGE.out).1 (HT.out.kept k) hpl)
  have hpc := placeQ_cases e.nd p seq
  rcases hrest with ⟨h3, hq⟩ | ⟨h3, hrest⟩
  · rw [hq]
    rw [hpc.2 h3] at HPL
    have t3 : ((placeQ e.nd p seq).1 == 0) = false := by simpa using h3
    have t4 : ((placeQ e.nd p seq).1 != 0) = true := by simpa using h3
    clear h htab hE hp hq hd hc1 hc2 hpn ho hg hn hge hpc h3
    obtain ⟨er, her⟩ : ∃ er, (placeQ e.nd p seq).1 = er := ⟨_, rfl⟩
    rw [her] at t3 t4 HPL
    simp only [her]
    clear her
    go_enter Tryz.func18, Tryz.ntmps18
    go_wp2_with fail
    refine HCK.out.mono ?_
    rintro x w1 ⟨rfl, hk⟩
    have HK := Lib.hid hk
    clear hk
    go_wp2_with fail
    refine (HAB.out w1 HK.out).mono ?_
    rintro x w2 ⟨rfl, hk2⟩
    have HK2 := Lib.hid (HK.out.trans hk2)
    clear hk2
    go_wp2_with fail
    refine (HPL.out w2 HK2.out).mono ?_
    rintro x w3 ⟨rfl, hk3⟩
    have HK3 := Lib.hid (HK2.out.trans hk3)
    clear hk3
    go_wp2
    go_ret2
    exact ⟨rfl, HK3.out⟩
  rcases hrest with ⟨hh, hq⟩ | ⟨hh, hq⟩
  · rw [hq]
    rw [h3] at HPL
    rw [plainZ_has] at hh
    obtain ⟨q, hqq⟩ : ∃ q, (placeQ e.nd p seq).2 = q := ⟨_, rfl⟩
    rw [hqq] at HPL hh
    have hql : q.length ≤ 128 := by
      rw [← hqq]
      unfold placeQ at h3 ⊢
      by_cases e1 : e.nd.own ≠ 0
      · rw [if_pos e1]; simp
      · rw [if_neg e1] at h3 ⊢
        by_cases e2 : 9999999999 < e.nd.ctr
        · rw [if_pos e2]; simp
        · rw [if_neg e2]
          cases seq with
          | false => simpa using hpl
          | true =>
            simp only [if_true]
            cases hs : sufOf p e.nd.ctr with
            | none => simp
            | some r =>
              simp only
              unfold sufOf at hs
              cases hnm : names p with
              | none => rw [hnm] at hs; cases hs
              | some ls =>
                rw [hnm] at hs
                simp only at hs
                split at hs
                · cases hs
                · split at hs
                  · rename_i h9
                    simp only [Option.some.injEq] at hs
                    rw [← hs]
                    exact names_lenZ h9
                  · cases hs
    have HL := Lib.hid (show ∀ W, Kept w W → _ from fun W k => (H.out.kept k).owns.look_ok q (by unfold maxLen; omega))
    rw [hh] at HL
    have HC0 := Lib.hid (show ∀ W, Kept w W → _ from fun W k => (H.out.kept k).c0)
    clear h htab hE hp hq hd hc1 hc2 hpn ho hg hn hge hpc h3 hh hqq
    generalize valZ q st = vz at *
    go_enter Tryz.func18, Tryz.ntmps18
    go_wp2_with fail
    refine HCK.out.mono ?_
    rintro x w1 ⟨rfl, hk⟩
    have HK := Lib.hid hk
    clear hk
    go_wp2_with fail
    refine (HAB.out w1 HK.out).mono ?_
    rintro x w2 ⟨rfl, hk2⟩
    have HK2 := Lib.hid (HK.out.trans hk2)
    clear hk2
    go_wp2_with fail
    refine (HPL.out w2 HK2.out).mono ?_
    rintro x w3 ⟨rfl, hk3⟩
    have HK3 := Lib.hid (HK2.out.trans hk3)
    have c0 := HC0.out w3 HK3.out
    have hl := HL.out w3 HK3.out
    clear hk3
    go_wp2
    go_ret2
    exact ⟨rfl, HK3.out⟩
  · rw [hq] at hE
    exact absurd rfl hE
end
end Go.Proofs.YtennlckfmgfjbaaGreatDoor
set_option linter.unusedSimpArgs false
set_option linter.unusedVariables false
namespace Go.Proofs.YtennlckfmgfjbaaGreatDoor
open Go.RowKit
theorem placeQ_len {n : ZN} {p : Pth} {seq : Bool} (hp : (names p).isSome = true) (h3 : (placeQ n p seq).1 = 0) : (names (placeQ n p seq).2).isSome = true ∧ n.own = 0 ∧ n.ctr ≤ 9999999999 := by
  unfold placeQ at h3 ⊢
  by_cases e1 : n.own ≠ 0
  · rw [if_pos e1] at h3; cases h3
  · rw [if_neg e1] at h3 ⊢
    by_cases e2 : 9999999999 < n.ctr
    · rw [if_pos e2] at h3; cases h3
    · rw [if_neg e2] at h3 ⊢
      refine ⟨?_, by omega, by omega⟩
      cases seq with
      | false => simpa using hp
      | true =>
        simp only [if_true] at h3 ⊢
        cases hs : sufOf p n.ctr with
        | none => rw [hs] at h3; cases h3
        | some r =>
          simp only
          unfold sufOf at hs
          cases hnm : names p with
          | none => rw [hnm] at hs; cases hs
          | some ls =>
            rw [hnm] at hs
            simp only at hs
            split at hs
            · cases hs
            · split at hs
              · rename_i h9
                simp only [Option.some.injEq] at hs
                rw [← hs]
                exact h9
              · cases hs
theorem createE_zero {t : ZT} {p : Pth} {dl : Nat} {owner : Int} {seq : Bool} (h : createE t p dl owner seq = 0) :
    ∃ up n, parentOf p = some up ∧ dl ≤ 256 ∧ (0 ≤ owner ∧ owner ≤ 4611686018427387903) ∧ getZ up t = some n ∧ (placeQ n p seq).1 = 0 ∧ hasZ (placeQ n p seq).2 t = false ∧ createP t p dl owner seq = (placeQ n p seq).2 := by
  unfold createE createP at *
  rcases create_cases t p dl owner seq with ⟨hp, hq⟩ | ⟨up, hp, ⟨hd, hq⟩ | ⟨hd, ⟨ho, hq⟩ | ⟨ho, ⟨hg, hq⟩ | ⟨n, hg, ⟨h3, hq⟩ | ⟨h3, ⟨hh, hq⟩ | ⟨hh, hq⟩⟩⟩⟩⟩⟩
  · rw [hq] at h; cases h
  · rw [hq] at h; cases h
  · rw [hq] at h; cases h
  · rw [hq] at h; cases h
  · rw [hq] at h; exact absurd h h3
  · rw [hq] at h; cases h
  · exact ⟨up, n, hp, hd, ho, hg, h3, hh, by rw [hq]⟩
section
variable {w : World} {tb mb : Nat} {st : ZSt} {lim : Nat} {F : Nat → Prop}
set_option maxRecDepth 100000 in
set_option maxHeartbeats 4000000 in
theorem create_ok (h : TreeAt w tb mb st lim F) (p : Pth) (data : List UInt8) (v : Value) (owner : Int) (seq : Bool) (hv : Bts w v data) (htab : TbZ w) (hE : createE (plainZ st) p data.length owner seq = 0) (hlim : lim + 2 < 4611686018427387903) :
    Calls Tryz.prog 18 #[.pointer (some ⟨tb, 0, none⟩), .string ⟨p.toArray⟩, v, .int .i64 owner, .bool seq] w fun e w' => e = .returned (.tuple #[.string ⟨(createP (plainZ st) p data.length owner seq).toArray⟩, .int .i64 0]) ∧
      (∃ st', TreeAt w' tb mb st' (lim + 1) (ext F w w') ∧ plainZ st' = createS (plainZ st) p data owner seq) ∧ Chg F w w' := by
  have HCK := Lib.hid (zcheck_any p data v hv)
  have HV := Lib.hid hv
  unfold zcheckE at HCK
  obtain ⟨A, c, rfl, hc1, hc2, -⟩ := hv
  have H := Lib.hid h
  have HT := Lib.hid htab
  obtain ⟨up, n, hp, hd, ho, hg, h3, hh, hQ⟩ := createE_zero hE
  have HE := Lib.hid hE
  obtain ⟨e, hge, rfl⟩ := plainZ_get hg
  have hpn := parent_names hp
  have hpl := names_lenZ hpn.1
  rw [hp] at HCK
  rw [if_neg (by simp), if_neg (by omega)] at HCK
  have t1 : decide (owner < 0) = false := by simp; omega
  have t2 : decide ((4611686018427387903 : Int) < owner) = false := by simp; omega
  have HPP := Lib.hid hp
  have HAB := Lib.hid (show ∀ W, Kept w W → _ from fun W k => above_any (H.out.kept k) p up HPP.out)
  have hn := findE_ok hpn.2 hge
  rw [hn.1, hn.2] at HAB
  have HGE := Lib.hid hge
  have HPL := Lib.hid (show ∀ W, Kept w W → _ from fun W k => place_any e W p seq ((H.out.kept k).get HGE.out).1 (HT.out.kept k) hpl)
  obtain ⟨hqn, how, hct⟩ := placeQ_len hpn.1 h3
  rw [h3] at HPL
  rw [plainZ_has] at hh
  rw [hQ]
  have HQ := Lib.hid hQ
  obtain ⟨q, hqq⟩ : ∃ q, (placeQ e.nd p seq).2 = q := ⟨_, rfl⟩
  rw [hqq] at HPL hh hqn HQ ⊢
  have hql := names_lenZ hqn
  have hgq : getZ q st = none := by
    rw [hasZ_get] at hh
    cases hx : getZ q st with
    | none => rfl
    | some y => rw [hx] at hh; cases hh
  have hgood := (h.get hge).2
  have hupq : up ≠ q := fun x => by rw [x, hgq] at hge; cases hge
  have HUQ := Lib.hid hupq
  have HGQ := Lib.hid hgq
  have HQN := Lib.hid hqn
  have HGD := Lib.hid hgood
  have hkl := hgood.kidL
  have hkh := hgood.kidH
  have hfw := h.few
  have HL := Lib.hid (show ∀ W, Kept w W → _ from fun W k => (H.out.kept k).owns.look_ok q (by unfold maxLen; omega))
  rw [hh] at HL
  have HC0 := Lib.hid (show ∀ W, Kept w W → _ from fun W k => (H.out.kept k).c0)
  have hvn : valZ q st = .pointer none := by unfold valZ; rw [hgq]; rfl
  rw [hvn] at HL
  have HDL := Lib.hid hd
  have HO := Lib.hid ho
  have HCT := Lib.hid hct
  clear h htab hE hp hd hpn ho hg hn hge h3 hh hqq hqn hQ hgq hgood hupq how hvn
  obtain ⟨nb, dv, nd⟩ := e
  unfold ptrZ at HAB HPL
  simp only at HAB HPL hkl hkh hct
  go_enter Tryz.func18, Tryz.ntmps18
  go_wp2_with fail
  refine HCK.out.mono ?_
  rintro x w1 ⟨rfl, hk⟩
  have HK := Lib.hid hk
  clear hk
  go_wp2_with fail
  refine (HAB.out w1 HK.out).mono ?_
  rintro x w2 ⟨rfl, hk2⟩
  have HK2 := Lib.hid (HK.out.trans hk2)
  clear hk2
  go_wp2_with fail
  refine (HPL.out w2 HK2.out).mono ?_
  rintro x w3 ⟨rfl, hk3⟩
  have HK3 := Lib.hid (HK2.out.trans hk3)
  have c0 := HC0.out w3 HK3.out
  have hl := HL.out w3 HK3.out
  clear hk3
  have HBC := Lib.hid (show ∀ W, Kept w3 W → _ from fun W k => bclone_any data (.slice A data.length c) W (HV.out.kept (HK3.out.trans k)) (by have := HDL.out; omega))
  have hKd := (Kept.refl w3).drew
  go_wp2_with fail
  clear hl
  go_region_held3 (fun W => W.cell? ⟨tb, 0, none⟩ = some (.map (some mb)))
    (first | exact c0 | exact hKd.cell c0 | exact c4 | exact c5 | exact c6)
    (first
      | (go_at_call 45; refine (HBC.out _ hKd).mono ?_; rintro x w4 ⟨v4, rfl, ho4, hk4⟩; obtain ⟨A4, c4', rfl⟩ := own_form ho4; have HO4 := Lib.hid ho4; have hq4 := hKd.trans hk4; have HK4 := Lib.hid hq4; have c4 := hq4.cell c0; have hka : Kept w4 (w4.alloc (.cells #[.int .i64 0, .int .i64 0, .int .i64 owner, .int .i64 0, .slice A4 data.length c4'] 87)) := (Kept.refl w4).alloc _; have HKA := Lib.hid hka; have c5 := hka.cell c4; obtain ⟨w5, hrun, ho5, hg5⟩ := ((H.out.kept (HK3.out.trans (hq4.trans hka))).owns).store (by unfold maxLen; omega) q (by unfold maxLen; omega) ⟨w4.heap.size, .slice A4 data.length c4', ⟨data, 0, 0, owner.toNat, 0⟩⟩; have hc5 : Chg (fun g => g = mb) _ w5 := Chg.of_grown hg5 (fun g hg _ => by cases hg; rfl); have c6 := chg_cellS hc5 c5 (fun e => H.out.tb_mb e); have HC5 := Lib.hid hc5; have HR5 := Lib.hid hrun; have HO5 := Lib.hid ho5; have HG5 := Lib.hid hg5; unfold ptrZ at hrun; simp only at hrun; clear ho4 hk4 hq4 hka ho5 hg5 hc5))
  have h3 := H.out.kept HK3.out
  have hs4 := HK4.out.size
  have hsa : w4.heap.size < (w4.alloc (.cells #[.int .i64 0, .int .i64 0, .int .i64 owner, .int .i64 0, .slice A4 data.length c4'] 87)).heap.size := by simp
  have hna := heap_alloc_new w4 (.cells #[.int .i64 0, .int .i64 0, .int .i64 owner, .int .i64 0, .slice A4 data.length c4'] 87)
  have hmb : mb < w3.heap.size := World.ownsMap.lt h3.owns
  have hC35 : Chg (fun g => g = mb) w3 w5 := (Chg.of_kept (F := fun g => g = mb) (HK4.out.trans HKA.out)).trans HC5.out (fun g _ x => x)
  have hs5 := HC5.out.size
  have howm : owner = (owner.toNat : Int) := by have := HO.out; omega
  have hN5 : NodeAt w5 ⟨w4.heap.size, .slice A4 data.length c4', ⟨data, 0, 0, owner.toNat, 0⟩⟩ := by
    refine ⟨?_, ?_⟩
    · have h1 := HC5.out.block' hna (fun x => by omega)
      rw [howm] at h1
      exact h1
    · refine own_base' (own_chg (own_kept HO4.out HKA.out) HC5.out (fun g hg x => ?_)) (Nat.zero_le _)
      have := (HO4.out.lt g hg).1
      have : w3.drew.heap.size = w3.heap.size := rfl
      omega
  have hT5 := h3.put HGQ.out HO5.out hC35 hN5 ⟨hs4, by show w4.heap.size < w5.heap.size; omega⟩ (fun g hg => by
    have h1 := HO4.out.lt g hg
    have : w3.drew.heap.size = w3.heap.size := rfl
    exact ⟨by omega, by omega⟩) ⟨HQN.out, HDL.out, Nat.zero_le _, Nat.zero_le _, by have := HO.out; show owner.toNat ≤ _; omega, by show -((lim + 1 : Nat) : Int) ≤ (0 : Int); omega, by show (0 : Int) ≤ ((lim + 1 : Nat) : Int); omega⟩
  have hgu : getZ up (putZ q ⟨w4.heap.size, .slice A4 data.length c4', ⟨data, 0, 0, owner.toNat, 0⟩⟩ st) = some ⟨nb, dv, nd⟩ := by rw [getZ_put_other HUQ.out]; exact HGE.out
  have hNP := (hT5.get hgu).1
  have d1 := cell_at hNP.1 1
  have d3 := cell_at hNP.1 3
  simp only [List.getElem?_toArray, List.getElem?_cons_zero, List.getElem?_cons_succ] at d1 d3
  have f1 : w5.frozen? ⟨nb, 1, none⟩ = false := frozen_at hNP.1 1
  have f3 : w5.frozen? ⟨nb, 3, none⟩ = false := frozen_at hNP.1 3
  have HT5 := Lib.hid hT5
  have HGU := Lib.hid hgu
  have HNP := Lib.hid hNP
  have HC35 := Lib.hid hC35
  have HCL := Lib.hid (fun W => clone_any q W (by omega))
  clear h3 hs4 hsa hna hmb hC35 howm hN5 hT5 hgu hNP hs5 hrun c4 c5 c6 c0
  have b1 : (nd.ctr : Int) + 1 ≤ 10000000000 := by omega
  have b2 : nd.kids + 1 ≤ 4611686018427387903 := by omega
  have b3 : -4611686018427387903 ≤ nd.kids := by omega
  go_wp2_with fail
  refine (HCL.out _).mono ?_
  rintro x w7 ⟨rfl, hk7⟩
  have HK7 := Lib.hid hk7
  have hw6 : ∃ w6 : World, w6 = (w5.setCell ⟨nb, 1, none⟩ (.int .i64 ((nd.ctr : Int) + 1))).setCell ⟨nb, 3, none⟩ (.int .i64 (nd.kids + 1)) := ⟨_, rfl⟩
  obtain ⟨w6, hw6⟩ := hw6
  rw [← hw6] at HK7
  have h61 := Lib.heap_setCell_same (i := 1) HNP.out.1 (.int .i64 ((nd.ctr : Int) + 1))
  have h62 := Lib.heap_setCell_same (i := 3) h61 (.int .i64 (nd.kids + 1))
  rw [← hw6] at h62
  have hc6 : Chg (fun g => g = nb) w5 w6 := by
    rw [hw6]
    exact ((Chg.refl (fun g => g = nb) w5).setCell _ (fun _ => rfl)).setCell _ (fun _ => rfl)
  have hN6 : NodeAt w6 ⟨nb, dv, { nd with ctr := nd.ctr + 1, kids := nd.kids + 1 }⟩ := by
    refine ⟨?_, own_chg HNP.out.2 hc6 (fun g hg x => ?_)⟩
    · simp only at h62
      simp only [Array.setIfInBounds, List.size_toArray, List.length_cons, List.length_nil] at h62
      have e1 : ((nd.ctr + 1 : Nat) : Int) = (nd.ctr : Int) + 1 := by omega
      simp only [e1]
      simpa using h62
    · obtain ⟨cur, h1⟩ := own_type HNP.out.2 hg
      have h2 := HNP.out.1
      simp only at h2
      rw [x, h2] at h1
      simp only [Option.some.injEq, Obj.cells.injEq] at h1
      exact absurd h1.2.1 (by decide)
  have hgd := HGD.out
  have hT6 := HT5.out.on HGU.out (e' := ⟨nb, dv, { nd with ctr := nd.ctr + 1, kids := nd.kids + 1 }⟩) rfl hN6 hc6 (Nat.le_refl _) ⟨hgd.path, hgd.small, by have := hgd.ver; show nd.ver ≤ _; omega, by show nd.ctr + 1 ≤ _; have := HCT.out; omega, hgd.own, by show -((lim + 1 : Nat) : Int) ≤ nd.kids + 1; omega, by show nd.kids + 1 ≤ ((lim + 1 : Nat) : Int); omega⟩ (fun g hg => .inl (HT5.out.inD _ (getZ_mem HGU.out) g hg))
  have hs35 := HC35.out.size
  have hs56 := hc6.size
  have hs67 := HK7.out.size
  have hs03 := HK3.out.size
  have HT6 := Lib.hid hT6
  have HC6 := Lib.hid hc6
  clear hk7 h61 h62 hw6 hN6 hT6 hgd d1 d3 f1 f3
  go_wp2
  go_ret2
  refine ⟨rfl, ⟨_, (HT6.out.kept HK7.out).mono (fun g y => ?_), ?_⟩, ?_⟩
  · rcases y with (y | y) | y
    · exact .inl y
    · exact .inr ⟨by omega, by omega⟩
    · exact .inr ⟨by omega, by omega⟩
  · unfold plainZ createS
    rw [if_pos (show createE (mapZ ZE.nd st) p data.length owner seq = 0 from HE.out), mapZ_setZ, mapZ_put, HPP.out, show createP (mapZ ZE.nd st) p data.length owner seq = q from HQ.out]
    refine setZ_onZ (f := fun n => { n with ctr := n.ctr + 1, kids := n.kids + 1 }) (n := nd) (srt_putZ (srt_mapZ.2 H.out.srt)) ?_
    rw [getZ_put_other HUQ.out, getZ_mapZ, HGE.out]
    rfl
  · refine (((Chg.of_kept (F := F) HK3.out).trans HC35.out (fun g _ y => by rw [y]; exact H.out.inM)).trans HC6.out (fun g _ y => ?_)).trans (Chg.of_kept (F := no) HK7.out) (fun g _ y => y.elim)
    rw [y]
    exact H.out.inN _ (getZ_mem HGE.out)
end
end Go.Proofs.YtennlckfmgfjbaaGreatDoor
