/- The walk of the document's Load. -/
import Derived.Test.YtngbgngfdklnlaaGreatDoorGSRf12
import Derived.Test.YtngbgngfdklnlaaGreatDoorGDRapp2
import Derived.Test.YtngbgngfdklnlaaGreatDoorQRefUnf
import Derived.Test.YtngbgngfdklnlaaGreatDoorQDref
import Derived.Test.YtngbgngfdklnlaaGreatDoorGSName2
import Derived.BigQuiet
set_option linter.unusedSimpArgs false
set_option linter.unusedVariables false
namespace Go.Proofs.YtngbgngfdklnlaaGreatDoor
open Go.RowKit
def loadI (nm : Nm) (fs : Fls) : Int := match loadS nm fs with
  | some (n, _) => (n : Int)
  | none => -1
def loadB (nm : Nm) (fs : Fls) : List UInt8 := match loadS nm fs with
  | some (_, b) => b
  | none => []
theorem loadI_none {nm : Nm} {fs : Fls} (h : loadS nm fs = none) : loadI nm fs = -1 ∧ loadB nm fs = [] := by unfold loadI loadB; rw [h]; exact ⟨rfl, rfl⟩
theorem loadI_some {nm : Nm} {fs : Fls} {n : Nat} {b : List UInt8} (h : loadS nm fs = some (n, b)) : loadI nm fs = (n : Int) ∧ loadB nm fs = b := by unfold loadI loadB; rw [h]; exact ⟨rfl, rfl⟩
theorem load_noman {nm : Nm} {fs : Fls} (h : getA (manN nm) fs = none) : loadS nm fs = none := by unfold loadS newS; rw [h]; rfl
theorem load_bad1 {nm : Nm} {fs : Fls} {f : Fl} (h : getA (manN nm) fs = some f) (hp : parseM f.1 = none) : loadS nm fs = none := by unfold loadS newS; rw [h]; simp [hp]
theorem load_bad2 {nm : Nm} {fs : Fls} {f : Fl} {a b c : Nat} (h : getA (manN nm) fs = some f) (hp : parseM f.1 = some (a, b, c)) (hd : getA (datN nm a) fs = none) : loadS nm fs = none := by unfold loadS newS datS; rw [h]; simp [hp, hd]
theorem load_bad3 {nm : Nm} {fs : Fls} {f g : Fl} {a b c : Nat} (h : getA (manN nm) fs = some f) (hp : parseM f.1 = some (a, b, c)) (hd : getA (datN nm a) fs = some g) (hx : fitS (a, b, c) g.1 = false) : loadS nm fs = none := by unfold loadS newS datS; rw [h]; simp [hp, hd, hx]
theorem load_good {nm : Nm} {fs : Fls} {f g : Fl} {a b c : Nat} (h : getA (manN nm) fs = some f) (hp : parseM f.1 = some (a, b, c)) (hd : getA (datN nm a) fs = some g) (hx : fitS (a, b, c) g.1 = true) : loadS nm fs = some (a, g.1) := by unfold loadS newS datS; rw [h]; simp [hp, hd, hx]
theorem bts_none (W : World) : Bts W (.slice none 0 0) [] := ⟨none, 0, rfl, Nat.le_refl _, by decide, fun h => absurd h (by simp)⟩
theorem get_of_find {rs : St} (hs : Srt rs) {k : Nm} {i : Nat} (hi : i < rs.length) (hk : rs[i].1 = k) : getA k (mapV Prod.snd rs) = some rs[i].2.2 := by
  rw [getA_mapV, ← hk, get_at hs hi]
  rfl
theorem get_no {rs : St} {k : Nm} (h : hasA k rs = false) : getA k (mapV Prod.snd rs) = none := by
  rw [← hasA_mapV Prod.snd, hasA_get] at h
  cases hg : getA k (mapV Prod.snd rs) with
  | none => rfl
  | some v => rw [hg] at h; cases h
set_option maxRecDepth 100000 in
set_option maxHeartbeats 8000000 in
theorem rloadD_any (nm : Nm) (rb : Nat) (vL : Value) (rs : St) (cap : Nat) (G : Nat → Prop) (w : World) (h : RD w rb vL rs cap G) (hnl : nm.length ≤ 12) :
    Calls Tryz.prog 20 #[.pointer (some ⟨rb, 0, none⟩), .string ⟨nm.toArray⟩] w fun e w' => ∃ v, e = .returned (.tuple #[.int .i64 (loadI nm (mapV Prod.snd rs)), v]) ∧ Bts w' v (loadB nm (mapV Prod.snd rs)) ∧ Kept w w' := by
  have HRD := Lib.hid h
  have hsrt := h.srt
  have HFM := Lib.hid (show ∀ k W, Kept w W → _ from fun k W hW => rfind_any k rb vL rs cap G W (h.kept hW))
  have hmn : (⟨nm.toArray⟩ : ByteArray) ++ ⟨#[46, 109, 97, 110]⟩ = ⟨(manN nm).toArray⟩ := str_append nm [46, 109, 97, 110]
  have hsn : (⟨nm.toArray⟩ : ByteArray) ++ ⟨#[46, 115]⟩ = ⟨(sN nm).toArray⟩ := str_append nm [46, 115]
  obtain ⟨A, c, hvL, hc1, hc2⟩ := h.form
  subst hvL
  unfold maxLen at hc2
  have c1 := h.c1
  cases hm : hasA (manN nm) rs with
  | false =>
    have HF := Lib.hid (HFM.out (manN nm) w (Kept.refl w))
    rw [find_neg hm] at HF
    have HL := Lib.hid (loadI_none (load_noman (get_no hm)))
    generalize manN nm = mn at *
    clear h hsrt
    go_enter Tryz.func20, Tryz.ntmps20
    go_wp2_with fail
    refine HF.out.mono ?_
    rintro e w1 ⟨rfl, rfl⟩
    go_wp2
    go_ret2
    rw [HL.out.1, HL.out.2]
    exact ⟨_, rfl, ⟨none, 0, rfl, Nat.le_refl _, by decide, fun h => absurd h (by simp)⟩, Kept.refl _⟩
  | true =>
    obtain ⟨i, hi, hfi, hki⟩ := find_pos hm
    have HF := Lib.hid (HFM.out (manN nm) w (Kept.refl w))
    rw [hfi] at HF
    have hga := get_of_find hsrt hi hki
    obtain ⟨g, rfl, q0, q1, q2, -⟩ := h.at hi
    have hfl := (h.flen hi).1
    have HFB := Lib.hid (Bts.of_own (h.files rs[i] (List.getElem_mem hi)))
    obtain ⟨Ab, cb, hvb⟩ := HFB.out.form
    rw [hvb] at HFB q1
    generalize rs[i].2.2 = f at *
    have HU := Lib.hid (refUnframe_any f.1 0 _ w HFB.out (by omega))
    unfold UnPost at HU
    have i0 : decide ((i : Int) < 0) = false := by simp
    have i1 : (i : Int) < (rs.length : Int) := by omega
    have HGA := Lib.hid hga
    generalize hmg : manN nm = mn at *
    have HMG := Lib.hid hmg
    clear hmg hga hki hfi hvb hm q0 q2
    generalize hr : parseM f.1 = r
    have HPR := Lib.hid hr
    unfold parseM at hr
    generalize hfb : f.1 = b at *
    have HFBB := Lib.hid hfb
    clear hfb
    by_cases h0 : (unAt b 0).2.2 = 0
    · have hu : unAt b ((0 : Nat) : Int) = ((unAt b 0).1, (unAt b 0).2.1, 0) := Prod.ext rfl (Prod.ext rfl h0)
      obtain ⟨hu1, hu2, hu3, -⟩ := unAt_inv hu
      generalize unAt b 0 = u at *
      obtain ⟨p, en, er⟩ := u
      simp only at h0 HU hr hu1 hu2 hu3
      subst h0
      clear hu
      by_cases h1 : en = (b.length : Int)
      · subst h1
        rw [if_pos ⟨rfl, rfl⟩] at hr
        clear hu1
        unfold three at hr
        have HR1 := Lib.hid (show ∀ W rb v, IsD W rb v p 0 0 → _ from fun W rb v h => dNum rb v p 0 0 W h (by omega))
        rw [List.drop_zero, Nat.zero_add] at HR1
        cases hn1 : rn p 0 with
        | mk a1 ra =>
        obtain ⟨a2, a3⟩ := ra
        have hb1 : a1 ≤ 4611686018427387903 := by have := (rn_le p 0).2; rw [hn1] at this; exact this
        rw [hn1] at HR1 hr
        simp only at HR1 hr
        have HR2 := Lib.hid (show ∀ W rb v, IsD W rb v p a2 a3 → _ from fun W rb v h => dNum rb v p a2 a3 W h (by omega))
        cases hn2 : rn (p.drop a2) a3 with
        | mk d1 rb' =>
        obtain ⟨d2, d3⟩ := rb'
        rw [hn2] at HR2 hr
        simp only [List.drop_drop] at HR2 hr
        have HR3 := Lib.hid (show ∀ W rb v, IsD W rb v p (a2 + d2) d3 → _ from fun W rb v h => dNum rb v p (a2 + d2) d3 W h (by omega))
        cases hn3 : rn (p.drop (a2 + d2)) d3 with
        | mk e1 rc' =>
        obtain ⟨e2, e3⟩ := rc'
        rw [hn3] at HR3 hr
        simp only [List.drop_drop] at HR3 hr
        have HLE := Lib.hid (show ∀ W rb v, IsD W rb v p (a2 + d2 + e2) e3 → _ from fun W rb v h => dLeft rb v p (a2 + d2 + e2) e3 W h (by omega))
        clear hn1 hn2 hn3
        generalize hq : p.drop (a2 + d2 + e2) = q at *
        clear hq
        have HDG := Lib.hid (show ∀ W, _ from fun W => digits_any a1 W hb1)
        have hds := dec_len a1 hb1
        have hdn : (⟨(sN nm).toArray⟩ : ByteArray) ++ ⟨(Lib.decDigits a1).toArray⟩ = ⟨(datN nm a1).toArray⟩ := str_append _ _
        have hsl : (sN nm).length ≤ 14 := by rw [sN_len]; omega
        generalize Lib.decDigits a1 = ds at *
        generalize sN nm = sn at *
        go_enter Tryz.func20, Tryz.ntmps20
        go_wp2_with fail
        refine HF.out.mono ?_
        rintro e w0 ⟨rfl, rfl⟩
        go_wp2_with fail
        refine HU.out.mono ?_
        rintro e w1 ⟨v1, rfl, ho1, k1⟩
        have HB1 := Lib.hid (Bts.of_own ho1)
        obtain ⟨A1, cc1, rfl⟩ := own_form ho1
        have z1 := k1.cell c1
        have z2 := k1.cell q1
        have hID : IsD (w1.alloc (.cells #[.slice A1 p.length cc1, .int .i64 0, .int .i64 0] 127)) w1.heap.size (.slice A1 p.length cc1) p 0 0 := ⟨heap_alloc_new w1 _, HB1.out.kept ((Kept.refl w1).alloc _), Nat.zero_le _⟩
        have HID := Lib.hid hID
        have hs1 := k1.size
        have hka := k1.alloc (.cells #[.slice A1 p.length cc1, .int .i64 0, .int .i64 0] 127)
        clear ho1 hID HU
        go_wp2_with fail
        generalize w1.alloc (.cells #[.slice A1 p.length cc1, .int .i64 0, .int .i64 0] 127) = w2 at *
        generalize w1.heap.size = bb at *
        refine (HR1.out _ _ _ HID.out).mono ?_
        rintro e w3 ⟨rfl, hI3, hF3⟩
        have k3 := hF3.kept hka hs1
        go_wp2_with fail
        refine (HR2.out _ _ _ hI3).mono ?_
        rintro e w4 ⟨rfl, hI4, hF4⟩
        have k4 := hF4.kept k3 hs1
        go_wp2_with fail
        refine (HR3.out _ _ _ hI4).mono ?_
        rintro e w5 ⟨rfl, hI5, hF5⟩
        have k5 := hF5.kept k4 hs1
        obtain ⟨-, -, y2, -, -⟩ := hI5.cells
        have HI5 := Lib.hid hI5
        clear hI3 hI4 hI5 hF3 hF4 hF5
        by_cases h2 : e3 = 0
        · subst h2
          have hLL := HLE.out _ _ _ HI5.out
          by_cases h3 : q = []
          · subst h3
            rw [if_pos ⟨rfl, rfl⟩] at hr
            subst hr
            have HLQ := Lib.hid hLL
            clear hLL
            go_wp2_with fail
            refine HLQ.out.mono ?_
            rintro e w6 ⟨rfl, k6⟩
            have k6' := k5.trans k6
            go_wp2_with fail
            refine (HDG.out w6).mono ?_
            rintro e w7 ⟨rfl, k7⟩
            have k7' := k6'.trans k7
            have HF7 := Lib.hid (HFM.out (datN nm a1) w7 k7')
            have x1 := k7'.cell c1
            cases hdm : hasA (datN nm a1) rs with
            | false =>
              rw [find_neg hdm] at HF7
              have HL := Lib.hid (loadI_none (load_bad2 (by rw [HMG.out]; exact HGA.out) (by rw [HFBB.out]; exact HPR.out) (get_no hdm)))
              generalize datN nm a1 = dn at *
              go_wp2_with fail
              refine HF7.out.mono ?_
              rintro e w8 ⟨rfl, rfl⟩
              have HKF := Lib.hid k7'
              go_wp2
              refine bodyPost_ret (v := .tuple #[.int .i64 (-1), .slice none 0 0]) (by simp [results, Tryz.results20, go_sem]) rfl ?_
              rw [HL.out.1, HL.out.2]
              exact ⟨_, rfl, bts_none _, HKF.out⟩
            | true =>
              obtain ⟨i2, hi2, hfi2, hki2⟩ := find_pos hdm
              rw [hfi2] at HF7
              have HGD := Lib.hid (get_of_find hsrt hi2 hki2)
              obtain ⟨g', hgg, -, t1, -, -⟩ := h.at hi2
              obtain rfl : g = g' := by simpa using hgg
              have HDB := Lib.hid (Bts.of_own (h.files rs[i2] (List.getElem_mem hi2)))
              have hfl2 := (h.flen hi2).1
              obtain ⟨Ad, cd, hvd⟩ := HDB.out.form
              rw [hvd] at HDB t1
              generalize rs[i2].2.2 = f2 at *
              have j0 : decide ((i2 : Int) < 0) = false := by simp
              have j1 : (i2 : Int) < (rs.length : Int) := by omega
              have x2 := k7'.cell t1
              have HSM := Lib.hid (refSum_any f2.1 _ w7 (HDB.out.kept k7'))
              have hfit : fitS (a1, d1, e1) f2.1 = (decide (f2.1.length = d1) && decide (crc f2.1 = e1)) := rfl
              generalize hdng : datN nm a1 = dn at *
              have HDN := Lib.hid hdng
              clear hdng hgg hki2 hfi2 hvd hdm
              by_cases h5 : f2.1.length = d1
              · have m1 : ((f2.1.length : Int) != (d1 : Int)) = false := by simp; omega
                have m1' : ((f2.1.length : Int) == (d1 : Int)) = true := by simp; omega
                by_cases h6 : crc f2.1 = e1
                · have HL := Lib.hid (loadI_some (load_good (by rw [HMG.out]; exact HGA.out) (by rw [HFBB.out]; exact HPR.out) (by rw [HDN.out]; exact HGD.out) (by rw [hfit, decide_eq_true h5, decide_eq_true h6]; rfl)))
                  have m2 : ((crc f2.1 : Int) != (e1 : Int)) = false := by simp; omega
                  have m2' : ((crc f2.1 : Int) == (e1 : Int)) = true := by simp; omega
                  generalize crc f2.1 = cr at *
                  have HKF := Lib.hid k7'
                  clear h5 h6 hfit
                  go_wp2_with fail
                  refine HF7.out.mono ?_
                  rintro e w8 ⟨rfl, rfl⟩
                  go_wp2_with fail
                  refine HSM.out.mono ?_
                  rintro e w9 ⟨rfl, rfl⟩
                  go_wp2
                  go_quiet (fail)
                  rename_i nq
                  go_wp2
                  refine bodyPost_ret (v := .tuple #[.int .i64 (a1 : Int), .slice Ad f2.1.length cd]) (by simp [results, Tryz.results20, go_sem]) rfl ?_
                  rw [HL.out.1, HL.out.2]
                  exact ⟨_, rfl, HDB.out.kept (HKF.out.drewN nq), HKF.out.drewN nq⟩
                · have HL := Lib.hid (loadI_none (load_bad3 (by rw [HMG.out]; exact HGA.out) (by rw [HFBB.out]; exact HPR.out) (by rw [HDN.out]; exact HGD.out) (by rw [hfit, decide_eq_false h6, Bool.and_false])))
                  have m2 : ((crc f2.1 : Int) != (e1 : Int)) = true := by simp; omega
                  have m2' : ((crc f2.1 : Int) == (e1 : Int)) = false := by simp; omega
                  generalize crc f2.1 = cr at *
                  have HKF := Lib.hid k7'
                  clear h5 h6 hfit
                  go_wp2_with fail
                  refine HF7.out.mono ?_
                  rintro e w8 ⟨rfl, rfl⟩
                  go_wp2_with fail
                  refine HSM.out.mono ?_
                  rintro e w9 ⟨rfl, rfl⟩
                  go_wp2
                  refine bodyPost_ret (v := .tuple #[.int .i64 (-1), .slice none 0 0]) (by simp [results, Tryz.results20, go_sem]) rfl ?_
                  rw [HL.out.1, HL.out.2]
                  exact ⟨_, rfl, bts_none _, HKF.out⟩
              · have HL := Lib.hid (loadI_none (load_bad3 (by rw [HMG.out]; exact HGA.out) (by rw [HFBB.out]; exact HPR.out) (by rw [HDN.out]; exact HGD.out) (by rw [hfit, decide_eq_false h5, Bool.false_and])))
                have m1 : ((f2.1.length : Int) != (d1 : Int)) = true := by simp; omega
                have m1' : ((f2.1.length : Int) == (d1 : Int)) = false := by simp; omega
                have HKF := Lib.hid k7'
                clear h5 hfit
                go_wp2_with fail
                refine HF7.out.mono ?_
                rintro e w8 ⟨rfl, rfl⟩
                go_wp2
                refine bodyPost_ret (v := .tuple #[.int .i64 (-1), .slice none 0 0]) (by simp [results, Tryz.results20, go_sem]) rfl ?_
                rw [HL.out.1, HL.out.2]
                exact ⟨_, rfl, bts_none _, HKF.out⟩
          · rw [if_neg (fun h => h3 h.2)] at hr
            subst hr
            have HL := Lib.hid (loadI_none (load_bad1 (by rw [HMG.out]; exact HGA.out) (by rw [HFBB.out]; exact HPR.out)))
            have hq : q.length ≠ 0 := fun h => h3 (List.eq_nil_of_length_eq_zero h)
            have m1 : ((q.length : Int) != 0) = true := by simp; omega
            have m1' : ((q.length : Int) == 0) = false := by simp; omega
            generalize q.length = Q at *
            have HLQ := Lib.hid hLL
            clear hLL
            go_wp2_with fail
            refine HLQ.out.mono ?_
            rintro e w6 ⟨rfl, k6⟩
            have HKF := Lib.hid (k5.trans k6)
            go_wp2
            refine bodyPost_ret (v := .tuple #[.int .i64 (-1), .slice none 0 0]) (by simp [results, Tryz.results20, go_sem]) rfl ?_
            rw [HL.out.1, HL.out.2]
            exact ⟨_, rfl, bts_none _, HKF.out⟩
        · rw [if_neg (fun h => h2 h.1)] at hr
          subst hr
          have HL := Lib.hid (loadI_none (load_bad1 (by rw [HMG.out]; exact HGA.out) (by rw [HFBB.out]; exact HPR.out)))
          have m1 : (e3 != 0) = true := by simpa using h2
          have m1' : (e3 == 0) = false := by simpa using h2
          have HKF := Lib.hid k5
          clear h2
          go_wp2
          refine bodyPost_ret (v := .tuple #[.int .i64 (-1), .slice none 0 0]) (by simp [results, Tryz.results20, go_sem]) rfl ?_
          rw [HL.out.1, HL.out.2]
          exact ⟨_, rfl, bts_none _, HKF.out⟩
      · rw [if_neg (fun h => h1 h.2)] at hr
        subst hr
        have HL := Lib.hid (loadI_none (load_bad1 (by rw [HMG.out]; exact HGA.out) (by rw [HFBB.out]; exact HPR.out)))
        have h1' : (en != (b.length : Int)) = true := by simpa using h1
        have h1'' : (en == (b.length : Int)) = false := by simpa using h1
        clear h1 hu1
        go_enter Tryz.func20, Tryz.ntmps20
        go_wp2_with fail
        refine HF.out.mono ?_
        rintro e w0 ⟨rfl, rfl⟩
        go_wp2_with fail
        refine HU.out.mono ?_
        rintro e w1 ⟨v1, rfl, ho1, k1⟩
        obtain ⟨A1, cc1, rfl⟩ := own_form ho1
        have z1 := k1.cell c1
        have z2 := k1.cell q1
        have HKF := Lib.hid k1
        clear ho1 HU
        go_wp2
        refine bodyPost_ret (v := .tuple #[.int .i64 (-1), .slice none 0 0]) (by simp [results, Tryz.results20, go_sem]) rfl ?_
        rw [HL.out.1, HL.out.2]
        exact ⟨_, rfl, bts_none _, HKF.out⟩
    · rw [if_neg (fun h => h0 h.1)] at hr
      subst hr
      have HL := Lib.hid (loadI_none (load_bad1 (by rw [HMG.out]; exact HGA.out) (by rw [HFBB.out]; exact HPR.out)))
      generalize unAt b 0 = u at *
      obtain ⟨p, en, er⟩ := u
      simp only at h0 HU
      have h1' : (er != 0) = true := by simpa using h0
      have h1'' : (er == 0) = false := by simpa using h0
      clear h0
      go_enter Tryz.func20, Tryz.ntmps20
      go_wp2_with fail
      refine HF.out.mono ?_
      rintro e w0 ⟨rfl, rfl⟩
      go_wp2_with fail
      refine HU.out.mono ?_
      rintro e w1 ⟨v1, rfl, ho1, k1⟩
      obtain ⟨A1, cc1, rfl⟩ := own_form ho1
      have HKF := Lib.hid k1
      clear ho1 HU
      go_wp2
      refine bodyPost_ret (v := .tuple #[.int .i64 (-1), .slice none 0 0]) (by simp [results, Tryz.results20, go_sem]) rfl ?_
      rw [HL.out.1, HL.out.2]
      exact ⟨_, rfl, bts_none _, HKF.out⟩
theorem rload_any (nm : Nm) (x : Value) (cap : Nat) (fs : Fls) (G : Nat → Prop) (w : World) (h : Ref w x cap fs G) (hnl : nm.length ≤ 12) :
    Calls Tryz.prog 20 #[x, .string ⟨nm.toArray⟩] w fun e w' => ∃ v, e = .returned (.tuple #[.int .i64 (loadI nm fs), v]) ∧ Bts w' v (loadB nm fs) ∧ Kept w w' := by
  obtain ⟨rb, vL, rs, rfl, rfl, h⟩ := h
  exact rloadD_any nm rb vL rs cap G w h hnl
end Go.Proofs.YtngbgngfdklnlaaGreatDoor
