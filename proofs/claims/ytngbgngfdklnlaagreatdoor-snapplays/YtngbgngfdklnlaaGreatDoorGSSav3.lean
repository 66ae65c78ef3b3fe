/- The walk of Save. Save, whatever comes in. Save and Load over a disk that is younger than a world; awake. -/
import Derived.Test.YtngbgngfdklnlaaGreatDoorGSWr32
import Derived.Test.YtngbgngfdklnlaaGreatDoorGSLd2
import Derived.Test.YtngbgngfdklnlaaGreatDoorGSName2
import Derived.Lib.SlBytesConst
set_option linter.unusedSimpArgs false
set_option linter.unusedVariables false
namespace Go.Proofs.YtngbgngfdklnlaaGreatDoor
open Go.RowKit
def chkS (n : Int) (l : List UInt8) : Int := if n < 0 ∨ 4611686018427387903 < n then 10 else if 1048576 < l.length then 14 else 0
set_option maxRecDepth 100000 in
set_option maxHeartbeats 1000000 in
theorem checkS_any (n : Int) (l : List UInt8) (A : Option Addr) (c : Nat) (w : World) :
    Calls Tryz.prog 36 #[.int .i64 n, .slice A l.length c] w fun e w' => e = .returned (.int .i64 (chkS n l)) ∧ w = w' := by
  unfold chkS
  by_cases h1 : n < 0
  · rw [if_pos (.inl h1)]
    have i1 : decide (n < 0) = true := by simpa using h1
    go_enter Tryz.func36, Tryz.ntmps36
    go_wp2
    go_ret
    exact ⟨rfl, rfl⟩
  · have i1 : decide (n < 0) = false := by simpa using h1
    by_cases h2 : 4611686018427387903 < n
    · rw [if_pos (.inr h2)]
      have i2 : decide (4611686018427387903 < n) = true := by simpa using h2
      go_enter Tryz.func36, Tryz.ntmps36
      go_wp2
      go_ret
      exact ⟨rfl, rfl⟩
    · have i2 : decide (4611686018427387903 < n) = false := by simpa using h2
      rw [if_neg (by omega)]
      by_cases h3 : 1048576 < l.length
      · rw [if_pos h3]
        have i3 : decide ((1048576 : Int) < (l.length : Int)) = true := by simp; omega
        generalize l.length = L at *
        go_enter Tryz.func36, Tryz.ntmps36
        go_wp2
        go_ret
        exact ⟨rfl, rfl⟩
      · rw [if_neg h3]
        have i3 : decide ((1048576 : Int) < (l.length : Int)) = false := by simp; omega
        generalize l.length = L at *
        go_enter Tryz.func36, Tryz.ntmps36
        go_wp2
        go_ret
        exact ⟨rfl, rfl⟩
theorem write_any (d : Value) (nm : Nm) (n : Nat) (b m : List UInt8) (vb vm : Value) (cap : Nat) (fs : Fls) (F : Nat → Prop) (w : World) (hd : Disk w d cap fs F) (hF : ∀ g, F g → g < w.heap.size) (hb : Bts w vb b) (hm : ∀ W, Chg F w W → Bts W vm m) (hE : ∀ W, Chg F w W → Env W) (hnm : goodL nm = true) (hn : n ≤ 4611686018427387903) (hlen : fs.length + 2 ≤ 1999999999999) :
    Calls Tryz.prog 43 #[.agg #[d, .string ⟨nm.toArray⟩], .int .i64 (n : Int), vb, vm] w fun e w' => e = .returned (.int .i64 (wrtS cap (datN nm n) (tmpN nm) b m fs).1) ∧ Disk w' d cap (wrtS cap (datN nm n) (tmpN nm) b m fs).2 (ext F w w') ∧ Chg F w w' := by
  unfold wrtS
  split
  · rename_i h1
    obtain ⟨A2, c2, hvm⟩ := (hm w (Chg.refl _ w)).slice
    exact write_full d nm n b vb vm A2 _ c2 hvm cap fs F w hd hF hb hE hnm hn hlen h1
  · rename_i h1
    split
    · rename_i h2
      exact write_man d nm n b m vb vm cap fs F w hd hF hb hm hE hnm hn hlen (by omega) h2
    · rename_i h2
      exact write_ok d nm n b m vb vm cap fs F w hd hF hb hm hE hnm hn hlen (by omega) (by omega)
theorem wrt_zero {cap : Nat} {dn tn : Nm} {b m : List UInt8} {fs : Fls} (h : (wrtS cap dn tn b m fs).1 = 0) : wrtS cap dn tn b m fs = (0, syncS [dn, tn] (appS tn m (appS dn b fs))) := by
  unfold wrtS at h ⊢
  split at h
  · cases h
  · rename_i h1
    split at h
    · cases h
    · rename_i h2
      rw [if_neg h1, if_neg h2]
theorem saveT_wrt {cap : Nat} {nm : Nm} {n : Nat} {b : List UInt8} {fs : Fls} (hr : reachS nm n fs = false) : saveT cap nm n b fs = if (wrtS cap (datN nm n) (tmpN nm) b (man1 n b) (sav1 nm n fs)).1 = 0 then (0, sav5 nm n b fs) else wrtS cap (datN nm n) (tmpN nm) b (man1 n b) (sav1 nm n fs) := by
  unfold saveT wrtS
  rw [if_neg (by simp [hr])]
  by_cases h1 : cap < used (sav1 nm n fs) + b.length
  · rw [if_pos h1, if_pos h1, if_neg (show ¬ (32 : Int) = 0 by decide)]
  · rw [if_neg h1, if_neg h1]
    by_cases h2 : cap < used (appS (datN nm n) b (sav1 nm n fs)) + (man1 n b).length
    · rw [if_pos h2, if_pos h2, if_neg (show ¬ (32 : Int) = 0 by decide)]
    · rw [if_neg h2, if_neg h2, if_pos rfl]
theorem has_sync {fs : Fls} (k j : Nm) : hasA j (sync1 fs k) = (j == k || hasA j fs) := has_put _ _ _
set_option maxRecDepth 100000 in
set_option maxHeartbeats 8000000 in
theorem save_new (d : Value) (nm : Nm) (n : Nat) (b : List UInt8) (vb : Value) (cap : Nat) (fs : Fls) (F : Nat → Prop) (w : World) (hd : Disk w d cap fs F) (hF : ∀ g, F g → g < w.heap.size) (hb : ∀ W, Chg F w W → Bts W vb b) (hE : ∀ W, Chg F w W → Env W) (hnm : goodL nm = true) (hn : n ≤ 4611686018427387903) (hbl : b.length ≤ 1048576) (hcr : crc b ≤ 4611686018427387903) (hlen : fs.length + 2 ≤ 1999999999999) (hr : reachS nm n fs = false) :
    Calls Tryz.prog 10 #[d, .string ⟨nm.toArray⟩, .int .i64 (n : Int), vb] w fun e w' => e = .returned (.int .i64 (saveT cap nm n b fs).1) ∧ Disk w' d cap (saveT cap nm n b fs).2 (ext F w w') ∧ Chg F w w' := by
  obtain ⟨db, rfl⟩ := hd.form
  have hgood := hd.good.1
  have HFF := Lib.hid hF
  have HBB := Lib.hid hb
  have HEE := Lib.hid hE
  have HD := Lib.hid hd
  have HIN := Lib.hid (isNameS_any nm _ cap fs F w hd)
  rw [hnm] at HIN
  obtain ⟨A, c, hvb⟩ := (hb w (Chg.refl _ w)).slice
  subst hvb
  have HCK := Lib.hid (show ∀ W, _ from fun W => checkS_any (n : Int) b A c W)
  rw [show chkS (n : Int) b = 0 by unfold chkS; rw [if_neg (by omega), if_neg (by omega)]] at HCK
  have HRE := Lib.hid (show ∀ W, Kept w W → _ from fun W hW => reaches_any _ nm n cap fs F W (hd.kept hW) (hE W (Chg.of_kept hW)).1 hnm)
  rw [hr] at HRE
  have HST := Lib.hid (show ∀ W, Kept w W → _ from fun W hW => stampOf_any (n : Int) b _ W (hb W (Chg.of_kept hW)))
  have HMA := Lib.hid (show ∀ W, _ from fun W => manifest_any n b.length (crc b) W hn (by omega) hcr)
  have HDF := Lib.hid (show ∀ W, Kept w W → _ from fun W hW => dataFile_any (.pointer (some ⟨db, 0, none⟩)) nm n W (goodL_ok hnm).2 (hE W (Chg.of_kept hW)).1 hn)
  have HTF := Lib.hid (show ∀ W, _ from fun W => tmpFile_any (.pointer (some ⟨db, 0, none⟩)) nm W (goodL_ok hnm).2)
  have HRM := Lib.hid (show ∀ v W, Kept w W → Txts W v [datN nm n, tmpN nm] → _ from fun v W hW hv => removeIf_any _ nm [datN nm n, tmpN nm] v cap fs F W (hd.kept hW) (fun g x => Nat.lt_of_lt_of_le (hF g x) hW.size) hv)
  have hl1 : (sav1 nm n fs).length ≤ fs.length := List.length_filter_le ..
  have HWR := Lib.hid (show ∀ (vm : Value) (G : Nat → Prop) W, _ → _ → _ → _ → _ → _ from fun vm G W h1 h2 h3 h4 h5 => write_any (.pointer (some ⟨db, 0, none⟩)) nm n b (man1 n b) (.slice A b.length c) vm cap (sav1 nm n fs) G W h1 h2 h3 h4 h5 hnm hn (by omega))
  rw [saveT_wrt hr]
  have hwz := fun h => wrt_zero (cap := cap) (dn := datN nm n) (tn := tmpN nm) (b := b) (m := man1 n b) (fs := sav1 nm n fs) h
  have HSW := Lib.hid (show ∀ (G : Nat → Prop) W, _ → _ → _ → _ from fun G W h1 h2 h3 => switchTo_any (.pointer (some ⟨db, 0, none⟩)) nm n cap (syncS [datN nm n, tmpN nm] (sav3 nm n b fs)) G W h1 h2 h3 hnm hn (by show hasA (tmpN nm) (sync1 (sync1 (sav3 nm n b fs) (datN nm n)) (tmpN nm)) = true; rw [has_sync]; simp) (ren_good hgood hnm hn))
  have hman : manB n b.length (crc b) = man1 n b := rfl
  rw [hman] at HMA
  unfold stV at HST HMA
  have hs3 : appS (tmpN nm) (man1 n b) (appS (datN nm n) b (sav1 nm n fs)) = sav3 nm n b fs := rfl
  rw [hs3] at hwz
  have h5 : dropF (fun x => !(x == datN nm n) && isDat nm x) (renS (tmpN nm) (manN nm) (syncS [datN nm n, tmpN nm] (sav3 nm n b fs))) = sav5 nm n b fs := rfl
  rw [h5] at HSW
  have hs1 : dropF (fun x => [datN nm n, tmpN nm].contains x) fs = sav1 nm n fs := rfl
  rw [hs1] at HRM
  generalize wrtS cap (datN nm n) (tmpN nm) b (man1 n b) (sav1 nm n fs) = wr at *
  generalize syncS [datN nm n, tmpN nm] (sav3 nm n b fs) = fs4 at *
  generalize sav5 nm n b fs = fs5 at *
  generalize sav1 nm n fs = fs1 at *
  generalize datN nm n = dn at *
  generalize tmpN nm = tn at *
  generalize man1 n b = mb at *
  generalize crc b = cr at *
  have HWZ := Lib.hid hwz
  generalize hres : (if wr.1 = 0 then ((0 : Int), fs5) else wr) = res
  have HRS := Lib.hid hres
  clear hres
  clear hd hF hb hE hgood hman hs3 h5 hs1 hl1 hwz hr hbl
  go_enter Tryz.func10, Tryz.ntmps10
  go_wp2_with fail
  refine HIN.out.mono ?_
  rintro e w1 ⟨rfl, k1⟩
  go_wp2_with fail
  refine (HCK.out w1).mono ?_
  rintro e w2 ⟨rfl, rfl⟩
  have hka := k1.alloc (.cells #[.pointer (some ⟨db, 0, none⟩), .string ⟨nm.toArray⟩] 90)
  have HB1 := Lib.hid (heap_alloc_new w1 (.cells #[.pointer (some ⟨db, 0, none⟩), .string ⟨nm.toArray⟩] 90))
  go_wp2_with fail
  generalize w1.alloc (.cells #[.pointer (some ⟨db, 0, none⟩), .string ⟨nm.toArray⟩] 90) = w3 at *
  refine (HRE.out w3 hka).mono ?_
  rintro e w4 ⟨rfl, k4⟩
  have hk4 := hka.trans k4
  go_wp2_with fail
  refine (HST.out w4 hk4).mono ?_
  rintro e w5 ⟨rfl, k5⟩
  have hk5 := hk4.trans k5
  go_wp2_with fail
  refine (HMA.out w5).mono ?_
  rintro e w6 ⟨vm, rfl, hom, k6⟩
  have hk6 := hk5.trans k6
  have HOM := Lib.hid hom
  obtain ⟨Am, cm, rfl⟩ := own_form hom
  have hbx := ((k4.trans k5).trans k6).block' HB1.out
  have HBX := Lib.hid hbx
  have p0 := cell_at hbx 0
  have p1 := cell_at hbx 1
  simp only [List.getElem?_toArray, List.getElem?_cons_zero, List.getElem?_cons_succ] at p0 p1
  have hsb : w.heap.size ≤ w1.heap.size := k1.size
  have hsb6 : w1.heap.size < w6.heap.size := (Array.getElem?_eq_some_iff.1 hbx).1
  clear hom hbx HB1
  generalize w1.heap.size = sb at *
  go_wp2
  have hKr := (Kept.refl w6).drew
  go_region_held3 (fun W => W.cell? ⟨sb, 0, none⟩ = some (.pointer (some ⟨db, 0, none⟩)) ∧ W.cell? ⟨sb, 1, none⟩ = some (.string ⟨nm.toArray⟩))
    (first | exact ⟨p0, p1⟩ | exact ⟨hq1.cell p0, hq1.cell p1⟩ | exact ⟨hq2.cell p0, hq2.cell p1⟩ | exact ⟨(hq2.alloc _).cell p0, (hq2.alloc _).cell p1⟩ | exact ⟨u0, u1⟩)
    (first
      | (go_at_call 41; refine (HDF.out _ (hk6.trans hKr)).mono ?_; rintro e wa ⟨rfl, hqa⟩; have hq1 : Kept w6 wa := hKr.trans hqa)
      | (go_at_call 42; refine (HTF.out _).mono ?_; rintro e wb ⟨rfl, hqb⟩; have hq2 : Kept w6 wb := hq1.trans hqb)
      | (go_at_call 40; refine (HRM.out _ _ (hk6.trans (hq2.alloc _)) (Txts.fresh2 (F := no) wb dn tn _ (fun x => x) _ (Chg.refl _ _))).mono ?_; rintro e w7 ⟨rfl, hd7, hC7⟩; have hb7 := hC7.block' ((hq2.alloc _).block' HBX.out) (fun x => by have := HFF.out _ x; omega); have u0 := cell_at hb7 0; have u1 := cell_at hb7 1; simp only [List.getElem?_toArray, List.getElem?_cons_zero, List.getElem?_cons_succ] at u0 u1; have HD7 := Lib.hid hd7; have HB7 := Lib.hid hb7; clear hd7 hb7))
  have hsa : (wb.alloc (.cells #[.string ⟨dn.toArray⟩, .string ⟨tn.toArray⟩] 9)).heap.size = wb.heap.size + 1 := by simp
  have s6 := hk6.size
  have s2 := hq2.size
  have s7 := hC7.size
  have hkb := hk6.trans (hq2.alloc (.cells #[.string ⟨dn.toArray⟩, .string ⟨tn.toArray⟩] 9))
  have hq2a := hq2.alloc (.cells #[.string ⟨dn.toArray⟩, .string ⟨tn.toArray⟩] 9)
  have HQ2 := Lib.hid hq2a
  generalize wb.alloc (.cells #[.string ⟨dn.toArray⟩, .string ⟨tn.toArray⟩] 9) = wv at *
  have hCw7 : Chg F w w7 := (Chg.of_kept hkb).trans hC7 (fun g _ x => x)
  have hF7 : ∀ g, ext F wv w7 g → (g < w.heap.size → F g) ∧ g < w7.heap.size ∧ (g < w6.heap.size → F g) := fun g hg => by
    rcases hg with x | x
    · have := HFF.out g x; exact ⟨fun _ => x, by omega, fun _ => x⟩
    · exact ⟨fun _ => by omega, x.2, fun _ => by omega⟩
  have HF7 := Lib.hid hF7
  have hOm7 := own_chg (own_kept HOM.out HQ2.out) hC7 (fun g hg x => by have := own_ge HOM.out g hg; have := HFF.out g x; have := hk5.size; omega)
  have hOm7lt : ∀ g, (Value.slice Am mb.length cm).ownBlock = some g → w.heap.size ≤ g ∧ g < w6.heap.size := fun g hg => ⟨by have := own_ge HOM.out g hg; have := hk5.size; omega, (HOM.out.lt g hg).2⟩
  have HW := Lib.hid (HWR.out (.slice Am mb.length cm) (ext F wv w7) w7 HD7.out (fun g x => (HF7.out g x).2.1) (HBB.out w7 hCw7) (fun W cW => Bts.of_own (own_chg hOm7 cW (fun g hg x => by have h1 := hOm7lt g hg; have := HFF.out g ((HF7.out g x).2.2 h1.2); omega))) (fun W cW => HEE.out W (hCw7.trans cW (fun g hg x => (HF7.out g x).1 hg))))
  clear hF7 hOm7 hOm7lt HWR HRM HMA HST HRE HCK HIN HDF HTF hq2a
  go_wp2_with fail
  refine HW.out.mono ?_
  rintro e w8 ⟨rfl, hd8, hC8⟩
  have s8 := hC8.size
  have hCw8 : Chg F w w8 := hCw7.trans hC8 (fun g hg x => (HF7.out g x).1 hg)
  have HD8 := Lib.hid hd8
  have hb8 := hC8.block' HB7.out (fun x => by have := (HF7.out _ x).2.2 (by omega); have := HFF.out _ this; omega)
  have v0 := cell_at hb8 0
  have v1 := cell_at hb8 1
  simp only [List.getElem?_toArray, List.getElem?_cons_zero, List.getElem?_cons_succ] at v0 v1
  clear hd8 hb8 HW
  obtain ⟨e8, fs8⟩ := wr
  simp only at HD8 HWZ HRS
  by_cases h0 : e8 = 0
  · subst h0
    rw [if_pos rfl] at HRS
    obtain rfl : fs8 = fs4 := by
      have := HWZ.out rfl
      injection this
    have hF8 : ∀ g, ext (ext F wv w7) w7 w8 g → (g < w.heap.size → F g) ∧ g < w8.heap.size := fun g hg => by
      rcases hg with x | x
      · exact ⟨(HF7.out g x).1, by have := (HF7.out g x).2.1; omega⟩
      · exact ⟨fun _ => by omega, x.2⟩
    have HF8 := Lib.hid hF8
    have HS := Lib.hid (HSW.out (ext (ext F wv w7) w7 w8) w8 HD8.out (fun g x => (HF8.out g x).2) (fun W cW => HEE.out W (hCw8.trans cW (fun g hg x => (HF8.out g x).1 hg))))
    clear hF8 HSW
    go_wp2_with fail
    refine HS.out.mono ?_
    rintro e w9 ⟨rfl, hd9, hC9⟩
    have HD9 := Lib.hid hd9
    have s9 := hC9.size
    clear hd9 HS
    go_wp2
    go_ret
    have hr := HRS.out
    subst hr
    refine ⟨rfl, HD9.out.mono (fun g hg => ?_), hCw8.trans hC9 (fun g hg x => (HF8.out g x).1 hg)⟩
    rcases hg with ((x | x) | x) | x
    · exact .inl x
    · exact .inr ⟨by omega, by omega⟩
    · exact .inr ⟨by omega, by omega⟩
    · exact .inr ⟨by omega, by omega⟩
  · rw [if_neg h0] at HRS
    have t0 : (e8 != 0) = true := by simpa using h0
    have t1 : (e8 == 0) = false := by simpa using h0
    clear HWZ
    go_wp2
    go_ret
    have hr := HRS.out
    subst hr
    refine ⟨rfl, HD8.out.mono (fun g hg => ?_), hCw8⟩
    rcases hg with (x | x) | x
    · exact .inl x
    · exact .inr ⟨by omega, by omega⟩
    · exact .inr ⟨by omega, by omega⟩
end Go.Proofs.YtngbgngfdklnlaaGreatDoor
set_option linter.unusedSimpArgs false
set_option linter.unusedVariables false
namespace Go.Proofs.YtngbgngfdklnlaaGreatDoor
open Go.RowKit
theorem crc_leN (b : List UInt8) : crc b ≤ 4611686018427387903 := by unfold crc; omega
section
variable (d : Value) (nm : Nm) (n : Int) (b : List UInt8) (vb : Value) (cap : Nat) (fs : Fls) (F : Nat → Prop) (w : World)
set_option maxRecDepth 100000 in
set_option maxHeartbeats 1000000 in
theorem save_name (hd : Disk w d cap fs F) (hb : Bts w vb b) (hnm : goodL nm = false) :
    Calls Tryz.prog 10 #[d, .string ⟨nm.toArray⟩, .int .i64 n, vb] w fun e w' => e = .returned (.int .i64 40) ∧ Kept w w' := by
  obtain ⟨db, rfl⟩ := hd.form
  have HIN := Lib.hid (isNameS_any nm _ cap fs F w hd)
  rw [hnm] at HIN
  obtain ⟨A, c, rfl⟩ := hb.slice
  clear hd hb
  go_enter Tryz.func10, Tryz.ntmps10
  go_wp2_with fail
  refine HIN.out.mono ?_
  rintro e w1 ⟨rfl, k1⟩
  go_wp2
  go_ret
  exact ⟨rfl, k1⟩
set_option maxRecDepth 100000 in
set_option maxHeartbeats 1000000 in
theorem save_chk (hd : Disk w d cap fs F) (hb : Bts w vb b) (hnm : goodL nm = true) (hc : chkS n b ≠ 0) :
    Calls Tryz.prog 10 #[d, .string ⟨nm.toArray⟩, .int .i64 n, vb] w fun e w' => e = .returned (.int .i64 (chkS n b)) ∧ Kept w w' := by
  obtain ⟨db, rfl⟩ := hd.form
  have HIN := Lib.hid (isNameS_any nm _ cap fs F w hd)
  rw [hnm] at HIN
  obtain ⟨A, c, rfl⟩ := hb.slice
  have HCK := Lib.hid (show ∀ W, _ from fun W => checkS_any n b A c W)
  generalize chkS n b = e0 at *
  have t0 : (e0 != 0) = true := by simpa using hc
  have t1 : (e0 == 0) = false := by simpa using hc
  clear hd hb
  go_enter Tryz.func10, Tryz.ntmps10
  go_wp2_with fail
  refine HIN.out.mono ?_
  rintro e w1 ⟨rfl, k1⟩
  go_wp2_with fail
  refine (HCK.out w1).mono ?_
  rintro e w2 ⟨rfl, rfl⟩
  go_wp2
  go_ret
  exact ⟨rfl, k1⟩
set_option maxRecDepth 100000 in
set_option maxHeartbeats 1000000 in
theorem save_reach (k : Nat) (hd : Disk w d cap fs F) (hT : ∀ W, Kept w W → Tb W) (hb : Bts w vb b) (hnm : goodL nm = true) (hc : chkS (k : Int) b = 0) (hr : reachS nm k fs = true) :
    Calls Tryz.prog 10 #[d, .string ⟨nm.toArray⟩, .int .i64 (k : Int), vb] w fun e w' => e = .returned (.int .i64 41) ∧ Kept w w' := by
  obtain ⟨db, rfl⟩ := hd.form
  have HIN := Lib.hid (isNameS_any nm _ cap fs F w hd)
  rw [hnm] at HIN
  obtain ⟨A, c, rfl⟩ := hb.slice
  have HCK := Lib.hid (show ∀ W, _ from fun W => checkS_any (k : Int) b A c W)
  rw [hc] at HCK
  have HRE := Lib.hid (show ∀ W, Kept w W → _ from fun W hW => reaches_any _ nm k cap fs F W (hd.kept hW) (hT W hW) hnm)
  rw [hr] at HRE
  clear hd hb hc hr hT
  go_enter Tryz.func10, Tryz.ntmps10
  go_wp2_with fail
  refine HIN.out.mono ?_
  rintro e w1 ⟨rfl, k1⟩
  go_wp2_with fail
  refine (HCK.out w1).mono ?_
  rintro e w2 ⟨rfl, rfl⟩
  have hka := k1.alloc (.cells #[.pointer (some ⟨db, 0, none⟩), .string ⟨nm.toArray⟩] 90)
  go_wp2_with fail
  refine (HRE.out _ hka).mono ?_
  rintro e w4 ⟨rfl, k4⟩
  have hk4 := hka.trans k4
  go_wp2
  go_ret
  exact ⟨rfl, hk4⟩
end
theorem save_any (d : Value) (nm : Nm) (n : Int) (b : List UInt8) (vb : Value) (cap : Nat) (fs : Fls) (F : Nat → Prop) (w : World) (hd : Disk w d cap fs F) (hF : ∀ g, F g → g < w.heap.size) (hb : ∀ W, Chg F w W → Bts W vb b) (hE : ∀ W, Chg F w W → Env W) (hlen : fs.length + 2 ≤ 1999999999999) :
    Calls Tryz.prog 10 #[d, .string ⟨nm.toArray⟩, .int .i64 n, vb] w fun e w' => e = .returned (.int .i64 (saveS cap nm n b fs).1) ∧ Disk w' d cap (saveS cap nm n b fs).2 (ext F w w') ∧ Chg F w w' := by
  have still : ∀ (z : Int) (e : Ending) (w' : World), e = .returned (.int .i64 z) ∧ Kept w w' → e = .returned (.int .i64 z) ∧ Disk w' d cap fs (ext F w w') ∧ Chg F w w' := fun z e w' h => ⟨h.1, (hd.kept h.2).mono (fun _ x => .inl x), Chg.of_kept h.2⟩
  have hb0 := hb w (Chg.refl _ w)
  unfold saveS
  by_cases h1 : goodL nm = false
  · rw [if_pos h1]
    exact (save_name d nm n b vb cap fs F w hd hb0 h1).mono (still 40)
  · rw [if_neg h1]
    rw [Bool.not_eq_false] at h1
    by_cases h2 : n < 0 ∨ 4611686018427387903 < n
    · rw [if_pos h2]
      have hc : chkS n b = 10 := by unfold chkS; rw [if_pos h2]
      have := save_chk d nm n b vb cap fs F w hd hb0 h1 (by rw [hc]; decide)
      rw [hc] at this
      exact this.mono (still 10)
    · rw [if_neg h2]
      by_cases h3 : 1048576 < b.length
      · rw [if_pos h3]
        have hc : chkS n b = 14 := by unfold chkS; rw [if_neg h2, if_pos h3]
        have := save_chk d nm n b vb cap fs F w hd hb0 h1 (by rw [hc]; decide)
        rw [hc] at this
        exact this.mono (still 14)
      · rw [if_neg h3]
        obtain ⟨k, rfl⟩ := Int.eq_ofNat_of_zero_le (show 0 ≤ n by omega)
        rw [show ((k : Nat) : Int).toNat = k by simp]
        have hc : chkS (k : Int) b = 0 := by unfold chkS; rw [if_neg h2, if_neg h3]
        cases hr : reachS nm k fs with
        | true =>
          have e : saveT cap nm k b fs = (41, fs) := by unfold saveT; rw [if_pos hr]
          rw [e]
          exact (save_reach d nm b vb cap fs F w k hd (fun W hW => (hE W (Chg.of_kept hW)).1) hb0 h1 hc hr).mono (still 41)
        | false => exact save_new d nm k b vb cap fs F w hd hF hb hE h1 (by omega) (by omega) (crc_leN b) hlen hr
end Go.Proofs.YtngbgngfdklnlaaGreatDoor
set_option linter.unusedSimpArgs false
set_option linter.unusedVariables false
namespace Go.Proofs.YtngbgngfdklnlaaGreatDoor
open Go.RowKit
theorem save_dk (d : Value) (nm : Nm) (n : Int) (b : List UInt8) (vb : Value) (cap : Nat) (fs : Fls) (w0 w w1 : World) (h : DK w0 w d cap fs) (hk : Kept w w1) (hb : ∀ W, Chg (mid w0 w) w1 W → Bts W vb b) (hE : Env w0) (hlen : fs.length + 2 ≤ 1999999999999) :
    Calls Tryz.prog 10 #[d, .string ⟨nm.toArray⟩, .int .i64 n, vb] w1 fun e w' => e = .returned (.int .i64 (saveS cap nm n b fs).1) ∧ DK w0 w' d cap (saveS cap nm n b fs).2 ∧ Chg (mid w0 w) w1 w' :=
  (save_any d nm n b vb cap fs (mid w0 w) w1 (h.1.tight.kept hk) (fun g x => by have := x.2; have := hk.size; omega) hb (fun W c => hE.kept (c.kept (h.2.trans hk) (fun _ x => x.1))) hlen).mono fun _ _ ⟨h1, h2, h3⟩ => ⟨h1, h.out hk h2 h3, h3⟩
theorem load_dk (d : Value) (nm : Nm) (cap : Nat) (fs : Fls) (w0 w : World) (h : DK w0 w d cap fs) (hE : Env w0) (hnm : goodL nm = true) :
    Calls Tryz.prog 19 #[d, .string ⟨nm.toArray⟩] w fun e w' => ∃ v, e = .returned (.tuple #[.int .i64 (((loadS nm fs).getD (0, [])).1 : Nat), v, .bool (loadS nm fs).isSome, .int .i64 0]) ∧ w'.ownsRow w.heap.size 5 1 v ((loadS nm fs).getD (0, [])).2.length (Lib.byteCells ((loadS nm fs).getD (0, [])).2) ∧ Kept w w' :=
  load_any d nm cap fs _ w h.1 (hE.kept h.2).1 hnm
/-- A row of the call's own is not the disk's. -/
theorem own_apart {w0 w w1 W : World} {b n : Nat} {v : Value} {l : List UInt8} (h : w1.ownsRow b 5 1 v n (Lib.byteCells l)) (hb : w.heap.size ≤ b) (c : Chg (mid w0 w) w1 W) : Bts W v l := Bts.of_own (own_chg h c (fun g hg x => by have := own_ge h g hg; have := x.2; omega))
theorem bts_nil (W : World) : Bts W (.slice none 0 0) [] := ⟨none, 0, rfl, Nat.le_refl _, by decide, fun h => absurd h (by simp)⟩
/-- The name of the statements' snapshots. -/
def sNm : Nm := [115]
theorem good_s : goodL sNm = true := by decide
theorem saveS_s {cap : Nat} {k : Nat} {b : List UInt8} {fs : Fls} (hk : k ≤ 4611686018427387903) (hb : b.length ≤ 1048576) : saveS cap sNm (k : Int) b fs = saveT cap sNm k b fs := by
  unfold saveS
  rw [if_neg (by rw [good_s]; decide), if_neg (by omega), if_neg (by omega)]
  rfl
theorem saveS_long {cap : Nat} {k : Nat} {b : List UInt8} {fs : Fls} (hk : k ≤ 4611686018427387903) (hb : 1048576 < b.length) : saveS cap sNm (k : Int) b fs = (14, fs) := by
  unfold saveS
  rw [if_neg (by rw [good_s]; decide), if_neg (by omega), if_pos hb]
theorem saveT_zero {cap : Nat} {nm : Nm} {k : Nat} {b : List UInt8} {fs : Fls} (h : (saveT cap nm k b fs).1 = 0) : (saveT cap nm k b fs).2 = sav5 nm k b fs := by
  revert h
  unfold saveT
  split
  · intro h; cases h
  · split
    · intro h; cases h
    · split
      · intro h; cases h
      · exact fun _ => rfl
/-- Saved on an empty disk with room enough. -/
theorem save_first {cap : Nat} {k : Nat} {b : List UInt8} (h : 35 + b.length ≤ cap) : (saveT cap sNm k b []).1 = 0 := by
  have e1 : sav1 sNm k [] = [] := rfl
  have e2 : reachS sNm k [] = false := rfl
  have e3 : used ([] : Fls) = 0 := rfl
  have e4 : used (appS (datN sNm k) b []) = b.length := by rw [appS_nil]; simp [used]
  have e5 : (man1 k b).length ≤ 35 := manB_len _ _ _
  unfold saveT
  rw [if_neg (by simp [e2]), e1, e3, if_neg (by omega), e4, if_neg (by omega)]
set_option maxRecDepth 100000 in
set_option maxHeartbeats 4000000 in
theorem awake_any (w : World) (hE : Env w) : Calls Tryz.prog 8 #[] w fun e w' => e = .returned (.bool true) ∧ Kept w w' := by
  have HE := Lib.hid hE
  have HN := Lib.hid (new_dk 999 w w (Kept.refl w) (by omega))
  have kc := fun (w : World) (C : Array Value) (n c : Nat) => Lib.run_convert_bytes_const (P := Tryz.prog) w 32 5 C n c Tryz.underlying32 Tryz.underlying5
  have hsv : saveS 999 sNm ((1 : Nat) : Int) [111, 110, 101] [] = saveT 999 sNm 1 [111, 110, 101] [] := saveS_s (by omega) (by simp)
  have hs0 := save_first (cap := 999) (k := 1) (b := [111, 110, 101]) (by simp)
  have hst := saveT_zero hs0
  have hsf := sav5_safe (b := [111, 110, 101]) (n := 1) (fs := []) ⟨List.Pairwise.nil, fun p hp => by simp at hp⟩ good_s (by omega)
  have hld := hsf.load (by omega) (by simp) (crc_leN _)
  have HSV := Lib.hid (show ∀ d w2 w3 vb, DK w w2 d 999 [] → Kept w2 w3 → (∀ W, Chg (mid w w2) w3 W → Bts W vb [111, 110, 101]) → _ from fun d w2 w3 vb h1 h2 h3 => save_dk d sNm ((1 : Nat) : Int) [111, 110, 101] vb 999 [] w w2 w3 h1 h2 h3 hE (by simp))
  rw [hsv, hs0, hst] at HSV
  have HLD := Lib.hid (show ∀ d w2, DK w w2 d 999 (sav5 sNm 1 [111, 110, 101] []) → _ from fun d w2 h => load_dk d sNm 999 _ w w2 h hE good_s)
  rw [hld] at HLD
  simp only [Option.getD_some, Option.isSome_some] at HLD
  generalize sav5 sNm 1 [111, 110, 101] [] = fs1 at *
  have hnm : (⟨sNm.toArray⟩ : ByteArray) = ⟨#[115]⟩ := rfl
  rw [hnm] at HSV HLD
  clear hsv hs0 hst hsf hld hE hnm
  go_enter Tryz.func8, Tryz.ntmps8
  go_wp2_with fail
  refine HN.out.mono ?_
  rintro e w1 ⟨db, rfl, h1⟩
  have H1 := Lib.hid h1
  have HBT := Lib.hid (show ∀ W, Chg (mid w w1) (w1.alloc (.cells #[.int .u8 111, .int .u8 110, .int .u8 101] 5 (3, 4))) W → Bts W (.slice (some ⟨w1.heap.size, 0, none⟩) 3 3) [111, 110, 101] from fun W c => by
    refine ⟨_, 3, rfl, Nat.le_refl _, by decide, fun _ => ⟨_, 0, rfl, fun k x hx => ?_⟩⟩
    rw [cell_at (mid_kept c)]
    match k, hx with
    | 0, hx =>
      obtain rfl : (111 : UInt8) = x := by simpa using hx
      rfl
    | 1, hx =>
      obtain rfl : (110 : UInt8) = x := by simpa using hx
      rfl
    | 2, hx =>
      obtain rfl : (101 : UInt8) = x := by simpa using hx
      rfl)
  clear h1
  go_wp2_with fail
  refine (HSV.out _ w1 _ _ H1.out ((Kept.refl w1).alloc _) HBT.out).mono ?_
  rintro e w2 ⟨rfl, h2, -⟩
  have H2 := Lib.hid h2
  clear h2 HBT
  go_wp2_with fail
  refine (HLD.out _ w2 H2.out).mono ?_
  rintro e w3 ⟨v3, rfl, ho3, k3⟩
  have hc := conv_run (Bts.of_own ho3)
  obtain ⟨A3, c3, rfl⟩ := own_form ho3
  have hc : (convert 32 9 (.slice A3 3 c3)).run Tryz.prog w3 = .ok (.string ⟨#[111, 110, 101]⟩) w3 := hc
  have hK := H2.out.2.trans k3
  clear ho3
  go_wp2
  go_ret
  exact ⟨rfl, hK⟩
end Go.Proofs.YtngbgngfdklnlaaGreatDoor
