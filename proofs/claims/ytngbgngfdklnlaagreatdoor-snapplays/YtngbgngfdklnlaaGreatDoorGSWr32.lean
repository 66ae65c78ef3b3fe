/- The walk of write: no room for the data; none for the manifest; room. The walk of switchTo. -/
import Derived.Test.YtngbgngfdklnlaaGreatDoorGSRem3
set_option linter.unusedSimpArgs false
set_option linter.unusedVariables false
namespace Go.Proofs.YtngbgngfdklnlaaGreatDoor
open Go.RowKit
theorem Bts.slice {w : World} {v : Value} {l : List UInt8} (h : Bts w v l) : ∃ A c, v = .slice A l.length c := h.form
set_option maxRecDepth 100000 in
set_option maxHeartbeats 8000000 in
theorem write_full (d : Value) (nm : Nm) (n : Nat) (b : List UInt8) (vb vm : Value) (A2 : Option Addr) (n2 c2 : Nat) (hvm : vm = .slice A2 n2 c2) (cap : Nat) (fs : Fls) (F : Nat → Prop) (w : World) (hd : Disk w d cap fs F) (hF : ∀ g, F g → g < w.heap.size) (hb : Bts w vb b) (hE : ∀ W, Chg F w W → Env W) (hnm : goodL nm = true) (hn : n ≤ 4611686018427387903) (hlen : fs.length + 2 ≤ 1999999999999) (h1 : cap < used fs + b.length) :
    Calls Tryz.prog 43 #[.agg #[d, .string ⟨nm.toArray⟩], .int .i64 (n : Int), vb, vm] w fun e w' => e = .returned (.int .i64 32) ∧ Disk w' d cap fs (ext F w w') ∧ Chg F w w' := by
  subst hvm
  obtain ⟨db, rfl⟩ := hd.form
  have hk0 := (Kept.refl w).alloc (.cells #[.pointer (some ⟨db, 0, none⟩), .string ⟨nm.toArray⟩] 90)
  have HFF := Lib.hid hF
  have HDF := Lib.hid (show ∀ W, Kept w W → _ from fun W hW => dataFile_any (.pointer (some ⟨db, 0, none⟩)) nm n W (goodL_ok hnm).2 (hE W (Chg.of_kept hW)).1 hn)
  have HAP := Lib.hid (show ∀ W, Kept w W → _ from fun W hW => append_any (datN nm n) b vb _ cap fs F W (hd.kept hW) (hb.kept hW) (by omega))
  rw [okA_ok b fs (okN_dat hnm n hn), if_pos h1, if_neg (by decide)] at HAP
  obtain ⟨A, c, rfl⟩ := hb.slice
  generalize datN nm n = dn at *
  clear hd hF hb hE
  go_enter Tryz.func43, Tryz.ntmps43
  go_wp2
  have hb0 := heap_alloc_new w (.cells #[.pointer (some ⟨db, 0, none⟩), .string ⟨nm.toArray⟩] 90)
  have HB0 := Lib.hid hb0
  have p0 := cell_at hb0 0
  have p1 := cell_at hb0 1
  simp only [List.getElem?_toArray, List.getElem?_cons_zero, List.getElem?_cons_succ] at p0 p1
  clear hb0
  generalize w.alloc (.cells #[.pointer (some ⟨db, 0, none⟩), .string ⟨nm.toArray⟩] 90) = w1 at *
  have hKr := (Kept.refl w1).drew
  go_region_held3 (fun W => W.cell? ⟨w.heap.size, 0, none⟩ = some (.pointer (some ⟨db, 0, none⟩)) ∧ W.cell? ⟨w.heap.size, 1, none⟩ = some (.string ⟨nm.toArray⟩))
    (first | exact ⟨p0, p1⟩ | exact ⟨hq1.cell p0, hq1.cell p1⟩ | exact ⟨u0, u1⟩)
    (first
      | (go_at_call 41; refine (HDF.out _ (hk0.trans hKr)).mono ?_; rintro e wc ⟨rfl, hqc⟩; have hq1 : Kept w1 wc := hKr.trans hqc)
      | (go_at_call 15; refine (HAP.out _ (hk0.trans hq1)).mono ?_; rintro e w3 ⟨rfl, hd3, hC3⟩; have hb3 := hC3.block' (hq1.block' HB0.out) (fun x => Nat.lt_irrefl _ (HFF.out _ x)); have u0 := cell_at hb3 0; have u1 := cell_at hb3 1; simp only [List.getElem?_toArray, List.getElem?_cons_zero, List.getElem?_cons_succ] at u0 u1; have HD3 := Lib.hid hd3; have HB3 := Lib.hid hb3; clear hd3 hb3))
  go_wp2
  go_ret
  exact ⟨rfl, HD3.out.wide (hk0.trans hq1).size, (Chg.of_kept (hk0.trans hq1)).trans hC3 (fun g _ x => x)⟩
set_option maxRecDepth 100000 in
set_option maxHeartbeats 8000000 in
theorem write_man (d : Value) (nm : Nm) (n : Nat) (b m : List UInt8) (vb vm : Value) (cap : Nat) (fs : Fls) (F : Nat → Prop) (w : World) (hd : Disk w d cap fs F) (hF : ∀ g, F g → g < w.heap.size) (hb : Bts w vb b) (hm : ∀ W, Chg F w W → Bts W vm m) (hE : ∀ W, Chg F w W → Env W) (hnm : goodL nm = true) (hn : n ≤ 4611686018427387903) (hlen : fs.length + 2 ≤ 1999999999999) (h1 : used fs + b.length ≤ cap) (h2 : cap < used (appS (datN nm n) b fs) + m.length) :
    Calls Tryz.prog 43 #[.agg #[d, .string ⟨nm.toArray⟩], .int .i64 (n : Int), vb, vm] w fun e w' => e = .returned (.int .i64 32) ∧ Disk w' d cap (cutA (datN nm n) (appS (datN nm n) b fs)) (ext F w w') ∧ Chg F w w' := by
  obtain ⟨db, rfl⟩ := hd.form
  have hk0 := (Kept.refl w).alloc (.cells #[.pointer (some ⟨db, 0, none⟩), .string ⟨nm.toArray⟩] 90)
  have HFF := Lib.hid hF
  have HDF := Lib.hid (show ∀ W, Chg F w W → _ from fun W hW => dataFile_any (.pointer (some ⟨db, 0, none⟩)) nm n W (goodL_ok hnm).2 (hE W hW).1 hn)
  have HTF := Lib.hid (show ∀ W, _ from fun W => tmpFile_any (.pointer (some ⟨db, 0, none⟩)) nm W (goodL_ok hnm).2)
  have HAP := Lib.hid (show ∀ W, Kept w W → _ from fun W hW => append_any (datN nm n) b vb _ cap fs F W (hd.kept hW) (hb.kept hW) (by omega))
  rw [okA_ok b fs (okN_dat hnm n hn), if_neg (by omega), if_pos rfl] at HAP
  have HAQ := Lib.hid (show ∀ (G : Nat → Prop) W, _ → _ → _ from fun G W h1 h2 => append_any (tmpN nm) m vm (.pointer (some ⟨db, 0, none⟩)) cap (appS (datN nm n) b fs) G W h1 h2 (by have := app_len (datN nm n) b fs; omega))
  rw [okA_ok m _ (okN_tmp hnm), if_pos h2, if_neg (by decide)] at HAQ
  have HRE := Lib.hid (show ∀ (v : Value) (G : Nat → Prop) W, _ → _ → _ from fun v G W h1 h2 => remove_any [datN nm n] v (.pointer (some ⟨db, 0, none⟩)) cap (appS (datN nm n) b fs) G W h1 h2)
  rw [all_one (okN_dat hnm n hn) (by rw [has_app]; simp), if_pos rfl, show remS [datN nm n] (appS (datN nm n) b fs) = cutA (datN nm n) (appS (datN nm n) b fs) from rfl] at HRE
  have HM := Lib.hid hm
  obtain ⟨A, c, rfl⟩ := hb.slice
  obtain ⟨A2, c2, hvm⟩ := (hm w (Chg.refl _ w)).slice
  subst hvm
  generalize hap : appS (datN nm n) b fs = fs2 at *
  generalize datN nm n = dn at *
  generalize tmpN nm = tn at *
  clear hd hF hb hE hm hap
  go_enter Tryz.func43, Tryz.ntmps43
  go_wp2
  have hb0 := heap_alloc_new w (.cells #[.pointer (some ⟨db, 0, none⟩), .string ⟨nm.toArray⟩] 90)
  have HB0 := Lib.hid hb0
  have hz : (w.alloc (.cells #[.pointer (some ⟨db, 0, none⟩), .string ⟨nm.toArray⟩] 90)).heap.size = w.heap.size + 1 := by simp
  have p0 := cell_at hb0 0
  have p1 := cell_at hb0 1
  simp only [List.getElem?_toArray, List.getElem?_cons_zero, List.getElem?_cons_succ] at p0 p1
  clear hb0
  generalize w.alloc (.cells #[.pointer (some ⟨db, 0, none⟩), .string ⟨nm.toArray⟩] 90) = w1 at *
  have hKr := (Kept.refl w1).drew
  go_region_held3 (fun W => W.cell? ⟨w.heap.size, 0, none⟩ = some (.pointer (some ⟨db, 0, none⟩)) ∧ W.cell? ⟨w.heap.size, 1, none⟩ = some (.string ⟨nm.toArray⟩))
    (first | exact ⟨p0, p1⟩ | exact ⟨hq1.cell p0, hq1.cell p1⟩ | exact ⟨u0, u1⟩)
    (first
      | (go_at_call 41; refine (HDF.out _ (Chg.of_kept (hk0.trans hKr))).mono ?_; rintro e wc ⟨rfl, hqc⟩; have hq1 : Kept w1 wc := hKr.trans hqc)
      | (go_at_call 15; refine (HAP.out _ (hk0.trans hq1)).mono ?_; rintro e w3 ⟨rfl, hd3, hC3⟩; have hb3 := hC3.block' (hq1.block' HB0.out) (fun x => Nat.lt_irrefl _ (HFF.out _ x)); have u0 := cell_at hb3 0; have u1 := cell_at hb3 1; simp only [List.getElem?_toArray, List.getElem?_cons_zero, List.getElem?_cons_succ] at u0 u1; have HD3 := Lib.hid hd3; have HB3 := Lib.hid hb3; clear hd3 hb3))
  have hCw3 : Chg F w w3 := (Chg.of_kept (hk0.trans hq1)).trans hC3 (fun g _ x => x)
  have hF3 : ∀ g, ext F wc w3 g → g ≠ w.heap.size ∧ g < w3.heap.size := fun g hg => by
    have h1 := hq1.size
    have h2 := hC3.size
    rcases hg with x | x
    · have := HFF.out g x; omega
    · omega
  have HF3 := Lib.hid hF3
  clear hF3
  go_wp2
  have hKr3 := (Kept.refl w3).drew
  go_region_held3 (fun W => W.cell? ⟨w.heap.size, 0, none⟩ = some (.pointer (some ⟨db, 0, none⟩)) ∧ W.cell? ⟨w.heap.size, 1, none⟩ = some (.string ⟨nm.toArray⟩))
    (first | exact ⟨u0, u1⟩ | exact ⟨hq3.cell u0, hq3.cell u1⟩ | exact ⟨y0, y1⟩)
    (first
      | (go_at_call 42; refine (HTF.out _).mono ?_; rintro e w4 ⟨rfl, hqc3⟩; have hq3 : Kept w3 w4 := hKr3.trans hqc3)
      | (go_at_call 15; refine (HAQ.out (ext F wc w3) _ (HD3.out.kept hq3) (HM.out _ (hCw3.then_kept hq3))).mono ?_; rintro e w5 ⟨rfl, hd5, hC5⟩; have hb5 := hC5.block' (hq3.block' HB3.out) (fun x => (HF3.out _ x).1 rfl); have y0 := cell_at hb5 0; have y1 := cell_at hb5 1; simp only [List.getElem?_toArray, List.getElem?_cons_zero, List.getElem?_cons_succ] at y0 y1; have HD5 := Lib.hid hd5; have HB5 := Lib.hid hb5; clear hd5 hb5))
  have hCw5 : Chg F w w5 := hCw3.trans ((Chg.of_kept hq3).trans hC5 (fun g _ x => x)) (fun g hg x => by
    rcases x with x | x
    · exact x
    · have := hq1.size; have := hk0.size; omega)
  have hF5 : ∀ g, ext (ext F wc w3) w4 w5 g → g ≠ w.heap.size ∧ g < w5.heap.size := fun g hg => by
    have h1 := hq3.size
    have h2 := hC5.size
    have h3 := hC3.size
    have h4 := hq1.size
    rcases hg with x | x
    · have := HF3.out g x; omega
    · omega
  have HF5 := Lib.hid hF5
  clear hF5
  go_wp2
  have hKr5 := (Kept.refl w5).drew
  go_region_held3 (fun W => W.cell? ⟨w.heap.size, 0, none⟩ = some (.pointer (some ⟨db, 0, none⟩)) ∧ W.cell? ⟨w.heap.size, 1, none⟩ = some (.string ⟨nm.toArray⟩))
    (first | exact ⟨y0, y1⟩ | exact ⟨hq5.cell y0, hq5.cell y1⟩ | exact ⟨(hq5.alloc _).cell y0, (hq5.alloc _).cell y1⟩ | exact ⟨z0, z1⟩)
    (first
      | (go_at_call 41; refine (HDF.out _ (hCw5.then_kept hKr5)).mono ?_; rintro e w6 ⟨rfl, hqc5⟩; have hq5 : Kept w5 w6 := hKr5.trans hqc5)
      | (go_at_call 17; refine (HRE.out _ (ext (ext F wc w3) w4 w5) _ (HD5.out.kept (hq5.alloc _)) (Txts.fresh1 w6 dn _ (fun x => by have := (HF5.out _ x).2; have := hq5.size; omega))).mono ?_; rintro e w7 ⟨rfl, hd7, hC7⟩; have hb7 := hC7.block' ((hq5.alloc _).block' HB5.out) (fun x => (HF5.out _ x).1 rfl); have z0 := cell_at hb7 0; have z1 := cell_at hb7 1; simp only [List.getElem?_toArray, List.getElem?_cons_zero, List.getElem?_cons_succ] at z0 z1; have HD7 := Lib.hid hd7; clear hd7 hb7))
  have hsa : (w6.alloc (.cells #[.string ⟨dn.toArray⟩] 9)).heap.size = w6.heap.size + 1 := by simp
  go_wp2
  go_ret
  have s1 := hk0.size
  have s2 := hq1.size
  have s3 := hC3.size
  have s4 := hq3.size
  have s5 := hC5.size
  have s6 := hq5.size
  have s7 := hC7.size
  refine ⟨rfl, HD7.out.mono (fun g hg => ?_), hCw5.trans ((Chg.of_kept (hq5.alloc _)).trans hC7 (fun g _ x => x)) (fun g hg x => ?_)⟩
  · rcases hg with ((x | x) | x) | x
    · exact .inl x
    · exact .inr ⟨by omega, by omega⟩
    · exact .inr ⟨by omega, by omega⟩
    · exact .inr ⟨by omega, by omega⟩
  · rcases x with (x | x) | x
    · exact x
    · omega
    · omega
set_option maxRecDepth 100000 in
set_option maxHeartbeats 8000000 in
theorem write_ok (d : Value) (nm : Nm) (n : Nat) (b m : List UInt8) (vb vm : Value) (cap : Nat) (fs : Fls) (F : Nat → Prop) (w : World) (hd : Disk w d cap fs F) (hF : ∀ g, F g → g < w.heap.size) (hb : Bts w vb b) (hm : ∀ W, Chg F w W → Bts W vm m) (hE : ∀ W, Chg F w W → Env W) (hnm : goodL nm = true) (hn : n ≤ 4611686018427387903) (hlen : fs.length + 2 ≤ 1999999999999) (h1 : used fs + b.length ≤ cap) (h2 : used (appS (datN nm n) b fs) + m.length ≤ cap) :
    Calls Tryz.prog 43 #[.agg #[d, .string ⟨nm.toArray⟩], .int .i64 (n : Int), vb, vm] w fun e w' => e = .returned (.int .i64 0) ∧ Disk w' d cap (syncS [datN nm n, tmpN nm] (appS (tmpN nm) m (appS (datN nm n) b fs))) (ext F w w') ∧ Chg F w w' := by
  obtain ⟨db, rfl⟩ := hd.form
  have hk0 := (Kept.refl w).alloc (.cells #[.pointer (some ⟨db, 0, none⟩), .string ⟨nm.toArray⟩] 90)
  have HFF := Lib.hid hF
  have HDF := Lib.hid (show ∀ W, Chg F w W → _ from fun W hW => dataFile_any (.pointer (some ⟨db, 0, none⟩)) nm n W (goodL_ok hnm).2 (hE W hW).1 hn)
  have HTF := Lib.hid (show ∀ W, _ from fun W => tmpFile_any (.pointer (some ⟨db, 0, none⟩)) nm W (goodL_ok hnm).2)
  have HAP := Lib.hid (show ∀ W, Kept w W → _ from fun W hW => append_any (datN nm n) b vb _ cap fs F W (hd.kept hW) (hb.kept hW) (by omega))
  rw [okA_ok b fs (okN_dat hnm n hn), if_neg (by omega), if_pos rfl] at HAP
  have HAQ := Lib.hid (show ∀ (G : Nat → Prop) W, _ → _ → _ from fun G W h1 h2 => append_any (tmpN nm) m vm (.pointer (some ⟨db, 0, none⟩)) cap (appS (datN nm n) b fs) G W h1 h2 (by have := app_len (datN nm n) b fs; omega))
  rw [okA_ok m _ (okN_tmp hnm), if_neg (by omega), if_pos rfl] at HAQ
  have HSY := Lib.hid (show ∀ (v : Value) (G : Nat → Prop) W, _ → _ → _ from fun v G W h1 h2 => sync_any [datN nm n, tmpN nm] v (.pointer (some ⟨db, 0, none⟩)) cap (appS (tmpN nm) m (appS (datN nm n) b fs)) G W h1 h2)
  rw [all_two (okN_dat hnm n hn) (okN_tmp hnm) (by rw [has_app, has_app]; simp) (by rw [has_app]; simp), if_pos rfl] at HSY
  have HM := Lib.hid hm
  obtain ⟨A, c, rfl⟩ := hb.slice
  obtain ⟨A2, c2, hvm⟩ := (hm w (Chg.refl _ w)).slice
  subst hvm
  generalize hap : appS (datN nm n) b fs = fs2 at *
  generalize datN nm n = dn at *
  generalize tmpN nm = tn at *
  clear hd hF hb hE hm hap
  go_enter Tryz.func43, Tryz.ntmps43
  go_wp2
  have hb0 := heap_alloc_new w (.cells #[.pointer (some ⟨db, 0, none⟩), .string ⟨nm.toArray⟩] 90)
  have HB0 := Lib.hid hb0
  have hz : (w.alloc (.cells #[.pointer (some ⟨db, 0, none⟩), .string ⟨nm.toArray⟩] 90)).heap.size = w.heap.size + 1 := by simp
  have p0 := cell_at hb0 0
  have p1 := cell_at hb0 1
  simp only [List.getElem?_toArray, List.getElem?_cons_zero, List.getElem?_cons_succ] at p0 p1
  clear hb0
  generalize w.alloc (.cells #[.pointer (some ⟨db, 0, none⟩), .string ⟨nm.toArray⟩] 90) = w1 at *
  have hKr := (Kept.refl w1).drew
  go_region_held3 (fun W => W.cell? ⟨w.heap.size, 0, none⟩ = some (.pointer (some ⟨db, 0, none⟩)) ∧ W.cell? ⟨w.heap.size, 1, none⟩ = some (.string ⟨nm.toArray⟩))
    (first | exact ⟨p0, p1⟩ | exact ⟨hq1.cell p0, hq1.cell p1⟩ | exact ⟨u0, u1⟩)
    (first
      | (go_at_call 41; refine (HDF.out _ (Chg.of_kept (hk0.trans hKr))).mono ?_; rintro e wc ⟨rfl, hqc⟩; have hq1 : Kept w1 wc := hKr.trans hqc)
      | (go_at_call 15; refine (HAP.out _ (hk0.trans hq1)).mono ?_; rintro e w3 ⟨rfl, hd3, hC3⟩; have hb3 := hC3.block' (hq1.block' HB0.out) (fun x => Nat.lt_irrefl _ (HFF.out _ x)); have u0 := cell_at hb3 0; have u1 := cell_at hb3 1; simp only [List.getElem?_toArray, List.getElem?_cons_zero, List.getElem?_cons_succ] at u0 u1; have HD3 := Lib.hid hd3; have HB3 := Lib.hid hb3; clear hd3 hb3))
  have hCw3 : Chg F w w3 := (Chg.of_kept (hk0.trans hq1)).trans hC3 (fun g _ x => x)
  have hF3 : ∀ g, ext F wc w3 g → g ≠ w.heap.size ∧ g < w3.heap.size := fun g hg => by
    have h1 := hq1.size
    have h2 := hC3.size
    rcases hg with x | x
    · have := HFF.out g x; omega
    · omega
  have HF3 := Lib.hid hF3
  clear hF3
  go_wp2
  have hKr3 := (Kept.refl w3).drew
  go_region_held3 (fun W => W.cell? ⟨w.heap.size, 0, none⟩ = some (.pointer (some ⟨db, 0, none⟩)) ∧ W.cell? ⟨w.heap.size, 1, none⟩ = some (.string ⟨nm.toArray⟩))
    (first | exact ⟨u0, u1⟩ | exact ⟨hq3.cell u0, hq3.cell u1⟩ | exact ⟨y0, y1⟩)
    (first
      | (go_at_call 42; refine (HTF.out _).mono ?_; rintro e w4 ⟨rfl, hqc3⟩; have hq3 : Kept w3 w4 := hKr3.trans hqc3)
      | (go_at_call 15; refine (HAQ.out (ext F wc w3) _ (HD3.out.kept hq3) (HM.out _ (hCw3.then_kept hq3))).mono ?_; rintro e w5 ⟨rfl, hd5, hC5⟩; have hb5 := hC5.block' (hq3.block' HB3.out) (fun x => (HF3.out _ x).1 rfl); have y0 := cell_at hb5 0; have y1 := cell_at hb5 1; simp only [List.getElem?_toArray, List.getElem?_cons_zero, List.getElem?_cons_succ] at y0 y1; have HD5 := Lib.hid hd5; have HB5 := Lib.hid hb5; clear hd5 hb5))
  have hCw5 : Chg F w w5 := hCw3.trans ((Chg.of_kept hq3).trans hC5 (fun g _ x => x)) (fun g hg x => by
    rcases x with x | x
    · exact x
    · have := hq1.size; have := hk0.size; omega)
  have hF5 : ∀ g, ext (ext F wc w3) w4 w5 g → g ≠ w.heap.size ∧ g < w5.heap.size := fun g hg => by
    have h1 := hq3.size
    have h2 := hC5.size
    have h3 := hC3.size
    have h4 := hq1.size
    rcases hg with x | x
    · have := HF3.out g x; omega
    · omega
  have HF5 := Lib.hid hF5
  clear hF5
  go_wp2
  have hKr5 := (Kept.refl w5).drew
  go_region_held3 (fun W => W.cell? ⟨w.heap.size, 0, none⟩ = some (.pointer (some ⟨db, 0, none⟩)) ∧ W.cell? ⟨w.heap.size, 1, none⟩ = some (.string ⟨nm.toArray⟩))
    (first | exact ⟨y0, y1⟩ | exact ⟨hq5.cell y0, hq5.cell y1⟩ | exact ⟨hq6.cell y0, hq6.cell y1⟩ | exact ⟨(hq6.alloc _).cell y0, (hq6.alloc _).cell y1⟩ | exact ⟨z0, z1⟩)
    (first
      | (go_at_call 41; refine (HDF.out _ (hCw5.then_kept hKr5)).mono ?_; rintro e w6 ⟨rfl, hqc5⟩; have hq5 : Kept w5 w6 := hKr5.trans hqc5)
      | (go_at_call 42; refine (HTF.out _).mono ?_; rintro e w8 ⟨rfl, hqc6⟩; have hq6 : Kept w5 w8 := hq5.trans hqc6)
      | (go_at_call 90; refine (HSY.out _ (ext (ext F wc w3) w4 w5) _ (HD5.out.kept (hq6.alloc _)) (Txts.fresh2 w8 dn tn _ (fun x => by have := (HF5.out _ x).2; have := hq6.size; omega))).mono ?_; rintro e w7 ⟨rfl, hd7, hC7⟩; have hb7 := hC7.block' ((hq6.alloc _).block' HB5.out) (fun x => (HF5.out _ x).1 rfl); have z0 := cell_at hb7 0; have z1 := cell_at hb7 1; simp only [List.getElem?_toArray, List.getElem?_cons_zero, List.getElem?_cons_succ] at z0 z1; have HD7 := Lib.hid hd7; clear hd7 hb7))
  have hsa : (w8.alloc (.cells #[.string ⟨dn.toArray⟩, .string ⟨tn.toArray⟩] 9)).heap.size = w8.heap.size + 1 := by simp
  go_wp2
  go_ret
  have s1 := hk0.size
  have s2 := hq1.size
  have s3 := hC3.size
  have s4 := hq3.size
  have s5 := hC5.size
  have s6 := hq6.size
  have s7 := hC7.size
  refine ⟨rfl, HD7.out.mono (fun g hg => ?_), hCw5.trans ((Chg.of_kept (hq6.alloc _)).trans hC7 (fun g _ x => x)) (fun g hg x => ?_)⟩
  · rcases hg with ((x | x) | x) | x
    · exact .inl x
    · exact .inr ⟨by omega, by omega⟩
    · exact .inr ⟨by omega, by omega⟩
    · exact .inr ⟨by omega, by omega⟩
  · rcases x with (x | x) | x
    · exact x
    · omega
    · omega
end Go.Proofs.YtngbgngfdklnlaaGreatDoor
set_option linter.unusedSimpArgs false
set_option linter.unusedVariables false
namespace Go.Proofs.YtngbgngfdklnlaaGreatDoor
open Go.RowKit
set_option maxRecDepth 100000 in
set_option maxHeartbeats 4000000 in
theorem clos2_any (b1 b2 : Nat) (d : Value) (nm dn x : Nm) (w : World) (hnl : nm.length ≤ 12) (hE : Env w) (hx : x.length ≤ 40) (c1 : w.cell? ⟨b1, 0, none⟩ = some (.string ⟨dn.toArray⟩)) (c2 : w.cell? ⟨b2, 0, none⟩ = some d) (c3 : w.cell? ⟨b2, 1, none⟩ = some (.string ⟨nm.toArray⟩)) (hd : ∃ db, d = .pointer (some ⟨db, 0, none⟩)) :
    Calls Tryz.prog 93 #[.string ⟨x.toArray⟩, .pointer (some ⟨b1, 0, none⟩), .pointer (some ⟨b2, 0, none⟩)] w fun e w' => e = .returned (.bool (!(x == dn) && isDat nm x)) ∧ Kept w w' := by
  obtain ⟨db, rfl⟩ := hd
  have HID := Lib.hid (isDataFile_any (.pointer (some ⟨db, 0, none⟩)) nm x w hnl hE hx)
  generalize isDat nm x = r at *
  clear hE
  have HR := Lib.hid (show (!(x == dn) && r) = if x = dn then false else r by
    by_cases h : x = dn
    · rw [if_pos h, h]; simp
    · rw [if_neg h]; simp [h])
  generalize (!(x == dn) && r) = q at *
  by_cases hxd : x = dn
  · rw [if_pos hxd] at HR
    subst hxd
    go_enter Tryz.func93, Tryz.ntmps93
    go_wp2
    go_ret
    exact ⟨ret_bool HR.out.symm, Kept.refl _⟩
  · rw [if_neg hxd] at HR
    have hxb : (x == dn) = false := by simpa using hxd
    go_enter Tryz.func93, Tryz.ntmps93
    go_wp2_with fail
    refine HID.out.mono ?_
    rintro e w1 ⟨rfl, k1⟩
    go_wp2
    go_ret
    exact ⟨ret_bool HR.out.symm, k1⟩
theorem ren_ok {fs : Fls} {a b : Nm} (ha : okN a = true) (hb : okN b = true) (hh : hasA a fs = true) : renE a b fs = 0 := by
  unfold renE
  rw [if_neg (by simp [hb]), all_one ha hh]
set_option maxRecDepth 100000 in
set_option maxHeartbeats 8000000 in
theorem switchTo_any (d : Value) (nm : Nm) (n : Nat) (cap : Nat) (fs : Fls) (F : Nat → Prop) (w : World) (hd : Disk w d cap fs F) (hF : ∀ g, F g → g < w.heap.size) (hE : ∀ W, Chg F w W → Env W) (hnm : goodL nm = true) (hn : n ≤ 4611686018427387903) (hh : hasA (tmpN nm) fs = true) (hg2 : Good (renS (tmpN nm) (manN nm) fs)) :
    Calls Tryz.prog 44 #[.agg #[d, .string ⟨nm.toArray⟩], .int .i64 (n : Int)] w fun e w' => e = .returned (.int .i64 0) ∧ Disk w' d cap (dropF (fun x => !(x == datN nm n) && isDat nm x) (renS (tmpN nm) (manN nm) fs)) (ext F w w') ∧ Chg F w w' := by
  obtain ⟨db, rfl⟩ := hd.form
  have hk0 := (Kept.refl w).alloc (.cells #[.pointer (some ⟨db, 0, none⟩), .string ⟨nm.toArray⟩] 90)
  have HFF := Lib.hid hF
  have HEE := Lib.hid hE
  have HDF := Lib.hid (show ∀ W, Chg F w W → _ from fun W hW => dataFile_any (.pointer (some ⟨db, 0, none⟩)) nm n W (goodL_ok hnm).2 (hE W hW).1 hn)
  have HTF := Lib.hid (show ∀ W, _ from fun W => tmpFile_any (.pointer (some ⟨db, 0, none⟩)) nm W (goodL_ok hnm).2)
  have HMF := Lib.hid (show ∀ W, _ from fun W => manFile_any (.pointer (some ⟨db, 0, none⟩)) nm W (goodL_ok hnm).2)
  have HRN := Lib.hid (show ∀ W, Kept w W → _ from fun W hW => rename_any (tmpN nm) (manN nm) _ cap fs F W (hd.kept hW))
  rw [ren_ok (okN_tmp hnm) (okN_man hnm) hh, if_pos rfl] at HRN
  have hnl := (goodL_ok hnm).2
  have HG2 := Lib.hid hg2
  have HC2 := Lib.hid (show ∀ (b1 b2 : Nat) (x : Nm) W, Chg F w W → x.length ≤ 40 → _ → _ → _ → _ from fun b1 b2 x W hW hx c1 c2 c3 => clos2_any b1 b2 (.pointer (some ⟨db, 0, none⟩)) nm (datN nm n) x W hnl (hE W hW) hx c1 c2 c3 ⟨db, rfl⟩)
  have HRA := Lib.hid (show ∀ (b1 b2 : Nat) (p : Nm → Bool) (fs : Fls) (G : Nat → Prop) W, _ → _ → _ → _ from fun b1 b2 p fs G W h1 h2 h3 => removeAll2_any b1 b2 (.pointer (some ⟨db, 0, none⟩)) nm p cap fs G W h1 h2 h3)
  generalize renS (tmpN nm) (manN nm) fs = fs2 at *
  generalize datN nm n = dn at *
  generalize tmpN nm = tn at *
  generalize manN nm = mn at *
  clear hd hF hE hh hg2
  go_enter Tryz.func44, Tryz.ntmps44
  go_wp2
  have hb0 := heap_alloc_new w (.cells #[.pointer (some ⟨db, 0, none⟩), .string ⟨nm.toArray⟩] 90)
  have HB0 := Lib.hid hb0
  have hz : (w.alloc (.cells #[.pointer (some ⟨db, 0, none⟩), .string ⟨nm.toArray⟩] 90)).heap.size = w.heap.size + 1 := by simp
  have p0 := cell_at hb0 0
  have p1 := cell_at hb0 1
  simp only [List.getElem?_toArray, List.getElem?_cons_zero, List.getElem?_cons_succ] at p0 p1
  clear hb0
  generalize w.alloc (.cells #[.pointer (some ⟨db, 0, none⟩), .string ⟨nm.toArray⟩] 90) = w1 at *
  have hKr := (Kept.refl w1).drew
  go_region_held3 (fun W => W.cell? ⟨w.heap.size, 0, none⟩ = some (.pointer (some ⟨db, 0, none⟩)) ∧ W.cell? ⟨w.heap.size, 1, none⟩ = some (.string ⟨nm.toArray⟩))
    (first | exact ⟨p0, p1⟩ | exact ⟨hq1.cell p0, hq1.cell p1⟩ | exact ⟨hq2.cell p0, hq2.cell p1⟩ | exact ⟨u0, u1⟩)
    (first
      | (go_at_call 42; refine (HTF.out _).mono ?_; rintro e wb ⟨rfl, hqb⟩; have hq1 : Kept w1 wb := hKr.trans hqb)
      | (go_at_call 92; refine (HMF.out _).mono ?_; rintro e wc ⟨rfl, hqc⟩; have hq2 : Kept w1 wc := hq1.trans hqc)
      | (go_at_call 91; refine (HRN.out _ (hk0.trans hq2)).mono ?_; rintro e w3 ⟨rfl, hd3, hC3⟩; have hb3 := hC3.block' (hq2.block' HB0.out) (fun x => Nat.lt_irrefl _ (HFF.out _ x)); have u0 := cell_at hb3 0; have u1 := cell_at hb3 1; simp only [List.getElem?_toArray, List.getElem?_cons_zero, List.getElem?_cons_succ] at u0 u1; have HD3 := Lib.hid hd3; have HB3 := Lib.hid hb3; clear hd3 hb3))
  have hCw3 : Chg F w w3 := (Chg.of_kept (hk0.trans hq2)).trans hC3 (fun g _ x => x)
  have s1 := hk0.size
  have s2 := hq2.size
  have s3 := hC3.size
  have hF3 : ∀ g, ext F wc w3 g → g ≠ w.heap.size ∧ g < w3.heap.size := fun g hg => by
    rcases hg with x | x
    · have := HFF.out g x; omega
    · omega
  have HF3 := Lib.hid hF3
  clear hF3
  go_wp2_with fail
  refine (HDF.out w3 hCw3).mono ?_
  rintro e w4 ⟨rfl, k4⟩
  have hka := (Kept.refl w4).alloc (.cells #[.string ⟨dn.toArray⟩] 9)
  have hbk := heap_alloc_new w4 (.cells #[.string ⟨dn.toArray⟩] 9)
  have hkk := k4.trans hka
  have HBX := Lib.hid (hkk.block' HB3.out)
  have v0 := cell_at HBX.out 0
  have v1 := cell_at HBX.out 1
  simp only [List.getElem?_toArray, List.getElem?_cons_zero, List.getElem?_cons_succ] at v0 v1
  have HBK := Lib.hid hbk
  have HKK := Lib.hid hkk
  clear hbk hkk hka
  go_wp2_with fail
  refine (HRA.out w4.heap.size w.heap.size (fun x => !(x == dn) && isDat nm x) fs2 (ext F wc w3) _ (HD3.out.kept HKK.out) (fun g x => by have := (HF3.out g x).2; have := HKK.out.size; omega) (fun W hW x hx => HC2.out w4.heap.size w.heap.size x W (hCw3.then_kept (HKK.out.trans hW)) (by
    obtain ⟨f, hf, rfl⟩ := List.mem_map.1 hx
    exact okN_len (HG2.out.2 f hf).1) (by have := cell_at (hW.block' HBK.out) 0; simpa using this) (by have := cell_at (hW.block' HBX.out) 0; simpa using this) (by have := cell_at (hW.block' HBX.out) 1; simpa using this))).mono ?_
  rintro e w5 ⟨rfl, hd5, hC5⟩
  have HD5 := Lib.hid hd5
  clear hd5
  go_wp2
  go_ret
  have s4 := HKK.out.size
  have s5 := hC5.size
  refine ⟨rfl, HD5.out.mono (fun g hg => ?_), hCw3.trans ((Chg.of_kept HKK.out).trans hC5 (fun g _ x => x)) (fun g hg x => ?_)⟩
  · rcases hg with (x | x) | x
    · exact .inl x
    · exact .inr ⟨by omega, by omega⟩
    · exact .inr ⟨by omega, by omega⟩
  · rcases x with x | x
    · exact x
    · omega
end Go.Proofs.YtngbgngfdklnlaaGreatDoor
