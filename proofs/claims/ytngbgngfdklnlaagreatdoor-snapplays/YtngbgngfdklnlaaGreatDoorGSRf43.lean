/- The document's disk through several calls. The walk of the document's Save. The document's Save, whatever comes in. -/
import Derived.Test.YtngbgngfdklnlaaGreatDoorQSRf3
import Derived.Test.YtngbgngfdklnlaaGreatDoorQDRren
import Derived.Test.YtngbgngfdklnlaaGreatDoorGSRem3
import Derived.Test.YtngbgngfdklnlaaGreatDoorGSTb4
set_option linter.unusedSimpArgs false
set_option linter.unusedVariables false
namespace Go.Proofs.YtngbgngfdklnlaaGreatDoor
open Go.RowKit
/-- The document's disk in a world W that came of w by changes of G alone. -/
def RSx (G : Nat → Prop) (w W : World) (x : Value) (cap : Nat) (fs : Fls) : Prop := ∃ G' : Nat → Prop, Ref W x cap fs G' ∧ Chg G w W ∧ ∀ g, G' g → g < W.heap.size ∧ (g < w.heap.size → G g)
theorem RSx.start {G : Nat → Prop} {w : World} {x : Value} {cap : Nat} {fs : Fls} (h : Ref w x cap fs G) (hG : ∀ g, G g → g < w.heap.size) : RSx G w w x cap fs := ⟨G, h, Chg.refl _ _, fun g hg => ⟨hG g hg, fun _ => hg⟩⟩
theorem RSx.kept {G : Nat → Prop} {w W W1 : World} {x : Value} {cap : Nat} {fs : Fls} (h : RSx G w W x cap fs) (k : Kept W W1) : RSx G w W1 x cap fs := by
  obtain ⟨G', h1, h2, h3⟩ := h
  exact ⟨G', h1.kept k, h2.then_kept k, fun g hg => ⟨Nat.lt_of_lt_of_le (h3 g hg).1 k.size, (h3 g hg).2⟩⟩
theorem RSx.chg {G : Nat → Prop} {w W : World} {x : Value} {cap : Nat} {fs : Fls} (h : RSx G w W x cap fs) : Chg G w W := by obtain ⟨G', h1, h2, h3⟩ := h; exact h2
theorem RSx.op {G G' : Nat → Prop} {w W W1 W2 : World} {x : Value} {cap : Nat} {fs' : Fls} (h2 : Chg G w W) (h3 : ∀ g, G' g → g < W.heap.size ∧ (g < w.heap.size → G g)) (k : Kept W W1) (hr : Ref W2 x cap fs' (ext G' W1 W2)) (c : Chg G' W1 W2) : RSx G w W2 x cap fs' := by
  have s1 := k.size
  have s2 := c.size
  have s0 := h2.size
  refine ⟨_, hr, (h2.then_kept k).trans c (fun g hg y => (h3 g y).2 hg), fun g hg => ?_⟩
  rcases hg with y | y
  · have := (h3 g y).1
    exact ⟨by omega, (h3 g y).2⟩
  · exact ⟨y.2, fun hlt => by omega⟩
theorem RSx.done {G : Nat → Prop} {w W : World} {x : Value} {cap : Nat} {fs : Fls} (h : RSx G w W x cap fs) : Ref W x cap fs (ext G w W) ∧ Chg G w W := by
  obtain ⟨G', h1, h2, h3⟩ := h
  refine ⟨h1.mono (fun g hg => ?_), h2⟩
  by_cases hl : g < w.heap.size
  · exact .inl ((h3 g hg).2 hl)
  · exact .inr ⟨by omega, (h3 g hg).1⟩
theorem RSx.good {G : Nat → Prop} {w W : World} {x : Value} {cap : Nat} {fs : Fls} (h : RSx G w W x cap fs) : Good fs ∧ fs.length ≤ 2000000000000 := by
  obtain ⟨G', ⟨rb, vL, rs, rfl, rfl, h1⟩, -, -⟩ := h
  exact ⟨h1.good, by rw [length_mapV]; exact h1.small⟩
theorem RSx.ref {G : Nat → Prop} {w W : World} {x : Value} {cap : Nat} {fs : Fls} (h : RSx G w W x cap fs) : ∃ G', Ref W x cap fs G' := by
  obtain ⟨G', h1, -, -⟩ := h
  exact ⟨G', h1⟩
theorem rem_one {fs : Fls} {k : Nm} (hk : okN k = true) : (if allS [k] fs = 0 then remS [k] fs else fs) = cutA k fs := by
  rw [allS_get' hk]
  cases hg : getA k fs with
  | none => rw [if_neg (by simp)]; exact (cut_none hg).symm
  | some v => rw [if_pos (by simp)]; rfl
section
variable {G : Nat → Prop} {w W : World} {x : Value} {cap : Nat} {fs : Fls}
theorem rs_remove1 (k : Nm) (t : TypeId) (hk : okN k = true) (h : RSx G w W x cap fs) :
    Calls Tryz.prog 18 #[x, .slice (some ⟨W.heap.size, 0, none⟩) 1 1] (W.alloc (.cells #[.string ⟨k.toArray⟩] t)) fun e w' => ∃ z, e = .returned (.int .i64 z) ∧ RSx G w w' x cap (cutA k fs) := by
  obtain ⟨G', h1, h2, h3⟩ := h
  refine (rremove_any [k] _ x cap fs G' _ (h1.kept ((Kept.refl W).alloc _)) (Txts.fresh1 W k t (fun y => Nat.lt_irrefl _ (h3 _ y).1))).mono ?_
  rintro e w' ⟨rfl, hr, hc⟩
  rw [rem_one hk] at hr
  exact ⟨_, rfl, RSx.op h2 h3 ((Kept.refl W).alloc _) hr hc⟩
theorem rs_append (k : Nm) (b : List UInt8) (vb : Value) {W1 : World} (hK : Kept W W1) (hb : Bts W1 vb b) (hlim : b.length ≤ 140737488355328) (hn : fs.length < 2000000000000) (h : RSx G w W x cap fs) :
    Calls Tryz.prog 16 #[x, .string ⟨k.toArray⟩, vb] W1 fun e w' => e = .returned (.int .i64 (okA cap k b fs)) ∧ RSx G w w' x cap (if okA cap k b fs = 0 then appS k b fs else fs) := by
  obtain ⟨G', h1, h2, h3⟩ := h
  refine (rappend_any k b vb x cap fs G' W1 (h1.kept hK) hb hlim hn).mono ?_
  rintro e w' ⟨rfl, hr, hc⟩
  exact ⟨rfl, RSx.op h2 h3 hK hr hc⟩
theorem rs_sync2 (a c : Nm) (t : TypeId) (h0 : allS [a, c] fs = 0) (h : RSx G w W x cap fs) :
    Calls Tryz.prog 51 #[x, .slice (some ⟨W.heap.size, 0, none⟩) 2 2] (W.alloc (.cells #[.string ⟨a.toArray⟩, .string ⟨c.toArray⟩] t)) fun e w' => ∃ z, e = .returned (.int .i64 z) ∧ RSx G w w' x cap (syncS [a, c] fs) := by
  obtain ⟨G', h1, h2, h3⟩ := h
  refine (rsync_any [a, c] _ x cap fs G' _ (h1.kept ((Kept.refl W).alloc _)) (Txts.fresh2 W a c t (fun y => Nat.lt_irrefl _ (h3 _ y).1))).mono ?_
  rintro e w' ⟨rfl, hr, hc⟩
  rw [h0, if_pos rfl] at hr
  exact ⟨_, rfl, RSx.op h2 h3 ((Kept.refl W).alloc _) hr hc⟩
theorem rs_rename (a c : Nm) (h0 : renE a c fs = 0) (h : RSx G w W x cap fs) :
    Calls Tryz.prog 52 #[x, .string ⟨a.toArray⟩, .string ⟨c.toArray⟩] W fun e w' => ∃ z, e = .returned (.int .i64 z) ∧ RSx G w w' x cap (renS a c fs) := by
  obtain ⟨G', h1, h2, h3⟩ := h
  refine (rrename_any a c x cap fs G' W h1).mono ?_
  rintro e w' ⟨rfl, hr, hc⟩
  rw [h0, if_pos rfl] at hr
  exact ⟨_, rfl, RSx.op h2 h3 (Kept.refl W) hr hc⟩
theorem rs_removeAll (p : Nm → Bool) (v : Value) (n base : Nat) {W1 : World} (hK : Kept W W1) (hv : W1.ownsRow base 9 1 v n (strCells ((namesA fs).filter p))) (hbs : W.heap.size ≤ base) (h : RSx G w W x cap fs) :
    Calls Tryz.prog 18 #[x, v] W1 fun e w' => ∃ z, e = .returned (.int .i64 z) ∧ RSx G w w' x cap (dropF p fs) := by
  have hg := h.good.1
  obtain ⟨G', h1, h2, h3⟩ := h
  refine (rremove_any ((namesA fs).filter p) v x cap fs G' W1 (h1.kept hK) (fun W' c => Txts.of_own (own_chg hv c (fun g hgb y => by have := own_ge hv g hgb; have := (h3 g y).1; omega)))).mono ?_
  rintro e w' ⟨rfl, hr, hc⟩
  rw [all_names hg p, if_pos rfl, rem_names] at hr
  exact ⟨_, rfl, RSx.op h2 h3 hK hr hc⟩
end
end Go.Proofs.YtngbgngfdklnlaaGreatDoor
set_option linter.unusedSimpArgs false
set_option linter.unusedVariables false
namespace Go.Proofs.YtngbgngfdklnlaaGreatDoor
open Go.RowKit
theorem okNum_n (n : Nat) (h : n ≤ 4611686018427387903) : (!okNum (n : Int)) = false := by unfold okNum; simp; omega
theorem reach_load (nm : Nm) (n : Nat) (fs : Fls) : decide ((n : Int) ≤ loadI nm fs) = reachS nm n fs := by
  unfold reachS loadI
  cases loadS nm fs with
  | none => simp; omega
  | some p =>
    obtain ⟨m, b⟩ := p
    simp only
    rw [decide_eq_decide]
    omega
theorem sav1_cuts (nm : Nm) (n : Nat) (fs : Fls) : cutA (tmpN nm) (cutA (datN nm n) fs) = sav1 nm n fs := by
  have := remS_drop [datN nm n, tmpN nm] fs
  exact this
theorem parts3 {w : World} {g : Nat} {t : TypeId} {u1 u2 u3 : Value} {a b c : List UInt8} (hb : w.heap[g]? = some (.cells #[u1, u2, u3] t (0, 0))) (h1 : Bts w u1 a) (h2 : Bts w u2 b) (h3 : Bts w u3 c) : Parts w (.slice (some ⟨g, 0, none⟩) 3 3) [a, b, c] := by
  refine ⟨_, 3, rfl, Nat.le_refl _, by decide, fun _ => ⟨_, 0, rfl, fun k l hl => ?_⟩⟩
  match k, hl with
  | 0, hl =>
    obtain rfl : a = l := by simpa using hl
    exact ⟨u1, by rw [cell_at hb]; rfl, h1⟩
  | 1, hl =>
    obtain rfl : b = l := by simpa using hl
    exact ⟨u2, by rw [cell_at hb]; rfl, h2⟩
  | 2, hl =>
    obtain rfl : c = l := by simpa using hl
    exact ⟨u3, by rw [cell_at hb]; rfl, h3⟩
theorem names_rs (rs : St) : namesA (mapV Prod.snd rs) = rs.map Prod.fst := by unfold namesA mapV; rw [List.map_map]; rfl
set_option maxRecDepth 100000 in
set_option maxHeartbeats 8000000 in
theorem rsave_new (rb : Nat) (nm : Nm) (n : Nat) (b : List UInt8) (vb : Value) (cap : Nat) (fs : Fls) (G : Nat → Prop) (w : World) (h : Ref w (.pointer (some ⟨rb, 0, none⟩)) cap fs G) (hG : ∀ g, G g → g < w.heap.size) (hb : ∀ W, Chg G w W → Bts W vb b) (hnm : goodL nm = true) (hn : n ≤ 4611686018427387903) (hbl : b.length ≤ 1048576) (hlen : fs.length + 2 ≤ 1999999999999) (hr : reachS nm n fs = false) :
    Calls Tryz.prog 11 #[.pointer (some ⟨rb, 0, none⟩), .string ⟨nm.toArray⟩, .int .i64 (n : Int), vb] w fun e w' => e = .returned (.int .i64 (saveT cap nm n b fs).1) ∧ Ref w' (.pointer (some ⟨rb, 0, none⟩)) cap (saveT cap nm n b fs).2 (ext G w w') ∧ Chg G w w' := by
  have hgood : Good fs := (RSx.start h hG).good.1
  have HS0 := Lib.hid (RSx.start h hG)
  have HBB := Lib.hid hb
  have hnl := (goodL_ok hnm).2
  have HGD := Lib.hid (refGood_any nm w)
  rw [hnm] at HGD
  have HBD := Lib.hid (bad_any (n : Int) w)
  rw [okNum_n n hn] at HBD
  have HLD := Lib.hid (rload_any nm _ cap fs G w h hnl)
  have hrl := reach_load nm n fs
  rw [hr] at hrl
  have hrl2 : ¬ (n : Int) ≤ loadI nm fs := by simpa using hrl
  have HDG := Lib.hid (show ∀ W, _ from fun W => digits_any n W hn)
  have hdl := dec_len n hn
  have hs2 : (⟨nm.toArray⟩ : ByteArray) ++ ⟨#[46, 115]⟩ = ⟨(sN nm).toArray⟩ := str_append nm [46, 115]
  have hs3 : (⟨(sN nm).toArray⟩ : ByteArray) ++ ⟨(Lib.decDigits n).toArray⟩ = ⟨(datN nm n).toArray⟩ := str_append _ _
  have hs4 : (⟨nm.toArray⟩ : ByteArray) ++ ⟨#[46, 116, 109, 112]⟩ = ⟨(tmpN nm).toArray⟩ := str_append nm [46, 116, 109, 112]
  have hs5 : (⟨nm.toArray⟩ : ByteArray) ++ ⟨#[46, 109, 97, 110]⟩ = ⟨(manN nm).toArray⟩ := str_append nm [46, 109, 97, 110]
  have hsl : (sN nm).length ≤ 14 := by rw [sN_len]; omega
  obtain ⟨A, c, hvb⟩ := (hb w (Chg.refl _ w)).form
  subst hvb
  have hkd := okN_dat hnm n hn
  have hkt := okN_tmp hnm
  have hkm := okN_man hnm
  have HR1 := Lib.hid (show ∀ W, RSx G w W _ cap fs → _ from fun W hW => rs_remove1 (x := .pointer (some ⟨rb, 0, none⟩)) (datN nm n) 9 hkd hW)
  have HR2 := Lib.hid (show ∀ W, RSx G w W _ cap (cutA (datN nm n) fs) → _ from fun W hW => rs_remove1 (x := .pointer (some ⟨rb, 0, none⟩)) (tmpN nm) 9 hkt hW)
  rw [sav1_cuts] at HR2
  have hl1 : (sav1 nm n fs).length ≤ fs.length := List.length_filter_le ..
  have HA1 := Lib.hid (show ∀ W, RSx G w W _ cap (sav1 nm n fs) → _ from fun W hW => rs_append (x := .pointer (some ⟨rb, 0, none⟩)) (datN nm n) b (.slice A b.length c) (Kept.refl W) (hb W hW.chg) (by omega) (by omega) hW)
  rw [okA_ok b _ hkd] at HA1
  have hl2 := app_len (datN nm n) b (sav1 nm n fs)
  have hml : (man1 n b).length ≤ 35 := manB_len _ _ _
  have HA2 := Lib.hid (show ∀ W W1 vm, RSx G w W _ cap (appS (datN nm n) b (sav1 nm n fs)) → Kept W W1 → Bts W1 vm (man1 n b) → _ from fun W W1 vm hW hk hv => rs_append (x := .pointer (some ⟨rb, 0, none⟩)) (tmpN nm) (man1 n b) vm hk hv (by omega) (by omega) hW)
  rw [okA_ok (man1 n b) _ hkt] at HA2
  have HR3 := Lib.hid (show ∀ W, RSx G w W _ cap (appS (datN nm n) b (sav1 nm n fs)) → _ from fun W hW => rs_remove1 (x := .pointer (some ⟨rb, 0, none⟩)) (datN nm n) 9 hkd hW)
  have HSY := Lib.hid (show ∀ W, RSx G w W _ cap (sav3 nm n b fs) → _ from fun W hW => rs_sync2 (x := .pointer (some ⟨rb, 0, none⟩)) (datN nm n) (tmpN nm) 9 (all_two hkd hkt (by unfold sav3; rw [has_app, has_app]; simp) (by unfold sav3; rw [has_app]; simp)) hW)
  have HRN := Lib.hid (show ∀ W, RSx G w W _ cap (syncS [datN nm n, tmpN nm] (sav3 nm n b fs)) → _ from fun W hW => rs_rename (x := .pointer (some ⟨rb, 0, none⟩)) (tmpN nm) (manN nm) (by
    unfold renE
    rw [if_neg (by simp [hkm])]
    exact all_one hkt (by show hasA (tmpN nm) (sync1 (sync1 (sav3 nm n b fs) (datN nm n)) (tmpN nm)) = true; unfold sync1; rw [has_put]; simp)) hW)
  have HIS := Lib.hid (show ∀ f W, f.length ≤ 40 → _ from fun f W hf => isData_any nm f W hnl hf)
  have HPN := Lib.hid (show ∀ W, _ from fun W => refPut_any n W (by omega))
  have HPL := Lib.hid (show ∀ W, _ from fun W => refPut_any b.length W (by omega))
  have HPC := Lib.hid (show ∀ W, _ from fun W => refPut_any (crc b) W (by have := crc_le b; omega))
  have HSU := Lib.hid (show ∀ W, Chg G w W → _ from fun W hW => refSum_any b _ W (hb W hW))
  have HJO := Lib.hid (show ∀ v W, Parts W v [put n, put b.length, put (crc b)] → _ from fun v W hp => join_any _ v W hp (by have := put_len n; have := put_len b.length; have := put_len (crc b); simp; omega))
  have HFR := Lib.hid (show ∀ v W, Bts W v [put n, put b.length, put (crc b)].flatten → _ from fun v W hv => refFrame_any _ v W hv)
  have hfl : [put n, put b.length, put (crc b)].flatten = put n ++ (put b.length ++ put (crc b)) := by simp
  rw [hfl] at HJO HFR
  have hpl : ¬ 65536 < (put n ++ (put b.length ++ put (crc b))).length := by
    rw [List.length_append, List.length_append]
    have := put_len n
    have := put_len b.length
    have := put_len (crc b)
    omega
  unfold frErr frRes at HFR
  rw [if_neg hpl, if_neg hpl] at HFR
  rw [show frameOf (put n ++ (put b.length ++ put (crc b))) = man1 n b from rfl] at HFR
  have hst : saveT cap nm n b fs = if cap < used (sav1 nm n fs) + b.length then (32, sav1 nm n fs)
      else if cap < used (appS (datN nm n) b (sav1 nm n fs)) + (man1 n b).length then (32, cutA (datN nm n) (appS (datN nm n) b (sav1 nm n fs)))
      else (0, sav5 nm n b fs) := by unfold saveT; rw [if_neg (by simp [hr])]
  rw [hst]
  have hg4 : Good (renS (tmpN nm) (manN nm) (syncS [datN nm n, tmpN nm] (sav3 nm n b fs))) := ren_good hgood hnm hn
  have hs5d : sav5 nm n b fs = dropF (fun x => !(x == datN nm n) && isDat nm x) (renS (tmpN nm) (manN nm) (syncS [datN nm n, tmpN nm] (sav3 nm n b fs))) := rfl
  rw [hs5d]
  have hs3d : appS (tmpN nm) (man1 n b) (appS (datN nm n) b (sav1 nm n fs)) = sav3 nm n b fs := rfl
  rw [hs3d] at HA2
  have HG4 := Lib.hid hg4
  generalize renS (tmpN nm) (manN nm) (syncS [datN nm n, tmpN nm] (sav3 nm n b fs)) = fs5 at *
  generalize syncS [datN nm n, tmpN nm] (sav3 nm n b fs) = fs4 at *
  generalize sav3 nm n b fs = fs3 at *
  generalize appS (datN nm n) b (sav1 nm n fs) = fs2 at *
  generalize sav1 nm n fs = fs1 at *
  generalize cutA (datN nm n) fs = fs0 at *
  generalize man1 n b = mb at *
  generalize crc b = cr at *
  generalize put n ++ (put b.length ++ put cr) = pj at *
  generalize hP1 : put n = pt1 at *
  generalize hP2 : put b.length = pt2 at *
  generalize hP3 : put cr = pt3 at *
  have hli : loadI nm fs < (n : Int) := by omega
  generalize loadI nm fs = li at *
  generalize loadB nm fs = lB at *
  generalize hdng : datN nm n = dn at *
  generalize tmpN nm = tn at *
  generalize manN nm = mn at *
  generalize sN nm = sn at *
  generalize Lib.decDigits n = ds at *
  have i1 : decide ((1048576 : Int) < (b.length : Int)) = false := by simp; omega
  have i2 : decide ((n : Int) ≤ li) = false := hrl
  obtain ⟨e1, he1⟩ : ∃ e1 : Int, e1 = (if cap < used fs1 + b.length then (32 : Int) else 0) := ⟨_, rfl⟩
  obtain ⟨e2, he2⟩ : ∃ e2 : Int, e2 = (if cap < used fs2 + mb.length then (32 : Int) else 0) := ⟨_, rfl⟩
  rw [← he1] at HA1
  rw [← he2] at HA2
  have HE1 := Lib.hid he1
  have HE2 := Lib.hid he2
  generalize hres : (if cap < used fs1 + b.length then ((32 : Int), fs1) else if cap < used fs2 + mb.length then ((32 : Int), cutA dn fs2) else ((0 : Int), dropF (fun x => !(x == dn) && isDat nm x) fs5)) = res
  have HRS := Lib.hid hres
  clear h hG hb hgood hfl hpl hst hs5d hs3d hr hg4 hdng hP1 hP2 hP3 hrl he1 he2 hres
  go_enter Tryz.func11, Tryz.ntmps11
  go_wp2_with fail
  refine HGD.out.mono ?_
  rintro e w0 ⟨rfl, rfl⟩
  go_wp2_with fail
  refine HBD.out.mono ?_
  rintro e w0 ⟨rfl, rfl⟩
  go_wp2_with fail
  refine HLD.out.mono ?_
  rintro e w1 ⟨v1, rfl, hb1, k1⟩
  obtain ⟨A1, cc1, rfl⟩ := hb1.form
  have HS1 := Lib.hid (HS0.out.kept k1)
  clear hb1
  go_wp2_with fail
  refine (HDG.out w1).mono ?_
  rintro e w2 ⟨rfl, k2⟩
  have HS2 := Lib.hid (HS1.out.kept k2)
  go_wp2_with fail
  refine (HR1.out w2 HS2.out).mono ?_
  rintro e w3 ⟨z3, rfl, h3⟩
  have HS3 := Lib.hid h3
  clear h3
  go_wp2_with fail
  refine (HR2.out w3 HS3.out).mono ?_
  rintro e w4 ⟨z4, rfl, h4⟩
  have HS4 := Lib.hid h4
  clear h4
  go_wp2_with fail
  refine (HA1.out w4 HS4.out).mono ?_
  rintro e w5 ⟨rfl, h5⟩
  by_cases hf1 : cap < used fs1 + b.length
  · obtain rfl : e1 = 32 := by rw [HE1.out, if_pos hf1]
    rw [if_neg (by decide)] at h5
    have HS5 := Lib.hid h5
    clear h5
    go_wp2
    go_ret
    have hq := HRS.out
    rw [if_pos hf1] at hq
    subst hq
    exact ⟨rfl, HS5.out.done⟩
  obtain rfl : e1 = 0 := by rw [HE1.out, if_neg hf1]
  rw [if_pos rfl] at h5
  have HS5 := Lib.hid h5
  clear h5
  go_wp2_with fail
  refine (HPN.out w5).mono ?_
  rintro e w6 ⟨v6, rfl, ho6, k6⟩
  have HO6 := Lib.hid ho6
  obtain ⟨A6, c6, rfl⟩ := own_form ho6
  clear ho6
  go_wp2_with fail
  refine (HPL.out w6).mono ?_
  rintro e w7 ⟨v7, rfl, ho7, k7⟩
  have HO7 := Lib.hid ho7
  obtain ⟨A7, c7, rfl⟩ := own_form ho7
  clear ho7
  have hk7 := k6.trans k7
  go_wp2_with fail
  refine (HSU.out w7 (HS5.out.chg.then_kept hk7)).mono ?_
  rintro e w7' ⟨rfl, rfl⟩
  go_wp2_with fail
  refine (HPC.out w7).mono ?_
  rintro e w8 ⟨v8, rfl, ho8, k8⟩
  have HO8 := Lib.hid ho8
  obtain ⟨A8, c8, rfl⟩ := own_form ho8
  clear ho8
  have hk8 := hk7.trans k8
  have hka := hk8.alloc (.cells #[.slice A6 pt1.length c6, .slice A7 pt2.length c7, .slice A8 pt3.length c8] 32)
  have hkx := (Kept.refl w8).alloc (.cells #[.slice A6 pt1.length c6, .slice A7 pt2.length c7, .slice A8 pt3.length c8] 32)
  have HPA := Lib.hid (parts3 (heap_alloc_new w8 (.cells #[.slice A6 pt1.length c6, .slice A7 pt2.length c7, .slice A8 pt3.length c8] 32)) (Bts.of_own (own_kept HO6.out ((k7.trans k8).trans hkx))) (Bts.of_own (own_kept HO7.out (k8.trans hkx))) (Bts.of_own (own_kept HO8.out hkx)))
  go_wp2_with fail
  refine (HJO.out _ _ HPA.out).mono ?_
  rintro e w10 ⟨v10, rfl, ho10, k10⟩
  have HB10 := Lib.hid (Bts.of_own ho10)
  obtain ⟨A10, c10, rfl⟩ := own_form ho10
  clear ho10
  have hk10 := hka.trans k10
  go_wp2_with fail
  refine (HFR.out _ _ HB10.out).mono ?_
  rintro e w11 ⟨v11, rfl, ho11, k11⟩
  have HB11 := Lib.hid (Bts.of_own ho11)
  obtain ⟨A11, c11, rfl⟩ := own_form ho11
  clear ho11 HO6 HO7 HO8 HPA hkx
  have hk11 := hk10.trans k11
  go_wp2_with fail
  refine (HA2.out w5 w11 _ HS5.out hk11 HB11.out).mono ?_
  rintro e w12 ⟨rfl, h12⟩
  by_cases hf2 : cap < used fs2 + mb.length
  · obtain rfl : e2 = 32 := by rw [HE2.out, if_pos hf2]
    rw [if_neg (by decide)] at h12
    have HS12 := Lib.hid h12
    clear h12
    go_wp2_with fail
    refine (HR3.out w12 HS12.out).mono ?_
    rintro e w13 ⟨z13, rfl, h13⟩
    have HS13 := Lib.hid h13
    clear h13
    go_wp2
    go_ret
    have hq := HRS.out
    rw [if_neg hf1, if_pos hf2] at hq
    subst hq
    exact ⟨rfl, HS13.out.done⟩
  obtain rfl : e2 = 0 := by rw [HE2.out, if_neg hf2]
  rw [if_pos rfl] at h12
  have HS12 := Lib.hid h12
  clear h12
  go_wp2_with fail
  refine (HSY.out w12 HS12.out).mono ?_
  rintro e w13 ⟨z13, rfl, h13⟩
  have HS13 := Lib.hid h13
  clear h13
  go_wp2_with fail
  refine (HRN.out w13 HS13.out).mono ?_
  rintro e w14 ⟨z14, rfl, h14⟩
  have HS14 := Lib.hid h14
  obtain ⟨G14, ⟨rb', vL, rs, hx, hmv, hRD⟩⟩ := h14.ref
  obtain rfl : rb = rb' := by simpa using hx
  clear h14 hx
  obtain ⟨AL, cL, hvL, hcL1, hcL2⟩ := hRD.form
  subst hvL
  unfold maxLen at hcL2
  have d1 := hRD.c1
  have HRD := Lib.hid hRD
  have hsm := hRD.small
  have hnames : namesA fs5 = rs.map Prod.fst := by rw [← hmv, names_rs]
  have HNM := Lib.hid hnames
  have HOK := Lib.hid (show ∀ k (hk : k < rs.length), rs[k].1.length ≤ 40 from fun k hk => okN_len (hRD.good.2 (rs[k].1, rs[k].2.2) (by rw [mapV]; exact List.mem_map.2 ⟨rs[k], List.getElem_mem hk, rfl⟩)).1)
  clear hRD hnames hmv
  go_wp2
  go_loopw [16, 17] (fun t i W => ∃ k : Nat, i = .int .i64 (k : Int) ∧ k ≤ rs.length ∧ W.ownsRow w14.heap.size 9 1 t (((rs.map Prod.fst).take k).filter (fun x => !(x == dn) && isDat nm x)).length (strCells (((rs.map Prod.fst).take k).filter (fun x => !(x == dn) && isDat nm x))) ∧ Kept w14 W) (fun _ i _ => rs.length - (intOf i).toNat)
  case atStart => exact ⟨0, rfl, Nat.zero_le _, World.ownsRow_nil _ _ _ _, Kept.refl w14⟩
  case round =>
    obtain ⟨k, rfl, hkl, hO, hK⟩ := hrel
    by_cases hlt : k < rs.length
    · obtain ⟨g, rfl, q0, -, -, -⟩ := HRD.out.at hlt
      have d1' := hK.cell d1
      have q0' := hK.cell q0
      have hlm : k < (rs.map Prod.fst).length := by simpa using hlt
      have HFT := Lib.hid (filter_take (fun x => !(x == dn) && isDat nm x) (rs.map Prod.fst) hlm)
      have hmk : (rs.map Prod.fst)[k]'hlm = rs[k].1 := by simp
      rw [hmk] at HFT
      have hsl : (((rs.map Prod.fst).take k).filter (fun x => !(x == dn) && isDat nm x)).length ≤ k := Nat.le_trans (List.length_filter_le _ _) (by rw [List.length_take]; omega)
      have HIx := Lib.hid (HIS.out rs[k].1 wr (HOK.out k hlt))
      generalize ((rs.map Prod.fst).take k).filter (fun x => !(x == dn) && isDat nm x) = ft at *
      generalize rs[k].1 = y at *
      generalize isDat nm y = iy at *
      have g1 : (k : Int) < (rs.length : Int) := by omega
      obtain ⟨A3, c3, hv3⟩ := own_form hO
      subst hv3
      have HO := Lib.hid hO
      clear hO hmk
      by_cases hyd : y = dn
      · have HF2 := Lib.hid (show ft ++ (if (!(y == dn) && iy) = true then [y] else []) = ft by rw [hyd]; simp)
        rw [HF2.out] at HFT
        subst hyd
        go_wp2
        go_roundw
        case rel =>
          refine ⟨k + 1, by go_num, by omega, ?_, hK⟩
          rw [HFT.out]
          exact HO.out
        case measure => simp [intOf]; omega
      · have hyb : (y == dn) = false := by simpa using hyd
        cases iy with
        | false =>
          have HF2 := Lib.hid (show ft ++ (if (!(y == dn) && false) = true then [y] else []) = ft by simp)
          rw [HF2.out] at HFT
          go_wp2_with fail
          refine HIx.out.mono ?_
          rintro e w15 ⟨rfl, k15⟩
          have HO3 := Lib.hid (own_kept HO.out k15)
          have hK3 := hK.trans k15
          go_wp2
          go_roundw
          case rel =>
            refine ⟨k + 1, by go_num, by omega, ?_, hK3⟩
            rw [HFT.out]
            exact HO3.out
          case measure => simp [intOf]; omega
        | true =>
          have HF2 := Lib.hid (show ft ++ (if (!(y == dn) && true) = true then [y] else []) = ft ++ [y] by rw [hyb]; simp)
          rw [HF2.out] at HFT
          go_wp2_with fail
          refine HIx.out.mono ?_
          rintro e w15 ⟨rfl, k15⟩
          have HO3 := Lib.hid (own_kept HO.out k15)
          have hK3 := hK.trans k15
          have d1'' := hK3.cell d1
          have q0'' := hK3.cell q0
          have hs3 := hK3.size
          go_wp2_with (at_builtin; refine wpList_append_one elemT rfl _ _ rfl w14.heap.size _ _ _ [.string ⟨y.toArray⟩] w15.heap.size 1 rfl rfl (own_kept HO3.out ((Kept.refl w15).alloc _)) rfl (cell_new1 w15 _ _) (one_cell rfl) (by omega) (by unfold maxLen; omega) (by simp; omega) ?_; intro v5 w16 a1 a2 a3)
          go_roundw
          case rel =>
            refine ⟨k + 1, by go_num, by omega, ?_, (hK3.alloc _).grown a2 (own_ge HO3.out)⟩
            rw [HFT.out, strCells_app, List.length_append]
            exact a1
          case measure => simp [intOf]; omega
    · obtain rfl : k = rs.length := by omega
      have d1' := hK.cell d1
      rw [List.take_of_length_le (by simp), ← HNM.out] at hO
      have HO := Lib.hid hO
      obtain ⟨A3, c3, hv3⟩ := own_form hO
      subst hv3
      clear hO
      go_wp2_with fail
      refine (rs_removeAll (fun x => !(x == dn) && isDat nm x) _ _ _ hK HO.out (Nat.le_refl _) HS14.out).mono ?_
      rintro e w17 ⟨z17, rfl, h17⟩
      have HS17 := Lib.hid h17
      clear h17
      go_wp2
      go_ret
      have hq := HRS.out
      rw [if_neg hf1, if_neg hf2] at hq
      subst hq
      exact ⟨rfl, HS17.out.done⟩
end Go.Proofs.YtngbgngfdklnlaaGreatDoor
set_option linter.unusedSimpArgs false
set_option linter.unusedVariables false
namespace Go.Proofs.YtngbgngfdklnlaaGreatDoor
open Go.RowKit
section
variable (rb : Nat) (nm : Nm) (n : Int) (b : List UInt8) (A : Option Addr) (c : Nat) (w : World)
set_option maxRecDepth 100000 in
set_option maxHeartbeats 1000000 in
theorem rsave_name (hnm : goodL nm = false) : Calls Tryz.prog 11 #[.pointer (some ⟨rb, 0, none⟩), .string ⟨nm.toArray⟩, .int .i64 n, .slice A b.length c] w fun e w' => e = .returned (.int .i64 40) ∧ Kept w w' := by
  have HGD := Lib.hid (refGood_any nm w)
  rw [hnm] at HGD
  go_enter Tryz.func11, Tryz.ntmps11
  go_wp2_with fail
  refine HGD.out.mono ?_
  rintro e w0 ⟨rfl, rfl⟩
  go_wp2
  go_ret
  exact ⟨rfl, Kept.refl _⟩
set_option maxRecDepth 100000 in
set_option maxHeartbeats 1000000 in
theorem rsave_num (hnm : goodL nm = true) (hn : n < 0 ∨ 4611686018427387903 < n) : Calls Tryz.prog 11 #[.pointer (some ⟨rb, 0, none⟩), .string ⟨nm.toArray⟩, .int .i64 n, .slice A b.length c] w fun e w' => e = .returned (.int .i64 10) ∧ Kept w w' := by
  have HGD := Lib.hid (refGood_any nm w)
  rw [hnm] at HGD
  have HBD := Lib.hid (bad_any n w)
  rw [show (!okNum n) = true by unfold okNum; simp; omega] at HBD
  clear hn
  go_enter Tryz.func11, Tryz.ntmps11
  go_wp2_with fail
  refine HGD.out.mono ?_
  rintro e w0 ⟨rfl, rfl⟩
  go_wp2_with fail
  refine HBD.out.mono ?_
  rintro e w0 ⟨rfl, rfl⟩
  go_wp2
  go_ret
  exact ⟨rfl, Kept.refl _⟩
set_option maxRecDepth 100000 in
set_option maxHeartbeats 1000000 in
theorem rsave_long (hnm : goodL nm = true) (hn : ¬ (n < 0 ∨ 4611686018427387903 < n)) (hl : 1048576 < b.length) : Calls Tryz.prog 11 #[.pointer (some ⟨rb, 0, none⟩), .string ⟨nm.toArray⟩, .int .i64 n, .slice A b.length c] w fun e w' => e = .returned (.int .i64 14) ∧ Kept w w' := by
  have HGD := Lib.hid (refGood_any nm w)
  rw [hnm] at HGD
  have HBD := Lib.hid (bad_any n w)
  rw [show (!okNum n) = false by unfold okNum; simp; omega] at HBD
  have i1 : decide ((1048576 : Int) < (b.length : Int)) = true := by simp; omega
  clear hn
  generalize b.length = L at *
  go_enter Tryz.func11, Tryz.ntmps11
  go_wp2_with fail
  refine HGD.out.mono ?_
  rintro e w0 ⟨rfl, rfl⟩
  go_wp2_with fail
  refine HBD.out.mono ?_
  rintro e w0 ⟨rfl, rfl⟩
  go_wp2
  go_ret
  exact ⟨rfl, Kept.refl _⟩
set_option maxRecDepth 100000 in
set_option maxHeartbeats 1000000 in
theorem rsave_reach (k cap : Nat) (fs : Fls) (G : Nat → Prop) (h : Ref w (.pointer (some ⟨rb, 0, none⟩)) cap fs G) (hnm : goodL nm = true) (hn : k ≤ 4611686018427387903) (hl : b.length ≤ 1048576) (hr : reachS nm k fs = true) : Calls Tryz.prog 11 #[.pointer (some ⟨rb, 0, none⟩), .string ⟨nm.toArray⟩, .int .i64 (k : Int), .slice A b.length c] w fun e w' => e = .returned (.int .i64 41) ∧ Kept w w' := by
  have HGD := Lib.hid (refGood_any nm w)
  rw [hnm] at HGD
  have HBD := Lib.hid (bad_any (k : Int) w)
  rw [okNum_n k hn] at HBD
  have HLD := Lib.hid (rload_any nm _ cap fs G w h (goodL_ok hnm).2)
  have hrl := reach_load nm k fs
  rw [hr] at hrl
  have hrl2 : (k : Int) ≤ loadI nm fs := by simpa using hrl
  generalize loadI nm fs = li at *
  have i1 : decide ((1048576 : Int) < (b.length : Int)) = false := by simp; omega
  generalize b.length = L at *
  clear h
  go_enter Tryz.func11, Tryz.ntmps11
  go_wp2_with fail
  refine HGD.out.mono ?_
  rintro e w0 ⟨rfl, rfl⟩
  go_wp2_with fail
  refine HBD.out.mono ?_
  rintro e w0 ⟨rfl, rfl⟩
  go_wp2_with fail
  refine HLD.out.mono ?_
  rintro e w1 ⟨v1, rfl, hb1, k1⟩
  obtain ⟨A1, cc1, rfl⟩ := hb1.form
  clear hb1
  go_wp2
  go_ret
  exact ⟨rfl, k1⟩
end
theorem rsave_any (x : Value) (nm : Nm) (n : Int) (b : List UInt8) (vb : Value) (cap : Nat) (fs : Fls) (G : Nat → Prop) (w : World) (h : Ref w x cap fs G) (hG : ∀ g, G g → g < w.heap.size) (hb : ∀ W, Chg G w W → Bts W vb b) (hlen : fs.length + 2 ≤ 1999999999999) :
    Calls Tryz.prog 11 #[x, .string ⟨nm.toArray⟩, .int .i64 n, vb] w fun e w' => e = .returned (.int .i64 (saveS cap nm n b fs).1) ∧ Ref w' x cap (saveS cap nm n b fs).2 (ext G w w') ∧ Chg G w w' := by
  have hh := h
  obtain ⟨rb, vL, rs, rfl, -, -⟩ := hh
  have still : ∀ (z : Int) (e : Ending) (w' : World), e = .returned (.int .i64 z) ∧ Kept w w' → e = .returned (.int .i64 z) ∧ Ref w' (.pointer (some ⟨rb, 0, none⟩)) cap fs (ext G w w') ∧ Chg G w w' := fun z e w' k => ⟨k.1, h.still k.2⟩
  obtain ⟨A, c, hvb⟩ := (hb w (Chg.refl _ w)).form
  unfold saveS
  by_cases h1 : goodL nm = false
  · rw [if_pos h1, hvb]
    exact (rsave_name rb nm n b A c w h1).mono (still 40)
  · rw [if_neg h1]
    rw [Bool.not_eq_false] at h1
    by_cases h2 : n < 0 ∨ 4611686018427387903 < n
    · rw [if_pos h2, hvb]
      exact (rsave_num rb nm n b A c w h1 h2).mono (still 10)
    · rw [if_neg h2]
      by_cases h3 : 1048576 < b.length
      · rw [if_pos h3, hvb]
        exact (rsave_long rb nm n b A c w h1 h2 h3).mono (still 14)
      · rw [if_neg h3]
        obtain ⟨k, rfl⟩ := Int.eq_ofNat_of_zero_le (show 0 ≤ n by omega)
        rw [show ((k : Nat) : Int).toNat = k by simp]
        cases hr : reachS nm k fs with
        | true =>
          have e : saveT cap nm k b fs = (41, fs) := by unfold saveT; rw [if_pos hr]
          rw [e, hvb]
          exact (rsave_reach rb nm b A c w k cap fs G h h1 (by omega) (by omega) hr).mono (still 41)
        | false => exact rsave_new rb nm k b vb cap fs G w h hG hb h1 (by omega) (by omega) hlen hr
end Go.Proofs.YtngbgngfdklnlaaGreatDoor
