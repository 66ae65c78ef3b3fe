/- The walk of ZtreeBack. -/
import Derived.Test.YtmodolighoojoaaGreatDoorGZCt3
import Derived.Deep.CutBlock
import Derived.Deep.DeepCutAuto
set_option linter.unusedSimpArgs false
set_option linter.unusedVariables false
namespace Go.Proofs.YtmodolighoojoaaGreatDoor
open Go.RowKit
/-- Two trees beside each other, each with blocks of its own, all younger than w0. -/
def Twin (A : Nat → Prop) (w0 W : World) (tb ub : Nat) (t1 t2 : ZT) (l1 l2 : Nat) : Prop := ∃ mb1 st1, ∃ F1 : Nat → Prop, ∃ mb2 st2, ∃ F2 : Nat → Prop,
  TreeAt W tb mb1 st1 l1 F1 ∧ TreeAt W ub mb2 st2 l2 F2 ∧ plainZ st1 = t1 ∧ plainZ st2 = t2 ∧ (∀ g, F1 g → w0.heap.size ≤ g ∧ g < W.heap.size) ∧ (∀ g, F2 g → w0.heap.size ≤ g ∧ g < W.heap.size) ∧ (∀ g, F1 g → ¬ F2 g) ∧ Kept w0 W ∧ (∀ g, A g → g < W.heap.size ∧ ¬ F1 g ∧ ¬ F2 g)
section
variable {A : Nat → Prop} {w0 W W' : World} {tb ub : Nat} {t1 t2 t' : ZT} {l1 l2 : Nat}
theorem Twin.kept (h : Twin A w0 W tb ub t1 t2 l1 l2) (k : Kept W W') : Twin A w0 W' tb ub t1 t2 l1 l2 := by
  obtain ⟨mb1, st1, F1, mb2, st2, F2, a1, a2, a3, a4, a5, a6, a7, a8, a9⟩ := h
  have := k.size
  exact ⟨mb1, st1, F1, mb2, st2, F2, a1.kept k, a2.kept k, a3, a4, fun g x => ⟨(a5 g x).1, by have := (a5 g x).2; omega⟩, fun g x => ⟨(a6 g x).1, by have := (a6 g x).2; omega⟩, a7, a8.trans k, fun g x => ⟨by have := (a9 g x).1; omega, (a9 g x).2⟩⟩
theorem Twin.more (h : Twin A w0 W tb ub t1 t2 l1 l2) {l1' l2' : Nat} (h1 : l1 ≤ l1') (h2 : l2 ≤ l2') : Twin A w0 W tb ub t1 t2 l1' l2' := by
  obtain ⟨mb1, st1, F1, mb2, st2, F2, a1, a2, a⟩ := h
  exact ⟨mb1, st1, F1, mb2, st2, F2, a1.more h1, a2.more h2, a⟩
theorem Twin.old (h : Twin A w0 W tb ub t1 t2 l1 l2) : Kept w0 W := by
  obtain ⟨mb1, st1, F1, mb2, st2, F2, a1, a2, a3, a4, a5, a6, a7, a8, a9⟩ := h
  exact a8
/-- A block that is none of the trees'. -/
theorem Twin.away (h : Twin no w0 W tb ub t1 t2 l1 l2) (k : Kept W W') {b : Nat} (hb : W.heap.size ≤ b ∧ b < W'.heap.size) : Twin (fun g => g = b) w0 W' tb ub t1 t2 l1 l2 := by
  obtain ⟨mb1, st1, F1, mb2, st2, F2, a1, a2, a3, a4, a5, a6, a7, a8, a9⟩ := h
  have := k.size
  exact ⟨mb1, st1, F1, mb2, st2, F2, a1.kept k, a2.kept k, a3, a4, fun g x => ⟨(a5 g x).1, by have := (a5 g x).2; omega⟩, fun g x => ⟨(a6 g x).1, by have := (a6 g x).2; omega⟩, a7, a8.trans k, fun g x => ⟨by omega, fun y => by have := (a5 g y).2; omega, fun y => by have := (a6 g y).2; omega⟩⟩
theorem Twin.home (h : Twin A w0 W tb ub t1 t2 l1 l2) : Twin no w0 W tb ub t1 t2 l1 l2 := by
  obtain ⟨mb1, st1, F1, mb2, st2, F2, a1, a2, a3, a4, a5, a6, a7, a8, a9⟩ := h
  exact ⟨mb1, st1, F1, mb2, st2, F2, a1, a2, a3, a4, a5, a6, a7, a8, fun g x => x.elim⟩
/-- What a call on a tree may change: no block that is kept apart. -/
def Low (A : Nat → Prop) (w w' : World) : Prop := Chg (fun g => ¬ A g) w w'
theorem Twin.create1 {w : World} (h : Twin A w0 W tb ub t1 t2 l1 l2) (kw : Kept W w) (p : Pth) (data : List UInt8) (v : Value) (n : Int) (seq : Bool) (hv : Bts w v data) (htab : TbZ w) (hlim : l1 + 2 < 4611686018427387903) :
    Calls Tryz.prog 30 #[.pointer (some ⟨tb, 0, none⟩), .string ⟨p.toArray⟩, v, .int .i64 n, .bool seq] w fun e w' => e = .returned (.tuple #[.string ⟨(createP t1 p data.length n seq).toArray⟩, .int .i64 (createE t1 p data.length n seq)]) ∧ Twin A w0 w' tb ub (createS t1 p data n seq) t2 (l1 + 1) l2 ∧ Low A w w' := by
  obtain ⟨mb1, st1, F1, mb2, st2, F2, a1, a2, a3, a4, a5, a6, a7, a8, a9⟩ := h
  refine (create_any (a1.kept kw) p data v n seq hv htab hlim).mono ?_
  rintro e w' ⟨rfl, ⟨st', b1, b2⟩, c⟩
  rw [a3] at b2 ⊢
  have s1 := kw.size
  have s2 := c.size
  refine ⟨rfl, ?_, c.mono fun g _ x y => (a9 g y).2.1 x⟩
  refine ⟨mb1, st', _, mb2, st2, F2, b1, (a2.kept kw).chg c (fun g x y => a7 g y x), b2, a4, fun g x => ?_, fun g x => ⟨(a6 g x).1, by have := (a6 g x).2; omega⟩, fun g x y => ?_, c.kept (a8.trans kw) (fun g x => (a5 g x).1), fun g x => ⟨by have := (a9 g x).1; omega, fun y => ?_, (a9 g x).2.2⟩⟩
  · rcases x with x | x
    · exact ⟨(a5 g x).1, by have := (a5 g x).2; omega⟩
    · exact ⟨by have := a8.size; omega, x.2⟩
  · rcases x with x | x
    · exact a7 g x y
    · have := (a6 g y).2
      omega
  · rcases y with y | y
    · exact (a9 g x).2.1 y
    · have := (a9 g x).1
      omega
theorem Twin.create2 {w : World} (h : Twin A w0 W tb ub t1 t2 l1 l2) (kw : Kept W w) (p : Pth) (data : List UInt8) (v : Value) (n : Int) (seq : Bool) (hv : Bts w v data) (htab : TbZ w) (hlim : l2 + 2 < 4611686018427387903) :
    Calls Tryz.prog 30 #[.pointer (some ⟨ub, 0, none⟩), .string ⟨p.toArray⟩, v, .int .i64 n, .bool seq] w fun e w' => e = .returned (.tuple #[.string ⟨(createP t2 p data.length n seq).toArray⟩, .int .i64 (createE t2 p data.length n seq)]) ∧ Twin A w0 w' tb ub t1 (createS t2 p data n seq) l1 (l2 + 1) ∧ Low A w w' := by
  obtain ⟨mb1, st1, F1, mb2, st2, F2, a1, a2, a3, a4, a5, a6, a7, a8, a9⟩ := h
  refine (create_any (a2.kept kw) p data v n seq hv htab hlim).mono ?_
  rintro e w' ⟨rfl, ⟨st', b1, b2⟩, c⟩
  rw [a4] at b2 ⊢
  have s1 := kw.size
  have s2 := c.size
  refine ⟨rfl, ?_, c.mono fun g _ x y => (a9 g y).2.2 x⟩
  refine ⟨mb1, st1, F1, mb2, st', _, (a1.kept kw).chg c (fun g x y => a7 g x y), b1, a3, b2, fun g x => ⟨(a5 g x).1, by have := (a5 g x).2; omega⟩, fun g x => ?_, fun g x y => ?_, c.kept (a8.trans kw) (fun g x => (a6 g x).1), fun g x => ⟨by have := (a9 g x).1; omega, (a9 g x).2.1, fun y => ?_⟩⟩
  · rcases x with x | x
    · exact ⟨(a6 g x).1, by have := (a6 g x).2; omega⟩
    · exact ⟨by have := a8.size; omega, x.2⟩
  · rcases y with y | y
    · exact a7 g x y
    · have := (a5 g x).2
      omega
  · rcases y with y | y
    · exact (a9 g x).2.2 y
    · have := (a9 g x).1
      omega
theorem Twin.delete1 {w : World} (h : Twin A w0 W tb ub t1 t2 l1 l2) (kw : Kept W w) (p : Pth) (n : Int) (hlim : l1 + 2 < 4611686018427387903) :
    Calls Tryz.prog 32 #[.pointer (some ⟨tb, 0, none⟩), .string ⟨p.toArray⟩, .int .i64 n] w fun e w' => e = .returned (.int .i64 (deleteE t1 p n)) ∧ Twin A w0 w' tb ub (deleteS t1 p n) t2 (l1 + 1) l2 ∧ Low A w w' := by
  obtain ⟨mb1, st1, F1, mb2, st2, F2, a1, a2, a3, a4, a5, a6, a7, a8, a9⟩ := h
  refine (delete_any (a1.kept kw) p n hlim).mono ?_
  rintro e w' ⟨rfl, ⟨st', b1, b2⟩, c⟩
  rw [a3] at b2 ⊢
  have s1 := kw.size
  have s2 := c.size
  refine ⟨rfl, ?_, c.mono fun g _ x y => (a9 g y).2.1 x⟩
  refine ⟨mb1, st', _, mb2, st2, F2, b1, (a2.kept kw).chg c (fun g x y => a7 g y x), b2, a4, fun g x => ?_, fun g x => ⟨(a6 g x).1, by have := (a6 g x).2; omega⟩, fun g x y => ?_, c.kept (a8.trans kw) (fun g x => (a5 g x).1), fun g x => ⟨by have := (a9 g x).1; omega, fun y => ?_, (a9 g x).2.2⟩⟩
  · rcases x with x | x
    · exact ⟨(a5 g x).1, by have := (a5 g x).2; omega⟩
    · exact ⟨by have := a8.size; omega, x.2⟩
  · rcases x with x | x
    · exact a7 g x y
    · have := (a6 g y).2
      omega
  · rcases y with y | y
    · exact (a9 g x).2.1 y
    · have := (a9 g x).1
      omega
theorem Twin.delete2 {w : World} (h : Twin A w0 W tb ub t1 t2 l1 l2) (kw : Kept W w) (p : Pth) (n : Int) (hlim : l2 + 2 < 4611686018427387903) :
    Calls Tryz.prog 32 #[.pointer (some ⟨ub, 0, none⟩), .string ⟨p.toArray⟩, .int .i64 n] w fun e w' => e = .returned (.int .i64 (deleteE t2 p n)) ∧ Twin A w0 w' tb ub t1 (deleteS t2 p n) l1 (l2 + 1) ∧ Low A w w' := by
  obtain ⟨mb1, st1, F1, mb2, st2, F2, a1, a2, a3, a4, a5, a6, a7, a8, a9⟩ := h
  refine (delete_any (a2.kept kw) p n hlim).mono ?_
  rintro e w' ⟨rfl, ⟨st', b1, b2⟩, c⟩
  rw [a4] at b2 ⊢
  have s1 := kw.size
  have s2 := c.size
  refine ⟨rfl, ?_, c.mono fun g _ x y => (a9 g y).2.2 x⟩
  refine ⟨mb1, st1, F1, mb2, st', _, (a1.kept kw).chg c (fun g x y => a7 g x y), b1, a3, b2, fun g x => ⟨(a5 g x).1, by have := (a5 g x).2; omega⟩, fun g x => ?_, fun g x y => ?_, c.kept (a8.trans kw) (fun g x => (a6 g x).1), fun g x => ⟨by have := (a9 g x).1; omega, (a9 g x).2.1, fun y => ?_⟩⟩
  · rcases x with x | x
    · exact ⟨(a6 g x).1, by have := (a6 g x).2; omega⟩
    · exact ⟨by have := a8.size; omega, x.2⟩
  · rcases y with y | y
    · exact a7 g x y
    · have := (a5 g x).2
      omega
  · rcases y with y | y
    · exact (a9 g x).2.2 y
    · have := (a9 g x).1
      omega
theorem Twin.set1 {w : World} (h : Twin A w0 W tb ub t1 t2 l1 l2) (kw : Kept W w) (p : Pth) (data : List UInt8) (v : Value) (n : Int) (hv : Bts w v data) (hlim : l1 + 2 < 4611686018427387903) :
    Calls Tryz.prog 34 #[.pointer (some ⟨tb, 0, none⟩), .string ⟨p.toArray⟩, v, .int .i64 n] w fun e w' => e = .returned (.tuple #[.int .i64 (setV t1 p data.length n), .int .i64 (setE t1 p data.length n)]) ∧ Twin A w0 w' tb ub (setS t1 p data n) t2 (l1 + 1) l2 ∧ Low A w w' := by
  obtain ⟨mb1, st1, F1, mb2, st2, F2, a1, a2, a3, a4, a5, a6, a7, a8, a9⟩ := h
  refine (set_any (a1.kept kw) p data v n hv hlim).mono ?_
  rintro e w' ⟨rfl, ⟨st', b1, b2⟩, c⟩
  rw [a3] at b2 ⊢
  have s1 := kw.size
  have s2 := c.size
  refine ⟨rfl, ?_, c.mono fun g _ x y => (a9 g y).2.1 x⟩
  refine ⟨mb1, st', _, mb2, st2, F2, b1, (a2.kept kw).chg c (fun g x y => a7 g y x), b2, a4, fun g x => ?_, fun g x => ⟨(a6 g x).1, by have := (a6 g x).2; omega⟩, fun g x y => ?_, c.kept (a8.trans kw) (fun g x => (a5 g x).1), fun g x => ⟨by have := (a9 g x).1; omega, fun y => ?_, (a9 g x).2.2⟩⟩
  · rcases x with x | x
    · exact ⟨(a5 g x).1, by have := (a5 g x).2; omega⟩
    · exact ⟨by have := a8.size; omega, x.2⟩
  · rcases x with x | x
    · exact a7 g x y
    · have := (a6 g y).2
      omega
  · rcases y with y | y
    · exact (a9 g x).2.1 y
    · have := (a9 g x).1
      omega
theorem Twin.set2 {w : World} (h : Twin A w0 W tb ub t1 t2 l1 l2) (kw : Kept W w) (p : Pth) (data : List UInt8) (v : Value) (n : Int) (hv : Bts w v data) (hlim : l2 + 2 < 4611686018427387903) :
    Calls Tryz.prog 34 #[.pointer (some ⟨ub, 0, none⟩), .string ⟨p.toArray⟩, v, .int .i64 n] w fun e w' => e = .returned (.tuple #[.int .i64 (setV t2 p data.length n), .int .i64 (setE t2 p data.length n)]) ∧ Twin A w0 w' tb ub t1 (setS t2 p data n) l1 (l2 + 1) ∧ Low A w w' := by
  obtain ⟨mb1, st1, F1, mb2, st2, F2, a1, a2, a3, a4, a5, a6, a7, a8, a9⟩ := h
  refine (set_any (a2.kept kw) p data v n hv hlim).mono ?_
  rintro e w' ⟨rfl, ⟨st', b1, b2⟩, c⟩
  rw [a4] at b2 ⊢
  have s1 := kw.size
  have s2 := c.size
  refine ⟨rfl, ?_, c.mono fun g _ x y => (a9 g y).2.2 x⟩
  refine ⟨mb1, st1, F1, mb2, st', _, (a1.kept kw).chg c (fun g x y => a7 g x y), b1, a3, b2, fun g x => ⟨(a5 g x).1, by have := (a5 g x).2; omega⟩, fun g x => ?_, fun g x y => ?_, c.kept (a8.trans kw) (fun g x => (a6 g x).1), fun g x => ⟨by have := (a9 g x).1; omega, (a9 g x).2.1, fun y => ?_⟩⟩
  · rcases x with x | x
    · exact ⟨(a6 g x).1, by have := (a6 g x).2; omega⟩
    · exact ⟨by have := a8.size; omega, x.2⟩
  · rcases y with y | y
    · exact a7 g x y
    · have := (a5 g x).2
      omega
  · rcases y with y | y
    · exact (a9 g x).2.2 y
    · have := (a9 g x).1
      omega
end
theorem Low.cell {b0 : Nat} {w w' : World} (h : Low (fun g => g = b0) w w') {o : Nat} {v : Value} (hc : w.cell? ⟨b0, o, none⟩ = some v) : w'.cell? ⟨b0, o, none⟩ = some v := chg_cellS h hc (fun x => x rfl)
set_option maxRecDepth 100000 in
set_option maxHeartbeats 8000000 in
theorem ztreeBack_any (xs ys : List Op7) (v u : Value) (w : World) (hv : Script7 w v xs) (hu : Script7 w u ys) (hf : ∀ x ∈ xs, x.Fits) (hl : xs.length ≤ 1048576) (hm : ys.length ≤ 1048576) (htab : TbZ w) :
    Calls Tryz.prog 7 #[v, u] w fun e w' => e = .returned (.bool true) ∧ Kept w w' := by
  have HM := Lib.hid (made_any xs v _ hv hf (by omega) htab)
  have HA := Lib.hid (show ∀ W, Kept w W → _ from fun W k => awakeZ_any W (htab.kept k))
  have HTB := Lib.hid (show ∀ W, Kept w W → TbZ W from fun W k => htab.kept k)
  have HU := Lib.hid hu
  obtain ⟨Av, cv, rfl, -, -⟩ := hv.form
  obtain ⟨Au, cu, rfl, hcu1, hcu2⟩ := hu.form
  unfold maxLen at hcu2
  clear hv hf htab hu
  go_enter Tryz.func7, Tryz.ntmps7
  go_wp2_with fail
  refine HM.out.mono ?_
  rintro e w1 ⟨tb, t, rfl, hkt, hwf, hwb⟩
  obtain ⟨mb, st, F, hT, hpl, hF, hK1⟩ := hkt
  have hlt : t.length ≤ xs.length + 1 := by rw [← hpl]; unfold plainZ; rw [length_mapZ]; exact hT.few
  have hel := encT_few hwf hwb hlt
  have hen := encode_any w1 tb mb st xs.length F hT (by omega) (by rw [hpl]; omega)
  rw [hpl, encodeP_good hwb (by omega)] at hen
  have HEN := Lib.hid hen
  have HDE := Lib.hid (decodeZ_enc hwf hwb (by omega))
  have HWF := Lib.hid hwf
  have HWB := Lib.hid hwb
  have HTW := Lib.hid (show ∀ W2 W3 ub, Kept w1 W2 → KT W2 W3 ub t (encT t).length → Twin no w W3 tb ub t t xs.length (encT t).length from fun W2 W3 ub k2 h3 => by
    obtain ⟨mb', st', F', b1, b2, b3, b4⟩ := h3
    have s1 := k2.size
    have s2 := b4.size
    have s3 := hK1.size
    exact ⟨mb, st, F, mb', st', F', hT.kept (k2.trans b4), b1, hpl, b2, fun g x => ⟨(hF g x).1, by have := (hF g x).2; omega⟩, fun g x => ⟨by have := (b3 g x).1; omega, (b3 g x).2⟩, fun g x y => by have := (hF g x).2; have := (b3 g y).1; omega, (hK1.trans k2).trans b4, fun g x => x.elim⟩)
  clear hen hT hpl hF hK1 hwf hwb
  go_wp2_with fail
  refine HEN.out.mono ?_
  rintro e w2 ⟨u2, rfl, ho2, hk2⟩
  have hde := decode_any (encT t) u2 w2 (Bts.of_own ho2) (by omega)
  unfold DecTo at hde
  rw [HDE.out] at hde
  simp only at hde
  have HDC := Lib.hid hde
  have HK2 := Lib.hid hk2
  obtain ⟨A2, c2, rfl⟩ := own_form ho2
  clear hde ho2 hk2
  go_wp2_with fail
  refine HDC.out.mono ?_
  rintro e w3 ⟨ub, rfl, hkt3⟩
  have HT3 := Lib.hid (HTW.out w2 w3 ub HK2.out hkt3)
  have helb : (encT t).length ≤ 500000000 := by omega
  generalize (encT t).length = el at *
  clear hkt3
  go_wp2
  go_loopw [36] (fun i W => ∃ (k : Nat) (t : ZT), i = .int .i64 (k : Int) ∧ k ≤ ys.length ∧ Twin no w W tb ub t t (xs.length + k) (el + k) ∧ WF t ∧ WB (xs.length + k) t) (fun i _ => ys.length - (intOf i).toNat)
  case atStart => exact ⟨0, t, rfl, Nat.zero_le _, HT3.out, HWF.out, HWB.out⟩
  case round =>
    clear HWF HWB HT3 HTW HDE hlt hel
    obtain ⟨k, t', rfl, hk, htw, hwf, hwb⟩ := hrel
    have HTW := Lib.hid htw
    have HKR := Lib.hid htw.old
    have HWF := Lib.hid hwf
    have HWB := Lib.hid hwb
    clear htw hwf hwb
    by_cases hlt : k < ys.length
    · obtain ⟨b, o, rfl, a0, a1, a2, a3, a4, hrd⟩ := HU.out.at hlt
      have g1 : (k : Int) < (ys.length : Int) := by omega
      have HRD := Lib.hid hrd
      clear hrd
      generalize ys[k] = x at *
      obtain ⟨Ad, cd, hdv, -, hd2, -⟩ := id HRD.out
      rw [hdv] at a3
      have a0 := HKR.out.cell a0
      have a1 := HKR.out.cell a1
      have a2 := HKR.out.cell a2
      have a3 := HKR.out.cell a3
      have a4 := HKR.out.cell a4
      have HBT := Lib.hid (show ∀ W, Kept w W → Bts W (.slice Ad x.data.length cd) x.data from fun W kW => by rw [← hdv]; exact Bts.kept HRD.out kW)
      clear hdv
      go_upto_region 10 with (fail)
      have hKa : Kept wr (wr.alloc (.cells #[.int .i64 x.kind, .int .i64 x.n, .string ⟨x.path.toArray⟩, .slice Ad x.data.length cd, .bool x.seq] 59)) := (Kept.refl wr).alloc _
      have hba := heap_alloc_new wr (.cells #[.int .i64 x.kind, .int .i64 x.n, .string ⟨x.path.toArray⟩, .slice Ad x.data.length cd, .bool x.seq] 59)
      generalize wr.alloc (.cells #[.int .i64 x.kind, .int .i64 x.n, .string ⟨x.path.toArray⟩, .slice Ad x.data.length cd, .bool x.seq] 59) = wa at *
      clear a0 a1 a2 a3 a4
      have q0 := cell_at hba 0
      have q1 := cell_at hba 1
      have q2 := cell_at hba 2
      have q3 := cell_at hba 3
      have q4 := cell_at hba 4
      simp only [List.getElem?_toArray, List.getElem?_cons_zero, List.getElem?_cons_succ] at q0 q1 q2 q3 q4
      have HKA := Lib.hid hKa
      have HAW := Lib.hid (HTW.out.away hKa ⟨Nat.le_refl _, (Array.getElem?_eq_some_iff.1 hba).1⟩)
      clear hba hKa
      by_cases k1 : x.kind = 1
      · have e1 : (x.kind == 1) = true := by simp [k1]
        clear k1
        have hc1 := HAW.out.create1 (Kept.refl wa) x.path x.data (.slice Ad x.data.length cd) x.n x.seq (HBT.out wa (HKR.out.trans HKA.out)) (HTB.out wa (HKR.out.trans HKA.out)) (by omega)
        have hc2 := (show ∀ W, Twin (fun g => g = wr.heap.size) w W tb ub (createS t' x.path x.data x.n x.seq) t' (xs.length + k + 1) (el + k) → _ from fun W hW => hW.create2 (Kept.refl W) x.path x.data (.slice Ad x.data.length cd) x.n x.seq (HBT.out W hW.old) (HTB.out W hW.old) (by omega))
        have HWF5 := Lib.hid (HWF.out.create x.path x.data x.n x.seq)
        have HWB5 := Lib.hid (show WB (xs.length + (k + 1)) (createS t' x.path x.data x.n x.seq) from (HWB.out.create HWF.out.srt _ _ _ _).more (by omega))
        generalize createS t' x.path x.data x.n x.seq = tn at *
        generalize createP t' x.path x.data.length x.n x.seq = cp at *
        generalize createE t' x.path x.data.length x.n x.seq = ce at *
        have t1 : (cp == cp) = true := by simp
        have t2 : (ce == ce) = true := by simp
        have t3 : (ce != ce) = false := by simp
        have HC1 := Lib.hid hc1
        have HC2 := Lib.hid hc2
        clear hc1 hc2
        go_wp2_with fail
        refine HC1.out.mono ?_
        rintro e w4 ⟨rfl, h4, low4⟩
        have z1 := low4.cell q1
        have z2 := low4.cell q2
        have z3 := low4.cell q3
        have z4 := low4.cell q4
        have H4 := Lib.hid h4
        clear h4 low4
        go_wp2_with fail
        refine (HC2.out w4 H4.out).mono ?_
        rintro e w5 ⟨rfl, h5, -⟩
        have HT5 := Lib.hid (show Twin no w w5 tb ub tn tn (xs.length + (k + 1)) (el + (k + 1)) from h5.home.more (by omega) (by omega))
        clear h5
        go_wp2
        go_roundw
        case rel => exact ⟨k + 1, _, by go_num, by omega, HT5.out, HWF5.out, HWB5.out⟩
        case measure => simp [intOf]; omega
      by_cases k2 : x.kind = 2
      · have e1 : (x.kind == 1) = false := by simp [k2]
        have e2 : (x.kind == 2) = true := by simp [k2]
        clear k1 k2
        have hKd := (Kept.refl wa).drew
        have hc1 := HAW.out.delete1 hKd x.path x.n (by omega)
        have hc2 := (show ∀ W, Twin (fun g => g = wr.heap.size) w W tb ub (deleteS t' x.path x.n) t' (xs.length + k + 1) (el + k) → _ from fun W hW => hW.delete2 (Kept.refl W) x.path x.n (by omega))
        have HWF5 := Lib.hid (HWF.out.delete x.path x.n)
        have HWB5 := Lib.hid (show WB (xs.length + (k + 1)) (deleteS t' x.path x.n) from (HWB.out.delete _ _).more (by omega))
        generalize deleteS t' x.path x.n = tn at *
        generalize deleteE t' x.path x.n = ce at *
        have t2 : (ce == ce) = true := by simp
        have t3 : (ce != ce) = false := by simp
        have HC1 := Lib.hid hc1
        have HC2 := Lib.hid hc2
        clear hc1 hc2
        go_wp2_with fail
        go_region_held3 (fun W => W.cell? ⟨wr.heap.size, 1, none⟩ = some (.int .i64 x.n) ∧ W.cell? ⟨wr.heap.size, 2, none⟩ = some (.string ⟨x.path.toArray⟩))
          (first | exact ⟨q1, q2⟩ | exact ⟨hKd.cell q1, hKd.cell q2⟩ | exact ⟨z1, z2⟩ | exact ⟨y1, y2⟩)
          (first
            | (go_at_call 32; refine (HC2.out _ H4.out).mono ?_; rintro e w5 ⟨rfl, h5, low5⟩; have y1 := low5.cell z1; have y2 := low5.cell z2; have H5 := Lib.hid h5; clear h5 low5)
            | (go_at_call 32; refine HC1.out.mono ?_; rintro e w4 ⟨rfl, h4, low4⟩; have z1 := low4.cell (hKd.cell q1); have z2 := low4.cell (hKd.cell q2); have H4 := Lib.hid h4; clear h4 low4))
        have HT5 := Lib.hid (show Twin no w _ tb ub tn tn (xs.length + (k + 1)) (el + (k + 1)) from H5.out.home.more (by omega) (by omega))
        go_wp2
        go_roundw
        case rel => exact ⟨k + 1, _, by go_num, by omega, HT5.out, HWF5.out, HWB5.out⟩
        case measure => simp [intOf]; omega
      by_cases k3 : x.kind = 3
      · have e1 : (x.kind == 1) = false := by simp [k3]
        have e2 : (x.kind == 2) = false := by simp [k3]
        have e3 : (x.kind == 3) = true := by simp [k3]
        clear k1 k2 k3
        have hc1 := HAW.out.set1 (Kept.refl wa) x.path x.data (.slice Ad x.data.length cd) x.n (HBT.out wa (HKR.out.trans HKA.out)) (by omega)
        have hc2 := (show ∀ W, Twin (fun g => g = wr.heap.size) w W tb ub (setS t' x.path x.data x.n) t' (xs.length + k + 1) (el + k) → _ from fun W hW => hW.set2 (Kept.refl W) x.path x.data (.slice Ad x.data.length cd) x.n (HBT.out W hW.old) (by omega))
        have HWF5 := Lib.hid (HWF.out.setting x.path x.data x.n)
        have HWB5 := Lib.hid (show WB (xs.length + (k + 1)) (setS t' x.path x.data x.n) from (HWB.out.setting _ _ _).more (by omega))
        generalize setS t' x.path x.data x.n = tn at *
        generalize setV t' x.path x.data.length x.n = cp at *
        generalize setE t' x.path x.data.length x.n = ce at *
        have t1 : (cp == cp) = true := by simp
        have t2 : (ce == ce) = true := by simp
        have t4 : (cp != cp) = false := by simp
        have t3 : (ce != ce) = false := by simp
        have HC1 := Lib.hid hc1
        have HC2 := Lib.hid hc2
        clear hc1 hc2
        go_wp2_with fail
        refine HC1.out.mono ?_
        rintro e w4 ⟨rfl, h4, low4⟩
        have z1 := low4.cell q1
        have z2 := low4.cell q2
        have z3 := low4.cell q3
        have H4 := Lib.hid h4
        clear h4 low4
        go_wp2_with fail
        refine (HC2.out w4 H4.out).mono ?_
        rintro e w5 ⟨rfl, h5, -⟩
        have HT5 := Lib.hid (show Twin no w w5 tb ub tn tn (xs.length + (k + 1)) (el + (k + 1)) from h5.home.more (by omega) (by omega))
        clear h5
        go_wp2
        go_roundw
        case rel => exact ⟨k + 1, _, by go_num, by omega, HT5.out, HWF5.out, HWB5.out⟩
        case measure => simp [intOf]; omega
      have e1 : (x.kind == 1) = false := by simpa using k1
      have e2 : (x.kind == 2) = false := by simpa using k2
      have e3 : (x.kind == 3) = false := by simpa using k3
      clear k1 k2 k3
      go_wp2
      go_roundw
      case rel => exact ⟨k + 1, t', by go_num, by omega, (HTW.out.kept HKA.out).more (by omega) (by omega), HWF.out, HWB.out.more (by omega)⟩
      case measure => simp [intOf]; omega
    · obtain rfl : k = ys.length := by omega
      obtain ⟨mb1, st1, F1, mb2, st2, F2, b1, b2, b3, b4, b5, b6, b7, b8, b9⟩ := HTW.out
      have hlt1 : t'.length ≤ xs.length + ys.length + 1 := by rw [← b3]; unfold plainZ; rw [length_mapZ]; exact b1.few
      have hel := encT_few HWF.out HWB.out hlt1
      have hel2 : (encT t').length + 1000 ≤ 140737488355328 := by omega
      have hen := encode_any wr tb mb1 st1 _ F1 b1 (by omega) (by rw [b3]; omega)
      rw [b3, encodeP_good HWB.out (by omega)] at hen
      have hen2 := (show ∀ W, Kept wr W → _ from fun W k => encode_any W ub mb2 st2 _ F2 (b2.kept k) (by omega) (by rw [b4]; omega))
      rw [b4, encodeP_good HWB.out (by omega)] at hen2
      have HE1 := Lib.hid hen
      have HE2 := Lib.hid hen2
      clear hen hen2 b1 b2 b3 b4 b5 b6 b7 b8 b9 hel
      generalize encT t' = l at *
      go_wp2_with fail
      refine HE1.out.mono ?_
      rintro e w4 ⟨u4, rfl, ho4, k4⟩
      obtain ⟨A4, c4, rfl⟩ := own_form ho4
      have HO4 := Lib.hid (Bts.of_own ho4)
      have HK4 := Lib.hid k4
      clear ho4 k4
      go_wp2_with fail
      refine (HE2.out w4 HK4.out).mono ?_
      rintro e w5 ⟨u5, rfl, ho5, k5⟩
      obtain ⟨A5, c5, rfl⟩ := own_form ho5
      have hsm := same_any l l _ _ w5 (HO4.out.kept k5) (Bts.of_own ho5)
      rw [show (l == l) = true by simp] at hsm
      have HSM := Lib.hid hsm
      have HK5 := Lib.hid ((HKR.out.trans HK4.out).trans k5)
      clear ho5 k5 hsm
      go_wp2_with fail
      refine HSM.out.mono ?_
      rintro e w6 ⟨rfl, rfl⟩
      go_wp2_with fail
      refine (HA.out _ HK5.out).mono ?_
      rintro e w7 ⟨rfl, hk7⟩
      have hkf := HK5.out.trans hk7
      go_wp2
      go_ret
      exact ⟨rfl, hkf⟩
end Go.Proofs.YtmodolighoojoaaGreatDoor
