/- The table of the library's Itoa, and Itoa and Atoi at a snapshot's names. The walks of isName, of the shelf's names, and of isDataFile. The walks of a shelf's names, and of isDataFile. append of one element onto a row of the call's own: a slice of bytes, a text, a number. -/
import Derived.Test.YtngbgngfdklnlaaGreatDoorGSName2
import Derived.Test.YtngbgngfdklnlaaGreatDoorQWKit
import Derived.Lib.AppendIntMem
import Derived.Lib.ItoaMem
import Derived.Laws.IdiomStrings
import Derived.BigQuiet
import Derived.Lib.IndexLaws
import Derived.Deep.RegionHeld3
set_option linter.unusedSimpArgs false
set_option linter.unusedVariables false
namespace Go.Proofs.YtngbgngfdklnlaaGreatDoor
open Go.RowKit
def Tb (w : World) : Prop := Lib.TabIs Tryz.prog w "internal/strconv.uint64pow10" .u64 Lib.pow10Tab
theorem str_append (l m : List UInt8) : (⟨l.toArray⟩ : ByteArray) ++ ⟨m.toArray⟩ = ⟨(l ++ m).toArray⟩ := by
  apply ByteArray.ext
  simp
theorem str_extract (l : List UInt8) (a b : Nat) : (⟨l.toArray⟩ : ByteArray).extract a b = ⟨((l.drop a).take (b - a)).toArray⟩ := by
  rw [Lib.extract_eq]
theorem kept_grow (w : World) (k : Nat) (os : Array Obj) : Kept w (Sort.grow (w.drewN k) os) := by
  refine ⟨rfl, rfl, rfl, ?_, fun i hi => ?_⟩
  · show w.heap.size ≤ (w.heap ++ os).size
    simp
  · show (w.heap ++ os)[i]? = w.heap[i]?
    rw [Array.getElem?_append_left hi]
theorem kept_bytesWorld (w : World) (e : TypeId) (s : ByteArray) : Kept w (Lib.bytesWorld w e s) := by
  unfold Lib.bytesWorld
  have h : Kept w (w.drew.alloc (.cells (Lib.bytesCells w e s) e)) := ((Kept.refl w).drew).alloc _
  exact Lib.below_freeze h (Nat.le_refl _) 1
theorem Tb.kept {w w' : World} (h : Tb w) (k : Kept w w') : Tb w' := Lib.tabBelow_of_tabIs h w' k
theorem itoa_any (n : Nat) (w : World) (hn : n ≤ 4611686018427387903) (htab : Tb w) :
    Calls Tryz.prog 89 #[.int .i64 (n : Int)] w fun e w' => e = .returned (.string ⟨(Lib.decDigits n).toArray⟩) ∧ Kept w w' := by
  refine (Tryz.strconv_Itoa (n : Int) (by omega) (by omega) w htab).mono ?_
  rintro e w' ⟨rfl, k, os, rfl⟩
  rw [Lib.itoa_nonneg]
  exact ⟨rfl, kept_grow w k os⟩
/-- What the library's variables hold: the table of powers of ten, and its two errors. -/
def Env (w : World) : Prop := Tb w ∧ (∃ tp p, w.cell? ⟨3, 0, none⟩ = some (.iface tp p)) ∧ ∃ tp p, w.cell? ⟨4, 0, none⟩ = some (.iface tp p)
theorem Env.kept {w w' : World} (h : Env w) (k : Kept w w') : Env w' := by
  obtain ⟨h1, ⟨t2, p2, h2⟩, t3, p3, h3⟩ := h
  exact ⟨h1.kept k, ⟨t2, p2, k.cell h2⟩, t3, p3, k.cell h3⟩
theorem trim_app (a b : List UInt8) : Lib.trimPrefix (a ++ b) a = b := by
  unfold Lib.trimPrefix
  rw [if_pos]
  · exact List.drop_left
  · unfold Lib.hasPrefix
    simp
/-- What Atoi makes of a data file's name. -/
theorem isDat_atoi {nm f : Nm} (h : isDat nm f = true) : ∃ m : Nat, m ≤ 4611686018427387903 ∧ f = datN nm m ∧ Lib.atoiAll (Lib.trimPrefix f (sN nm)) = .ok (m : Int) := by
  unfold isDat at h
  rw [decide_eq_true_eq] at h
  obtain ⟨m, hm, rfl⟩ := h
  refine ⟨m, hm, rfl, ?_⟩
  rw [datN_eq, trim_app]
  exact atoi_dec m hm
theorem trim_len (a b : List UInt8) : (Lib.trimPrefix a b).length ≤ a.length := by
  unfold Lib.trimPrefix
  split
  · simp
  · exact Nat.le_refl _
/-- Atoi, at every text: a number, or an error. -/
theorem atoi_any (l : List UInt8) (w : World) (hE : Env w) (hl : l.length ≤ 40) :
    Calls Tryz.prog 117 #[.string ⟨l.toArray⟩] w fun e w' => Kept w w' ∧ ((∃ v : Int, Lib.atoiAll l = .ok v ∧ e = .returned (.tuple #[.int .i64 v, .nilIface])) ∨ ((∀ v : Int, Lib.atoiAll l ≠ .ok v) ∧ ∃ (z : Int) (t : TypeId) (N : Nat), e = .returned (.tuple #[.int .i64 z, .iface t (.pointer (some ⟨N, 0, none⟩))]))) := by
  have hd : (⟨l.toArray⟩ : ByteArray).data.toList = l := by simp
  have hz : (⟨l.toArray⟩ : ByteArray).size ≤ 40 := by rw [str_size]; exact hl
  obtain ⟨h1, ⟨t2, p2, h2⟩, t3, p3, h3⟩ := hE
  cases ha : Lib.atoiAll l with
  | ok v =>
    refine (Tryz.strconv_Atoi_ok ⟨l.toArray⟩ (by omega) v (by rw [hd]; exact ha) w).mono ?_
    rintro e w' ⟨rfl, hw⟩
    refine ⟨?_, .inl ⟨v, rfl, rfl⟩⟩
    rcases hw with rfl | ⟨t, rfl⟩
    · exact Kept.refl _
    · exact kept_bytesWorld _ _ _
  | «syntax» =>
    refine (Tryz.strconv_Atoi_syntax ⟨l.toArray⟩ (by omega) (by rw [hd]; exact ha) _ w h2 (.inr ⟨t2, p2, rfl⟩)).mono ?_
    rintro e w' ⟨N, rfl, -, -, hk⟩
    exact ⟨hk, .inr ⟨(fun v h => by cases h), _, _, N, rfl⟩⟩
  | range =>
    refine (Tryz.strconv_Atoi_range ⟨l.toArray⟩ (by omega) (by rw [hd]; exact ha) _ w h3 (.inr ⟨t3, p3, rfl⟩)).mono ?_
    rintro e w' ⟨N, rfl, -, -, hk⟩
    exact ⟨hk, .inr ⟨(fun v h => by cases h), _, _, N, rfl⟩⟩
end Go.Proofs.YtngbgngfdklnlaaGreatDoor
set_option linter.unusedSimpArgs false
set_option linter.unusedVariables false
namespace Go.Proofs.YtngbgngfdklnlaaGreatDoor
open Go.RowKit
theorem contains_index (l : List UInt8) (c : UInt8) : decide (0 ≤ Lib.indexByte l c) = l.contains c := by
  rw [Bool.eq_iff_iff, decide_eq_true_eq, List.contains_iff_mem, List.mem_iff_getElem?]
  constructor
  · intro h
    obtain ⟨o, ho⟩ := Int.eq_ofNat_of_zero_le h
    exact ⟨o, (Lib.indexByte_some ho).1⟩
  · rintro ⟨k, hk⟩
    have := Lib.indexByte_ge l c
    rcases Int.lt_or_le (Lib.indexByte l c) 0 with h | h
    · exact absurd hk (Lib.indexByte_none (by omega) k)
    · exact h
theorem allS_30 (k : Nm) (fs : Fls) : (allS [k] fs = 30) ↔ okN k = false := by
  unfold allS
  simp only [List.all_cons, List.all_nil, Bool.and_true]
  constructor
  · intro h
    by_cases h1 : okN k = false
    · exact h1
    · rw [if_neg h1] at h
      split at h <;> simp at h
  · intro h
    rw [if_pos h]
set_option maxRecDepth 100000 in
set_option maxHeartbeats 1000000 in
theorem isNameS_any (nm : Nm) (d : Value) (cap : Nat) (fs : Fls) (F : Nat → Prop) (w : World) (hd : Disk w d cap fs F) :
    Calls Tryz.prog 35 #[d, .string ⟨nm.toArray⟩] w fun e w' => e = .returned (.bool (goodL nm)) ∧ Kept w w' := by
  obtain ⟨db, rfl⟩ := hd.form
  have HS := Lib.hid (safe_any nm cap fs F _ w hd)
  have HC := Lib.hid (show ∀ W, _ from fun W => Tryz.strings_Contains_one ⟨nm.toArray⟩ 46 W)
  rw [show (⟨nm.toArray⟩ : ByteArray).data.toList = nm by simp, contains_index] at HC
  have hsz : (⟨nm.toArray⟩ : ByteArray).size = nm.length := str_size nm
  have h30 := allS_30 nm fs
  generalize hr : goodL nm = r
  unfold goodL at hr
  generalize ((if allS [nm] fs = 0 then ((getA nm fs).getD ([], 0)).2 else 0 : Nat) : Int) = sf at *
  generalize allS [nm] fs = al at *
  generalize nm.contains 46 = ct at *
  generalize hL : nm.length = L at *
  generalize hnm : (⟨nm.toArray⟩ : ByteArray) = ls at *
  clear hd
  by_cases h1 : okN nm = false
  · have ha := h30.2 h1
    subst ha
    rw [h1] at hr
    subst hr
    clear h30
    go_enter Tryz.func35, Tryz.ntmps35
    go_wp2_with fail
    refine HS.out.mono ?_
    rintro e w1 ⟨rfl, k1⟩
    go_wp2
    go_ret
    exact ⟨rfl, k1⟩
  · have ha : (al == 30) = false := by
      rw [beq_eq_false_iff_ne]
      exact fun h => h1 (h30.1 h)
    have ha' : (al != 30) = true := by rw [bne, ha]; rfl
    have ha'' : al ≠ 30 := by simpa using ha
    rw [Bool.not_eq_false] at h1
    rw [h1, Bool.true_and] at hr
    clear h30
    by_cases h2 : L ≤ 12
    · rw [decide_eq_true h2, Bool.true_and] at hr
      subst hr
      have h2' : decide ((L : Int) ≤ 12) = true := by simp; omega
      go_enter Tryz.func35, Tryz.ntmps35
      go_wp2_with fail
      refine HS.out.mono ?_
      rintro e w1 ⟨rfl, k1⟩
      go_wp2_with fail
      refine (HC.out w1).mono ?_
      rintro e w2 ⟨rfl, rfl⟩
      go_wp2
      go_ret
      exact ⟨rfl, k1⟩
    · rw [decide_eq_false h2, Bool.false_and] at hr
      subst hr
      have h2' : decide ((L : Int) ≤ 12) = false := by simp; omega
      go_enter Tryz.func35, Tryz.ntmps35
      go_wp2_with fail
      refine HS.out.mono ?_
      rintro e w1 ⟨rfl, k1⟩
      go_wp2
      go_ret
      exact ⟨rfl, k1⟩
end Go.Proofs.YtngbgngfdklnlaaGreatDoor
set_option linter.unusedSimpArgs false
set_option linter.unusedVariables false
namespace Go.Proofs.YtngbgngfdklnlaaGreatDoor
open Go.RowKit
/-- A shelf: the disk and the name. -/
def shV (d : Value) (nm : Nm) : Value := .agg #[d, .string ⟨nm.toArray⟩]
set_option maxRecDepth 100000 in
set_option maxHeartbeats 1000000 in
theorem dataFile_any (d : Value) (nm : Nm) (n : Nat) (w : World) (hnl : nm.length ≤ 12) (hT : Tb w) (hn : n ≤ 4611686018427387903) :
    Calls Tryz.prog 41 #[.agg #[d, .string ⟨nm.toArray⟩], .int .i64 (n : Int)] w fun e w' => e = .returned (.string ⟨(datN nm n).toArray⟩) ∧ Kept w w' := by
  have hk0 := (Kept.refl w).alloc (.cells #[d, .string ⟨nm.toArray⟩] 90)
  have hb := heap_alloc_new w (.cells #[d, .string ⟨nm.toArray⟩] 90)
  have HI := Lib.hid (show ∀ W, Kept w W → _ from fun W hW => itoa_any n W hn (hT.kept hW))
  have HF := Lib.hid (show (⟨nm.toArray⟩ : ByteArray) ++ ⟨#[46, 115]⟩ ++ ⟨(Lib.decDigits n).toArray⟩ = ⟨(datN nm n).toArray⟩ by
    rw [show (⟨#[46, 115]⟩ : ByteArray) = ⟨([46, 115] : List UInt8).toArray⟩ from rfl, str_append, str_append]; rfl)
  have hds := dec_len n hn
  generalize Lib.decDigits n = ds at *
  generalize datN nm n = dn at *
  clear hT
  go_enter Tryz.func41, Tryz.ntmps41
  go_wp2
  generalize w.alloc (.cells #[d, .string ⟨nm.toArray⟩] 90) = w1 at *
  have u1 := cell_at hb 1
  simp only [List.getElem?_toArray, List.getElem?_cons_zero, List.getElem?_cons_succ] at u1
  have hK1 := (Kept.refl w1).drew
  have hK2 := hk0.trans hK1
  clear hb
  go_region_with (go_at_call 89; refine (HI.out _ (by first | exact hK2)).mono ?_; rintro e w3 ⟨rfl, hq⟩; have hq1 := hK1.trans hq; have z1 := hq1.cell u1)
  all_goals (
    go_wp2
    go_ret
    exact ⟨congrArg (fun s => Ending.returned (.string s)) HF.out, hk0.trans hq1⟩)
set_option maxRecDepth 100000 in
set_option maxHeartbeats 1000000 in
theorem manFile_any (d : Value) (nm : Nm) (w : World) (hnl : nm.length ≤ 12) :
    Calls Tryz.prog 92 #[.agg #[d, .string ⟨nm.toArray⟩]] w fun e w' => e = .returned (.string ⟨(manN nm).toArray⟩) ∧ Kept w w' := by
  have HF := Lib.hid (show (⟨nm.toArray⟩ : ByteArray) ++ ⟨#[46, 109, 97, 110]⟩ = ⟨(manN nm).toArray⟩ from str_append nm [46, 109, 97, 110])
  go_enter Tryz.func92, Tryz.ntmps92
  go_wp2
  go_ret
  exact ⟨congrArg (fun s => Ending.returned (.string s)) HF.out, (Kept.refl w).alloc _⟩
set_option maxRecDepth 100000 in
set_option maxHeartbeats 1000000 in
theorem tmpFile_any (d : Value) (nm : Nm) (w : World) (hnl : nm.length ≤ 12) :
    Calls Tryz.prog 42 #[.agg #[d, .string ⟨nm.toArray⟩]] w fun e w' => e = .returned (.string ⟨(tmpN nm).toArray⟩) ∧ Kept w w' := by
  have HF := Lib.hid (show (⟨nm.toArray⟩ : ByteArray) ++ ⟨#[46, 116, 109, 112]⟩ = ⟨(tmpN nm).toArray⟩ from str_append nm [46, 116, 109, 112])
  go_enter Tryz.func42, Tryz.ntmps42
  go_wp2
  go_ret
  exact ⟨congrArg (fun s => Ending.returned (.string s)) HF.out, (Kept.refl w).alloc _⟩
theorem str_eq (a b : Nm) : (a == b) = decide (a = b) := by
  rw [Bool.eq_iff_iff, beq_iff_eq, decide_eq_true_eq]
set_option maxRecDepth 100000 in
set_option maxHeartbeats 4000000 in
theorem isDataFile_any (d : Value) (nm f : Nm) (w : World) (hnl : nm.length ≤ 12) (hE : Env w) (hl : f.length ≤ 40) :
    Calls Tryz.prog 94 #[.agg #[d, .string ⟨nm.toArray⟩], .string ⟨f.toArray⟩] w fun e w' => e = .returned (.bool (isDat nm f)) ∧ Kept w w' := by
  have hk0 := (Kept.refl w).alloc (.cells #[d, .string ⟨nm.toArray⟩] 90)
  have hb := heap_alloc_new w (.cells #[d, .string ⟨nm.toArray⟩] 90)
  have HTR := Lib.hid (show ∀ W, Calls Tryz.prog 118 #[.string ⟨f.toArray⟩, .string ⟨(sN nm).toArray⟩] W fun e w' => e = .returned (.string ⟨(Lib.trimPrefix f (sN nm)).toArray⟩) ∧ w' = W from fun W => by
    refine (Tryz.strings_TrimPrefix ⟨f.toArray⟩ ⟨(sN nm).toArray⟩ W).mono ?_
    rintro e w' ⟨rfl, rfl⟩
    exact ⟨by simp, rfl⟩)
  have HLD := Lib.hid (show (⟨nm.toArray⟩ : ByteArray) ++ ⟨#[46, 115]⟩ = ⟨(sN nm).toArray⟩ from str_append nm [46, 115])
  have HAT := Lib.hid (show ∀ W, Kept w W → _ from fun W hW => atoi_any (Lib.trimPrefix f (sN nm)) W (hE.kept hW) (Nat.le_trans (trim_len _ _) hl))
  have HDF := Lib.hid (show ∀ (n : Nat) W, n ≤ 4611686018427387903 → Kept w W → _ from fun n W hn hW => dataFile_any d nm n W hnl (hE.kept hW).1 hn)
  have HID := Lib.hid (show isDat nm f = true → _ from isDat_atoi)
  have HIC := Lib.hid (show ∀ n : Nat, n ≤ 4611686018427387903 → f = datN nm n → isDat nm f = true from fun n hn h => by rw [h]; exact isDat_dat nm n hn)
  have HSE := Lib.hid (show ∀ n, (f == datN nm n) = decide (f = datN nm n) from fun n => str_eq _ _)
  generalize isDat nm f = r at *
  generalize Lib.trimPrefix f (sN nm) = tr at *
  clear hE
  go_enter Tryz.func94, Tryz.ntmps94
  go_wp2_with fail
  rw [HLD.out]
  generalize w.alloc (.cells #[d, .string ⟨nm.toArray⟩] 90) = w1 at *
  refine (HTR.out w1).mono ?_
  rintro e w2 ⟨rfl, rfl⟩
  go_wp2_with fail
  refine (HAT.out w2 hk0).mono ?_
  rintro e w3 ⟨k3, ⟨v, hv, rfl⟩ | ⟨hv, z, t, N, rfl⟩⟩
  · by_cases h1 : 0 ≤ v
    · obtain ⟨n, rfl⟩ := Int.eq_ofNat_of_zero_le h1
      by_cases h2 : n ≤ 4611686018427387903
      · have u := k3.block' hb
        have u0 := cell_at u 0
        have u1 := cell_at u 1
        simp only [List.getElem?_toArray, List.getElem?_cons_zero, List.getElem?_cons_succ] at u0 u1
        have HV := Lib.hid hv
        have HSn := Lib.hid (HSE.out n)
        have HDn := Lib.hid (HDF.out n w3 h2 (hk0.trans k3))
        have hr : decide (f = datN nm n) = r := by
          cases r with
          | true =>
            obtain ⟨m, hm, hf, ha⟩ := HID.out rfl
            rw [HV.out] at ha
            injection ha with ha
            have : n = m := by omega
            subst this
            exact decide_eq_true hf
          | false =>
            rw [decide_eq_false_iff_not]
            intro hf
            exact absurd (HIC.out n h2 hf) (by simp)
        have HR := Lib.hid hr
        have i1 : decide ((n : Int) ≤ 4611686018427387903) = true := by simp; omega
        have i0 : decide ((0 : Int) ≤ (n : Int)) = true := by simp
        generalize datN nm n = dn at *
        clear hr hv u hb h1
        go_wp2_with fail
        refine HDn.out.mono ?_
        rintro e w4 ⟨rfl, k4⟩
        go_wp2
        go_ret
        exact ⟨ret_bool (HSn.out.trans HR.out), (hk0.trans k3).trans k4⟩
      · have HR := Lib.hid (show false = r by
          cases r with
          | false => rfl
          | true =>
            obtain ⟨m, hm, hf, ha⟩ := HID.out rfl
            rw [hv] at ha
            injection ha with ha
            omega)
        have i1 : decide ((n : Int) ≤ 4611686018427387903) = false := by simp; omega
        have i0 : decide ((0 : Int) ≤ (n : Int)) = true := by simp
        clear hv hb h1
        go_wp2
        go_ret
        exact ⟨ret_bool HR.out, hk0.trans k3⟩
    · have HR := Lib.hid (show false = r by
        cases r with
        | false => rfl
        | true =>
          obtain ⟨m, hm, hf, ha⟩ := HID.out rfl
          rw [hv] at ha
          injection ha with ha
          omega)
      have i0 : decide ((0 : Int) ≤ v) = false := by simp; omega
      clear hv hb h1
      go_wp2
      go_ret
      exact ⟨ret_bool HR.out, hk0.trans k3⟩
  · have HR := Lib.hid (show false = r by
      cases r with
      | false => rfl
      | true =>
        obtain ⟨m, hm, hf, ha⟩ := HID.out rfl
        exact absurd ha (hv _))
    clear hv hb
    go_wp2
    go_ret
    exact ⟨ret_bool HR.out, hk0.trans k3⟩
end Go.Proofs.YtngbgngfdklnlaaGreatDoor
set_option linter.unusedSimpArgs false
set_option linter.unusedVariables false
namespace Go.Proofs.YtngbgngfdklnlaaGreatDoor
open Go.RowKit
/-- What a type is, for append. -/
structure Elem (st et : TypeId) (size bytes : Nat) : Prop where
  under : Tryz.prog.underlying st = some (.slice et)
  info : ∃ i z, Tryz.prog.info? et = some i ∧ i.zero = some z ∧ i.size = size ∧ i.bytes = bytes ∧ z.cells.size = size
  pos : 0 < size
theorem elem_of {st et : TypeId} {size bytes : Nat} {z : Value} (hu : Tryz.prog.underlying st = some (.slice et)) (h : (Tryz.prog.info? et).map (fun i => (i.zero, i.size, i.bytes)) = some (some z, size, bytes)) (hz : z.cells.size = size) (hp : 0 < size) : Elem st et size bytes := by
  refine ⟨hu, ?_, hp⟩
  cases hq : Tryz.prog.info? et with
  | none => rw [hq] at h; cases h
  | some i =>
    rw [hq] at h
    simp only [Option.map_some, Option.some.injEq, Prod.mk.injEq] at h
    exact ⟨i, z, rfl, h.1, h.2.1, h.2.2, hz⟩
theorem elemB : Elem 58 32 1 24 := elem_of (z := .slice none 0 0) Tryz.underlying58 (by kernel_rfl) rfl (by decide)
theorem elemT : Elem 46 9 1 16 := elem_of (z := .string ⟨#[]⟩) Tryz.underlying46 (by kernel_rfl) rfl (by decide)
theorem elemI : Elem 33 3 1 8 := elem_of (z := .int .i64 0) Tryz.underlying33 (by kernel_rfl) rfl (by decide)
theorem append_one_run {st et : TypeId} {size bytes : Nat} (E : Elem st et size bytes) (ty : TypeId) (w : World) (base : Nat) (v : Value) (n : Nat) (xs news : List Value) (hown : w.ownsRow base et size v n xs) (b c : Nat) (hl : news.length = size) (hc : ∀ j u, news[j]? = some u → w.cell? ⟨b, j, none⟩ = some u) (h1 : ∀ u ∈ news, u.oneCell' = true)
    (hlim : (n + 1) * bytes ≤ 140737488355328) (h63 : n + 1 ≤ maxLen) (hbase : base ≤ w.heap.size) :
    ∃ v' w', (Builtin.append_ #[st, st] ty #[v, .slice (some ⟨b, 0, none⟩) 1 c]).run Tryz.prog w = .ok v' w' ∧ w'.ownsRow base et size v' (n + 1) (xs ++ news) ∧ w.grownBy w' v.ownBlock ∧ (v'.ownBlock = v.ownBlock ∨ v'.ownBlock = some w.heap.size) := by
  obtain ⟨i, z, hi, hz, hs, hb, hzs⟩ := E.info
  have ha : ∀ j, ((⟨b, 0, none⟩ : Addr).add j) = ⟨b, j, none⟩ := fun j => by unfold Addr.add; split <;> simp_all
  obtain ⟨v', w', hrun, h2, h3, _, h5⟩ := run_append_own_at (P := Tryz.prog) w base st ty et i z size bytes E.under hi hz hs hb hzs E.pos v n _ hown ⟨b, 0, none⟩ 1 c news (by omega) (fun j u hu => by rw [ha]; exact hc j u hu) h1 h63 hlim hbase
  exact ⟨v', w', hrun, h2, h3, h5⟩
/-- append, for the walk. -/
theorem wpList_append_one {st et : TypeId} {size bytes : Nat} (E : Elem st et size bytes) {w : World} {ops : Array Oper} {rest : List Oper} {o : Oper} {a : Act} {Q : Exit → Act → World → Prop} (hgd : o.guard = none) (s x : Operand)
    (ho : o.op = .call { callee := .builtin .append, args := #[s, x], argTypes := #[st, st] }) (base : Nat) (v : Value) (n : Nat) (xs news : List Value) (b c : Nat) (hs : a.eval s = v) (hxe : a.eval x = .slice (some ⟨b, 0, none⟩) 1 c)
    (hown : w.ownsRow base et size v n xs) (hl : news.length = size) (hc : ∀ j u, news[j]? = some u → w.cell? ⟨b, j, none⟩ = some u) (h1 : ∀ u ∈ news, u.oneCell' = true) (hlim : (n + 1) * bytes ≤ 140737488355328) (h63 : n + 1 ≤ maxLen) (hbase : base ≤ w.heap.size)
    (h : ∀ v' w', w'.ownsRow base et size v' (n + 1) (xs ++ news) → w.grownBy w' v.ownBlock → (v'.ownBlock = v.ownBlock ∨ v'.ownBlock = some w.heap.size) → wpList Tryz.prog ops Q rest (a.put o.dst v') w') : wpList Tryz.prog ops Q (o :: rest) a w := by
  refine wpList_plain hgd fun K hK => ?_
  obtain ⟨v', w', hrun, h2, h3, h4⟩ := append_one_run E o.type w base v n xs news hown b c hl hc h1 hlim h63 hbase
  unfold Oper.wp execOp
  simp only [ho, resolve, invoke, builtin, Sem.run_bind, Sem.run_pure, Result.andThen_ok, List.map_toArray, List.map_cons, List.map_nil, hs, hxe, hrun]
  exact hK _ _ (h v' w' h2 h3 h4)
/-- append, in a region that draws. -/
theorem step_append_one {st et : TypeId} {size bytes : Nat} (E : Elem st et size bytes) {w : World} {ops : Array Oper} {o : Oper} {a : Act} {K : Act → World → Prop} {Q : Exit → Act → World → Prop} {X : Prop} (hgd : o.guard = none) (s x : Operand)
    (ho : o.op = .call { callee := .builtin .append, args := #[s, x], argTypes := #[st, st] }) (base : Nat) (v : Value) (n : Nat) (xs news : List Value) (b c : Nat) (hs : a.eval s = v) (hxe : a.eval x = .slice (some ⟨b, 0, none⟩) 1 c)
    (hown : w.ownsRow base et size v n xs) (hl : news.length = size) (hc : ∀ j u, news[j]? = some u → w.cell? ⟨b, j, none⟩ = some u) (h1 : ∀ u ∈ news, u.oneCell' = true) (hlim : (n + 1) * bytes ≤ 140737488355328) (h63 : n + 1 ≤ maxLen) (hbase : base ≤ w.heap.size)
    (h : ∀ v' w', w'.ownsRow base et size v' (n + 1) (xs ++ news) → w.grownBy w' v.ownBlock → (v'.ownBlock = v.ownBlock ∨ v'.ownBlock = some w.heap.size) → K (a.put o.dst v') w') :
    if Region.wanted o (yielded ops a.tmps) = true then Oper.wp Tryz.prog o a w K Q else X := by
  have hw : Region.wanted o (yielded ops a.tmps) = true := by simp [Region.wanted, hgd]
  rw [if_pos hw]
  obtain ⟨v', w', hrun, h2, h3, h4⟩ := append_one_run E o.type w base v n xs news hown b c hl hc h1 hlim h63 hbase
  unfold Oper.wp execOp
  simp only [ho, resolve, invoke, builtin, Sem.run_bind, Sem.run_pure, Result.andThen_ok, List.map_toArray, List.map_cons, List.map_nil, hs, hxe, hrun]
  exact h v' w' h2 h3 h4
theorem cell_new1 (w : World) (u : Value) (t : TypeId) : ∀ j x, ([u] : List Value)[j]? = some x → (w.alloc (.cells #[u] t)).cell? ⟨w.heap.size, j, none⟩ = some x := by
  intro j x hx
  rw [cell_at (heap_alloc_new w _)]
  match j, hx with
  | 0, hx => simpa using hx
theorem one_cell {u : Value} (h : u.oneCell' = true) : ∀ x ∈ [u], x.oneCell' = true := by
  intro x hx
  rw [List.mem_singleton.1 hx]
  exact h
end Go.Proofs.YtngbgngfdklnlaaGreatDoor
