/- A ballot and a vector as bytes: as plain data, and the walk of Put. -/
import Derived.Test.YteopgcbihekcjaaDoorQVWri
import Derived.Test.YteopgcbihekcjaaDoorQVChk
import Derived.Test.YteopgcbihekcjaaDoorQVNxt
set_option linter.unusedSimpArgs false
set_option linter.unusedVariables false
namespace Go.Proofs.YteopgcbihekcjaaDoor
open Go.RowKit
/-- What is written of a ballot and a vector, what Put tells. -/
def bvB (n r : Int) (l : List Int) : List UInt8 := putAll [n, r, (l.length : Int)] ++ putAll l
def bvE (n r : Int) (l : List Int) : Int := if bOk n r then (if vok l then 0 else 90) else 110
def bvR (n r : Int) (l : List Int) : List UInt8 := if bOk n r && vok l then bvB n r l else []
theorem bOk_nums {n r : Int} (h : bOk n r = true) : okNum n = true ∧ okNum r = true := by
  have := (bOk_iff n r).1 h
  exact ⟨(okNum_iff n).2 (by omega), (okNum_iff r).2 (by omega)⟩
theorem vok_nums {l : List Int} (h : vok l = true) : badAll l = false := by
  cases hb : badAll l with
  | false => rfl
  | true =>
    unfold badAll at hb
    obtain ⟨x, hx, hy⟩ := List.any_eq_true.1 hb
    rw [(okNum_iff x).2 (vok_all h x hx)] at hy
    cases hy
theorem bv_good {n r : Int} {l : List Int} (hb : bOk n r = true) (hv : vok l = true) : badAll [n, r, (l.length : Int)] = false := by
  have := vok_len hv
  unfold badAll
  simp only [List.any_cons, List.any_nil, (bOk_nums hb).1, (bOk_nums hb).2, (okNum_iff (l.length : Int)).2 (by omega)]
  rfl
/-- What Put leaves. -/
def PutTo (w : World) (n r : Int) (l : List Int) (e : Ending) (w' : World) : Prop := ∃ v, e = .returned (.tuple #[v, .int .i64 (bvE n r l)]) ∧ Bts w' v (bvR n r l) ∧ Kept w w'
theorem PutTo.bad {w w' : World} {n r : Int} {l : List Int} {x : Int} (h : bvE n r l = x) (h2 : (bOk n r && vok l) = false) (k : Kept w w') : PutTo w n r l (.returned (.tuple #[.slice none 0 0, .int .i64 x])) w' :=
  ⟨.slice none 0 0, by rw [h], by unfold bvR; rw [h2]; exact Bts.nil _, k⟩
theorem three_ints (w : World) (a b c : Int) (t : TypeId) : Ints (w.alloc (.cells #[.int .i64 a, .int .i64 b, .int .i64 c] t)) (.slice (some ⟨w.heap.size, 0, none⟩) 3 3) [a, b, c] := by
  refine ⟨_, 3, rfl, Nat.le_refl _, by decide, fun _ => ⟨_, 0, rfl, fun k x hx => ?_⟩⟩
  match k, hx with
  | 0, hx => obtain rfl : a = x := by simpa using hx
             simp [go_sem]
  | 1, hx => obtain rfl : b = x := by simpa using hx
             simp [go_sem]
  | 2, hx => obtain rfl : c = x := by simpa using hx
             simp [go_sem]
theorem IsW.moreKept {w w' : World} {b : Nat} {bad : Bool} {l : List UInt8} (h : IsW w b bad l) (k : Kept w w') (hr : rowOf w b = none) : IsW w' b bad l ∧ rowOf w' b = none := by
  obtain ⟨⟨hB, v, lr, ⟨cs, hb, h0, h1, h2, hr'⟩, hown, hne⟩, hrow⟩ := h
  have hl : b < w.heap.size := (Array.getElem?_eq_some_iff.1 hb).1
  have e : rowOf w' b = rowOf w b := by
    unfold rowOf
    rw [World.cell?_of_block (a := ⟨b, 0, none⟩) (k.block b hl)]
  exact ⟨⟨⟨hB, v, lr, ⟨cs, (k.block b hl).trans hb, h0, h1, h2, hr'⟩, hown.kept (⟨k.os, k.tape, k.output, k.size, fun i hi _ => k.block i hi⟩ : w.grownBy w' (some b)) (Or.inr hne), hne⟩, fun x => e.trans (hrow x)⟩, e.trans hr⟩
set_option maxRecDepth 100000 in
set_option maxHeartbeats 1000000 in
theorem vput_any (n r : Int) (l : List Int) (v : Value) (w : World) (hv : Ints w v l) : Calls Tryd.prog 4 #[bal n r, v] w (PutTo w n r l) := by
  obtain ⟨A, c, rfl, hc1, hc2⟩ := hv.form
  have HV := Lib.hid hv
  clear hv
  cases hb : bOk n r with
  | false =>
    have HB := Lib.hid (fun w' (k : Kept w w') => PutTo.bad (n := n) (r := r) (l := l) (x := 110) (by unfold bvE; rw [hb]; rfl) (by rw [hb]; rfl) k)
    have HE := Lib.hid (show bE n r = 110 by unfold bE; rw [hb]; rfl)
    clear hb
    go_enter Tryd.func4, Tryd.ntmps4
    go_wp2_with fail
    refine (bcheck_any n r _).mono ?_
    rintro e w1 ⟨rfl, k1⟩
    rw [HE.out]
    have HG := Lib.hid (HB.out _ (((Kept.refl w).alloc _).trans k1))
    clear k1
    go_wp2
    go_ret2
    exact HG.out
  | true =>
    have HE := Lib.hid (show bE n r = 0 by unfold bE; rw [hb]; rfl)
    cases hvk : vok l with
    | false =>
      have HB := Lib.hid (fun w' (k : Kept w w') => PutTo.bad (n := n) (r := r) (l := l) (x := 90) (by unfold bvE; rw [hb, hvk]; rfl) (by rw [hb, hvk]; rfl) k)
      have HF := Lib.hid (vE_no hvk)
      clear hb hvk
      go_enter Tryd.func4, Tryd.ntmps4
      go_wp2_with fail
      refine (bcheck_any n r _).mono ?_
      rintro e w1 ⟨rfl, k1⟩
      rw [HE.out]
      have HK1 := Lib.hid (((Kept.refl w).alloc _).trans k1)
      clear k1
      go_wp2_with fail
      refine (vcheck_any l _ _ (HV.out.kept HK1.out)).mono ?_
      rintro e w2 ⟨rfl, rfl⟩
      rw [HF.out]
      have HG := Lib.hid (HB.out _ HK1.out)
      go_wp2
      go_ret2
      exact HG.out
    | true =>
      have HF := Lib.hid (vE_ok hvk)
      have HN1 := Lib.hid (bv_good hb hvk)
      have HN2 := Lib.hid (vok_nums hvk)
      have HR := Lib.hid (show bvR n r l = putAll [n, r, (l.length : Int)] ++ putAll l by unfold bvR bvB; rw [hb, hvk]; rfl)
      have HBE := Lib.hid (show bvE n r l = 0 by unfold bvE; rw [hb, hvk]; rfl)
      have hl7 := (vok_len hvk).2
      clear hb hvk
      go_enter Tryd.func4, Tryd.ntmps4
      go_wp2_with fail
      refine (bcheck_any n r _).mono ?_
      rintro e w1 ⟨rfl, k1⟩
      rw [HE.out]
      obtain ⟨q0, q1⟩ := cells2 (k1.block' (heap_alloc_new w (.cells #[.int .i64 n, .int .i64 r] 23)))
      have HK1 := Lib.hid (((Kept.refl w).alloc _).trans k1)
      have hsz1 := HK1.out.size
      clear k1
      go_wp2_with fail
      refine (vcheck_any l _ _ (HV.out.kept HK1.out)).mono ?_
      rintro e w2 ⟨rfl, rfl⟩
      rw [HF.out]
      go_wp2_with fail
      refine (newWriter_any _).mono ?_
      rintro e w2 ⟨rfl, hW, k2, hrow, hlt⟩
      have q0 := k2.cell q0
      have q1 := k2.cell q1
      have hk3 := (Kept.refl w2).alloc (.cells #[.int .i64 n, .int .i64 r, .int .i64 (l.length : Int)] 3)
      obtain ⟨hW3, hrow3⟩ := hW.moreKept hk3 hrow
      have HW3 := Lib.hid hW3
      have HROW3 := Lib.hid hrow3
      have HK2 := Lib.hid k2
      have HI3 := Lib.hid ((three_ints w2 n r (l.length : Int) 3).framed (b := w1.heap.size) (fun bi o n' c' e => by
        have hbi : w2.heap.size = bi := (by have h := e; simp at h; exact h.1.1)
        exact ⟨by omega, by rw [hrow3]; simp⟩))
      clear hW hrow hW3 hrow3 hk3 k2
      go_wp2_with fail
      refine (nums_framed _ false [] [n, r, (l.length : Int)] _ _ HI3.out HW3.out (by simp)).mono ?_
      rintro e w4 ⟨rfl, hW4, hF4⟩
      rw [HN1.out, Bool.or_false, List.nil_append] at hW4
      have hkk := (HK1.out.trans HK2.out).alloc (.cells #[.int .i64 n, .int .i64 r, .int .i64 (l.length : Int)] 3)
      have HK4 := Lib.hid (hF4.kept hkk hsz1 (fun i hi => by rw [HROW3.out] at hi; cases hi))
      have HR4 := Lib.hid (hF4.rowKept (n := w.heap.size) hkk.size (fun i hi => by rw [HROW3.out] at hi; cases hi))
      have HW4 := Lib.hid hW4
      have hpl := putAll_len [n, r, (l.length : Int)]
      simp only [List.length_cons, List.length_nil] at hpl
      have HPL := Lib.hid hpl
      clear hW4 hF4 hkk hpl
      go_wp2_with fail
      refine (nums_any _ false (putAll [n, r, (l.length : Int)]) l _ w _ HK4.out hsz1 HR4.out HV.out HW4.out (by have := HPL.out; omega)).mono ?_
      rintro e w5 ⟨rfl, hW5, hF5⟩
      rw [HN2.out, Bool.or_false] at hW5
      have HK5 := Lib.hid (hF5.kept HK4.out hsz1 HR4.out)
      have HW5 := Lib.hid hW5
      have hpl2 := putAll_len l
      have HPL2 := Lib.hid hpl2
      clear hW5 hF5 hpl2
      go_wp2_with fail
      refine (out_good _ _ _ HW5.out (by rw [List.length_append]; have := HPL.out; have := HPL2.out; omega)).mono ?_
      rintro e w6 ⟨v6, rfl, ho6, k6⟩
      have HG := Lib.hid (show PutTo w n r l (.returned (.tuple #[v6, .int .i64 0])) w6 from ⟨v6, by rw [HBE.out], by rw [HR.out]; exact Bts.of_own ho6, HK5.out.trans k6⟩)
      clear ho6 k6
      go_wp2
      go_ret2
      exact HG.out
end Go.Proofs.YteopgcbihekcjaaDoor
