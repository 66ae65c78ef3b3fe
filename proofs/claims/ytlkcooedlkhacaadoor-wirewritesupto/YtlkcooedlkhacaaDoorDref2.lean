/- The walk of the document's reader: Blob. -/
import Derived.Test.YtlkcooedlkhacaaDoorDref
namespace Go.Proofs.YtlkcooedlkhacaaDoor
open Go.RowKit
theorem slice_bts (A : Option Addr) (l : List UInt8) (c q n : Nat) (h : q + n ≤ l.length) (hc : l.length ≤ c) :
    ∃ SV, (∀ W, (Instr.sliceAt 23 (.slice A l.length c) (some (.int .i64 (q : Int))) (some (.int .i64 ((q : Int) + (n : Int)))) none).run Tryd.prog W = .ok SV W) ∧ ∀ W, Bts W (.slice A l.length c) l → Bts W SV ((l.drop q).take n) := by
  obtain ⟨i0, hi, -, hs, -⟩ := info_byte
  refine ⟨sliced A q (q + n) c 1, fun W => ?_, fun W hb => ?_⟩
  · have hel : Tryd.prog.elem 23 = 5 := by kernel_rfl
    have hu : Tryd.prog.underlying 23 = some (.slice (Tryd.prog.elem 23)) := by rw [hel]; exact Tryd.underlying23
    rw [run_sliceAt_slice W _ _ _ _ _ hu, run_slice_lh W _ A l.length c hu .i64 .i64 _ _ (by omega) (by omega) (by omega), hel]
    have e1 : ((q : Int) + (n : Int)).toNat = q + n := by omega
    simp [sizeOf, typeInfo, hi, hs, e1]
  · unfold sliced
    rw [Nat.add_sub_cancel_left, Nat.mul_one]
    obtain ⟨A', c', hv, h1, h2, h3⟩ := id hb
    simp only [Value.slice.injEq, true_and] at hv
    obtain ⟨rfl, rfl⟩ := hv
    by_cases hn : n = 0
    · subst hn
      exact Bts.empty W _ _ (by omega)
    · obtain ⟨b, o, rfl⟩ := hb.addr (by omega)
      rw [if_neg (by omega)]
      have := hb.cut q n h
      have e : ((⟨b, o, none⟩ : Addr).add q) = ⟨b, o + q, none⟩ := by unfold Addr.add; split <;> simp_all
      simp only [Option.map_some, e]
      exact this
set_option maxRecDepth 100000 in
set_option maxHeartbeats 4000000 in
theorem dBlob (b : Nat) (v : Value) (l : List UInt8) (p : Nat) (er : Int) (w : World) (h : IsD w b v l p er) (hlim : l.length ≤ 140737488355328) :
    Calls Tryd.prog 38 #[.pointer (some ⟨b, 0, none⟩)] w fun e w' => ∃ u q, e = .returned u ∧ Bts w' u (rd (l.drop p) er).1 ∧ IsD w' b v l q (rd (l.drop p) er).2.2 ∧ (rd (l.drop p) er).2.1 = l.drop q ∧ RFr b w w' := by
  have hp := h.2.2
  have hcall := dNum b v l p er w h hlim
  obtain ⟨c0, c1, c2, f1, f2⟩ := h.cells
  obtain ⟨A, c, rfl⟩ := h.2.1.form
  obtain ⟨hcl, hcm⟩ : l.length ≤ c ∧ c ≤ maxLen := by
    obtain ⟨A', c', hv, h1, h2, -⟩ := id h.2.1
    simp only [Value.slice.injEq] at hv
    obtain ⟨-, -, rfl⟩ := hv
    exact ⟨h1, h2⟩
  unfold maxLen at hcm
  have HD := Lib.hid h
  clear h
  unfold rd
  rcases rn_cases (l.drop p) er with ⟨e, hR, he⟩ | ⟨-, n, k, hR, hk, -, hn⟩
  · rw [hR] at hcall ⊢
    simp only [Nat.add_zero, Nat.zero_le, if_true, List.drop_zero, List.take_zero] at hcall ⊢
    have t : (e != 0) = true := by simpa using he
    have HC := Lib.hid hcall
    clear hcall hR
    go_enter Tryd.func38, Tryd.ntmps38
    go_wp2_with fail
    refine HC.out.mono ?_
    rintro e' w1 ⟨rfl, hI, hF⟩
    obtain ⟨d0, d1, d2, g1, g2⟩ := hI.cells
    have HI := Lib.hid hI
    have HF := Lib.hid hF
    clear hI hF
    go_wp2
    go_ret
    exact ⟨_, p, rfl, Bts.nil _, HI.out, rfl, HF.out⟩
  · rw [List.length_drop] at hk
    rw [hR] at hcall ⊢
    simp only at hcall ⊢
    have HC := Lib.hid hcall
    clear hcall hR
    have hq : p + k ≤ l.length := by omega
    have HE : Hid (l.drop (p + k) = (l.drop p).drop k) := Lib.hid (by rw [List.drop_drop])
    have HE2 : Hid (l.drop (p + k + n) = (l.drop p).drop (k + n)) := Lib.hid (by rw [List.drop_drop, Nat.add_assoc])
    have hsl : (l.drop p).length = l.length - p := List.length_drop
    have hql : (l.drop (p + k)).length = l.length - (p + k) := List.length_drop
    by_cases hle : n ≤ (l.drop p).length - k
    · rw [if_pos hle]
      simp only
      rw [hsl] at hle
      have HQL := Lib.hid hql
      clear hql hsl
      generalize hqq : p + k = q at *
      have hle' : n ≤ l.length - q := by omega
      clear hqq hk hle
      have t1 : decide (((l.length - q : Nat) : Int) < (n : Int)) = false := by simp; omega
      have t2 : decide (l.length - q < n) = false := by simp; omega
      go_enter Tryd.func38, Tryd.ntmps38
      go_wp2_with fail
      refine HC.out.mono ?_
      rintro e' w1 ⟨rfl, hI, hF⟩
      obtain ⟨d0, d1, d2, g1, g2⟩ := hI.cells
      have HI := Lib.hid hI
      have HF := Lib.hid hF
      clear hI hF
      go_wp2_with fail
      refine (dLeft b _ l q 0 _ HI.out hlim).mono ?_
      rintro e' w2 ⟨rfl, hk2⟩
      rw [HQL.out]
      have hI2 := HI.out.kept hk2
      have hF2 := HF.out.trans (RFr.of_kept hk2)
      clear HI HF hk2 d0 d1 d2 g1 g2
      obtain ⟨d0, d1, d2, g1, g2⟩ := hI2.cells
      have HI := Lib.hid hI2
      have HF := Lib.hid hF2
      clear hI2 hF2 c0 c1 c2 f1 f2 HC HQL
      have hk := (Kept.refl w2).drew
      have hId := HI.out.kept hk
      have HId := Lib.hid hId
      clear hId
      obtain ⟨SV, hsl, hsb⟩ := slice_bts A l c q n (by omega) hcl
      have CUT := Lib.hid (hsb _ HId.out.2.1)
      obtain ⟨As, cs, hsv⟩ := CUT.out.form
      have hlt : ((l.drop q).take n).length = n := by simp; omega
      rw [hlt] at hsv
      subst hsv
      clear hsb
      have hw4 : IntKind.i64.wrap ((q : Int) + (n : Int)) = (q : Int) + (n : Int) := by rw [IntKind.wrap_i64]; omega
      go_wp2_with fail
      go_region_with (go_at_call 14; refine (copy_any _ _ _ CUT.out (by simp; omega)).mono ?_; rintro e w3 ⟨v3, rfl, ho3, hk3⟩)
      all_goals (
        have hI3 := HId.out.kept hk3
        have hF3 := (HF.out.trans (RFr.of_kept hk)).trans (RFr.of_kept hk3)
        clear d0 d1 d2 g1 g2
        obtain ⟨d0, d1, d2, g1, g2⟩ := hI3.cells
        have hfin := hI3.setAt (q + n) (by omega)
        have HFI := Lib.hid hfin.1
        have HFR := Lib.hid (hF3.trans hfin.2)
        have HB3 := Lib.hid ((Bts.of_own ho3).set (i := 1) (x := .int .i64 ((q + n : Nat) : Int)) hI3.not8)
        clear hfin hI3 hF3 ho3 hk3 HI HId HF
        go_wp2
        go_ret
        exact ⟨_, q + n, rfl, by rw [← HE.out]; exact HB3.out, HFI.out, HE2.out.symm, HFR.out⟩)
    · rw [if_neg hle]
      simp only
      rw [hsl] at hle
      have HQL := Lib.hid hql
      clear hql hsl
      generalize hqq : p + k = q at *
      have hle' : ¬ n ≤ l.length - q := by omega
      clear hqq hk hle
      have t1 : decide (((l.length - q : Nat) : Int) < (n : Int)) = true := by simp; omega
      have t2 : decide (l.length - q < n) = true := by simp; omega
      go_enter Tryd.func38, Tryd.ntmps38
      go_wp2_with fail
      refine HC.out.mono ?_
      rintro e' w1 ⟨rfl, hI, hF⟩
      obtain ⟨d0, d1, d2, g1, g2⟩ := hI.cells
      have HI := Lib.hid hI
      have HF := Lib.hid hF
      clear hI hF
      go_wp2_with fail
      refine (dLeft b _ l q 0 _ HI.out hlim).mono ?_
      rintro e' w2 ⟨rfl, hk2⟩
      rw [HQL.out]
      have hI2 := HI.out.kept hk2
      have hF2 := HF.out.trans (RFr.of_kept hk2)
      clear HI HF hk2 d0 d1 d2 g1 g2
      obtain ⟨d0, d1, d2, g1, g2⟩ := hI2.cells
      have HI := Lib.hid hI2
      have HF := Lib.hid hF2
      clear hI2 hF2 c0 c1 c2 f1 f2 HC HQL
      have hE := HI.out.setErr 12
      have hA := hE.1.setAt p hp
      have hfin := ((HF.out.trans hE.2).trans hA.2)
      have HA := Lib.hid hA.1
      have HFIN := Lib.hid hfin
      clear hE hA hfin
      go_wp2
      go_ret
      exact ⟨_, p, rfl, Bts.nil _, HA.out, rfl, HFIN.out⟩
end Go.Proofs.YtlkcooedlkhacaaDoor
