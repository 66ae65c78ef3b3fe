/- The walk of the document's Put of a ballot and a vector. -/
import Derived.Test.YteopgcbihekcjaaDoorQVBk1
import Derived.Test.YteopgcbihekcjaaDoorGRefNum2
import Derived.Deep.RegionHeld3
set_option linter.unusedSimpArgs false
set_option linter.unusedVariables false
namespace Go.Proofs.YteopgcbihekcjaaDoor
open Go.RowKit
theorem okNum_nat' {n : Nat} (h : n ≤ 4611686018427387903) : okNum (n : Int) = true := (okNum_iff _).2 (by omega)
theorem putAll_three {a b c : Nat} (ha : a ≤ 4611686018427387903) (hb : b ≤ 4611686018427387903) (hc : c ≤ 4611686018427387903) : putAll [(a : Int), (b : Int), (c : Int)] = put a ++ (put b ++ put c) := by
  unfold putAll
  simp [okNum_nat' ha, okNum_nat' hb, okNum_nat' hc]
set_option maxRecDepth 100000 in
set_option maxHeartbeats 4000000 in
theorem refBPut_any (n r : Int) (l : List Int) (v : Value) (w : World) (hv : Ints w v l) (hb : bOk n r = true) (hk : vok l = true) : Calls Tryd.prog 10 #[bal n r, v] w fun e w' => ∃ v', e = .returned v' ∧ Bts w' v' (bvB n r l) ∧ Kept w w' := by
  obtain ⟨A, c, rfl, hc1, hc2⟩ := hv.form
  unfold maxLen at hc2
  have HV := Lib.hid hv
  have hl7 := vok_len hk
  have hbn := (bOk_iff n r).1 hb
  obtain ⟨a, rfl⟩ := Int.eq_ofNat_of_zero_le hbn.1
  obtain ⟨b, rfl⟩ := Int.eq_ofNat_of_zero_le hbn.2.2.1
  have HVK := Lib.hid (vok_all hk)
  have HP3 := Lib.hid (putAll_three (a := a) (b := b) (c := l.length) (by omega) (by omega) (by omega))
  have ha : a < 9223372036854775808 := by omega
  have hb' : b < 9223372036854775808 := by omega
  have hl' : l.length < 9223372036854775808 := by omega
  have HPA := Lib.hid (putF_len 9 a)
  have HPB := Lib.hid (putF_len 9 b)
  have HPC := Lib.hid (putF_len 9 l.length)
  have HFL := Lib.hid (show [put a, put b, put l.length].flatten.length ≤ 27 from by
    have h1 : (put a).length ≤ 9 := HPA.out
    have h2 : (put b).length ≤ 9 := HPB.out
    have h3 : (put l.length).length ≤ 9 := HPC.out
    simp only [List.flatten_cons, List.flatten_nil, List.length_append, List.length_nil]
    omega)
  clear hv hk hb hbn
  go_enter Tryd.func10, Tryd.ntmps10
  go_wp2
  obtain ⟨q0, q1⟩ := cells2 (heap_alloc_new w (.cells #[.int .i64 (a : Int), .int .i64 (b : Int)] 31))
  have HK1 := Lib.hid ((Kept.refl w).alloc (.cells #[.int .i64 (a : Int), .int .i64 (b : Int)] 31))
  generalize hw1 : w.alloc (.cells #[.int .i64 (a : Int), .int .i64 (b : Int)] 31) = w1 at *
  clear hw1
  go_region_held3 (fun W => W.cell? ⟨w.heap.size, 0, none⟩ = some (.int .i64 (a : Int)) ∧ W.cell? ⟨w.heap.size, 1, none⟩ = some (.int .i64 (b : Int)))
    (refine ⟨Kept.cell ?_ q0, Kept.cell ?_ q1⟩ <;> repeat (first | exact Kept.refl _ | refine Kept.drew ?_ | refine Kept.alloc ?_ _ | assumption | refine Kept.trans ?_ (by assumption)))
    (first
      | (go_at_call 28; refine (refPut_any _ _ (by omega)).mono ?_; rintro x w5 ⟨v5, rfl, ho5, k5⟩; have hb5 := Bts.of_own ho5; obtain ⟨A5, c5, rfl⟩ := own_form ho5; clear ho5)
      | (go_at_call 27; refine (join_any [put a, put b, put l.length] _ _ (Parts.three (by refine Bts.kept (by assumption) ?_; repeat (first | exact Kept.refl _ | refine Kept.drew ?_ | refine Kept.alloc ?_ _ | assumption | refine Kept.trans ?_ (by assumption))) (by refine Bts.kept (by assumption) ?_; repeat (first | exact Kept.refl _ | refine Kept.drew ?_ | refine Kept.alloc ?_ _ | assumption | refine Kept.trans ?_ (by assumption))) (by refine Bts.kept (by assumption) ?_; repeat (first | exact Kept.refl _ | refine Kept.drew ?_ | refine Kept.alloc ?_ _ | assumption | refine Kept.trans ?_ (by assumption)))) (by have := HFL.out; omega)).mono ?_; rintro x w9 ⟨v9, rfl, ho9, k9⟩; have hkw : Kept w1 w9 := (by repeat (first | exact Kept.refl _ | refine Kept.drew ?_ | refine Kept.alloc ?_ _ | assumption | refine Kept.trans ?_ (by assumption))); have hrow := own_base' (b' := w.heap.size) ho9 (Nat.le_trans HK1.out.size (Below.size (by repeat (first | exact Kept.refl _ | refine Kept.drew ?_ | refine Kept.alloc ?_ _ | assumption | refine Kept.trans ?_ (by assumption)))))))
  have HROW0 := Lib.hid hrow
  have HKW := Lib.hid (HK1.out.trans hkw)
  clear hkw ho9 k9 q0 q1
  obtain ⟨A9, c9, rfl⟩ := own_form hrow
  have HF3 := Lib.hid (show [put a, put b, put l.length].flatten = putAll [(a : Int), (b : Int), (l.length : Int)] from by rw [HP3.out]; simp)
  have hrow := HROW0.out
  rw [HF3.out] at hrow ⊢
  have HPL := Lib.hid (show (putAll [(a : Int), (b : Int), (l.length : Int)]).length ≤ 27 from by rw [← HF3.out]; exact HFL.out)
  have HBV := Lib.hid (show bvB (a : Int) (b : Int) l = putAll [(a : Int), (b : Int), (l.length : Int)] ++ putAll l from rfl)
  generalize putAll [(a : Int), (b : Int), (l.length : Int)] = p3 at *
  have HROW := Lib.hid hrow
  clear hrow HROW0
  go_wp2
  go_loopw [5, 6] (fun u i W => ∃ k : Nat, i = .int .i64 (k : Int) ∧ k ≤ l.length ∧ W.ownsRow w.heap.size 5 1 u (p3 ++ putAll (l.take k)).length (Lib.byteCells (p3 ++ putAll (l.take k))) ∧ Kept w W) (fun _ i _ => l.length - (intOf i).toNat)
  case atStart => exact ⟨0, rfl, Nat.zero_le _, by simpa [putAll] using HROW.out, HKW.out⟩
  case round =>
    obtain ⟨k, rfl, hk, hO, hK⟩ := hrel
    obtain ⟨A4, c4, rfl⟩ := own_form hO
    have HO := Lib.hid hO
    have hsz := hK.size
    have hlen := putAll_len (l.take k)
    rw [List.length_take] at hlen
    have hll : (p3 ++ putAll (l.take k)).length ≤ 27 + 9 * 7 := by rw [List.length_append]; have := HPL.out; omega
    have HHL := Lib.hid hll
    clear hO hlen hll
    by_cases hlt : k < l.length
    · obtain ⟨bi, oi, rfl, hcell⟩ := (HV.out.kept hK).atI hlt
      have hx := HVK.out _ (List.getElem_mem hlt)
      have HE := Lib.hid (show putAll (l.take (k + 1)) = putAll (l.take k) ++ if okNum l[k] then put l[k].toNat else [] by rw [take_snoc _ _ hlt, putAll_snoc])
      obtain ⟨m, hm⟩ := Int.eq_ofNat_of_zero_le hx.1
      rw [hm] at hcell
      have HE2 := Lib.hid (show putAll (l.take (k + 1)) = putAll (l.take k) ++ put m by rw [HE.out, hm, okNum_nat' (n := m) (by omega)]; rfl)
      have hm9 : m < 9223372036854775808 := by omega
      have g1 : (k : Int) < (l.length : Int) := by omega
      clear hx hm HE
      go_wp2_with fail
      refine (refPut_any m _ hm9).mono ?_
      rintro e w2 ⟨v2, rfl, ho2, hk2⟩
      have hb2 := Bts.of_own ho2
      obtain ⟨A2, c2, rfl⟩ := own_form ho2
      have HO2 := Lib.hid (own_kept HO.out hk2)
      have HB2 := Lib.hid hb2
      have hK2 := hK.trans hk2
      have hsz2 := hK2.size
      have HPM := Lib.hid (putF_len 9 m)
      clear ho2 hb2
      generalize hpp : p3 ++ putAll (l.take k) = pp at *
      have HPP := Lib.hid hpp
      have hll := HHL.out
      have hpm : (put m).length ≤ 9 := HPM.out
      clear hpp
      go_wp2_with (at_builtin; refine wpList_append_bts rfl _ _ rfl w.heap.size _ _ pp (put m) _ rfl rfl HO2.out HB2.out (by omega) (by omega) ?_; intro v' w' h1 h2 h3)
      go_roundw
      case rel => exact ⟨k + 1, by go_num, by omega, by rw [HE2.out, ← List.append_assoc, HPP.out, List.length_append]; exact h1, hK2.grown h2 (own_ge HO2.out)⟩
      case measure => simp [intOf]; omega
    · obtain rfl : k = l.length := by omega
      have ho := HO.out
      rw [List.take_length, ← HBV.out] at ho
      have HBB := Lib.hid (Bts.of_own ho)
      clear ho
      rw [List.take_length] at *
      rw [← HBV.out] at *
      go_wp2
      go_ret
      exact ⟨_, rfl, HBB.out, hK⟩
end Go.Proofs.YteopgcbihekcjaaDoor
