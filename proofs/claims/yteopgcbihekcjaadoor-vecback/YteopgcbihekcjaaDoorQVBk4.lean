/- What is written of a ballot and a vector is read back: as plain data. -/
import Derived.Test.YteopgcbihekcjaaDoorQVRd9
set_option linter.unusedSimpArgs false
set_option linter.unusedVariables false
namespace Go.Proofs.YteopgcbihekcjaaDoor
open Go.RowKit
theorem rn_put' (n : Nat) (h : n ≤ 4611686018427387903) (s : List UInt8) : rn (put n ++ s) 0 = (n, (put n).length, 0) := by
  unfold rn; rw [if_pos rfl, numOf_put n h s]; rfl
theorem nv_put {n : Nat} (h : n ≤ 4611686018427387903) (s : List UInt8) : nv (put n ++ s, 0) = n := by unfold nv; rw [rn_put' n h s]
theorem nx_put {n : Nat} (h : n ≤ 4611686018427387903) (s : List UInt8) : nx (put n ++ s, 0) = (s, 0) := by
  unfold nx
  simp only [rn_put' n h s]
  rw [List.drop_append_of_le_length (Nat.le_refl _), List.drop_length, List.nil_append]
theorem putAll_cons' {n : Int} (ns : List Int) (h : okNum n = true) : putAll (n :: ns) = put n.toNat ++ putAll ns := by
  unfold putAll; rw [List.filter_cons_of_pos h, List.flatMap_cons]
theorem rdN_put {l : List Int} (h : vok l = true) : ∀ k, k ≤ l.length → rdN k (putAll l, 0) = (l.take k, (putAll (l.drop k), 0))
  | 0, _ => by simp [rdN]
  | k + 1, hk => by
    have hlt : k < l.length := by omega
    have ih := rdN_put h k (by omega)
    have hx := vok_all h _ (List.getElem_mem hlt)
    have hd : putAll (l.drop k) = put l[k].toNat ++ putAll (l.drop (k + 1)) := by rw [List.drop_eq_getElem_cons hlt, putAll_cons' _ ((okNum_iff _).2 hx)]
    simp only [rdN, ih]
    rw [hd, nv_put (by omega), nx_put (by omega), List.take_succ_eq_append_getElem hlt]
    simp only [Prod.mk.injEq, and_true]
    rw [show ((l[k].toNat : Nat) : Int) = l[k] by omega]
theorem get_back {n r : Int} {l : List Int} (hb : bOk n r = true) (hv : vok l = true) : getOk (bvB n r l) = true ∧ getN (bvB n r l) = n ∧ getR (bvB n r l) = r ∧ getV (bvB n r l) = l ∧ getE (bvB n r l) = 0 := by
  have hbn := (bOk_iff n r).1 hb
  have hl := vok_len hv
  obtain ⟨a, rfl⟩ := Int.eq_ofNat_of_zero_le hbn.1
  obtain ⟨b, rfl⟩ := Int.eq_ofNat_of_zero_le hbn.2.2.1
  have hp : bvB (a : Int) (b : Int) l = put a ++ (put b ++ (put l.length ++ putAll l)) := by
    unfold bvB
    rw [putAll_three (by omega) (by omega) (by omega)]
    simp [List.append_assoc]
  generalize bvB (a : Int) (b : Int) l = p at hp
  subst hp
  have e1 : gs1 (put a ++ (put b ++ (put l.length ++ putAll l))) = (put b ++ (put l.length ++ putAll l), 0) := nx_put (by omega) _
  have e2 : gs2 (put a ++ (put b ++ (put l.length ++ putAll l))) = (put l.length ++ putAll l, 0) := by unfold gs2; rw [e1]; exact nx_put (by omega) _
  have e3 : gs3 (put a ++ (put b ++ (put l.length ++ putAll l))) = (putAll l, 0) := by unfold gs3; rw [e2]; exact nx_put (by omega) _
  have n1 : gN (put a ++ (put b ++ (put l.length ++ putAll l))) = a := nv_put (by omega) _
  have n2 : gR (put a ++ (put b ++ (put l.length ++ putAll l))) = b := by unfold gR; rw [e1]; exact nv_put (by omega) _
  have n3 : gM (put a ++ (put b ++ (put l.length ++ putAll l))) = l.length := by unfold gM; rw [e2]; exact nv_put (by omega) _
  have m1 : gmOk (put a ++ (put b ++ (put l.length ++ putAll l))) = true := by
    unfold gmOk
    rw [n3]
    simp only [Bool.and_eq_true, decide_eq_true_eq]
    exact hl
  have g1 : gAll (put a ++ (put b ++ (put l.length ++ putAll l))) = (l, ([], 0)) := by
    unfold gAll
    rw [if_pos m1, e3, n3, rdN_put hv _ (Nat.le_refl _), List.take_length, List.drop_length]
    rfl
  have ok : getOk (put a ++ (put b ++ (put l.length ++ putAll l))) = true := getOk_yes m1 (by rw [n1, n2]; exact hb) (by rw [g1]) (by rw [g1]; rfl)
  exact ⟨ok, by unfold getN; rw [if_pos ok, n1], by unfold getR; rw [if_pos ok, n2], by unfold getV; rw [if_pos ok, g1], by unfold getE; rw [if_pos ok]⟩
theorem get_no {p : List UInt8} (h : getOk p = false) : getN p = 0 ∧ getR p = 0 ∧ getV p = [] ∧ getE p = 13 := by
  unfold getN getR getV getE
  rw [h]
  exact ⟨rfl, rfl, rfl, rfl⟩
theorem get_yes {p : List UInt8} (h : getOk p = true) : getN p = gN p ∧ getR p = gR p ∧ getV p = (gAll p).1 ∧ getE p = 0 := by
  unfold getN getR getV getE
  rw [h]
  exact ⟨rfl, rfl, rfl, rfl⟩
end Go.Proofs.YteopgcbihekcjaaDoor
