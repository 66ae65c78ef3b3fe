/- The walk of Children. -/
import Derived.Test.YtnpenabkmpoafaaDoorQZPkC
import Derived.Deep.CutBlock
import Derived.Deep.DeepCutAuto
set_option linter.unusedSimpArgs false
set_option linter.unusedVariables false
namespace Go.Proofs.YtnpenabkmpoafaaDoor
open Go.RowKit
def isKid (p q : Pth) : Bool := strO (parentOf q) == p
set_option maxRecDepth 100000 in
set_option maxHeartbeats 1000000 in
theorem childCl_any (W : World) (b1 : Nat) (p q : Pth) (nv : Value) (hc : W.cell? ⟨b1, 0, none⟩ = some (.string ⟨p.toArray⟩)) :
    Calls Tryd.prog 25 #[.string ⟨q.toArray⟩, nv, .pointer (some ⟨b1, 0, none⟩)] W fun e w' => e = .returned (.bool (isKid p q)) ∧ Kept W w' := by
  have HU := Lib.hid (parent_any q W)
  unfold isKid
  generalize errO (parentOf q) = er at *
  generalize strO (parentOf q) = so at *
  have HC := Lib.hid hc
  clear hc
  go_enter Tryd.func25, Tryd.ntmps25
  go_wp2_with fail
  refine HU.out.mono ?_
  rintro e w1 ⟨rfl, hk⟩
  have c1 := hk.cell HC.out
  have HK := Lib.hid hk
  clear hk
  go_wp2
  go_ret
  refine ⟨?_, HK.out⟩
  first | rfl | (congr 2; rw [Bool.eq_iff_iff]; simp)
def kidsL (t : ZT) (p : Pth) : List Pth := (pickL (fun q _ => isKid p q) t).map fun q => strO (baseOf q)
def ChildTo (base : Nat) (t : ZT) (p : Pth) (fe : Int) (w : World) (e : Ending) (w' : World) : Prop := ∃ v, e = .returned (.tuple #[v, .int .i64 fe]) ∧ (if fe = 0 then w'.ownsRow base 9 1 v (kidsL t p).length (strCells (kidsL t p)) else v = .slice none 0 0) ∧ Kept w w'
theorem own_setS {w : World} {b : Nat} {e : TypeId} {n g c : Nat} {ls : List Pth} (h : w.ownsRow b e 1 (.slice (some ⟨g, 0, none⟩) n c) ls.length (strCells ls)) (j : Nat) (x : Pth) : (w.setCell ⟨g, j, none⟩ (.string ⟨x.toArray⟩)).ownsRow b e 1 (.slice (some ⟨g, 0, none⟩) n c) (ls.set j x).length (strCells (ls.set j x)) := by
  have h1 := own_set h (g := g) rfl j (.string ⟨x.toArray⟩)
  rw [List.length_set]
  have e1 : strCells (ls.set j x) = (strCells ls).set j (.string ⟨x.toArray⟩) := by unfold strCells; rw [List.map_set]
  rw [e1]
  exact h1
set_option maxRecDepth 100000 in
set_option maxHeartbeats 4000000 in
theorem children_any (w : World) (tb mb : Nat) (st : ZSt) (lim : Nat) (F : Nat → Prop) (h : TreeAt w tb mb st lim F) (p : Pth) (hlim : lim ≤ 8000000000000) :
    Calls Tryd.prog 9 #[.pointer (some ⟨tb, 0, none⟩), .string ⟨p.toArray⟩] w (ChildTo w.heap.size (plainZ st) p (findE st p) w) := by
  have hka := (Kept.refl w).alloc (.cells #[.string ⟨p.toArray⟩] 9)
  have hna := heap_alloc_new w (.cells #[.string ⟨p.toArray⟩] 9)
  have hsa : (w.alloc (.cells #[.string ⟨p.toArray⟩] 9)).heap.size = w.heap.size + 1 := by simp
  have H := Lib.hid (h.kept hka)
  have HKA := Lib.hid hka
  have hc0 := cell_at hna 0
  simp only [List.getElem?_toArray, List.getElem?_cons_zero] at hc0
  have hpl : (pickL (fun q _ => isKid p q) (plainZ st)).length ≤ 8000000000001 := by
    unfold pickL
    rw [List.length_map]
    have h2 : (plainZ st).length = st.length := length_mapZ _ _
    have := h.few
    exact Nat.le_trans (List.length_filter_le _ _) (by rw [h2]; omega)
  clear h
  go_enter Tryd.func9, Tryd.ntmps9
  go_upto_region 1 with (fail)
  generalize w.alloc (.cells #[.string ⟨p.toArray⟩] 9) = wa at *
  have HCK := Lib.hid (zfind_any H.out p)
  have HC0 := Lib.hid hc0
  by_cases hn : findE st p = 0
  · rw [hn] at HCK
    have HNN := Lib.hid hn
    generalize findV st p = fv at *
    clear hna hka hn
    go_wp2_with fail
    refine HCK.out.mono ?_
    rintro e w1 ⟨rfl, hk⟩
    have HK := Lib.hid hk
    have hs1 := hk.size
    have HP := Lib.hid (pickC_any w.heap.size w1 tb mb st lim F (H.out.kept hk) (fun q _ => isKid p q) hlim (fun W kW x hx => childCl_any W w.heap.size p x.1 _ (kW.cell (hk.cell HC0.out))))
    clear hk hc0
    have HKL := Lib.hid (show kidsL (plainZ st) p = (pickL (fun q _ => isKid p q) (plainZ st)).map fun q => strO (baseOf q) from rfl)
    generalize pickL (fun q _ => isKid p q) (plainZ st) = pl at *
    go_wp2_with fail
    refine HP.out.mono ?_
    rintro e w2 ⟨v, rfl, ho, hk2⟩
    have HO := Lib.hid ho
    have HK2 := Lib.hid hk2
    obtain ⟨A, c, rfl⟩ := own_form ho
    have HGQ := Lib.hid (show ∃ g, 0 < pl.length → A = some ⟨g, 0, none⟩ ∧ w1.heap.size ≤ g from by
      rcases ho.2 with ⟨e, h0⟩ | ⟨g, cap, cur, e, hb, -⟩
      · exact ⟨0, fun h => by omega⟩
      · injection e with e1 e2 e3
        exact ⟨g, fun _ => ⟨e1, hb⟩⟩)
    obtain ⟨g, hgq⟩ := HGQ.out
    have HG := Lib.hid hgq
    clear ho hk2 hgq HGQ
    go_wp2
    go_loopw [25] (fun i W => ∃ k : Nat, i = .int .i64 (k : Int) ∧ k ≤ pl.length ∧ W.ownsRow w1.heap.size 9 1 (.slice A pl.length c) ((pl.take k).map (fun q => strO (baseOf q)) ++ pl.drop k).length (strCells ((pl.take k).map (fun q => strO (baseOf q)) ++ pl.drop k)) ∧ Kept w1 W) (fun i _ => pl.length - (intOf i).toNat)
    case atStart => exact ⟨0, rfl, Nat.zero_le _, by simpa using HO.out, HK2.out⟩
    case round =>
      obtain ⟨k, rfl, hk, hOk, hKk⟩ := hrel
      have HOK := Lib.hid hOk
      have HKK := Lib.hid hKk
      clear hOk hKk
      by_cases hlt : k < pl.length
      · have hpos : 0 < pl.length := by omega
        obtain rfl := (HG.out hpos).1
        have hgb := (HG.out hpos).2
        have g1 : (k : Int) < (pl.length : Int) := by omega
        have hll : ((pl.take k).map (fun q => strO (baseOf q)) ++ pl.drop k).length = pl.length := by simp; omega
        have hat : ((pl.take k).map (fun q => strO (baseOf q)) ++ pl.drop k)[k]? = some pl[k] := by
          rw [List.getElem?_append_right (by rw [List.length_map, List.length_take]; omega), List.length_map, List.length_take, Nat.min_eq_left (by omega), Nat.sub_self, List.getElem?_drop, Nat.add_zero, List.getElem?_eq_getElem hlt]
        have hset : ((pl.take k).map (fun q => strO (baseOf q)) ++ pl.drop k).set k (strO (baseOf pl[k])) = (pl.take (k + 1)).map (fun q => strO (baseOf q)) ++ pl.drop (k + 1) := by
          have e1 : ((pl.take k).map (fun q => strO (baseOf q))).length = k := by simp; omega
          rw [List.set_append_right _ _ (by omega), e1, Nat.sub_self, List.drop_eq_getElem_cons hlt, List.set_cons_zero, List.take_succ_eq_append_getElem hlt, List.map_append, List.append_assoc]
          rfl
        have hcell : wr.cell? ⟨g, k, none⟩ = some (.string ⟨(pl[k]).toArray⟩) := by
          have h1 := HOK.out.cells (g := g) rfl k (.string ⟨(pl[k]).toArray⟩) (by unfold strCells; rw [List.getElem?_map, hat]; rfl)
          have e : ((⟨g, 0, none⟩ : Addr).add k) = ⟨g, 0 + k, none⟩ := by unfold Addr.add; split <;> simp_all
          rw [e, Nat.zero_add] at h1
          exact h1
        have HSET := Lib.hid hset
        have HB := Lib.hid (show ∀ W, Kept wr W → _ from fun W _ => base_any pl[k] W)
        have HHB := Lib.hid hgb
        clear hll hat hset hgb
        generalize pl[k] = q at *
        generalize hbq : baseOf q = bq at *
        clear hbq
        go_wp2_with fail
        refine (HB.out wr (Kept.refl _)).mono ?_
        rintro e w5 ⟨rfl, hk5⟩
        have hf5 : w5.frozen? ⟨g, k, none⟩ = false := by
          rcases (own_kept HOK.out hk5).2 with ⟨e, -⟩ | ⟨g', cap, cur, e, -, h3, -⟩
          · cases e
          · injection e with e1 e2 e3
            injection e1 with e1
            injection e1 with e1
            subst e1
            exact frozen_at h3 k
        have hgl : g < w5.heap.size := by have := ((own_kept HOK.out hk5).lt g rfl).2; omega
        have HK5 := Lib.hid hk5
        have hcell5 := hk5.cell hcell
        clear hk5 hcell
        have t0 : 0 ≤ (k : Int) := by omega
        go_wp2
        go_roundw
        case rel =>
          refine ⟨k + 1, by go_num, by omega, ?_, ?_⟩
          · rw [← HSET.out]
            exact own_setS (own_kept HOK.out HK5.out) k _
          · exact Chg.kept (HKK.out.trans HK5.out) ((Chg.refl (fun x => x = g) w5).setCell _ (fun _ => rfl)) (fun x e => by rw [e]; exact HHB.out)
        case measure => simp [intOf]; omega
      · obtain rfl : k = pl.length := by omega
        go_wp2
        go_ret2
        refine ⟨_, by rw [HNN.out]; rfl, ?_, (HKA.out.trans HK.out).trans HKK.out⟩
        rw [if_pos HNN.out, HKL.out]
        have := HOK.out
        rw [List.take_length, List.drop_length, List.append_nil] at this
        exact own_base' this (by omega)
  · have hv : findV st p = .pointer none := by unfold findV; rw [if_neg hn]
    have h2 : findE st p = 20 ∨ findE st p = 70 := by
      unfold findE at *
      by_cases h1 : (names p).isSome = true
      · rw [if_pos h1] at hn ⊢
        by_cases h2 : hasZ p st = true
        · rw [if_pos h2] at hn; exact absurd rfl hn
        · rw [if_neg h2]; exact .inr rfl
      · rw [if_neg h1]; exact .inl rfl
    rw [hv] at HCK
    clear hna hka hn hv
    generalize findE st p = fe at *
    rcases h2 with rfl | rfl
    all_goals
      go_wp2_with fail
      refine HCK.out.mono ?_
      rintro e w1 ⟨rfl, hk⟩
      have HK := Lib.hid hk
      clear hk hc0
      go_wp2
      go_ret2
      exact ⟨.slice none 0 0, rfl, by rw [if_neg (by decide)], HKA.out.trans HK.out⟩
end Go.Proofs.YtnpenabkmpoafaaDoor
