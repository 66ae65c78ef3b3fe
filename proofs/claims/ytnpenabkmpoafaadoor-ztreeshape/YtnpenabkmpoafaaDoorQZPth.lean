/- The walk of Paths. -/
import Derived.Test.YtnpenabkmpoafaaDoorQZPkP
import Derived.Test.YtnpenabkmpoafaaDoorQPUnder
set_option linter.unusedSimpArgs false
set_option linter.unusedVariables false
namespace Go.Proofs.YtnpenabkmpoafaaDoor
open Go.RowKit
set_option maxRecDepth 100000 in
set_option maxHeartbeats 1000000 in
theorem pathsCl_any (W : World) (b1 : Nat) (p q : Pth) (nv : Value) (hc : W.cell? ⟨b1, 0, none⟩ = some (.string ⟨p.toArray⟩)) :
    Calls Tryd.prog 21 #[.string ⟨q.toArray⟩, nv, .pointer (some ⟨b1, 0, none⟩)] W fun e w' => e = .returned (.bool (under p q)) ∧ Kept W w' := by
  have HU := Lib.hid (under_any p q W)
  generalize under p q = un at *
  generalize errB (bothP p q) = er at *
  go_enter Tryd.func21, Tryd.ntmps21
  go_wp2_with fail
  refine HU.out.mono ?_
  rintro e w1 ⟨rfl, hk⟩
  go_wp2
  go_ret
  exact ⟨rfl, hk⟩
def PathsTo (base : Nat) (t : ZT) (p : Pth) (w : World) (e : Ending) (w' : World) : Prop := ∃ v, e = .returned (.tuple #[v, .int .i64 (chk p)]) ∧ (if (names p).isSome then w'.ownsRow base 9 1 v (pickL (fun q _ => under p q) t).length (strCells (pickL (fun q _ => under p q) t)) else v = .slice none 0 0) ∧ Kept w w'
set_option maxRecDepth 100000 in
set_option maxHeartbeats 1000000 in
theorem paths_any (w : World) (tb mb : Nat) (st : ZSt) (lim : Nat) (F : Nat → Prop) (h : TreeAt w tb mb st lim F) (p : Pth) (hlim : lim ≤ 8000000000000) :
    Calls Tryd.prog 6 #[.pointer (some ⟨tb, 0, none⟩), .string ⟨p.toArray⟩] w (PathsTo w.heap.size (plainZ st) p w) := by
  have hka := (Kept.refl w).alloc (.cells #[.string ⟨p.toArray⟩] 9)
  have hna := heap_alloc_new w (.cells #[.string ⟨p.toArray⟩] 9)
  have hsa : (w.alloc (.cells #[.string ⟨p.toArray⟩] 9)).heap.size = w.heap.size + 1 := by simp
  have H := Lib.hid (h.kept hka)
  have HKA := Lib.hid hka
  have hc0 := cell_at hna 0
  simp only [List.getElem?_toArray, List.getElem?_cons_zero] at hc0
  clear h
  go_enter Tryd.func6, Tryd.ntmps6
  go_upto_region 1 with (fail)
  generalize w.alloc (.cells #[.string ⟨p.toArray⟩] 9) = wa at *
  have HCK := Lib.hid (check_any p wa)
  have HC0 := Lib.hid hc0
  by_cases hn : (names p).isSome = true
  · rw [chk_isSome hn] at HCK
    have HNN := Lib.hid hn
    clear hna hka hn
    go_wp2_with fail
    refine HCK.out.mono ?_
    rintro e w1 ⟨rfl, hk⟩
    have HK := Lib.hid hk
    have hs1 := hk.size
    have HP := Lib.hid (pickP_any w.heap.size w1 tb mb st lim F (H.out.kept hk) (fun q _ => under p q) hlim (fun W kW x hx => pathsCl_any W w.heap.size p x.1 _ (kW.cell (hk.cell HC0.out))))
    clear hk hc0
    go_wp2_with fail
    refine HP.out.mono ?_
    rintro e w2 ⟨v, rfl, ho, hk2⟩
    have HO := Lib.hid ho
    have HK2 := Lib.hid hk2
    clear ho hk2
    go_wp2
    go_ret2
    refine ⟨v, by rw [chk_isSome HNN.out]; rfl, ?_, (HKA.out.trans HK.out).trans HK2.out⟩
    rw [if_pos HNN.out]
    exact own_base' HO.out (by omega)
  · rw [chk_isNone hn] at HCK
    have HNN := Lib.hid hn
    clear hna hka hn
    go_wp2_with fail
    refine HCK.out.mono ?_
    rintro e w1 ⟨rfl, hk⟩
    have HK := Lib.hid hk
    clear hk hc0
    go_wp2
    go_ret2
    exact ⟨.slice none 0 0, by rw [chk_isNone HNN.out]; rfl, by rw [if_neg HNN.out], HKA.out.trans HK.out⟩
end Go.Proofs.YtnpenabkmpoafaaDoor
