/- The document's Heal. -/
import Derived.Test.YtnpenabkmpoafaaQNRf5
import Derived.Deep.MidRow
set_option linter.unusedSimpArgs false
set_option linter.unusedVariables false
namespace Go.Proofs.Ytnpenabkmpoafaa
open Go.RowKit
def rHealS (d : RS) : RS := { d with cut := fun _ _ => false }
def zrow : Array Value := Array.replicate 1024 (.bool false)
theorem zero32 (w : World) : Sem.run Try.prog (zeroValue 32) w = .ok (.agg zrow) w := by kernel_rfl
theorem info32 : (Try.prog.info? 32).map (·.size) = some zrow.size := by kernel_rfl
theorem zrow_one : zrow.all (·.oneCell') = true := by
  unfold zrow
  rw [Array.all_eq_true_iff_forall_mem]
  intro v hv
  obtain ⟨-, rfl⟩ := Array.mem_replicate.1 hv
  rfl
theorem zrow_size : zrow.size = 1024 := Array.size_replicate
theorem zrow_at (i : Nat) (hi : i < 1024) : zrow[i]? = some (.bool false) := by
  unfold zrow
  rw [Array.getElem?_replicate, if_pos hi]
/-- A row in the midst of another one. -/
def midZ (Z : Array Value) (o : Nat) (M : List Value) : Array Value := (Z.toList.take o ++ M ++ Z.toList.drop (o + M.length)).toArray
theorem midZ_size (Z : Array Value) (o : Nat) (M : List Value) (h : o + M.length ≤ Z.size) : (midZ Z o M).size = Z.size := by
  unfold midZ
  simp
  omega
theorem midZ_low (Z : Array Value) (o : Nat) (M : List Value) (h : o + M.length ≤ Z.size) {i : Nat} (hi : i < o) : (midZ Z o M)[i]? = Z[i]? := by
  unfold midZ
  rw [List.getElem?_toArray, List.append_assoc, List.getElem?_append_left (by simp; omega), List.getElem?_take, if_pos hi, Array.getElem?_toList]
theorem midZ_mid (Z : Array Value) (o : Nat) (M : List Value) (h : o + M.length ≤ Z.size) {i : Nat} (hi : i < M.length) : (midZ Z o M)[o + i]? = M[i]? := by
  unfold midZ
  have hl : (Z.toList.take o).length = o := by simp; omega
  rw [List.getElem?_toArray, List.append_assoc, List.getElem?_append_right (by omega), hl, Nat.add_sub_cancel_left, List.getElem?_append_left hi]
theorem midZ_high (Z : Array Value) (o : Nat) (M : List Value) (h : o + M.length ≤ Z.size) {i : Nat} (hi : o + M.length ≤ i) : (midZ Z o M)[i]? = Z[i]? := by
  unfold midZ
  have hl : (Z.toList.take o ++ M).length = o + M.length := by simp; omega
  rw [List.getElem?_toArray, List.getElem?_append_right (by omega), hl, List.getElem?_drop, Array.getElem?_toList]
  congr 1
  omega
theorem Chg.setRow {F : Nat → Prop} {w : World} {b : Nat} (cs : Array Value) (hb : b < w.heap.size → F b) : Chg F w (w.setRow b cs) :=
  ⟨rfl, rfl, rfl, by simp, fun k hk hF => setRow_other w b k cs (fun e => hF (by subst e; exact hb hk))⟩
theorem RefAt.setZ {w : World} {db : Nat} {Z : Array Value} {lv : Value} {vs : List Sent} {d d' : RS} {G : Nat → Prop} (h : RefAt w db Z lv vs d G) {Z' : Array Value} (hz : RefZ Z' d' lv) (e1 : d'.n = d.n) (e2 : d'.room = d.room) (e3 : d'.list = d.list) : RefAt (w.setRow db Z') db Z' lv vs d' G := by
  have hcs : Chg (fun g => g = db) w (w.setRow db Z') := Chg.setRow _ (fun _ => rfl)
  refine ⟨setRow_heap _ _ _ _ _ _ h.net, hz, own_chg h.row hcs fun g hg e => ?_, fun y hy => own_chg (h.vals y hy) hcs fun g hg e => ?_, h.same.trans e3.symm, by rw [e1]; exact h.small, by rw [e2]; exact h.roomy, h.few, h.inN, h.inL, h.inV⟩
  · subst e; exact h.apart hg
  · subst e
    obtain ⟨c1, h1⟩ := own_type (h.vals y hy) hg
    have h2 := h.net
    rw [h1] at h2
    simp only [Option.some.injEq, Obj.cells.injEq] at h2
    exact absurd h2.2.1 (by decide)
theorem RefZ.heal {Z : Array Value} {d : RS} {lv : Value} (h : RefZ Z d lv) : RefZ (midZ Z 3 zrow.toList) (rHealS d) lv := by
  have hl : zrow.toList.length = 1024 := by rw [Array.length_toList, zrow_size]
  have hs := h.size
  have hb : 3 + zrow.toList.length ≤ Z.size := by omega
  refine ⟨by rw [midZ_size _ _ _ hb, hs], ?_, ?_, ?_, fun i j hi hj => ?_, fun i hi => ?_⟩
  · rw [midZ_low _ _ _ hb (by omega)]; exact h.z0
  · rw [midZ_low _ _ _ hb (by omega)]; exact h.z1
  · rw [midZ_low _ _ _ hb (by omega)]; exact h.z2
  · rw [Nat.add_assoc, midZ_mid _ _ _ hb (by omega), Array.getElem?_toList, zrow_at _ (by omega)]; rfl
  · rw [midZ_high _ _ _ hb (by omega)]; exact h.zt i hi
set_option maxRecDepth 100000 in
set_option maxHeartbeats 1000000 in
theorem refHeal_any (w : World) (db : Nat) (Z : Array Value) (lv : Value) (vs : List Sent) (d : RS) (G : Nat → Prop) (h : RefAt w db Z lv vs d G) :
    Calls Try.prog 24 #[.pointer (some ⟨db, 0, none⟩)] w fun e w' => e = .returned (.tuple #[]) ∧ RefTo w w' db (rHealS d) G := by
  have c0 := h.c0
  have hz := zero32 w
  have hs := zrow_size
  have ht : w.there db 3 zrow.size := fun j hj => by
    rw [hs] at hj
    refine ⟨?_, frozen_at h.net _⟩
    rw [cell_at h.net, Array.getElem?_eq_getElem (by rw [h.cells.size]; omega)]
    rfl
  have hst : Sem.run Try.prog (storeCells ⟨db, 3, none⟩ zrow.toList) w = .ok () (w.setRow db (midZ Z 3 zrow.toList)) :=
    run_storeCells_at (P := Try.prog) db 3 _ zrow.toList 0 Z w h.net (by rw [Array.length_toList, hs, h.cells.size]; omega) (fun v hv => (Array.all_eq_true_iff_forall_mem.1 zrow_one) v (by simpa using hv))
  have HF := Lib.hid (h.setZ (d' := rHealS d) h.cells.heal rfl rfl rfl)
  have HC := Lib.hid (show Chg G w (w.setRow db (midZ Z 3 zrow.toList)) from Chg.setRow _ (fun _ => h.inN))
  clear h ht
  generalize zrow = zr at *
  go_enter Try.func24, Try.ntmps24
  go_wp2
  go_end0
  exact ⟨rfl, ⟨_, _, _, HF.out.mono (fun g x => .inl x), trivial⟩, HC.out⟩
end Go.Proofs.Ytnpenabkmpoafaa
