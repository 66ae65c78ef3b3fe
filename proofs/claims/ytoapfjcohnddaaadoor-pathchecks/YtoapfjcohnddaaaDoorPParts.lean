/- The walk of Parts, over the library's Split. -/
import Derived.Test.YtoapfjcohnddaaaDoorPTold
import Derived.Test.YtoapfjcohnddaaaDoorPStrs
import Derived.Test.YtoapfjcohnddaaaDoorPApp
import Derived.Lib.SplitLaws
import Derived.Lib.IndexBytes
import Derived.Laws.OwnMore
namespace Go.Proofs.YtoapfjcohnddaaaDoor
open Go.RowKit
theorem split_sp (k : Nat) : ∀ r : List UInt8, Lib.countB ⟨r.toArray⟩ ⟨#[47]⟩ = k → Lib.splitB ⟨#[47]⟩ 0 k ⟨r.toArray⟩ = (sp r).map fun l => (⟨l.toArray⟩ : ByteArray) := by
  induction k with
  | zero =>
    intro r h
    have h1 : r.count 47 = 0 := by rw [← Lib.count_one]; exact h
    have h2 : (47 : UInt8) ∉ r := fun hm => by have := List.count_pos_iff.2 hm; omega
    rw [Lib.splitB_zero, sp_free r h2]
    rfl
  | succ k ih =>
    intro r h
    have h1 : r.count 47 = k + 1 := by rw [← Lib.count_one]; exact h
    have hc : cutC r = true := by
      have : (47 : UInt8) ∈ r := List.count_pos_iff.1 (by omega)
      simpa [cutC] using this
    have hix : Lib.indexB ⟨r.toArray⟩ ⟨#[47]⟩ = ((cutA r).length : Int) := by
      show Lib.index r [47] = _
      rw [Lib.index_one, index_cut, if_pos hc]
    have hlen := cutB_len r hc
    obtain ⟨e1, e2⟩ := cut_take r hc
    have e3 : (⟨r.toArray⟩ : ByteArray).extract ((cutA r).length + (⟨#[47]⟩ : ByteArray).size) (⟨r.toArray⟩ : ByteArray).size = ⟨(cutB r).toArray⟩ := by
      rw [str_extract, str_size, show (⟨#[47]⟩ : ByteArray).size = 1 from rfl, e2, List.take_of_length_le (by omega)]
    have hcnt := Lib.countB_hit ⟨r.toArray⟩ ⟨#[47]⟩ (cutA r).length (by decide) hix
    rw [e3, h] at hcnt
    rw [Lib.splitB_hit _ _ _ _ _ hix, e3, ih (cutB r) (by omega), sp_true r hc, List.map_cons, str_extract, Nat.add_zero, Nat.sub_zero, List.drop_zero, e1]
theorem own_baseS {w : World} {b b' : Nat} {e : TypeId} {s n : Nat} {v : Value} {xs : List Value} (h : w.ownsRow b e s v n xs) (hb : b' ≤ b) : w.ownsRow b' e s v n xs := by
  obtain ⟨h1, h2⟩ := h
  refine ⟨h1, ?_⟩
  rcases h2 with h2 | ⟨g, cap, cur, a1, a2, a3⟩
  · exact .inl h2
  · exact .inr ⟨g, cap, cur, a1, Nat.le_trans hb a2, a3⟩
theorem split_any (r : List UInt8) (m : Int) (w : World) (hm : w.cell? ⟨0, 0, none⟩ = some (.int .i64 m)) (hr : r.length ≤ 1000) :
    Calls Tryd.prog 22 #[.string ⟨r.toArray⟩, .string ⟨#[47]⟩] w fun e w' => ∃ v, e = .returned v ∧ w'.ownsRow w.heap.size 9 1 v (sp r).length (strCells (sp r)) ∧ Kept w w' := by
  refine (Tryd.strings_Split ⟨r.toArray⟩ ⟨#[47]⟩ m w (by rw [str_size]; omega) hm (by decide)).mono ?_
  rintro e w' ⟨rfl, rfl⟩
  have hs := split_sp _ r rfl
  have hl : (sp r).length = Lib.countB ⟨r.toArray⟩ ⟨#[47]⟩ + 1 := by
    have := Lib.splitB_all ⟨#[47]⟩ (by decide) 0 _ ⟨r.toArray⟩ rfl
    rw [hs, List.length_map] at this
    exact this
  refine ⟨_, rfl, ?_, (Kept.refl w).alloc _⟩
  rw [hs, ← hl]
  have hsz : (sp r).length ≤ maxLen := by
    have h1 := congrArg List.length (flat_sp r)
    have h2 : ∀ ls : List (List UInt8), ls.length ≤ (flat ls).length := by
      intro ls
      induction ls with
      | nil => simp
      | cons x t ih => rw [flat_cons]; simp; omega
    have h3 := h2 (sp r)
    simp at h1
    unfold maxLen
    omega
  have := World.ownsRow_lit (e := 9) (size := 1) (base := w.heap.size) w (strCells (sp r)).toArray (sp r).length (Nat.le_refl _) hsz (by simp [strCells_length])
  rw [show ((sp r).map fun l => (⟨l.toArray⟩ : ByteArray)).map Value.string = strCells (sp r) by simp [strCells]]
  exact this
def partsOf (l : List UInt8) : List (List UInt8) := (names l).getD []
/-- The walk's end. -/
def QDone (l : List UInt8) (w : World) (e : Ending) (w' : World) : Prop := ∃ v, e = .returned (.tuple #[v, .int .i64 (chk l)]) ∧ Txts w' v (partsOf l) ∧ Kept w w'
theorem ret_perr {v : Value} {a b : Int} (h : a = b) : Ending.returned (.tuple #[v, .int .i64 a]) = .returned (.tuple #[v, .int .i64 b]) := by rw [h]
set_option maxRecDepth 100000 in
set_option maxHeartbeats 1000000 in
theorem parts_any (l : List UInt8) (m : Int) (w : World) (hm : w.cell? ⟨0, 0, none⟩ = some (.int .i64 m)) :
    Calls Tryd.prog 7 #[.string ⟨l.toArray⟩] w (QDone l w) := by
  have HC := Lib.hid (check_any l w)
  have HM := Lib.hid hm
  clear hm
  rcases path_cases l with h | rfl | ⟨init, b, h, hfl, hb, hi, hne⟩
  · rw [chk_none h] at HC
    have HK := Lib.hid (chk_none h)
    have hp : partsOf l = [] := by unfold partsOf; rw [h]; rfl
    have HP := Lib.hid hp
    clear h hp
    go_enter Tryd.func7, Tryd.ntmps7
    go_wp2_with fail
    refine HC.out.mono ?_
    rintro e w' ⟨rfl, hk⟩
    go_wp2
    go_ret2
    exact ⟨_, ret_perr HK.out.symm, by rw [HP.out]; exact Txts.nil _, hk⟩
  · rw [chk_root] at HC
    go_enter Tryd.func7, Tryd.ntmps7
    go_wp2_with fail
    refine HC.out.mono ?_
    rintro e w' ⟨rfl, hk⟩
    go_wp2
    go_ret2
    exact ⟨_, ret_perr chk_root.symm, Txts.nil _, hk⟩
  · have HK := Lib.hid (chk_some h)
    rw [chk_some h] at HC
    have t0 : (l == [47]) = false := by simpa using hne
    have hlen := (names_len h).2
    obtain ⟨hok, hmk⟩ := names_some h
    have hp : partsOf l = sp (l.drop 1) := by
      unfold partsOf
      rw [h, hmk, mk_ne (by simp), sp_flat _ (fun x hx => isName_free ((okNames_all hok).1 x hx)) (by simp)]
      rfl
    have hpl : (partsOf l).length ≤ 8 := by unfold partsOf; rw [h]; exact (okNames_all hok).2.1
    have hps : ∀ x ∈ partsOf l, x.length ≤ 32 := by
      unfold partsOf
      rw [h]
      exact fun x hx => (isName_len ((okNames_all hok).1 x hx)).2
    have HPS := Lib.hid hps
    have hdrop : (l.drop 1).take (l.length - 1) = l.drop 1 := List.take_of_length_le (by rw [List.length_drop]; omega)
    have HT := Lib.hid hdrop
    have HP := Lib.hid hp
    have hdl : (l.drop 1).length ≤ 1000 := by rw [List.length_drop]; omega
    have h1 : 1 ≤ l.length := (names_len h).1
    clear h hfl hne hdrop hps hmk hok hp
    go_enter Tryd.func7, Tryd.ntmps7
    go_wp2_with fail
    refine HC.out.mono ?_
    rintro e w1 ⟨rfl, hk1⟩
    go_wp2_with fail
    rw [str_extract, HT.out]
    refine (split_any (l.drop 1) m _ (hk1.cell HM.out) hdl).mono ?_
    rintro e w2 ⟨v2, rfl, ho2, hk2⟩
    rw [← HP.out] at ho2
    have ho3 := own_baseS ho2 hk1.size
    have hk3 := hk1.trans hk2
    obtain ⟨A, c, hv⟩ := own_formS ho2
    subst hv
    have HO := Lib.hid ho3
    clear ho2 ho3 hk1 hk2
    have HKW := Lib.hid hk3
    clear hk3
    generalize hpp : partsOf l = ps at *
    have HPP := Lib.hid hpp
    clear hpp
    go_wp2
    go_loopw [22] (fun i W => ∃ k : Nat, i = .int .i64 (k : Int) ∧ k ≤ ps.length ∧ W.ownsRow w.heap.size 9 1 (.slice A ps.length c) ps.length (strCells ps) ∧ Kept w W) (fun i _ => ps.length - (intOf i).toNat)
    case atStart => exact ⟨0, rfl, Nat.zero_le _, HO.out, HKW.out⟩
    case round =>
      obtain ⟨k, rfl, hk, hO, hK⟩ := hrel
      by_cases hlt : k < ps.length
      · obtain ⟨g, hA, hg⟩ : ∃ g, A = some ⟨g, 0, none⟩ ∧ w.heap.size ≤ g := by
          rcases hO.2 with ⟨h', h0⟩ | ⟨g, cap, cur, h', hb', -⟩
          · omega
          · exact ⟨g, by simp at h'; exact h'.1, hb'⟩
        subst hA
        have hc0 : wr.cell? ⟨g, k, none⟩ = some (.string ⟨ps[k].toArray⟩) := by
          rw [hO.cellAt k (by omega)]
          simp [strCells, hlt]
        have hxl := HPS.out ps[k] (List.getElem_mem hlt)
        have hset : (strCells ps).set k (.string ⟨ps[k].toArray⟩) = strCells ps := by
          have e : (strCells ps)[k]'(by rw [strCells_length]; exact hlt) = .string ⟨ps[k].toArray⟩ := by simp [strCells]
          rw [← e]
          exact List.set_getElem_self _
        have HS := Lib.hid hset
        have HO1 := Lib.hid hO
        clear hset hO
        generalize ps[k] = x at *
        go_wp2_with fail
        refine (clone_any x _ (by omega)).mono ?_
        rintro e w4 ⟨rfl, hk4⟩
        have ho4 := own_keptS HO1.out hk4
        have hc4 := hk4.cell hc0
        have hf4 := ho4.frozenAt k
        have hst := (ho4.stored k (.string ⟨x.toArray⟩)).1
        rw [HS.out] at hst
        have HST := Lib.hid hst
        have hk5 : Kept w (w4.setCell ⟨g, k, none⟩ (.string ⟨x.toArray⟩)) := Below.setCell (hK.trans hk4) hg _
        have HK5 := Lib.hid hk5
        clear ho4 hst hk5 hc0
        go_wp2
        go_roundw
        case rel => exact ⟨k + 1, by go_num, by omega, HST.out, HK5.out⟩
        case measure => simp [intOf]; omega
      · obtain rfl : k = ps.length := by omega
        have HO2 := Lib.hid (Txts.of_own hO)
        clear hO
        go_wp2
        go_ret2
        exact ⟨_, ret_perr HK.out.symm, by rw [HPP.out]; exact HO2.out, hK⟩

end Go.Proofs.YtoapfjcohnddaaaDoor
