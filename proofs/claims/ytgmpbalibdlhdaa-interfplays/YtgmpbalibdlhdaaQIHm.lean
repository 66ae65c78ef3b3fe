/- The walk of Homes. -/
import Derived.Test.YtgmpbalibdlhdaaQIHp
import Derived.Test.YtgmpbalibdlhdaaQIShelf
import Derived.Test.YtgmpbalibdlhdaaQICp
import Derived.TacticsInMore
import Derived.LoopNIn
import Derived.LoopIn
set_option linter.unusedSimpArgs false
set_option linter.unusedVariables false
namespace Go.Proofs.Ytgmpbalibdlhdaa
open Go.RowKit Go.Sort Go.Maps Go.Shelf
theorem keys_any (mb : Nat) (w : World) : Calls Try.prog 25 #[.map (some mb)] w fun e w' => e = .returned (.func (.func 35) #[] #[.pointer (some ⟨w.heap.size, 0, none⟩)]) ∧ w' = w.alloc (.cells #[.map (some mb)] 56) :=
  callsIn_wide.1 (Try.maps_Keys_25 (some mb) w)
theorem sorted_any {mb : Nat} {st : TSt} {w : World} (h : OwnsT w mb st) (hs : SrtZ st) (hl : st.length * 16 ≤ 140737488355328) :
    Calls Try.prog 24 #[.func (.func 35) #[] #[.pointer (some ⟨w.heap.size, 0, none⟩)]] (w.alloc (.cells #[.map (some mb)] 56)) fun e w' => ∃ v, e = .returned v ∧ w'.ownsRow w.heap.size 9 1 v (namesZ st).length (strCells (namesZ st)) ∧ Kept w w' := by
  have hsz := toDT_size st
  refine (callsIn_wide.1 (Try.slices_Sorted_keys_24_25 mb st.length (toDT st) rdV w h (by rw [hsz]; unfold maxLen; omega) (by rw [hsz]; exact hl))).mono ?_
  rintro e w' ⟨v, ss, rfl, hp, hr, -, hb⟩
  have hn := sort_namesT hs hp
  have hlen : ss.length = (namesZ st).length := by rw [hp.length_eq, strKeys_toDT]
  rw [hn, hlen, encStr_cells] at hr
  refine ⟨v, rfl, row_base hr (by simp), ((Kept.refl w).alloc _).trans hb⟩
set_option maxRecDepth 100000 in
set_option maxHeartbeats 2000000 in
theorem homes_any {w : World} {xb mb n : Nat} {st : TSt} {L : List It} (h : IxAt w xb mb n st L) (hl : st.length * 16 ≤ 140737488355328) :
    Calls Try.prog 14 #[.pointer (some ⟨xb, 0, none⟩)] w fun e w' => ∃ v, e = .returned v ∧ w'.ownsRow w.heap.size 9 1 v (namesZ st).length (strCells (namesZ st)) ∧ Kept w w' := by
  have c1 := h.c1
  have HKY := Lib.hid (keys_any mb)
  have HSO := Lib.hid (sorted_any h.owns h.srt hl)
  have HLN := Lib.hid (show ∀ x ∈ namesZ st, x.length ≤ 281474976710656 from fun x hx => by
    obtain ⟨y, hy, -, rfl⟩ := (names_iff h x).1 hx
    have := h.home y hy
    omega)
  have hlen : (namesZ st).length = st.length := by unfold namesZ; rw [List.length_map]
  have HW := Lib.hid h
  rw [← hlen] at hl
  clear h hlen
  generalize namesZ st = ks at *
  go_enter Try.func14, Try.ntmps14
  go_wp2_with fail
  refine (HKY.out _).mono ?_
  rintro e w1 ⟨rfl, rfl⟩
  go_wp2_with fail
  refine HSO.out.mono ?_
  rintro e w2 ⟨v, rfl, ho, hk⟩
  have HK2 := Lib.hid hk
  obtain ⟨Av, cv, rfl⟩ := own_form ho
  have HO := Lib.hid ho
  clear ho hk
  go_wp2
  go_loopw [14] (fun i W => ∃ k : Nat, i = .int .i64 (k : Int) ∧ k ≤ ks.length ∧ W.ownsRow w.heap.size 9 1 (.slice Av ks.length cv) ks.length (strCells ks) ∧ Kept w W) (fun i _ => ks.length - (intOf i).toNat)
  case atStart => exact ⟨0, rfl, Nat.zero_le _, HO.out, HK2.out⟩
  case round =>
    obtain ⟨k, rfl, hk, hr, hkw⟩ := hrel
    have HR := Lib.hid hr
    have HKW := Lib.hid hkw
    by_cases hlt : k < ks.length
    · obtain ⟨g, c', ev, -, hcm⟩ := own_some hr (by omega)
      obtain ⟨rfl, -, rfl⟩ : Av = some ⟨g, 0, none⟩ ∧ ks.length = ks.length ∧ cv = c' := by simpa using ev
      unfold maxLen at hcm
      have g1 : (k : Int) < (ks.length : Int) := by omega
      have q0 := own_cell hr (j := k) (show (strCells ks)[k]? = some (.string ⟨ks[k].toArray⟩) by unfold strCells; rw [List.getElem?_map, List.getElem?_eq_getElem hlt]; rfl)
      have hlx := HLN.out ks[k] (List.getElem_mem hlt)
      have HSET := Lib.hid (show (strCells ks).set k (.string ⟨ks[k].toArray⟩) = strCells ks from by
        apply List.ext_getElem?
        intro i
        rw [List.getElem?_set]
        by_cases e : k = i
        · subst e
          rw [if_pos rfl, if_pos (by rw [strCells_length]; exact hlt)]
          unfold strCells
          rw [List.getElem?_map, List.getElem?_eq_getElem hlt]
          rfl
        · rw [if_neg e])
      generalize ks[k] = x at *
      have HCL := Lib.hid (sclone_any x wr hlx)
      clear hr hkw ev
      go_wp2_with fail
      refine HCL.out.mono ?_
      rintro e w3 ⟨rfl, k3⟩
      have hr3 := own_kept HR.out k3
      have q3 := k3.cell q0
      have f3 : w3.frozen? ⟨g, k, none⟩ = false := by
        obtain ⟨cur, hcur⟩ := own_type hr3 (g := g) rfl
        exact frozen_at hcur k
      have hset := own_set hr3 (g := g) rfl k (.string ⟨x.toArray⟩)
      rw [HSET.out] at hset
      have HS3 := Lib.hid hset
      have HK3 := Lib.hid (((Chg.of_kept (F := fun b => w.heap.size ≤ b) (HKW.out.trans k3)).setCell (b := g) (o := k) (.string ⟨x.toArray⟩) (fun _ => (HR.out.lt g rfl).1)).kept (Kept.refl w) (fun b hb => hb))
      clear hr3 hset k3 q0
      go_wp2
      go_roundw
      case rel => exact ⟨k + 1, by go_num, by omega, HS3.out, HK3.out⟩
      case measure => simp [intOf]; omega
    · obtain rfl : k = ks.length := by omega
      clear hr hkw
      go_wp2
      go_ret
      exact ⟨.slice Av ks.length cv, rfl, HR.out, HKW.out⟩
end Go.Proofs.Ytgmpbalibdlhdaa
