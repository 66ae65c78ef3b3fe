/- Places of names; the walk of the document's all; a file that is turned in its place. A file that is turned in its place; the walks of the document's Append and Sync. -/
import Derived.Test.YtngbgngfdklnlaaGreatDoorGDLay3
set_option linter.unusedSimpArgs false
set_option linter.unusedVariables false
namespace Go.Proofs.YtngbgngfdklnlaaGreatDoor
open Go.RowKit
theorem findI_mapV {α β : Type} (g : α → β) (k : Nm) (m : List (Nm × α)) : findI k (mapV g m) = findI k m := by
  unfold findI mapV
  rw [List.findIdx?_map]
  rfl
theorem find_neg {α : Type} {k : Nm} {m : List (Nm × α)} (h : hasA k m = false) : findI k m = -1 := by
  unfold findI
  have : m.findIdx? (fun p => p.1 == k) = none := by
    rw [List.findIdx?_eq_none_iff]
    intro x hx
    unfold hasA at h
    rw [List.any_eq_false] at h
    simpa using h x hx
  rw [this]
theorem find_pos {α : Type} {k : Nm} {m : List (Nm × α)} (h : hasA k m = true) : ∃ i, ∃ hi : i < m.length, findI k m = (i : Int) ∧ m[i].1 = k := by
  cases hf : m.findIdx? (fun p => p.1 == k) with
  | none =>
    rw [List.findIdx?_eq_none_iff] at hf
    unfold hasA at h
    obtain ⟨x, hx, hk⟩ := List.any_eq_true.1 h
    rw [hf x hx] at hk
    cases hk
  | some i =>
    have hf' := hf
    rw [List.findIdx?_eq_some_iff_getElem] at hf
    obtain ⟨hi, h1, -⟩ := hf
    refine ⟨i, hi, ?_, by simpa using h1⟩
    unfold findI
    rw [hf']
theorem put_set {α : Type} {m : List (Nm × α)} (hs : Srt m) {i : Nat} (hi : i < m.length) (v : α) : putA m[i].1 v m = m.set i (m[i].1, v) := by
  have e : m = m.take i ++ (m[i].1, m[i].2) :: m.drop (i + 1) := by
    have := List.take_append_drop i m
    rw [List.drop_eq_getElem_cons hi] at this
    exact this.symm
  generalize hk : m[i].1 = k at *
  generalize m[i].2 = v0 at *
  have hl : (m.take i).length = i := by simp; omega
  have h1 : putA k v m = m.take i ++ (k, v) :: m.drop (i + 1) := by
    have := put_at (v' := v) (e ▸ hs)
    rw [← e] at this
    exact this
  rw [h1, List.set_eq_take_append_cons_drop, if_pos hi]
theorem cut_drop {α : Type} {m : List (Nm × α)} (hs : Srt m) {i : Nat} (hi : i < m.length) : cutA m[i].1 m = dropAt i m := by
  have e : m = m.take i ++ (m[i].1, m[i].2) :: m.drop (i + 1) := by
    have := List.take_append_drop i m
    rw [List.drop_eq_getElem_cons hi] at this
    exact this.symm
  generalize m[i].1 = k at *
  generalize m[i].2 = v0 at *
  have := cut_at (e ▸ hs)
  rw [← e] at this
  exact this
theorem get_at {α : Type} {m : List (Nm × α)} (hs : Srt m) {i : Nat} (hi : i < m.length) : getA m[i].1 m = some m[i].2 := get_of_mem hs (List.getElem_mem hi)
set_option maxRecDepth 100000 in
set_option maxHeartbeats 4000000 in
theorem rall_any (ls : List Nm) (v : Value) (rb : Nat) (vL : Value) (rs : St) (cap : Nat) (G : Nat → Prop) (w : World) (h : RD w rb vL rs cap G) (hv : Txts w v ls) :
    Calls Tryz.prog 63 #[.pointer (some ⟨rb, 0, none⟩), v] w fun e w' => e = .returned (.int .i64 (allT ls rs)) ∧ w = w' := by
  have H := Lib.hid h
  have HV := Lib.hid hv
  obtain ⟨A, c, rfl, hc1, hc2⟩ := hv.form
  clear h hv
  unfold maxLen at hc2
  go_enter Tryz.func63, Tryz.ntmps63
  go_wp2
  go_loop [5] (fun i => ∃ k : Nat, k ≤ ls.length ∧ i = .int .i64 (k : Int) ∧ (ls.take k).all okN = true) (fun i => ls.length - (intOf i).toNat)
  case atStart => exact ⟨0, Nat.zero_le _, rfl, rfl⟩
  case round =>
    obtain ⟨k, hk, rfl, hall⟩ := hrel
    have HA := Lib.hid hall
    clear hall
    by_cases hlt : k < ls.length
    · obtain ⟨b, o, rfl, hcell⟩ := HV.out.at hlt
      have g1 : (k : Int) < (ls.length : Int) := by omega
      cases hb : okN ls[k] with
      | true =>
        have HB := Lib.hid hb
        have HN := Lib.hid (name_any ls[k] w)
        rw [hb] at HN
        clear hb
        go_wp2_with fail
        refine HN.out.mono ?_
        rintro e w' ⟨rfl, rfl⟩
        go_wp2
        go_round
        case rel => exact ⟨k + 1, by omega, by go_num, all_take hlt HA.out HB.out⟩
        case measure => simp [intOf]; omega
      | false =>
        have HB := Lib.hid (show allT ls rs = 30 by unfold allT; rw [all_bad hlt hb]; rfl)
        have HN := Lib.hid (name_any ls[k] w)
        rw [hb] at HN
        clear hb
        go_wp2_with fail
        refine HN.out.mono ?_
        rintro e w' ⟨rfl, rfl⟩
        go_wp2
        go_ret
        exact ⟨ret_int HB.out.symm, rfl⟩
    · obtain rfl : k = ls.length := by omega
      rw [List.take_length] at HA
      go_wp2
      go_loop [6] (fun i => ∃ k : Nat, k ≤ ls.length ∧ i = .int .i64 (k : Int) ∧ (ls.take k).all (fun k => hasA k rs) = true) (fun i => ls.length - (intOf i).toNat)
      case atStart => exact ⟨0, Nat.zero_le _, rfl, rfl⟩
      case round =>
        obtain ⟨k, hk2, rfl, hall⟩ := hrel
        have HA2 := Lib.hid hall
        clear hall
        by_cases hlt2 : k < ls.length
        · obtain ⟨b, o, rfl, hcell⟩ := HV.out.at hlt2
          have g1 : (k : Int) < (ls.length : Int) := by omega
          have HF := Lib.hid (rfind_any ls[k] rb vL rs cap G w H.out)
          cases hb : hasA ls[k] rs with
          | true =>
            have HB := Lib.hid hb
            obtain ⟨i, hi, hfi, -⟩ := find_pos hb
            rw [hfi] at HF
            have t1 : decide ((i : Int) < 0) = false := by simp
            clear hb hfi
            go_wp2_with fail
            refine HF.out.mono ?_
            rintro e w' ⟨rfl, rfl⟩
            go_wp2
            go_round
            case rel => exact ⟨k + 1, by omega, by go_num, all_take hlt2 HA2.out HB.out⟩
            case measure => simp [intOf]; omega
          | false =>
            have HB := Lib.hid (show allT ls rs = 31 by unfold allT; rw [HA.out, all_bad hlt2 hb]; rfl)
            rw [find_neg hb] at HF
            clear hb
            go_wp2_with fail
            refine HF.out.mono ?_
            rintro e w' ⟨rfl, rfl⟩
            go_wp2
            go_ret
            exact ⟨ret_int HB.out.symm, rfl⟩
        · obtain rfl : k = ls.length := by omega
          rw [List.take_length] at HA2
          go_wp2
          go_ret
          exact ⟨ret_int (by unfold allT; rw [HA.out, HA2.out]; rfl), rfl⟩
end Go.Proofs.YtngbgngfdklnlaaGreatDoor
set_option linter.unusedSimpArgs false
set_option linter.unusedVariables false
namespace Go.Proofs.YtngbgngfdklnlaaGreatDoor
open Go.RowKit
theorem own_set {w : World} {b : Nat} {e : TypeId} {s n : Nat} {v : Value} {xs : List Value} {g : Nat} (h : w.ownsRow b e s v n xs) (hv : v.ownBlock = some g) (j : Nat) (u : Value) : (w.setCell ⟨g, j, none⟩ u).ownsRow b e s v n (xs.set j u) := by
  refine ⟨by rw [List.length_set]; exact h.1, ?_⟩
  rcases h.2 with ⟨rfl, -⟩ | ⟨g', cap, cur, rfl, hb, hc, h1, h2, h3, h4⟩
  · cases hv
  · obtain rfl : g' = g := by simpa [Value.ownBlock] using hv
    refine .inr ⟨g', cap, cur.setIfInBounds j u, rfl, hb, Lib.heap_setCell_same hc u, h1, h2, by simpa using h3, ?_⟩
    rw [Array.toList_setIfInBounds, List.take_set, h4]
theorem rcs_setB {rs : St} {i : Nat} (hi : i < rs.length) (vb : Value) (bs : List UInt8) : (rcs rs).set (i * 3 + 1) vb = rcs (rs.set i (rs[i].1, (vb, (bs, rs[i].2.2.2)))) := by
  induction rs generalizing i with
  | nil => simp at hi
  | cons p r ih =>
    cases i with
    | zero => rfl
    | succ j =>
      have := ih (i := j) (by simpa using hi)
      rw [List.set_cons_succ, rcs_cons, rcs_cons]
      have e : (j + 1) * 3 + 1 = (j * 3 + 1) + 3 := by omega
      rw [e]
      simp only [List.cons_append, List.nil_append, List.set_cons_succ, List.getElem_cons_succ]
      rw [this]
theorem rcs_setS {rs : St} {i : Nat} (hi : i < rs.length) (s : Nat) : (rcs rs).set (i * 3 + 2) (.int .i64 (s : Int)) = rcs (rs.set i (rs[i].1, (rs[i].2.1, (rs[i].2.2.1, s)))) := by
  induction rs generalizing i with
  | nil => simp at hi
  | cons p r ih =>
    cases i with
    | zero => rfl
    | succ j =>
      have := ih (i := j) (by simpa using hi)
      rw [List.set_cons_succ, rcs_cons, rcs_cons]
      have e : (j + 1) * 3 + 2 = (j * 3 + 2) + 3 := by omega
      rw [e]
      simp only [List.cons_append, List.nil_append, List.set_cons_succ, List.getElem_cons_succ]
      rw [this]
theorem mapV_set {rs : St} {i : Nat} (p : Nm × (Value × Fl)) : mapV Prod.snd (rs.set i p) = (mapV Prod.snd rs).set i (p.1, p.2.2) := by
  unfold mapV
  rw [List.map_set]
/-- One file of the list is another one, of the same name. -/
theorem RD.setAt {w W : World} {rb : Nat} {g c : Nat} {rs : St} {cap : Nat} {G : Nat → Prop} (h : RD w rb (.slice (some ⟨g, 0, none⟩) rs.length c) rs cap G) (hC : Chg (fun x => x = g) w W) {i : Nat} (hi : i < rs.length) {vb : Value} {f : Fl}
    (hrow : W.ownsRow 0 108 3 (.slice (some ⟨g, 0, none⟩) rs.length c) rs.length (rcs (rs.set i (rs[i].1, (vb, f))))) (hB : W.ownsRow 0 5 1 vb f.1.length (Lib.byteCells f.1)) (hG : ∀ x, vb.ownBlock = some x → G x ∨ (w.heap.size ≤ x ∧ x < W.heap.size))
    (hf : f.2 ≤ f.1.length) (hu : used (putA rs[i].1 f (mapV Prod.snd rs)) ≤ cap) : RD W rb (.slice (some ⟨g, 0, none⟩) rs.length c) (rs.set i (rs[i].1, (vb, f))) cap (ext G w W) ∧ mapV Prod.snd (rs.set i (rs[i].1, (vb, f))) = putA rs[i].1 f (mapV Prod.snd rs) := by
  have hil : i < (mapV Prod.snd rs).length := by rw [length_mapV]; exact hi
  have hm : mapV Prod.snd (rs.set i (rs[i].1, (vb, f))) = putA rs[i].1 f (mapV Prod.snd rs) := by
    rw [mapV_set]
    have := put_set h.good.1 hil f
    rw [mapV_get hi] at this
    exact this.symm
  have hrbg : rb ≠ g := by
    obtain ⟨g', e, -, -, -, cur, hb⟩ := h.at hi
    cases e
    rintro rfl
    rw [h.cells] at hb
    cases hb
  have hfg : ∀ p ∈ rs, ∀ x, p.2.1.ownBlock = some x → x ≠ g := by
    intro p hp x hx
    obtain ⟨g', e, -, -, -, cur, hb⟩ := h.at hi
    cases e
    rcases (h.files p hp).2 with ⟨e, -⟩ | ⟨y, cap', cur', e, -, hb', -⟩
    · rw [e] at hx; cases hx
    · obtain rfl : y = x := by rw [e] at hx; simpa [Value.ownBlock] using hx
      rintro rfl
      rw [hb] at hb'
      cases hb'
  refine ⟨⟨hC.block' h.cells hrbg, by rw [List.length_set]; exact hrow, fun p hp => ?_, .inl h.inG, fun x hx => .inl (h.rowG x hx), fun p hp x hx => ?_, ?_, by rw [hm]; exact hu, h.capLe, by rw [List.length_set]; exact h.small⟩, hm⟩
  · rcases List.mem_or_eq_of_mem_set hp with hp | rfl
    · exact own_chg (h.files p hp) hC (fun x hx => hfg p hp x hx)
    · exact hB
  · rcases List.mem_or_eq_of_mem_set hp with hp | rfl
    · exact .inl (h.filG p hp x hx)
    · exact hG x hx
  · rw [hm]
    exact h.good.put (h.good.2 (rs[i].1, rs[i].2.2) (List.mem_map.2 ⟨rs[i], List.getElem_mem hi, rfl⟩)).1 hf
theorem filA_at {rs : St} (hs : Srt rs) {i : Nat} (hi : i < rs.length) : filA rs[i].1 rs = rs[i].2.2 := by
  unfold filA
  rw [get_at hs hi]
  rfl
theorem RD.srt {w : World} {rb : Nat} {vL : Value} {rs : St} {cap : Nat} {G : Nat → Prop} (h : RD w rb vL rs cap G) : Srt rs := srt_mapV.1 h.good.1
theorem RD.flen {w : World} {rb : Nat} {vL : Value} {rs : St} {cap : Nat} {G : Nat → Prop} (h : RD w rb vL rs cap G) {i : Nat} (hi : i < rs.length) : rs[i].2.2.1.length ≤ 1073741824 ∧ rs[i].2.2.2 ≤ rs[i].2.2.1.length := by
  have h1 := used_get h.good.1 rs[i].1
  rw [← filA_mapV, filA_at h.srt hi] at h1
  have h2 := h.fits
  have h3 := h.capLe
  have h4 := (h.good.2 (rs[i].1, rs[i].2.2) (List.mem_map.2 ⟨rs[i], List.getElem_mem hi, rfl⟩)).2
  exact ⟨by omega, h4⟩
set_option maxRecDepth 100000 in
set_option maxHeartbeats 4000000 in
theorem rsync_ok (ls : List Nm) (v : Value) (rb : Nat) (vL : Value) (rs : St) (cap : Nat) (G : Nat → Prop) (w : World) (h : RD w rb vL rs cap G) (hv : ∀ W, Chg G w W → Txts W v ls) (hall : allT ls rs = 0) :
    Calls Tryz.prog 51 #[.pointer (some ⟨rb, 0, none⟩), v] w fun e w' => e = .returned (.int .i64 0) ∧ (∃ vL' rs', mapV Prod.snd rs' = syncS ls (mapV Prod.snd rs) ∧ RD w' rb vL' rs' cap (ext G w w')) ∧ Chg G w w' := by
  have H := Lib.hid h
  have HV := Lib.hid hv
  obtain ⟨ho1, ho2⟩ := allT_zero hall
  have HHAS := Lib.hid ho2
  have HC := Lib.hid (rall_any ls v rb vL rs cap G w h (hv w (Chg.refl _ _)))
  rw [hall] at HC
  obtain ⟨A, c, rfl, hc1, hc2⟩ := (hv w (Chg.refl _ _)).form
  clear h hv hall ho1 ho2
  unfold maxLen at hc2
  go_enter Tryz.func51, Tryz.ntmps51
  go_wp2_with fail
  refine HC.out.mono ?_
  rintro e w1 ⟨rfl, hw1⟩
  subst hw1
  go_wp2
  go_loopw [6] (fun i W => ∃ k : Nat, i = .int .i64 (k : Int) ∧ k ≤ ls.length ∧ (∃ vL' rs', mapV Prod.snd rs' = syncS (ls.take k) (mapV Prod.snd rs) ∧ namesA rs' = namesA rs ∧ RD W rb vL' rs' cap (ext G w W)) ∧ Chg G w W) (fun i _ => ls.length - (intOf i).toNat)
  case atStart => exact ⟨0, rfl, Nat.zero_le _, ⟨vL, rs, rfl, rfl, H.out.mono (fun _ x => .inl x)⟩, Chg.refl _ _⟩
  case round =>
    obtain ⟨k, rfl, hk, ⟨vL', rs', hm, hna, hd'⟩, hC⟩ := hrel
    by_cases hlt : k < ls.length
    · obtain ⟨b, o, rfl, hcell⟩ := (HV.out wr hC).at hlt
      have g1 : (k : Int) < (ls.length : Int) := by omega
      have hkh : hasA ls[k] rs' = true := by rw [hasA_names hna]; exact List.all_eq_true.1 HHAS.out _ (List.getElem_mem hlt)
      obtain ⟨i, hi, hfi, hnm⟩ := find_pos hkh
      have HF := Lib.hid (rfind_any ls[k] rb vL' rs' cap _ wr hd')
      rw [hfi] at HF
      obtain ⟨AL, cL, rfl, hcl1, hcl2⟩ := hd'.form
      unfold maxLen at hcl2
      obtain ⟨gL, rfl, q0, q1, q2, cur, hbL⟩ := hd'.at hi
      obtain ⟨Ab, cb, hvb⟩ := own_form (hd'.files _ (List.getElem_mem hi))
      obtain ⟨hfl, hsl⟩ := hd'.flen hi
      have g2 : (i : Int) < (rs'.length : Int) := by omega
      have HD := Lib.hid hd'
      have HM := Lib.hid hm
      have HNA := Lib.hid hna
      have HNM := Lib.hid hnm
      have HVB := Lib.hid hvb
      have HBL := Lib.hid hbL
      have HKH := Lib.hid hkh
      clear hd' hm hna hnm hvb hbL hkh hfi q0 q1 q2
      go_wp2_with fail
      refine HF.out.mono ?_
      rintro e w3 ⟨rfl, hw3⟩
      subst hw3
      go_wp2
      refine still_tail 16 (by kernel_rfl) (by kernel_rfl) (fun wd hKd => ?_)
      have c1' := (HD.out.kept hKd).c1
      obtain ⟨gL', eg, q0, q1, q2, -⟩ := (HD.out.kept hKd).at hi
      cases eg
      rw [HVB.out] at q1
      have ff := frozen_at (hKd.block' HBL.out) (i * 3 + 2)
      simp only [List.take_succ_cons, List.take_zero, List.drop_succ_cons, List.drop_zero]
      repeat still_step
      refine wpStill_nil ?_
      go_wp2
      have hCd : Chg (fun x => x = gL) wr (wd.setCell ⟨gL, i * 3 + 2, none⟩ (.int .i64 (rs'[i].2.2.1.length : Int))) := (Chg.of_kept hKd).setCell _ (fun _ => rfl)
      have hrow := own_set (own_kept HD.out.row hKd) (g := gL) rfl (i * 3 + 2) (.int .i64 (rs'[i].2.2.1.length : Int))
      rw [rcs_setS hi] at hrow
      have hnb : ∀ x, rs'[i].2.1.ownBlock = some x → x ≠ gL := by
        intro x hx
        rcases (HD.out.files _ (List.getElem_mem hi)).2 with ⟨e, -⟩ | ⟨y, cap', cur', e, -, hb', -⟩
        · rw [e] at hx; cases hx
        · obtain rfl : y = x := by rw [e] at hx; simpa [Value.ownBlock] using hx
          rintro rfl
          rw [HBL.out] at hb'
          cases hb'
      have hup := used_sync1 HD.out.good.1 rs'[i].1
      unfold sync1 at hup
      rw [← filA_mapV, filA_at HD.out.srt hi] at hup
      obtain ⟨hR, hmR⟩ := HD.out.setAt hCd hi (vb := rs'[i].2.1) (f := (rs'[i].2.2.1, rs'[i].2.2.1.length)) hrow (own_chg (HD.out.files _ (List.getElem_mem hi)) hCd hnb) (fun x hx => .inl (HD.out.filG _ (List.getElem_mem hi) x hx)) (Nat.le_refl _) (by rw [hup]; exact HD.out.fits)
      have HR := Lib.hid hR
      have HMR := Lib.hid hmR
      clear hR hmR hrow hup
      go_roundw
      case rel =>
        refine ⟨k + 1, by go_num, by omega, ⟨_, _, ?_, ?_, HR.out.mono (fun x hx => ext_ext hC.size hCd.size hx)⟩, hC.chain (hCd.mono (fun x _ e => by subst e; exact HD.out.rowG _ rfl))⟩
        · rw [HMR.out]
          unfold syncS
          rw [foldl_take _ _ _ hlt]
          show _ = sync1 (syncS (ls.take k) _) _
          rw [← HM.out]
          unfold sync1
          rw [← filA_mapV, ← HNM.out, filA_at HD.out.srt hi]
        · rw [← HNA.out]
          unfold namesA
          rw [List.map_set]
          exact List.ext_getElem (by simp) (fun n h1 h2 => by
            rw [List.getElem_set]
            split
            · rename_i e; subst e; simp
            · rfl)
      case measure => simp [intOf]; omega
    · obtain rfl : k = ls.length := by omega
      rw [List.take_length] at hm
      have HM := Lib.hid hm
      have HD := Lib.hid hd'
      clear hm hd' hna
      go_wp2
      go_ret
      exact ⟨rfl, ⟨_, rs', HM.out, HD.out⟩, hC⟩
end Go.Proofs.YtngbgngfdklnlaaGreatDoor
