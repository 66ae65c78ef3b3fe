/- The walk of NetsimOnly. -/
import Derived.Test.YtmoimldkagmkaaaQNLwO
import Derived.Test.YtmoimldkagmkaaaQNTold
import Derived.Deep.CutBlock
import Derived.Deep.DeepCutAuto
set_option linter.unusedSimpArgs false
set_option linter.unusedVariables false
namespace Go.Proofs.Ytmoimldkagmkaaa
open Go.RowKit
/-- A sent message is this one. -/
def mt (a b : Int) (l : List UInt8) (y : Sent) : Bool := decide (y.1 = a) && decide (y.2.1 = b) && (y.2.2.2 == l)
theorem total_take (xs : List Op6) (k : Nat) : total (xs.take k) ≤ total xs := by
  have e : total xs = total (xs.take k) + total (xs.drop k) := by
    unfold total
    rw [← List.sum_append, ← List.map_append, List.take_append_drop]
  omega
set_option maxRecDepth 100000 in
set_option maxHeartbeats 4000000 in
theorem netsimOnly_ok (n : Nat) (xs : List Op6) (v : Value) (w : World) (hn : 1 ≤ n ∧ n ≤ 32) (hv : Script6 w v xs) (hl : xs.length ≤ 1759218604390) (hf : ∀ x ∈ xs, x.Fits) (ht : total xs ≤ 1048576) :
    Calls Try.prog 4 #[.int .i64 (n : Int), v] w fun e w' => e = .returned (.bool true) ∧ Kept w w' := by
  have HN := Lib.hid (new_nk n 4096 w hn (by omega))
  have HV := Lib.hid hv
  have HF := Lib.hid hf
  obtain ⟨A, c, rfl, hc1, hc2⟩ := hv.form
  unfold maxLen at hc2
  clear hf hv
  go_enter Try.func4, Try.ntmps4
  go_wp2_with fail
  refine HN.out.mono ?_
  rintro e w1 ⟨nb, rfl, hn1⟩
  have HN1 := Lib.hid hn1
  clear hn1
  go_wp2
  go_loopw [7, 39] (fun t i W => ∃ (k : Nat) (ys : List Sent) (s : NS), i = .int .i64 (k : Int) ∧ k ≤ xs.length ∧ Told ys s ∧ NK (fun g => t.ownBlock = some g) w W nb s (2 * k) ∧ SentAt w W t ys ∧ (∀ g, t.ownBlock = some g → w.heap.size ≤ g) ∧ ys.length ≤ total (xs.take k)) (fun _ i _ => xs.length - (intOf i).toNat)
  case atStart => exact ⟨0, [], _, rfl, Nat.zero_le _, fun a b _ _ l hl => (by cases hl), HN1.out.widen (fun g x => by cases x), SentAt.nil _ _, fun g x => (by cases x), Nat.zero_le _⟩
  case round =>
    obtain ⟨k, ys, s, rfl, hk, htold, hnk, hsent, hfr, hys⟩ := hrel
    obtain ⟨A3, c3, rfl⟩ := own_form hsent.row
    have HT := Lib.hid htold
    have HNK := Lib.hid hnk
    have HS := Lib.hid hsent
    have HFR := Lib.hid hfr
    have HKR := Lib.hid hnk.old
    have HYS := Lib.hid hys
    clear htold hnk hsent hfr hys
    by_cases hlt : k < xs.length
    · obtain ⟨b, o, rfl, a0, a1, a2, a3, a4, a5, hrd⟩ := (HV.out.kept HKR.out).at hlt
      have g1 : (k : Int) < (xs.length : Int) := by omega
      have HXF := Lib.hid (HF.out xs[k] (List.getElem_mem hlt))
      have HRD0 := Lib.hid (show xs[k].Reads w from by obtain ⟨_, _, _, _, _, _, _, _, _, h⟩ := HV.out.at hlt; exact h)
      have htk : total (xs.take (k + 1)) = total (xs.take k) + xs[k].list.length := by
        unfold total
        rw [List.take_succ_eq_append_getElem hlt, List.map_append, List.sum_append]
        simp
      have HTK := Lib.hid htk
      have htle : total (xs.take (k + 1)) ≤ total xs := total_take xs (k + 1)
      clear hrd htk
      generalize xs[k] = x at *
      obtain ⟨Al, cl, hlv, hl1, hl2, -⟩ := HRD0.out.1
      obtain ⟨An, cn, hnv, -, hn2, -⟩ := HRD0.out.2
      rw [hlv] at a4
      rw [hnv] at a5
      have HLV := Lib.hid hlv
      clear hlv hnv
      go_upto_block 2 with (fail)
      have hKa : Kept wr (wr.alloc (.cells #[.int .i64 x.kind, .int .i64 x.a, .int .i64 x.b, .int .i64 x.n, .slice Al x.list.length cl, .slice An x.nodes.length cn] 39)) := (Kept.refl wr).alloc _
      have hba := heap_alloc_new wr (.cells #[.int .i64 x.kind, .int .i64 x.a, .int .i64 x.b, .int .i64 x.n, .slice Al x.list.length cl, .slice An x.nodes.length cn] 39)
      have hbz : wr.heap.size < (wr.alloc (.cells #[.int .i64 x.kind, .int .i64 x.a, .int .i64 x.b, .int .i64 x.n, .slice Al x.list.length cl, .slice An x.nodes.length cn] 39)).heap.size := by simp
      generalize wr.alloc (.cells #[.int .i64 x.kind, .int .i64 x.a, .int .i64 x.b, .int .i64 x.n, .slice Al x.list.length cl, .slice An x.nodes.length cn] 39) = wa at *
      have q1 := cell_at hba 1
      have q2 := cell_at hba 2
      have q3 := cell_at hba 3
      have q4 := cell_at hba 4
      have q5 := cell_at hba 5
      simp only [List.getElem?_toArray, List.getElem?_cons_zero, List.getElem?_cons_succ] at q1 q2 q3 q4 q5
      have HNA := Lib.hid ((HNK.out.widen (A' := fun g => (Value.slice A3 ys.length c3).ownBlock = some g ∨ g = wr.heap.size) (fun g x => x.elim .inl (fun e => .inr (by rw [e]; exact Nat.le_refl _)))).kept hKa)
      have HSA := Lib.hid (HS.out.kept hKa)
      have HA := Lib.hid (show ∀ g, ((Value.slice A3 ys.length c3).ownBlock = some g ∨ g = wr.heap.size) → g < wa.heap.size from fun g x => by
        rcases x with x | x
        · exact (HSA.out.row.lt g x).2
        · omega)
      have hlim : 2 * k + 2 < maxLen := by unfold maxLen; omega
      have hlen0 : x.list.length ≤ 5864062014805 := HXF.out.1
      have HBA := Lib.hid hba
      clear hba a0 a1 a2 a3 a4 a5
      obtain ⟨wo, rfl⟩ : ∃ wo, wo = wr := ⟨_, rfl⟩
      by_cases k3 : x.kind = 3
      · have e3 : (x.kind == 3) = true := by simp [k3]
        have e1 : (x.kind == 1) = false := by simp [k3]
        have e2 : (x.kind == 2) = false := by simp [k3]
        have HC := Lib.hid (drop_nk HNA.out HA.out x.a x.b x.n (by omega))
        clear k3
        go_wp2_with fail
        refine HC.out.mono ?_
        rintro e w4 ⟨rfl, hn4, hc4⟩
        have HN4 := Lib.hid hn4
        have HC4 := Lib.hid hc4
        clear hn4 hc4
        go_wp2
        go_roundw
        case rel => exact ⟨k + 1, ys, _, by go_num, by omega, HT.out.del _ _ _, (HN4.out.widen (A' := fun g => (Value.slice A3 ys.length c3).ownBlock = some g) (fun g x => .inl (.inl x))).more (by omega), HSA.out.chg HC4.out (fun g hg x => x.2.2 (.inl hg)), HFR.out, by have := HYS.out; have := HTK.out; omega⟩
        case measure => simp [intOf]; omega
      by_cases k4 : x.kind = 4
      · have e4 : (x.kind == 4) = true := by simp [k4]
        have e1 : (x.kind == 1) = false := by simp [k4]
        have e2 : (x.kind == 2) = false := by simp [k4]
        have e3 : (x.kind == 3) = false := by simp [k4]
        have HC := Lib.hid (repeat_nk HNA.out HA.out x.a x.b x.n (by omega))
        clear k4
        go_wp2_with fail
        refine HC.out.mono ?_
        rintro e w4 ⟨rfl, hn4, hc4⟩
        have HN4 := Lib.hid hn4
        have HC4 := Lib.hid hc4
        clear hn4 hc4
        go_wp2
        go_roundw
        case rel => exact ⟨k + 1, ys, _, by go_num, by omega, HT.out.rep _ _ _, (HN4.out.widen (A' := fun g => (Value.slice A3 ys.length c3).ownBlock = some g) (fun g x => .inl (.inl x))).more (by omega), HSA.out.chg HC4.out (fun g hg x => x.2.2 (.inl hg)), HFR.out, by have := HYS.out; have := HTK.out; omega⟩
        case measure => simp [intOf]; omega
      by_cases k5 : x.kind = 5
      · have e5 : (x.kind == 5) = true := by simp [k5]
        have e1 : (x.kind == 1) = false := by simp [k5]
        have e2 : (x.kind == 2) = false := by simp [k5]
        have e3 : (x.kind == 3) = false := by simp [k5]
        have e4 : (x.kind == 4) = false := by simp [k5]
        have HC := Lib.hid (cut_nk HNA.out HA.out x.a x.b hlim)
        clear k5
        go_wp2_with fail
        refine HC.out.mono ?_
        rintro e w4 ⟨rfl, hn4, hc4⟩
        have HN4 := Lib.hid hn4
        have HC4 := Lib.hid hc4
        clear hn4 hc4
        go_wp2
        go_roundw
        case rel => exact ⟨k + 1, ys, _, by go_num, by omega, HT.out.cut _ _, (HN4.out.widen (A' := fun g => (Value.slice A3 ys.length c3).ownBlock = some g) (fun g x => .inl (.inl x))).more (by omega), HSA.out.chg HC4.out (fun g hg x => x.2.2 (.inl hg)), HFR.out, by have := HYS.out; have := HTK.out; omega⟩
        case measure => simp [intOf]; omega
      by_cases k6 : x.kind = 6
      · have e6 : (x.kind == 6) = true := by simp [k6]
        have e1 : (x.kind == 1) = false := by simp [k6]
        have e2 : (x.kind == 2) = false := by simp [k6]
        have e3 : (x.kind == 3) = false := by simp [k6]
        have e4 : (x.kind == 4) = false := by simp [k6]
        have e5 : (x.kind == 5) = false := by simp [k6]
        have HC := Lib.hid (heal_nk HNA.out HA.out)
        clear k6
        go_wp2_with fail
        refine HC.out.mono ?_
        rintro e w4 ⟨rfl, hn4, hc4⟩
        have HN4 := Lib.hid hn4
        have HC4 := Lib.hid hc4
        clear hn4 hc4
        go_wp2
        go_roundw
        case rel => exact ⟨k + 1, ys, _, by go_num, by omega, HT.out.heal, (HN4.out.widen (A' := fun g => (Value.slice A3 ys.length c3).ownBlock = some g) (fun g x => .inl (.inl x))).more (by omega), HSA.out.chg HC4.out (fun g hg x => x.2.2 (.inl hg)), HFR.out, by have := HYS.out; have := HTK.out; omega⟩
        case measure => simp [intOf]; omega
      by_cases k1 : x.kind = 1
      · have e1 : (x.kind == 1) = true := by simp [k1]
        have hKd := (Kept.refl wa).drew
        have HCP := Lib.hid (show ∀ W, Kept wa W → _ from fun W hW => copied_any x.list (.slice Al x.list.length cl) W (by rw [← HLV.out]; exact HRD0.out.1.kept ((HKR.out.trans hKa).trans hW)) HXF.out.1 HXF.out.2.1)
        have HSD := Lib.hid (show ∀ v W, Kept wa W → RecsAt W v x.list (fun g => wa.heap.size ≤ g) → _ from fun v W hW hr => send_nk HNA.out hW (fun g x => Nat.lt_of_lt_of_le (HA.out g x) hW.size) x.a x.b x.list v (fun g => wa.heap.size ≤ g) hr (fun g x => .inl x) HXF.out.2.1 (by omega))
        have HER := Lib.hid (show ∃ er, sendE s x.a x.b x.list.length = er from ⟨_, rfl⟩)
        obtain ⟨er, her⟩ := HER.out
        rw [her] at HSD
        have HE := Lib.hid her
        clear her k1
        have hbn : ∀ g, (w.heap.size ≤ g ∧ g < wa.heap.size ∧ ¬ ((Value.slice A3 ys.length c3).ownBlock = some g ∨ g = wo.heap.size)) → g ≠ wo.heap.size := fun g x e => x.2.2 (.inr e)
        go_wp2_with fail
        go_region_held3 (fun W => W.cell? ⟨wo.heap.size, 1, none⟩ = some (.int .i64 x.a) ∧ W.cell? ⟨wo.heap.size, 2, none⟩ = some (.int .i64 x.b) ∧ W.cell? ⟨wo.heap.size, 4, none⟩ = some (.slice Al x.list.length cl))
          (first | exact ⟨q1, q2, q4⟩ | exact ⟨hq1.cell q1, hq1.cell q2, hq1.cell q4⟩ | exact ⟨z1, z2, z4⟩)
          (first
            | (go_at_call 16; refine (HCP.out _ hKd).mono ?_; rintro e w3 ⟨v3, rfl, hr3, hk3⟩; have hq1 := hKd.trans hk3; have HR3 := Lib.hid (hr3.mono (G' := fun g => wa.heap.size ≤ g) (fun g x => by rcases x with x | x; exact x.elim; exact x.1)); obtain ⟨A4, c4, rfl, -, -⟩ := hr3.form; clear hr3)
            | (go_at_call 15; refine (HSD.out _ _ hq1 HR3.out).mono ?_; rintro e w4 ⟨rfl, hn4, hc4, -⟩; have HN4 := Lib.hid hn4; have HC4 := Lib.hid hc4; have z1 := chg_cellS hc4 (hq1.cell q1) (fun g => hbn _ g rfl); have z2 := chg_cellS hc4 (hq1.cell q2) (fun g => hbn _ g rfl); have z4 := chg_cellS hc4 (hq1.cell q4) (fun g => hbn _ g rfl); have HB4 := Lib.hid (hc4.block' (hq1.block' HBA.out) (fun g => hbn _ g rfl)); have HS4 := Lib.hid ((HSA.out.kept hq1).chg hc4 (fun g hg x => x.2.2 (.inl hg))); clear hn4 hc4))
        by_cases hz : er = 0
        · have tz : decide (er = 0) = true := by simpa using hz
          have tz' : (er == 0) = true := by simpa using hz
          have HZ := Lib.hid hz
          clear hz
          rw [tz']
          clear tz tz'
          go_wp2
          go_loopw [7, 60] (fun t i W => ∃ (j : Nat) (zs : List Sent), i = .int .i64 (j : Int) ∧ j ≤ x.list.length ∧ (∀ y ∈ ys, y ∈ zs) ∧ (∀ l ∈ x.list.take j, ∃ z ∈ zs, z.1 = x.a ∧ z.2.1 = x.b ∧ z.2.2.2 = l) ∧ zs.length = ys.length + j ∧ NK (fun g => t.ownBlock = some g ∨ g = wo.heap.size) w W nb (sendS s x.a x.b x.list) (2 * k + 1) ∧ SentAt w W t zs ∧ (∀ g, t.ownBlock = some g → w.heap.size ≤ g) ∧ W.heap[wo.heap.size]? = some (.cells #[.int .i64 x.kind, .int .i64 x.a, .int .i64 x.b, .int .i64 x.n, .slice Al x.list.length cl, .slice An x.nodes.length cn] 39 (0, 0))) (fun _ i _ => x.list.length - (intOf i).toNat)
          case atStart => exact ⟨0, ys, rfl, Nat.zero_le _, fun y hy => hy, fun l hl => (by cases hl), rfl, HN4.out, HS4.out, HFR.out, HB4.out⟩
          case round =>
            obtain ⟨j, zs, rfl, hj, hsub, hin, hlen, hnk, hsent, hfr, hbw⟩ := hrel
            obtain ⟨A5, c5, rfl⟩ := own_form hsent.row
            have HSUB := Lib.hid hsub
            have HIN := Lib.hid hin
            have HLN := Lib.hid hlen
            have HNJ := Lib.hid hnk
            have HKJ := Lib.hid hnk.old
            have HSJ := Lib.hid hsent
            have HFJ := Lib.hid hfr
            have HBW := Lib.hid hbw
            have y1 := cell_at hbw 1
            have y2 := cell_at hbw 2
            simp only [List.getElem?_toArray, List.getElem?_cons_zero, List.getElem?_cons_succ] at y1 y2
            clear hsub hin hlen hnk hsent hfr hbw
            by_cases hlj : j < x.list.length
            · have hpw := HRD0.out.1
              rw [HLV.out] at hpw
              obtain ⟨b6, o6, u6', rfl, hcell0, hbu⟩ := hpw.at hlj
              have hcell := HKJ.out.cell hcell0
              have HBU := Lib.hid hbu
              obtain ⟨Au, cu, hu, -, -, -⟩ := hbu
              subst hu
              have g2 : (j : Int) < (x.list.length : Int) := by omega
              have HTS := Lib.hid (show x.list.take (j + 1) = x.list.take j ++ [x.list[j]] from List.take_succ_eq_append_getElem hlj)
              have hzl : zs.length ≤ 1048576 := by have h1 := HYS.out; have h2 := HTK.out; have h3 := HLN.out; omega
              clear hpw hcell0
              generalize hr : x.list[j] = r at *
              clear hr
              go_wp2_with (at_builtin; refine wpList_append_one elemM rfl _ _ rfl 0 _ _ (cells3 zs) [.int .i64 x.a, .int .i64 x.b, .slice Au r.length cu] wr.heap.size 1 rfl rfl (own_kept HSJ.out.row ((Kept.refl wr).alloc _)) rfl (cell_new3 wr _ _ _ _) (by intro u hu; simp at hu; rcases hu with rfl | rfl | rfl <;> rfl) (by omega) (by unfold maxLen; omega) (Nat.zero_le _) ?_; intro v5 w5 p1 p2 p3)
              go_roundw
              case rel =>
                have hC5 : Chg (fun g => (Value.slice A5 zs.length c5).ownBlock = some g) wr w5 := (Chg.of_kept ((Kept.refl wr).alloc _)).trans (Chg.of_grown p2 (fun g hg _ => hg)) (fun g _ x => x)
                have hws := HKJ.out.size
                have hne : ¬ (Value.slice A5 zs.length c5).ownBlock = some wo.heap.size := fun e => by
                  obtain ⟨cur, h1⟩ := own_type HSJ.out.row e
                  have h2 := HBW.out
                  rw [h1] at h2
                  simp only [Option.some.injEq, Obj.cells.injEq] at h2
                  exact absurd h2.2.1 (by decide)
                have HZ9 := Lib.hid (show ∃ z9 : Sent, z9 = (x.a, x.b, .slice Au r.length cu, r) from ⟨_, rfl⟩)
                obtain ⟨z9, hz9⟩ := HZ9.out
                have hblk := hC5.block' HBW.out hne
                refine ⟨j + 1, zs ++ [z9], ?_, ?_, fun y hy => List.mem_append_left _ (HSUB.out y hy), fun l hl => ?_, ?_, ?_, ?_, ?_, hblk⟩
                · go_num
                · omega
                · rw [HTS.out] at hl
                  rcases List.mem_append.1 hl with hl | hl
                  · obtain ⟨z, h1, h2⟩ := HIN.out l hl
                    exact ⟨z, List.mem_append_left _ h1, h2⟩
                  · obtain rfl : l = r := by simpa using hl
                    exact ⟨z9, List.mem_append_right _ (List.mem_singleton.2 rfl), by rw [hz9], by rw [hz9], by rw [hz9]⟩
                · rw [List.length_append, HLN.out, List.length_singleton]; omega
                · have hws5 : (wr.alloc (.cells #[.int .i64 x.a, .int .i64 x.b, .slice Au r.length cu] 57)).heap.size = wr.heap.size + 1 := by simp
                  refine (((HNJ.out.widen (A' := fun g => ((Value.slice A5 zs.length c5).ownBlock = some g ∨ g = wo.heap.size) ∨ wr.heap.size ≤ g) (fun g x => x)).chg (hC5.mono fun g _ e => .inl (.inl e)) (fun g q => ?_)).widen (A' := fun g => v5.ownBlock = some g ∨ g = wo.heap.size) (fun g q => ?_))
                  · rcases q with (q | q) | q
                    · exact HFJ.out g q
                    · rw [q]; exact HKR.out.size
                    · omega
                  · rcases q with q | q
                    · rcases p3 with e | e
                      · rw [e] at q
                        exact .inl (.inl (.inl q))
                      · rw [q] at e
                        have e : g = (wr.alloc (.cells #[.int .i64 x.a, .int .i64 x.b, .slice Au r.length cu] 57)).heap.size := by simpa using e
                        exact .inl (.inr (by omega))
                    · exact .inl (.inl (.inr q))
                · refine ⟨by rw [List.length_append, cells3_app]; subst hz9; exact p1, fun y hy => ?_⟩
                  rcases List.mem_append.1 hy with hy | hy
                  · exact HSJ.out.vals y hy
                  · obtain rfl : y = z9 := by simpa using hy
                    subst hz9
                    exact HBU.out
                · intro g hg
                  rcases p3 with e | e
                  · rw [e] at hg
                    exact HFJ.out g hg
                  · rw [hg] at e
                    have e : g = (wr.alloc (.cells #[.int .i64 x.a, .int .i64 x.b, .slice Au r.length cu] 57)).heap.size := by simpa using e
                    rw [e]
                    simp
                    omega
              case measure => simp [intOf]; omega
            · obtain rfl : j = x.list.length := by omega
              go_wp2
              go_roundw
              case rel =>
                refine ⟨k + 1, zs, sendS s x.a x.b x.list, by go_num, by omega, ?_, (HNJ.out.widen (A' := fun g => (Value.slice A5 zs.length c5).ownBlock = some g) (fun g x => .inl (.inl x))).more (by omega), HSJ.out, HFJ.out, ?_⟩
                · refine HT.out.send HSUB.out ?_
                  have := HIN.out
                  rwa [List.take_length] at this
                · have h1 := HYS.out; have h2 := HTK.out; have h3 := HLN.out; omega
              case measure => simp [intOf]; omega
        · have tz : decide (er = 0) = false := by simpa using hz
          have tz' : (er == 0) = false := by simpa using hz
          have hsame : sendS s x.a x.b x.list = s := sendS_same (by rw [HE.out]; exact hz)
          rw [hsame] at HN4
          clear hz hsame
          go_wp2
          go_roundw
          case rel => exact ⟨k + 1, ys, s, by go_num, by omega, HT.out, (HN4.out.widen (A' := fun g => (Value.slice A3 ys.length c3).ownBlock = some g) (fun g x => .inl (.inl x))).more (by omega), HS4.out, HFR.out, by have := HYS.out; have := HTK.out; omega⟩
          case measure => simp [intOf]; omega
      by_cases k2 : x.kind = 2
      · have e1 : (x.kind == 1) = false := by simp [k2]
        have e2 : (x.kind == 2) = true := by simp [k2]
        have HC := Lib.hid (deliver_nk HNA.out HA.out x.a x.b x.n (by omega))
        have HER := Lib.hid (show ∃ er, waitE s x.a x.b x.n = er from ⟨_, rfl⟩)
        obtain ⟨er, her⟩ := HER.out
        rw [her] at HC
        have HE := Lib.hid her
        have HMS := Lib.hid (show ∃ ml, msgS s x.a x.b x.n = ml from ⟨_, rfl⟩)
        obtain ⟨ml, hml⟩ := HMS.out
        rw [hml] at HC
        have HM := Lib.hid hml
        clear k2 her hml
        have hbn : ∀ g, (w.heap.size ≤ g ∧ g < wa.heap.size ∧ ¬ ((Value.slice A3 ys.length c3).ownBlock = some g ∨ g = wo.heap.size)) → g ≠ wo.heap.size := fun g x e => x.2.2 (.inr e)
        go_wp2_with fail
        refine HC.out.mono ?_
        rintro e w4 ⟨v4, rfl, ho4, -, hn4, hc4⟩
        have HB4 := Lib.hid (hc4.block' HBA.out (fun g => hbn _ g rfl))
        have hbt := Bts.of_own ho4
        have HBT := Lib.hid hbt
        obtain ⟨A4, c4, rfl⟩ := own_form ho4
        have HN4 := Lib.hid (hn4.widen (A' := fun g => (Value.slice A3 ys.length c3).ownBlock = some g) (fun g x => .inl (.inl (.inl x))))
        have HS4 := Lib.hid (HSA.out.chg hc4 (fun g hg x => x.2.2 (.inl hg)))
        clear hn4 hc4 ho4 hbt
        by_cases hz : er = 0
        · obtain rfl : er = 0 := hz
          have hysb : ys.length ≤ 1048576 := by have := HYS.out; have := HTK.out; omega
          go_wp2
          go_loopw [14, 91] (fun t i W => ∃ j : Nat, i = .int .i64 (j : Int) ∧ j ≤ ys.length ∧ t = .bool ((ys.take j).any (mt x.a x.b ml)) ∧ Kept w4 W) (fun _ i _ => ys.length - (intOf i).toNat)
          case atStart => exact ⟨0, rfl, Nat.zero_le _, rfl, Kept.refl _⟩
          case round =>
            obtain ⟨j, rfl, hj, rfl, hkj⟩ := hrel
            have hbw := hkj.block' HB4.out
            have y1 := cell_at hbw 1
            have y2 := cell_at hbw 2
            simp only [List.getElem?_toArray, List.getElem?_cons_zero, List.getElem?_cons_succ] at y1 y2
            have HKJ := Lib.hid hkj
            clear hbw
            by_cases hlj : j < ys.length
            · obtain ⟨g5, rfl, r0, r1, r2⟩ := (HS4.out.kept hkj).at hlj
              have hvb := HS4.out.vals ys[j] (List.getElem_mem hlj)
              have HTA := Lib.hid (show (ys.take (j + 1)).any (mt x.a x.b ml) = ((ys.take j).any (mt x.a x.b ml) || mt x.a x.b ml ys[j]) by rw [List.take_succ_eq_append_getElem hlj, List.any_append, List.any_cons, List.any_nil, Bool.or_false])
              have g2 : (j : Int) < (ys.length : Int) := by omega
              generalize ys[j] = y at *
              obtain ⟨ya, yb, yv, yl⟩ := y
              simp only at r0 r1 r2 hvb
              obtain ⟨Ay, cy, rfl, -, -, -⟩ := id hvb
              have HVB := Lib.hid hvb
              clear hvb
              generalize (ys.take j).any (mt x.a x.b ml) = acc at *
              have hkn := (Kept.refl wr).alloc (.cells #[.int .i64 ya, .int .i64 yb, .slice Ay yl.length cy] 57)
              have HKN := Lib.hid (hkj.trans hkn)
              have y1' := hkn.cell y1
              have y2' := hkn.cell y2
              have HSM := Lib.hid (show ∀ W, Kept wr W → _ from fun W kW => same_any yl ml (.slice Ay yl.length cy) (.slice A4 ml.length c4) W (HVB.out.kept (HN4.out.old.trans (HKJ.out.trans kW))) (HBT.out.kept (HKJ.out.trans kW)))
              have hmt : mt x.a x.b ml (ya, yb, .slice Ay yl.length cy, yl) = (decide (ya = x.a) && decide (yb = x.b) && (yl == ml)) := rfl
              rw [hmt] at HTA
              clear hmt
              cases acc with
              | true =>
                go_wp2
                go_roundw
                case rel => exact ⟨j + 1, by go_num, by omega, by rw [HTA.out]; rfl, HKN.out⟩
                case measure => simp [intOf]; omega
              | false =>
                by_cases ha : ya = x.a
                · subst ha
                  by_cases hb : yb = x.b
                  · subst hb
                    rw [show (decide (x.a = x.a) && decide (x.b = x.b) && (yl == ml)) = (yl == ml) by simp] at HTA
                    generalize (yl == ml) = bq at *
                    go_wp2_with fail
                    refine (HSM.out _ hkn).mono ?_
                    rintro e w6 ⟨rfl, rfl⟩
                    go_wp2
                    go_roundw
                    case rel => exact ⟨j + 1, by go_num, by omega, by rw [HTA.out]; simp, HKN.out⟩
                    case measure => simp [intOf]; omega
                  · have tb : decide (yb = x.b) = false := by simpa using hb
                    have tb' : (yb == x.b) = false := by simpa using hb
                    rw [tb] at HTA
                    go_wp2
                    go_roundw
                    case rel => exact ⟨j + 1, by go_num, by omega, by rw [HTA.out]; simp, HKN.out⟩
                    case measure => simp [intOf]; omega
                · have ta : decide (ya = x.a) = false := by simpa using ha
                  have ta' : (ya == x.a) = false := by simpa using ha
                  rw [ta] at HTA
                  go_wp2
                  go_roundw
                  case rel => exact ⟨j + 1, by go_num, by omega, by rw [HTA.out]; simp, HKN.out⟩
                  case measure => simp [intOf]; omega
            · obtain rfl : j = ys.length := by omega
              rw [List.take_length]
              have hany : ys.any (mt x.a x.b ml) = true := by
                obtain ⟨y, h1, h2, h3, h4⟩ := HT.out.got (a := x.a) (b := x.b) (i := x.n) HE.out
                rw [HM.out] at h4
                rw [List.any_eq_true]
                exact ⟨y, h1, by simp [mt, h2, h3, h4]⟩
              rw [hany]
              go_wp2
              go_roundw
              case rel => exact ⟨k + 1, ys, _, by go_num, by omega, HT.out.del _ _ _, (HN4.out.kept HKJ.out).more (by omega), HS4.out.kept HKJ.out, HFR.out, by have := HYS.out; have := HTK.out; omega⟩
              case measure => simp [intOf]; omega
        · have tz' : (er == 0) = false := by simpa using hz
          have tz : decide (er = 0) = false := by simpa using hz
          clear hz
          go_wp2
          go_roundw
          case rel => exact ⟨k + 1, ys, _, by go_num, by omega, HT.out.del _ _ _, HN4.out.more (by omega), HS4.out, HFR.out, by have := HYS.out; have := HTK.out; omega⟩
          case measure => simp [intOf]; omega
      have e1 : (x.kind == 1) = false := by simpa using k1
      have e2 : (x.kind == 2) = false := by simpa using k2
      have e3 : (x.kind == 3) = false := by simpa using k3
      have e4 : (x.kind == 4) = false := by simpa using k4
      have e5 : (x.kind == 5) = false := by simpa using k5
      have e6 : (x.kind == 6) = false := by simpa using k6
      clear k1 k2 k3 k4 k5 k6
      go_wp2
      go_roundw
      case rel => exact ⟨k + 1, ys, s, by go_num, by omega, HT.out, (HNA.out.widen (A' := fun g => (Value.slice A3 ys.length c3).ownBlock = some g) (fun g x => .inl (.inl x))).more (by omega), HSA.out, HFR.out, by have := HYS.out; have := HTK.out; omega⟩
      case measure => simp [intOf]; omega
    · obtain rfl : k = xs.length := by omega
      go_wp2_with fail
      refine (awake_any _).mono ?_
      rintro e w9 ⟨rfl, k9⟩
      have hkk := HKR.out.trans k9
      go_wp2
      go_ret
      exact ⟨rfl, hkk⟩
end Go.Proofs.Ytmoimldkagmkaaa
