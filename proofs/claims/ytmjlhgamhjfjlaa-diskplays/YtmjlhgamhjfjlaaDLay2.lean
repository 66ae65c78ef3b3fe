/- The walk of the document's lay. -/
import Derived.Test.YtmjlhgamhjfjlaaDLay
set_option linter.unusedSimpArgs false
set_option linter.unusedVariables false
namespace Go.Proofs.Ytmjlhgamhjfjlaa
open Go.RowKit
theorem ins_mem_one {w : World} {rb : Nat} {vL : Value} {rs : St} {cap : Nat} {G : Nat → Prop} (h : RD w rb vL rs cap G) : ∀ p ∈ rs, p.2.1.oneCell' = true := fun p hp => own_one (h.files p hp)
theorem mem1 {α : Type} {P : α → Prop} {x : α} (h : P x) : ∀ p ∈ [x], P p := fun p hp => by
  rw [List.mem_singleton.1 hp]
  exact h
theorem Frow.one' {w : World} {p : Nm × (Value × Fl)} {A : Option Addr} {n c : Nat} (t : TypeId) (h : p.2.1 = .slice A n c) : Frow (w.alloc (.cells #[.string ⟨p.1.toArray⟩, .slice A n c, .int .i64 (p.2.2.2 : Int)] t)) (.slice (some ⟨w.heap.size, 0, none⟩) 1 1) [p] := by
  obtain ⟨k, vb, f⟩ := p
  simp only at h
  subst h
  exact Frow.one w k _ f t
theorem set1 {w : World} {rb : Nat} {a b v : Value} {t : TypeId} (h : w.heap[rb]? = some (.cells #[a, b] t (0, 0))) : (w.setCell ⟨rb, 1, none⟩ v).heap[rb]? = some (.cells #[a, v] t (0, 0)) := by
  have := Lib.heap_setCell_same (i := 1) h v
  simpa using this
theorem RD.row_ne {w : World} {rb : Nat} {vL : Value} {rs : St} {cap : Nat} {G : Nat → Prop} (h : RD w rb vL rs cap G) {b : Nat} {v : Value} {n : Nat} {xs : List Value} (ho : w.ownsRow b 5 1 v n xs) {g : Nat} (hg : v.ownBlock = some g) : g ≠ rb := by
  rcases ho.2 with ⟨rfl, -⟩ | ⟨g', cap', cur, rfl, -, hb, -⟩
  · cases hg
  · obtain rfl : g' = g := by simpa [Value.ownBlock] using hg
    rintro rfl
    rw [h.cells] at hb
    cases hb
/-- A new list is laid into the disk. -/
theorem RD.turn {w W : World} {rb : Nat} {vL v : Value} {rs rs' : St} {cap base : Nat} {G : Nat → Prop} (h : RD w rb vL rs cap G) (hK : Kept w W) (ho : W.ownsRow base 58 3 v rs'.length (rcs rs')) (hb : w.heap.size ≤ base)
    (hfil : ∀ p ∈ rs', w.ownsRow 0 5 1 p.2.1 p.2.2.1.length (Lib.byteCells p.2.2.1) ∧ ∀ g, p.2.1.ownBlock = some g → G g) (hgood : Good (mapV Prod.snd rs')) (hfit : used (mapV Prod.snd rs') ≤ cap) (hsm : rs'.length ≤ 2000000000000) :
    RD (W.setCell ⟨rb, 1, none⟩ v) rb v rs' cap (ext G w (W.setCell ⟨rb, 1, none⟩ v)) ∧ Chg (fun g => g = rb) w (W.setCell ⟨rb, 1, none⟩ v) := by
  have hrb : rb < w.heap.size := (Array.getElem?_eq_some_iff.1 h.cells).1
  have hC : Chg (fun g => g = rb) w (W.setCell ⟨rb, 1, none⟩ v) := (Chg.of_kept hK).setCell _ (fun _ => rfl)
  have hCW : Chg (fun g => g = rb) W (W.setCell ⟨rb, 1, none⟩ v) := (Chg.refl (fun g => g = rb) W).setCell _ (fun _ => rfl)
  have hrow := own_chg ho hCW (fun g hg e => by have := (ho.lt g hg).1; omega)
  refine ⟨⟨set1 (hK.block' h.cells), own_base hrow (Nat.zero_le _), fun p hp => own_chg (hfil p hp).1 hC (fun g hg => h.row_ne (hfil p hp).1 hg), .inl h.inG, fun g hg => .inr ?_, fun p hp g hg => .inl ((hfil p hp).2 g hg), hgood, hfit, h.capLe, hsm⟩, hC⟩
  have h1 := hrow.lt g hg
  exact ⟨by omega, h1.2⟩
set_option maxRecDepth 100000 in
set_option maxHeartbeats 4000000 in
theorem lay_any (k : Nm) (vB : Value) (f : Fl) (rb : Nat) (vL : Value) (rs : St) (cap : Nat) (G : Nat → Prop) (w : World) (h : RD w rb vL rs cap G) (hB : w.ownsRow 0 5 1 vB f.1.length (Lib.byteCells f.1)) (hg : ∀ g, vB.ownBlock = some g → G g)
    (hk : okN k = true) (hf : f.2 ≤ f.1.length) (hnew : ∀ p ∈ rs, p.1 ≠ k) (hu : used (mapV Prod.snd rs) + f.1.length ≤ cap) (hn : rs.length < 2000000000000) :
    Calls Try.prog 36 #[.pointer (some ⟨rb, 0, none⟩), .agg #[.string ⟨k.toArray⟩, vB, .int .i64 (f.2 : Int)]] w fun e w' => e = .returned (.tuple #[]) ∧ (∃ vL', RD w' rb vL' (ins (k, (vB, f)) rs) cap (ext G w w')) ∧ Chg (fun g => g = rb) w w' := by
  obtain ⟨A, c, rfl, hc1, hc2⟩ := h.form
  obtain ⟨Ab, cb, rfl⟩ := own_form hB
  have H := Lib.hid h
  have HB := Lib.hid hB
  have HG := Lib.hid hg
  have HK := Lib.hid hk
  have HNEW := Lib.hid hnew
  clear h hB hg hk hnew
  unfold maxLen at hc2
  have hil := insI_le k rs
  have HI := Lib.hid (show ∃ j, insI k rs = j from ⟨_, rfl⟩)
  obtain ⟨j, hj⟩ := HI.out
  rw [hj] at hil
  have HJ := Lib.hid hj
  clear hj
  go_enter Try.func36, Try.ntmps36
  go_wp2
  have hK0 : Kept w (w.alloc (.cells #[.string ⟨k.toArray⟩, .slice Ab f.1.length cb, .int .i64 (f.2 : Int)] 58)) := (Kept.refl w).alloc _
  have hb0 := heap_alloc_new w (.cells #[.string ⟨k.toArray⟩, .slice Ab f.1.length cb, .int .i64 (f.2 : Int)] 58)
  have hz0 : (w.alloc (.cells #[.string ⟨k.toArray⟩, .slice Ab f.1.length cb, .int .i64 (f.2 : Int)] 58)).heap.size = w.heap.size + 1 := by simp
  generalize w.alloc (.cells #[.string ⟨k.toArray⟩, .slice Ab f.1.length cb, .int .i64 (f.2 : Int)] 58) = w1 at *
  have x0 := cell_at hb0 0
  have x1 := cell_at hb0 1
  have x2 := cell_at hb0 2
  simp only [List.getElem?_toArray, List.getElem?_cons_zero, List.getElem?_cons_succ] at x0 x1 x2
  have HZ := Lib.hid hz0
  clear hb0 hz0
  go_loopw [4, 5, 6] (fun t pt i W => ∃ q : Nat, i = .int .i64 (q : Int) ∧ q ≤ rs.length ∧ pt = .bool (decide (j < q)) ∧ W.ownsRow w1.heap.size 58 3 t (if j < q then q + 1 else q) (rcs ((ins (k, (.slice Ab f.1.length cb, f)) rs).take (if j < q then q + 1 else q))) ∧ Kept w1 W) (fun _ _ i _ => rs.length - (intOf i).toNat)
  case atStart => exact ⟨0, rfl, Nat.zero_le _, by simp, by simpa [rcs] using World.ownsRow_nil w1 w1.heap.size _ _, Kept.refl _⟩
  case round =>
    obtain ⟨q, rfl, hq, rfl, hO, hKq⟩ := hrel
    have c1 := ((H.out.kept hK0).kept hKq).c1
    have y0 := hKq.cell x0
    have y1 := hKq.cell x1
    have y2 := hKq.cell x2
    obtain ⟨At, ct, rfl⟩ := own_form hO
    have hsz := hKq.size
    by_cases hlt : q < rs.length
    · obtain ⟨g, rfl, q0, q1, q2, -⟩ := ((H.out.kept hK0).kept hKq).at hlt
      have g1 : (q : Int) < (rs.length : Int) := by omega
      obtain ⟨Aq, cq, hvq⟩ := own_form (H.out.files _ (List.getElem_mem hlt))
      rw [hvq] at q1
      rcases Nat.lt_trichotomy q j with hqj | hqj | hqj
      · have e1 : decide (j < q) = false := by simp; omega
        have t1 : Op.bytesLess k rs[q].1 = false := by rw [less_before]; exact insI_before hlt (by rw [HJ.out]; exact hqj)
        have et := ins_take_lt (k, ((.slice Ab f.1.length cb : Value), f)) rs (k := q) (by rw [HJ.out]; exact hqj)
        rw [if_neg (by omega)] at hO
        have HO := Lib.hid hO
        have ET := Lib.hid et
        have HVQ := Lib.hid hvq
        clear hO et hvq
        go_wp2
        go_quiet (fail)
        rename_i nq
        have hkd : Kept wr (wr.drewN nq) := (Kept.refl wr).drewN nq
        generalize wr.drewN nq = wq at *
        have z1 := hkd.cell c1
        have z2 := hkd.cell q0
        have z3 := hkd.cell q1
        have z4 := hkd.cell q2
        have hkq := (Kept.refl wq).alloc (.cells #[.string ⟨rs[q].1.toArray⟩, .slice Aq rs[q].2.2.1.length cq, .int .i64 (rs[q].2.2.2 : Int)] 58)
        have hw5 := (hKq.trans hkd).trans hkq
        go_wp2_with (at_builtin; refine wpList_append_files rfl _ _ rfl w1.heap.size _ _ _ [rs[q]] _ rfl rfl (own_kept HO.out (hkd.trans hkq)) (Frow.one' _ HVQ.out) (mem1 (ins_mem_one H.out _ (List.getElem_mem hlt))) (by simp; omega) hw5.size ?_; intro v5 w5 h51 h52 h53; obtain ⟨A5, c5, rfl⟩ := own_form h51; have H5 := Lib.hid h51; clear h51)
        go_roundw
        case rel =>
          refine ⟨q + 1, by go_num, by omega, by simp; omega, ?_, hw5.grown h52 (own_ge HO.out)⟩
          rw [if_neg (by omega), ET.out]
          exact H5.out
        case measure => simp [intOf]; omega
      · subst hqj
        have e1 : decide (q < q) = false := by simp
        have t1 : Op.bytesLess k rs[q].1 = true := by
          rw [less_before]
          have := insI_at (k := k) (m := rs) (by rw [HJ.out]; exact hlt)
          simpa [HJ.out] using this
        have et := ins_take_at (k, ((.slice Ab f.1.length cb : Value), f)) rs
        have et2 := ins_take_gt (k, ((.slice Ab f.1.length cb : Value), f)) rs (k := q) hlt (by rw [HJ.out]; exact Nat.le_refl _)
        rw [HJ.out] at et
        rw [et] at et2
        rw [if_neg (by omega)] at hO
        have HO := Lib.hid hO
        have ET := Lib.hid et2
        have HVQ := Lib.hid hvq
        clear hO et et2 hvq
        go_wp2
        go_quiet (fail)
        rename_i nq
        have hkd : Kept wr (wr.drewN nq) := (Kept.refl wr).drewN nq
        generalize wr.drewN nq = wq at *
        have z1 := hkd.cell y0
        have z2 := hkd.cell y1
        have z3 := hkd.cell y2
        have hkq := (Kept.refl wq).alloc (.cells #[.string ⟨k.toArray⟩, .slice Ab f.1.length cb, .int .i64 (f.2 : Int)] 58)
        have hw5 := (hKq.trans hkd).trans hkq
        have HX1 := Lib.hid c1
        have HX2 := Lib.hid q0
        have HX3 := Lib.hid q1
        have HX4 := Lib.hid q2
        go_wp2_with (first
          | (at_builtin; refine wpList_append_files rfl _ _ rfl w1.heap.size _ _ _ [(k, ((.slice Ab f.1.length cb : Value), f))] _ rfl rfl (own_kept HO.out (hkd.trans hkq)) (Frow.one _ k _ f _) (mem1 rfl) (by simp; omega) hw5.size ?_; intro v5 w5 h51 h52 h53; obtain ⟨A5, c5, rfl⟩ := own_form h51; have H5 := Lib.hid h51; clear h51; have hk5 := hw5.grown h52 (own_ge HO.out); have p1 := ((H.out.kept hK0).kept hk5).c1; obtain ⟨g', eg, p2, p3, p4, -⟩ := ((H.out.kept hK0).kept hk5).at hlt; cases eg; rw [HVQ.out] at p3; have hw6 := hk5.alloc (.cells #[.string ⟨rs[q].1.toArray⟩, .slice Aq rs[q].2.2.1.length cq, .int .i64 (rs[q].2.2.2 : Int)] 58))
          | (at_builtin; refine wpList_append_files rfl _ _ rfl w1.heap.size _ _ _ [rs[q]] _ rfl rfl (own_kept H5.out ((Kept.refl w5).alloc _)) (Frow.one' _ HVQ.out) (mem1 (ins_mem_one H.out _ (List.getElem_mem hlt))) (by simp; omega) hw6.size ?_; intro v7 w7 h71 h72 h73; obtain ⟨A7, c7, rfl⟩ := own_form h71; have H7 := Lib.hid h71; clear h71))
        go_roundw
        case rel =>
          refine ⟨q + 1, by go_num, by omega, by simp, ?_, hw6.grown h72 (own_ge H5.out)⟩
          rw [if_pos (by omega), ET.out]
          exact H7.out
        case measure => simp [intOf]; omega
      · have e1 : decide (j < q) = true := by simp; omega
        have et := ins_take_gt (k, ((.slice Ab f.1.length cb : Value), f)) rs (k := q) hlt (by rw [HJ.out]; omega)
        rw [if_pos hqj] at hO
        have HO := Lib.hid hO
        have ET := Lib.hid et
        have HVQ := Lib.hid hvq
        clear hO et hvq
        go_wp2
        go_quiet (fail)
        rename_i nq
        have hkd : Kept wr (wr.drewN nq) := (Kept.refl wr).drewN nq
        generalize wr.drewN nq = wq at *
        have z1 := hkd.cell c1
        have z2 := hkd.cell q0
        have z3 := hkd.cell q1
        have z4 := hkd.cell q2
        have hkq := (Kept.refl wq).alloc (.cells #[.string ⟨rs[q].1.toArray⟩, .slice Aq rs[q].2.2.1.length cq, .int .i64 (rs[q].2.2.2 : Int)] 58)
        have hw5 := (hKq.trans hkd).trans hkq
        go_wp2_with (at_builtin; refine wpList_append_files rfl _ _ rfl w1.heap.size _ _ _ [rs[q]] _ rfl rfl (own_kept HO.out (hkd.trans hkq)) (Frow.one' _ HVQ.out) (mem1 (ins_mem_one H.out _ (List.getElem_mem hlt))) (by simp; omega) hw5.size ?_; intro v5 w5 h51 h52 h53; obtain ⟨A5, c5, rfl⟩ := own_form h51; have H5 := Lib.hid h51; clear h51)
        go_roundw
        case rel =>
          refine ⟨q + 1, by go_num, by omega, by simp; omega, ?_, hw5.grown h52 (own_ge HO.out)⟩
          rw [if_pos (by omega), ET.out]
          exact H5.out
        case measure => simp [intOf]; omega
    · obtain rfl : q = rs.length := by omega
      have hfil : ∀ p ∈ ins (k, ((.slice Ab f.1.length cb : Value), f)) rs, w.ownsRow 0 5 1 p.2.1 p.2.2.1.length (Lib.byteCells p.2.2.1) ∧ ∀ g, p.2.1.ownBlock = some g → G g := by
        intro p hp
        rcases List.mem_cons.1 ((ins_perm _ _).mem_iff.1 hp) with rfl | hp
        · exact ⟨HB.out, HG.out⟩
        · exact ⟨H.out.files p hp, H.out.filG p hp⟩
      have hmv : mapV Prod.snd (ins (k, ((.slice Ab f.1.length cb : Value), f)) rs) = ins (k, f) (mapV Prod.snd rs) := mapV_ins _ _ _
      have hgood : Good (mapV Prod.snd (ins (k, ((.slice Ab f.1.length cb : Value), f)) rs)) := by
        rw [hmv]
        refine ⟨srt_ins H.out.good.1 (fun p hp => ?_), fun p hp => ?_⟩
        · obtain ⟨p', hp', rfl⟩ := List.mem_map.1 hp
          exact HNEW.out p' hp'
        · rcases List.mem_cons.1 ((ins_perm _ _).mem_iff.1 hp) with rfl | hp
          · exact ⟨HK.out, hf⟩
          · exact H.out.good.2 p hp
      have hfit : used (mapV Prod.snd (ins (k, ((.slice Ab f.1.length cb : Value), f)) rs)) ≤ cap := by
        rw [hmv, used_ins]
        simp only
        omega
      have hlen := ins_len (k, ((.slice Ab f.1.length cb : Value), f)) rs
      have HFIL := Lib.hid hfil
      have HGOOD := Lib.hid hgood
      have HLEN := Lib.hid hlen
      have f1 := ((H.out.kept hK0).kept hKq).f1
      have hz := HZ.out
      clear hfil hmv hgood hlen
      by_cases hjn : j < rs.length
      · have e1 : decide (j < rs.length) = true := by simpa using hjn
        rw [if_pos hjn, List.take_of_length_le (by rw [HLEN.out]; exact Nat.le_refl _)] at hO
        have HT := Lib.hid (H.out.turn (hK0.trans hKq) (rs' := ins (k, ((.slice Ab f.1.length cb : Value), f)) rs) (base := w1.heap.size) (by rw [HLEN.out]; exact hO) (by omega) HFIL.out HGOOD.out hfit (by rw [HLEN.out]; omega))
        clear hO hz
        go_wp2
        go_end0
        exact ⟨rfl, ⟨_, HT.out.1⟩, HT.out.2⟩
      · obtain rfl : j = rs.length := by omega
        have e1 : decide (rs.length < rs.length) = false := by simp
        have et := ins_take_at (k, ((.slice Ab f.1.length cb : Value), f)) rs
        rw [HJ.out, List.take_of_length_le (by rw [HLEN.out]; exact Nat.le_refl _)] at et
        rw [if_neg (by omega)] at hO
        have HO := Lib.hid hO
        have ET := Lib.hid et
        clear hO et hz
        rw [if_neg (show ¬ rs.length < rs.length by omega)]
        have hkq := (Kept.refl wr).alloc (.cells #[.string ⟨k.toArray⟩, .slice Ab f.1.length cb, .int .i64 (f.2 : Int)] 58)
        have hw5 := hKq.trans hkq
        go_wp2_with (at_builtin; refine wpList_append_files rfl _ _ rfl w1.heap.size _ rs.length _ [(k, ((.slice Ab f.1.length cb : Value), f))] _ rfl rfl (own_kept HO.out hkq) (Frow.one _ k _ f _) (mem1 rfl) (by simp; omega) hw5.size ?_; intro v5 w5 h51 h52 h53; obtain ⟨A5, c5, rfl⟩ := own_form h51; have hk5 := hw5.grown h52 (own_ge HO.out); have f5 := ((H.out.kept hK0).kept hk5).f1; have p5 := ((H.out.kept hK0).kept hk5).c1; have HT := Lib.hid (H.out.turn (hK0.trans hk5) (rs' := ins (k, ((.slice Ab f.1.length cb : Value), f)) rs) (base := w1.heap.size) (by rw [HLEN.out, ET.out]; exact h51) (by have := HZ.out; omega) HFIL.out HGOOD.out hfit (by rw [HLEN.out]; omega)); clear h51)
        go_end0
        exact ⟨rfl, ⟨_, HT.out.1⟩, HT.out.2⟩
end Go.Proofs.Ytmjlhgamhjfjlaa
