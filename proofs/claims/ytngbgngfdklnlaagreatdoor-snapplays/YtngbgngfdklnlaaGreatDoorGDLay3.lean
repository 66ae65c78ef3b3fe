/- append of files; the walk of the document's lay. The walk of the document's lay. The walk of the document's drop. -/
import Derived.Test.YtngbgngfdklnlaaGreatDoorGDLess3
set_option linter.unusedSimpArgs false
set_option linter.unusedVariables false
namespace Go.Proofs.YtngbgngfdklnlaaGreatDoor
open Go.RowKit
theorem info_file : ∃ i, Tryz.prog.info? 108 = some i ∧ i.zero = some (.agg #[.string ⟨#[]⟩, .slice none 0 0, .int .i64 0]) ∧ i.size = 3 ∧ i.bytes = 48 := by
  have h : (Tryz.prog.info? 108).map (fun i => (i.zero, i.size, i.bytes)) = some (some (.agg #[.string ⟨#[]⟩, .slice none 0 0, .int .i64 0]), 3, 48) := by kernel_rfl
  cases hq : Tryz.prog.info? 108 with
  | none => rw [hq] at h; cases h
  | some i =>
    rw [hq] at h
    simp only [Option.map_some, Option.some.injEq, Prod.mk.injEq] at h
    exact ⟨i, rfl, h⟩
/-- The value is a slice of files, wherever it lies. -/
def Frow (w : World) (x : Value) (rs : St) : Prop := ∃ A c, x = .slice A rs.length c ∧ (0 < rs.length → ∃ b o, A = some ⟨b, o, none⟩ ∧ ∀ j u, (rcs rs)[j]? = some u → w.cell? ⟨b, o + j, none⟩ = some u)
theorem rcs_one {rs : St} (h : ∀ p ∈ rs, p.2.1.oneCell' = true) : ∀ u ∈ rcs rs, u.oneCell' = true := by
  intro u hu
  unfold rcs at hu
  obtain ⟨p, hp, hu⟩ := List.mem_flatMap.1 hu
  simp only [List.mem_cons, List.not_mem_nil, or_false] at hu
  rcases hu with rfl | rfl | rfl
  · rfl
  · exact h p hp
  · rfl
theorem own_one {w : World} {b : Nat} {e : TypeId} {s n : Nat} {v : Value} {xs : List Value} (h : w.ownsRow b e s v n xs) : v.oneCell' = true := by
  obtain ⟨A, c, rfl⟩ := own_form h
  rfl
theorem append_runF (ty : TypeId) (w : World) (base : Nat) (v : Value) (n : Nat) (l m : St) (x : Value) (hown : w.ownsRow base 108 3 v n (rcs l)) (hx : Frow w x m) (hone : ∀ p ∈ m, p.2.1.oneCell' = true) (hlim : n + m.length ≤ 2900000000000) (hbase : base ≤ w.heap.size) :
    ∃ v' w', (Builtin.append_ #[29, 29] ty #[v, x]).run Tryz.prog w = .ok v' w' ∧ w'.ownsRow base 108 3 v' (n + m.length) (rcs (l ++ m)) ∧ w.grownBy w' v.ownBlock ∧ (v'.ownBlock = v.ownBlock ∨ v'.ownBlock = some w.heap.size) := by
  obtain ⟨i, hi, hz, hs, hb⟩ := info_file
  obtain ⟨A, c, rfl, hcs⟩ := hx
  rw [rcs_app]
  cases A with
  | none =>
    have hm : m = [] := by
      rcases Nat.eq_zero_or_pos m.length with h | h
      · exact List.eq_nil_of_length_eq_zero h
      · obtain ⟨b, o, h, -⟩ := hcs h; cases h
    subst hm
    refine ⟨v, w, ?_, by simpa [rcs] using hown, ⟨rfl, rfl, rfl, Nat.le_refl _, fun _ _ _ => rfl⟩, .inl rfl⟩
    rcases hown.2 with ⟨rfl, rfl⟩ | ⟨g, cap, cur, rfl, _, _, hnc, _⟩
    · simp [Builtin.append_, run_underlying Tryz.underlying29, sizeOf, typeInfo, hi, Builtin.lenOf, Builtin.firstCells]
    · simp [Builtin.append_, run_underlying Tryz.underlying29, sizeOf, typeInfo, hi, Builtin.lenOf, Builtin.firstCells, hnc, storeCells]
  | some ad =>
    have hcells : ∀ j u, (rcs m)[j]? = some u → w.cell? (ad.add j) = some u := by
      intro j u hu
      have hj : j < m.length * 3 := by
        have := (List.getElem?_eq_some_iff.1 hu).1
        rwa [rcs_len] at this
      obtain ⟨b, o, h, hc⟩ := hcs (by omega)
      cases h
      have e : ((⟨b, o, none⟩ : Addr).add j) = ⟨b, o + j, none⟩ := by unfold Addr.add; split <;> simp_all
      rw [e, hc j u hu]
    obtain ⟨v', w', hrun, h2, h3, _, h5⟩ := run_append_own_at (P := Tryz.prog) w base 29 ty 108 i _ 3 48 Tryz.underlying29 hi hz hs hb rfl (by decide) v n _ hown ad m.length c (rcs m) (rcs_len m) hcells (rcs_one hone) (by unfold maxLen; omega) (by omega) hbase
    exact ⟨v', w', hrun, h2, h3, h5⟩
theorem wpList_append_files {w : World} {ops : Array Oper} {rest : List Oper} {o : Oper} {a : Act} {Q : Exit → Act → World → Prop} (hgd : o.guard = none) (s x : Operand)
    (ho : o.op = .call { callee := .builtin .append, args := #[s, x], argTypes := #[29, 29] }) (base : Nat) (v : Value) (n : Nat) (l m : St) (xv : Value) (hs : a.eval s = v) (hxe : a.eval x = xv)
    (hown : w.ownsRow base 108 3 v n (rcs l)) (hx : Frow w xv m) (hone : ∀ p ∈ m, p.2.1.oneCell' = true) (hlim : n + m.length ≤ 2900000000000) (hbase : base ≤ w.heap.size)
    (h : ∀ v' w', w'.ownsRow base 108 3 v' (n + m.length) (rcs (l ++ m)) → w.grownBy w' v.ownBlock → (v'.ownBlock = v.ownBlock ∨ v'.ownBlock = some w.heap.size) → wpList Tryz.prog ops Q rest (a.put o.dst v') w') : wpList Tryz.prog ops Q (o :: rest) a w := by
  refine wpList_plain hgd fun K hK => ?_
  obtain ⟨v', w', hrun, h2, h3, h4⟩ := append_runF o.type w base v n l m xv hown hx hone hlim hbase
  unfold Oper.wp execOp
  simp only [ho, resolve, invoke, builtin, Sem.run_bind, Sem.run_pure, Result.andThen_ok, List.map_toArray, List.map_cons, List.map_nil, hs, hxe, hrun]
  exact hK _ _ (h v' w' h2 h3 h4)
/-- One file, in an array of the call's own. -/
theorem Frow.one (w : World) (k : Nm) (vb : Value) (f : Fl) (t : TypeId) : Frow (w.alloc (.cells #[.string ⟨k.toArray⟩, vb, .int .i64 (f.2 : Int)] t)) (.slice (some ⟨w.heap.size, 0, none⟩) 1 1) [(k, (vb, f))] := by
  refine ⟨_, 1, rfl, fun _ => ⟨_, 0, rfl, fun j u hu => ?_⟩⟩
  rw [cell_at (heap_alloc_new w _)]
  simpa [rcs] using hu
/-! ### where a file is laid -/
def insI {α : Type} (k : Nm) (m : List (Nm × α)) : Nat := m.findIdx (fun y => bytesBefore k y.1)
theorem insI_le {α : Type} (k : Nm) (m : List (Nm × α)) : insI k m ≤ m.length := List.findIdx_le_length
theorem ins_eq {α : Type} (x : Nm × α) (m : List (Nm × α)) : ins x m = m.take (insI x.1 m) ++ x :: m.drop (insI x.1 m) := by
  induction m with
  | nil => rfl
  | cons y r ih =>
    simp only [ins, insI, List.findIdx_cons]
    cases h : bytesBefore x.1 y.1 with
    | true => simp
    | false =>
      simp only [Bool.false_eq_true, if_false, cond_false, List.take_succ_cons, List.drop_succ_cons, List.cons_append]
      rw [ih]
      rfl
theorem ins_len {α : Type} (x : Nm × α) (m : List (Nm × α)) : (ins x m).length = m.length + 1 := by rw [(ins_perm x m).length_eq]; rfl
theorem insI_before {α : Type} {k : Nm} {m : List (Nm × α)} {i : Nat} (hi : i < m.length) (h : i < insI k m) : bytesBefore k m[i].1 = false := by
  have := List.not_of_lt_findIdx h
  simpa using this
theorem insI_at {α : Type} {k : Nm} {m : List (Nm × α)} (h : insI k m < m.length) : bytesBefore k (m[insI k m]'h).1 = true := by
  unfold insI at h ⊢
  exact List.findIdx_getElem (w := h)
theorem ins_take_lt {α : Type} (x : Nm × α) (m : List (Nm × α)) {k : Nat} (h : k < insI x.1 m) : (ins x m).take (k + 1) = (ins x m).take k ++ [m[k]'(Nat.lt_of_lt_of_le h (insI_le _ _))] := by
  have hk : k < m.length := Nat.lt_of_lt_of_le h (insI_le _ _)
  rw [List.take_succ_eq_append_getElem (by rw [ins_len]; omega)]
  congr 2
  have e := ins_eq x m
  have h1 : (m.take (insI x.1 m)).length = insI x.1 m := by have := insI_le x.1 m; simp; omega
  simp only [e]
  rw [List.getElem_append_left (by omega)]
  simp
theorem ins_take_at {α : Type} (x : Nm × α) (m : List (Nm × α)) : (ins x m).take (insI x.1 m + 1) = (ins x m).take (insI x.1 m) ++ [x] := by
  have hl := insI_le x.1 m
  rw [List.take_succ_eq_append_getElem (by rw [ins_len]; omega)]
  congr 2
  have e := ins_eq x m
  have h1 : (m.take (insI x.1 m)).length = insI x.1 m := by simp; omega
  simp only [e]
  rw [List.getElem_append_right (by omega)]
  simp [h1]
theorem ins_take_gt {α : Type} (x : Nm × α) (m : List (Nm × α)) {k : Nat} (hk : k < m.length) (h : insI x.1 m ≤ k) : (ins x m).take (k + 2) = (ins x m).take (k + 1) ++ [m[k]] := by
  have hl := insI_le x.1 m
  rw [List.take_succ_eq_append_getElem (by rw [ins_len]; omega)]
  congr 2
  have e := ins_eq x m
  have h1 : (m.take (insI x.1 m)).length = insI x.1 m := by simp; omega
  simp only [e]
  rw [List.getElem_append_right (by omega)]
  have e2 : k + 1 - (m.take (insI x.1 m)).length = (k - insI x.1 m) + 1 := by omega
  simp only [e2, List.getElem_cons_succ, List.getElem_drop]
  congr 1
  omega
end Go.Proofs.YtngbgngfdklnlaaGreatDoor
set_option linter.unusedSimpArgs false
set_option linter.unusedVariables false
namespace Go.Proofs.YtngbgngfdklnlaaGreatDoor
open Go.RowKit
theorem ins_mem_one {w : World} {rb : Nat} {vL : Value} {rs : St} {cap : Nat} {G : Nat → Prop} (h : RD w rb vL rs cap G) : ∀ p ∈ rs, p.2.1.oneCell' = true := fun p hp => own_one (h.files p hp)
theorem mem1 {α : Type} {P : α → Prop} {x : α} (h : P x) : ∀ p ∈ [x], P p := fun p hp => by
  rw [List.mem_singleton.1 hp]
  exact h
theorem Frow.one' {w : World} {p : Nm × (Value × Fl)} {A : Option Addr} {n c : Nat} (t : TypeId) (h : p.2.1 = .slice A n c) : Frow (w.alloc (.cells #[.string ⟨p.1.toArray⟩, .slice A n c, .int .i64 (p.2.2.2 : Int)] t)) (.slice (some ⟨w.heap.size, 0, none⟩) 1 1) [p] := by
  obtain ⟨k, vb, f⟩ := p
  simp only at h
  subst h
  exact Frow.one w k _ f t
theorem set1 {w : World} {rb : Nat} {a b v : Value} {t : TypeId} (h : w.heap[rb]? = some (.cells #[a, b] t (0, 0))) : (w.setCell ⟨rb, 1, none⟩ v).heap[rb]? = some (.cells #[a, v] t (0, 0)) := by
  have := Lib.heap_setCell_same (i := 1) h v
  simpa using this
theorem RD.row_ne {w : World} {rb : Nat} {vL : Value} {rs : St} {cap : Nat} {G : Nat → Prop} (h : RD w rb vL rs cap G) {b : Nat} {v : Value} {n : Nat} {xs : List Value} (ho : w.ownsRow b 5 1 v n xs) {g : Nat} (hg : v.ownBlock = some g) : g ≠ rb := by
  rcases ho.2 with ⟨rfl, -⟩ | ⟨g', cap', cur, rfl, -, hb, -⟩
  · cases hg
  · obtain rfl : g' = g := by simpa [Value.ownBlock] using hg
    rintro rfl
    rw [h.cells] at hb
    cases hb
/-- A new list is laid into the disk. -/
theorem RD.turn {w W : World} {rb : Nat} {vL v : Value} {rs rs' : St} {cap base : Nat} {G : Nat → Prop} (h : RD w rb vL rs cap G) (hK : Kept w W) (ho : W.ownsRow base 108 3 v rs'.length (rcs rs')) (hb : w.heap.size ≤ base)
    (hfil : ∀ p ∈ rs', w.ownsRow 0 5 1 p.2.1 p.2.2.1.length (Lib.byteCells p.2.2.1) ∧ ∀ g, p.2.1.ownBlock = some g → G g) (hgood : Good (mapV Prod.snd rs')) (hfit : used (mapV Prod.snd rs') ≤ cap) (hsm : rs'.length ≤ 2000000000000) :
    RD (W.setCell ⟨rb, 1, none⟩ v) rb v rs' cap (ext G w (W.setCell ⟨rb, 1, none⟩ v)) ∧ Chg (fun g => g = rb) w (W.setCell ⟨rb, 1, none⟩ v) := by
  have hrb : rb < w.heap.size := (Array.getElem?_eq_some_iff.1 h.cells).1
  have hC : Chg (fun g => g = rb) w (W.setCell ⟨rb, 1, none⟩ v) := (Chg.of_kept hK).setCell _ (fun _ => rfl)
  have hCW : Chg (fun g => g = rb) W (W.setCell ⟨rb, 1, none⟩ v) := (Chg.refl (fun g => g = rb) W).setCell _ (fun _ => rfl)
  have hrow := own_chg ho hCW (fun g hg e => by have := (ho.lt g hg).1; omega)
  refine ⟨⟨set1 (hK.block' h.cells), own_baseD hrow (Nat.zero_le _), fun p hp => own_chg (hfil p hp).1 hC (fun g hg => h.row_ne (hfil p hp).1 hg), .inl h.inG, fun g hg => .inr ?_, fun p hp g hg => .inl ((hfil p hp).2 g hg), hgood, hfit, h.capLe, hsm⟩, hC⟩
  have h1 := hrow.lt g hg
  exact ⟨by omega, h1.2⟩
set_option maxRecDepth 100000 in
set_option maxHeartbeats 4000000 in
theorem lay_any (k : Nm) (vB : Value) (f : Fl) (rb : Nat) (vL : Value) (rs : St) (cap : Nat) (G : Nat → Prop) (w : World) (h : RD w rb vL rs cap G) (hB : w.ownsRow 0 5 1 vB f.1.length (Lib.byteCells f.1)) (hg : ∀ g, vB.ownBlock = some g → G g)
    (hk : okN k = true) (hf : f.2 ≤ f.1.length) (hnew : ∀ p ∈ rs, p.1 ≠ k) (hu : used (mapV Prod.snd rs) + f.1.length ≤ cap) (hn : rs.length < 2000000000000) :
    Calls Tryz.prog 61 #[.pointer (some ⟨rb, 0, none⟩), .agg #[.string ⟨k.toArray⟩, vB, .int .i64 (f.2 : Int)]] w fun e w' => e = .returned (.tuple #[]) ∧ (∃ vL', RD w' rb vL' (ins (k, (vB, f)) rs) cap (ext G w w')) ∧ Chg (fun g => g = rb) w w' := by
  obtain ⟨A, c, rfl, hc1, hc2⟩ := h.form
  obtain ⟨Ab, cb, rfl⟩ := own_form hB
  have H := Lib.hid h
  have HB := Lib.hid hB
  have HG := Lib.hid hg
  have HK := Lib.hid hk
  have HNEW := Lib.hid hnew
  clear h hB hg hk hnew
  unfold maxLen at hc2
  have hil := insI_le k rs
  have HI := Lib.hid (show ∃ j, insI k rs = j from ⟨_, rfl⟩)
  obtain ⟨j, hj⟩ := HI.out
  rw [hj] at hil
  have HJ := Lib.hid hj
  clear hj
  go_enter Tryz.func61, Tryz.ntmps61
  go_wp2
  have hK0 : Kept w (w.alloc (.cells #[.string ⟨k.toArray⟩, .slice Ab f.1.length cb, .int .i64 (f.2 : Int)] 108)) := (Kept.refl w).alloc _
  have hb0 := heap_alloc_new w (.cells #[.string ⟨k.toArray⟩, .slice Ab f.1.length cb, .int .i64 (f.2 : Int)] 108)
  have hz0 : (w.alloc (.cells #[.string ⟨k.toArray⟩, .slice Ab f.1.length cb, .int .i64 (f.2 : Int)] 108)).heap.size = w.heap.size + 1 := by simp
  generalize w.alloc (.cells #[.string ⟨k.toArray⟩, .slice Ab f.1.length cb, .int .i64 (f.2 : Int)] 108) = w1 at *
  have x0 := cell_at hb0 0
  have x1 := cell_at hb0 1
  have x2 := cell_at hb0 2
  simp only [List.getElem?_toArray, List.getElem?_cons_zero, List.getElem?_cons_succ] at x0 x1 x2
  have HZ := Lib.hid hz0
  clear hb0 hz0
  go_loopw [4, 5, 6] (fun t pt i W => ∃ q : Nat, i = .int .i64 (q : Int) ∧ q ≤ rs.length ∧ pt = .bool (decide (j < q)) ∧ W.ownsRow w1.heap.size 108 3 t (if j < q then q + 1 else q) (rcs ((ins (k, (.slice Ab f.1.length cb, f)) rs).take (if j < q then q + 1 else q))) ∧ Kept w1 W) (fun _ _ i _ => rs.length - (intOf i).toNat)
  case atStart => exact ⟨0, rfl, Nat.zero_le _, by simp, by simpa [rcs] using World.ownsRow_nil w1 w1.heap.size _ _, Kept.refl _⟩
  case round =>
    obtain ⟨q, rfl, hq, rfl, hO, hKq⟩ := hrel
    have c1 := ((H.out.kept hK0).kept hKq).c1
    have y0 := hKq.cell x0
    have y1 := hKq.cell x1
    have y2 := hKq.cell x2
    obtain ⟨At, ct, rfl⟩ := own_form hO
    have hsz := hKq.size
    by_cases hlt : q < rs.length
    · obtain ⟨g, rfl, q0, q1, q2, -⟩ := ((H.out.kept hK0).kept hKq).at hlt
      have g1 : (q : Int) < (rs.length : Int) := by omega
      obtain ⟨Aq, cq, hvq⟩ := own_form (H.out.files _ (List.getElem_mem hlt))
      rw [hvq] at q1
      rcases Nat.lt_trichotomy q j with hqj | hqj | hqj
      · have e1 : decide (j < q) = false := by simp; omega
        have t1 : Op.bytesLess k rs[q].1 = false := by rw [less_before]; exact insI_before hlt (by rw [HJ.out]; exact hqj)
        have et := ins_take_lt (k, ((.slice Ab f.1.length cb : Value), f)) rs (k := q) (by rw [HJ.out]; exact hqj)
        rw [if_neg (by omega)] at hO
        have HO := Lib.hid hO
        have ET := Lib.hid et
        have HVQ := Lib.hid hvq
        clear hO et hvq
        go_wp2
        go_quiet (fail)
        rename_i nq
        have hkd : Kept wr (wr.drewN nq) := (Kept.refl wr).drewN nq
        generalize wr.drewN nq = wq at *
        have z1 := hkd.cell c1
        have z2 := hkd.cell q0
        have z3 := hkd.cell q1
        have z4 := hkd.cell q2
        have hkq := (Kept.refl wq).alloc (.cells #[.string ⟨rs[q].1.toArray⟩, .slice Aq rs[q].2.2.1.length cq, .int .i64 (rs[q].2.2.2 : Int)] 108)
        have hw5 := (hKq.trans hkd).trans hkq
        go_wp2_with (at_builtin; refine wpList_append_files rfl _ _ rfl w1.heap.size _ _ _ [rs[q]] _ rfl rfl (own_kept HO.out (hkd.trans hkq)) (Frow.one' _ HVQ.out) (mem1 (ins_mem_one H.out _ (List.getElem_mem hlt))) (by simp; omega) hw5.size ?_; intro v5 w5 h51 h52 h53; obtain ⟨A5, c5, rfl⟩ := own_form h51; have H5 := Lib.hid h51; clear h51)
        go_roundw
        case rel =>
          refine ⟨q + 1, by go_num, by omega, by simp; omega, ?_, hw5.grown h52 (own_ge HO.out)⟩
          rw [if_neg (by omega), ET.out]
          exact H5.out
        case measure => simp [intOf]; omega
      · subst hqj
        have e1 : decide (q < q) = false := by simp
        have t1 : Op.bytesLess k rs[q].1 = true := by
          rw [less_before]
          have := insI_at (k := k) (m := rs) (by rw [HJ.out]; exact hlt)
          simpa [HJ.out] using this
        have et := ins_take_at (k, ((.slice Ab f.1.length cb : Value), f)) rs
        have et2 := ins_take_gt (k, ((.slice Ab f.1.length cb : Value), f)) rs (k := q) hlt (by rw [HJ.out]; exact Nat.le_refl _)
        rw [HJ.out] at et
        rw [et] at et2
        rw [if_neg (by omega)] at hO
        have HO := Lib.hid hO
        have ET := Lib.hid et2
        have HVQ := Lib.hid hvq
        clear hO et et2 hvq
        go_wp2
        go_quiet (fail)
        rename_i nq
        have hkd : Kept wr (wr.drewN nq) := (Kept.refl wr).drewN nq
        generalize wr.drewN nq = wq at *
        have z1 := hkd.cell y0
        have z2 := hkd.cell y1
        have z3 := hkd.cell y2
        have hkq := (Kept.refl wq).alloc (.cells #[.string ⟨k.toArray⟩, .slice Ab f.1.length cb, .int .i64 (f.2 : Int)] 108)
        have hw5 := (hKq.trans hkd).trans hkq
        have HX1 := Lib.hid c1
        have HX2 := Lib.hid q0
        have HX3 := Lib.hid q1
        have HX4 := Lib.hid q2
        go_wp2_with (first
          | (at_builtin; refine wpList_append_files rfl _ _ rfl w1.heap.size _ _ _ [(k, ((.slice Ab f.1.length cb : Value), f))] _ rfl rfl (own_kept HO.out (hkd.trans hkq)) (Frow.one _ k _ f _) (mem1 rfl) (by simp; omega) hw5.size ?_; intro v5 w5 h51 h52 h53; obtain ⟨A5, c5, rfl⟩ := own_form h51; have H5 := Lib.hid h51; clear h51; have hk5 := hw5.grown h52 (own_ge HO.out); have p1 := ((H.out.kept hK0).kept hk5).c1; obtain ⟨g', eg, p2, p3, p4, -⟩ := ((H.out.kept hK0).kept hk5).at hlt; cases eg; rw [HVQ.out] at p3; have hw6 := hk5.alloc (.cells #[.string ⟨rs[q].1.toArray⟩, .slice Aq rs[q].2.2.1.length cq, .int .i64 (rs[q].2.2.2 : Int)] 108))
          | (at_builtin; refine wpList_append_files rfl _ _ rfl w1.heap.size _ _ _ [rs[q]] _ rfl rfl (own_kept H5.out ((Kept.refl w5).alloc _)) (Frow.one' _ HVQ.out) (mem1 (ins_mem_one H.out _ (List.getElem_mem hlt))) (by simp; omega) hw6.size ?_; intro v7 w7 h71 h72 h73; obtain ⟨A7, c7, rfl⟩ := own_form h71; have H7 := Lib.hid h71; clear h71))
        go_roundw
        case rel =>
          refine ⟨q + 1, by go_num, by omega, by simp, ?_, hw6.grown h72 (own_ge H5.out)⟩
          rw [if_pos (by omega), ET.out]
          exact H7.out
        case measure => simp [intOf]; omega
      · have e1 : decide (j < q) = true := by simp; omega
        have et := ins_take_gt (k, ((.slice Ab f.1.length cb : Value), f)) rs (k := q) hlt (by rw [HJ.out]; omega)
        rw [if_pos hqj] at hO
        have HO := Lib.hid hO
        have ET := Lib.hid et
        have HVQ := Lib.hid hvq
        clear hO et hvq
        go_wp2
        go_quiet (fail)
        rename_i nq
        have hkd : Kept wr (wr.drewN nq) := (Kept.refl wr).drewN nq
        generalize wr.drewN nq = wq at *
        have z1 := hkd.cell c1
        have z2 := hkd.cell q0
        have z3 := hkd.cell q1
        have z4 := hkd.cell q2
        have hkq := (Kept.refl wq).alloc (.cells #[.string ⟨rs[q].1.toArray⟩, .slice Aq rs[q].2.2.1.length cq, .int .i64 (rs[q].2.2.2 : Int)] 108)
        have hw5 := (hKq.trans hkd).trans hkq
        go_wp2_with (at_builtin; refine wpList_append_files rfl _ _ rfl w1.heap.size _ _ _ [rs[q]] _ rfl rfl (own_kept HO.out (hkd.trans hkq)) (Frow.one' _ HVQ.out) (mem1 (ins_mem_one H.out _ (List.getElem_mem hlt))) (by simp; omega) hw5.size ?_; intro v5 w5 h51 h52 h53; obtain ⟨A5, c5, rfl⟩ := own_form h51; have H5 := Lib.hid h51; clear h51)
        go_roundw
        case rel =>
          refine ⟨q + 1, by go_num, by omega, by simp; omega, ?_, hw5.grown h52 (own_ge HO.out)⟩
          rw [if_pos (by omega), ET.out]
          exact H5.out
        case measure => simp [intOf]; omega
    · obtain rfl : q = rs.length := by omega
      have hfil : ∀ p ∈ ins (k, ((.slice Ab f.1.length cb : Value), f)) rs, w.ownsRow 0 5 1 p.2.1 p.2.2.1.length (Lib.byteCells p.2.2.1) ∧ ∀ g, p.2.1.ownBlock = some g → G g := by
        intro p hp
        rcases List.mem_cons.1 ((ins_perm _ _).mem_iff.1 hp) with rfl | hp
        · exact ⟨HB.out, HG.out⟩
        · exact ⟨H.out.files p hp, H.out.filG p hp⟩
      have hmv : mapV Prod.snd (ins (k, ((.slice Ab f.1.length cb : Value), f)) rs) = ins (k, f) (mapV Prod.snd rs) := mapV_ins _ _ _
      have hgood : Good (mapV Prod.snd (ins (k, ((.slice Ab f.1.length cb : Value), f)) rs)) := by
        rw [hmv]
        refine ⟨srt_ins H.out.good.1 (fun p hp => ?_), fun p hp => ?_⟩
        · obtain ⟨p', hp', rfl⟩ := List.mem_map.1 hp
          exact HNEW.out p' hp'
        · rcases List.mem_cons.1 ((ins_perm _ _).mem_iff.1 hp) with rfl | hp
          · exact ⟨HK.out, hf⟩
          · exact H.out.good.2 p hp
      have hfit : used (mapV Prod.snd (ins (k, ((.slice Ab f.1.length cb : Value), f)) rs)) ≤ cap := by
        rw [hmv, used_ins]
        simp only
        omega
      have hlen := ins_len (k, ((.slice Ab f.1.length cb : Value), f)) rs
      have HFIL := Lib.hid hfil
      have HGOOD := Lib.hid hgood
      have HLEN := Lib.hid hlen
      have f1 := ((H.out.kept hK0).kept hKq).f1
      have hz := HZ.out
      clear hfil hmv hgood hlen
      by_cases hjn : j < rs.length
      · have e1 : decide (j < rs.length) = true := by simpa using hjn
        rw [if_pos hjn, List.take_of_length_le (by rw [HLEN.out]; exact Nat.le_refl _)] at hO
        have HT := Lib.hid (H.out.turn (hK0.trans hKq) (rs' := ins (k, ((.slice Ab f.1.length cb : Value), f)) rs) (base := w1.heap.size) (by rw [HLEN.out]; exact hO) (by omega) HFIL.out HGOOD.out hfit (by rw [HLEN.out]; omega))
        clear hO hz
        go_wp2
        go_end0
        exact ⟨rfl, ⟨_, HT.out.1⟩, HT.out.2⟩
      · obtain rfl : j = rs.length := by omega
        have e1 : decide (rs.length < rs.length) = false := by simp
        have et := ins_take_at (k, ((.slice Ab f.1.length cb : Value), f)) rs
        rw [HJ.out, List.take_of_length_le (by rw [HLEN.out]; exact Nat.le_refl _)] at et
        rw [if_neg (by omega)] at hO
        have HO := Lib.hid hO
        have ET := Lib.hid et
        clear hO et hz
        rw [if_neg (show ¬ rs.length < rs.length by omega)]
        have hkq := (Kept.refl wr).alloc (.cells #[.string ⟨k.toArray⟩, .slice Ab f.1.length cb, .int .i64 (f.2 : Int)] 108)
        have hw5 := hKq.trans hkq
        go_wp2_with (at_builtin; refine wpList_append_files rfl _ _ rfl w1.heap.size _ rs.length _ [(k, ((.slice Ab f.1.length cb : Value), f))] _ rfl rfl (own_kept HO.out hkq) (Frow.one _ k _ f _) (mem1 rfl) (by simp; omega) hw5.size ?_; intro v5 w5 h51 h52 h53; obtain ⟨A5, c5, rfl⟩ := own_form h51; have hk5 := hw5.grown h52 (own_ge HO.out); have f5 := ((H.out.kept hK0).kept hk5).f1; have p5 := ((H.out.kept hK0).kept hk5).c1; have HT := Lib.hid (H.out.turn (hK0.trans hk5) (rs' := ins (k, ((.slice Ab f.1.length cb : Value), f)) rs) (base := w1.heap.size) (by rw [HLEN.out, ET.out]; exact h51) (by have := HZ.out; omega) HFIL.out HGOOD.out hfit (by rw [HLEN.out]; omega)); clear h51)
        go_end0
        exact ⟨rfl, ⟨_, HT.out.1⟩, HT.out.2⟩
end Go.Proofs.YtngbgngfdklnlaaGreatDoor
set_option linter.unusedSimpArgs false
set_option linter.unusedVariables false
namespace Go.Proofs.YtngbgngfdklnlaaGreatDoor
open Go.RowKit
def dropAt {α : Type} (i : Nat) (m : List α) : List α := m.take i ++ m.drop (i + 1)
theorem dropAt_len {α : Type} {i : Nat} {m : List α} (h : i < m.length) : (dropAt i m).length + 1 = m.length := by
  unfold dropAt
  simp
  omega
theorem dropAt_sub {α : Type} (i : Nat) (m : List α) : (dropAt i m).Sublist m := by
  unfold dropAt
  have h : (m.take i ++ m.drop (i + 1)).Sublist (m.take i ++ m.drop i) := by
    refine List.Sublist.append (List.Sublist.refl _) ?_
    rw [← List.drop_drop]
    exact List.drop_sublist _ _
  rw [List.take_append_drop] at h
  exact h
theorem mapV_dropAt {α β : Type} (g : α → β) (i : Nat) (m : List (Nm × α)) : mapV g (dropAt i m) = dropAt i (mapV g m) := by
  unfold dropAt mapV
  rw [List.map_append, List.map_take, List.map_drop]
theorem used_sub {a b : Fls} (h : a.Sublist b) : used a ≤ used b := by
  unfold used
  induction h with
  | slnil => exact Nat.le_refl _
  | cons p _ ih => simp only [List.map_cons, List.sum_cons]; omega
  | cons_cons p _ ih => simp only [List.map_cons, List.sum_cons]; omega
theorem Good.sub {a b : Fls} (h : Good b) (hs : a.Sublist b) : Good a := ⟨h.1.sublist hs, fun p hp => h.2 p (hs.subset hp)⟩
/-- A row of files, from one place on. -/
theorem tail_files (g n c : Nat) (rs : St) (i : Nat) (hi : i < n) (hn : n = rs.length) (hc : n ≤ c) :
    ∃ SV, (∀ W, (Instr.sliceAt 29 (.slice (some ⟨g, 0, none⟩) n c) (some (.int .i64 ((i : Int) + 1))) none none).run Tryz.prog W = .ok SV W) ∧
      ∀ W, (∀ j u, (rcs rs)[j]? = some u → W.cell? ⟨g, j, none⟩ = some u) → Frow W SV (rs.drop (i + 1)) := by
  subst hn
  obtain ⟨i0, hii, -, hs, -⟩ := info_file
  refine ⟨sliced (some ⟨g, 0, none⟩) (i + 1) rs.length c 3, fun W => ?_, fun W hcell => ?_⟩
  · have hel : Tryz.prog.elem 29 = 108 := by kernel_rfl
    have hu : Tryz.prog.underlying 29 = some (.slice (Tryz.prog.elem 29)) := by rw [hel]; exact Tryz.underlying29
    rw [run_sliceAt_slice W _ _ _ _ _ hu, run_slice_l W _ _ rs.length c hu .i64 _ (by omega) (by omega), hel]
    have e1 : ((i : Int) + 1).toNat = i + 1 := by omega
    simp [sizeOf, typeInfo, hii, hs, e1]
  · unfold sliced
    refine ⟨_, c - (i + 1), by rw [List.length_drop], fun hp => ⟨g, (i + 1) * 3, ?_, fun j u hu => ?_⟩⟩
    · rw [List.length_drop] at hp
      rw [if_neg (by omega)]
      have : ((⟨g, 0, none⟩ : Addr).add ((i + 1) * 3)) = ⟨g, (i + 1) * 3, none⟩ := by unfold Addr.add; split <;> simp_all
      simp [this]
    · apply hcell
      have e : rcs rs = rcs (rs.take (i + 1)) ++ rcs (rs.drop (i + 1)) := by rw [← rcs_app, List.take_append_drop]
      rw [e]
      have hl : (rcs (rs.take (i + 1))).length = (i + 1) * 3 := by rw [rcs_len]; simp; omega
      rw [List.getElem?_append_right (by omega), hl]
      simpa using hu
theorem head_files {W : World} {g c i : Nat} {rs : St} (hi : i ≤ rs.length) (hcell : ∀ j u, (rcs rs)[j]? = some u → W.cell? ⟨g, j, none⟩ = some u) : Frow W (.slice (some ⟨g, 0, none⟩) i c) (rs.take i) := by
  have hl : (rs.take i).length = i := by simp; omega
  refine ⟨_, c, by rw [hl], fun hp => ⟨g, 0, rfl, fun j u hu => ?_⟩⟩
  rw [Nat.zero_add]
  apply hcell
  have e : rcs rs = rcs (rs.take i) ++ rcs (rs.drop i) := by rw [← rcs_app, List.take_append_drop]
  rw [e, List.getElem?_append_left (List.getElem?_eq_some_iff.1 hu).1]
  exact hu
theorem RD.cellsAll {w : World} {rb : Nat} {g n c : Nat} {rs : St} {cap : Nat} {G : Nat → Prop} (h : RD w rb (.slice (some ⟨g, 0, none⟩) n c) rs cap G) : ∀ j u, (rcs rs)[j]? = some u → w.cell? ⟨g, j, none⟩ = some u := by
  intro j u hu
  have := h.row.cells (g := g) rfl j u hu
  have e : ((⟨g, 0, none⟩ : Addr).add j) = ⟨g, j, none⟩ := by unfold Addr.add; split <;> simp_all
  rw [e] at this
  exact this
set_option maxRecDepth 100000 in
set_option maxHeartbeats 4000000 in
theorem rdrop_any (i : Nat) (rb : Nat) (vL : Value) (rs : St) (cap : Nat) (G : Nat → Prop) (w : World) (h : RD w rb vL rs cap G) (hi : i < rs.length) :
    Calls Tryz.prog 64 #[.pointer (some ⟨rb, 0, none⟩), .int .i64 (i : Int)] w fun e w' => e = .returned (.tuple #[]) ∧ (∃ vL', RD w' rb vL' (dropAt i rs) cap (ext G w w')) ∧ Chg (fun g => g = rb) w w' := by
  obtain ⟨A, c, rfl, hc1, hc2⟩ := h.form
  obtain ⟨g, rfl, -, -, -, -⟩ := h.at hi
  have c1 := h.c1
  have H := Lib.hid h
  have hsm := h.small
  clear h
  unfold maxLen at hc2
  have hfil : ∀ p ∈ dropAt i rs, w.ownsRow 0 5 1 p.2.1 p.2.2.1.length (Lib.byteCells p.2.2.1) ∧ ∀ g, p.2.1.ownBlock = some g → G g := fun p hp => ⟨H.out.files p ((dropAt_sub i rs).subset hp), H.out.filG p ((dropAt_sub i rs).subset hp)⟩
  have hgood : Good (mapV Prod.snd (dropAt i rs)) := by rw [mapV_dropAt]; exact H.out.good.sub (dropAt_sub _ _)
  have hfit : used (mapV Prod.snd (dropAt i rs)) ≤ cap := by rw [mapV_dropAt]; exact Nat.le_trans (used_sub (dropAt_sub _ _)) H.out.fits
  have hlen := dropAt_len hi
  have HFIL := Lib.hid hfil
  have HGOOD := Lib.hid hgood
  obtain ⟨SV, hsv, hsf⟩ := tail_files g rs.length c rs i hi rfl hc1
  have HSF := Lib.hid hsf
  have hl1 : (rs.take i).length = i := by simp; omega
  have HL1 := Lib.hid hl1
  have hdl : (rs.drop (i + 1)).length = rs.length - (i + 1) := by simp
  have HDL := Lib.hid hdl
  have HONE := Lib.hid (ins_mem_one H.out)
  have g1 : (i : Int) ≤ (c : Int) := by omega
  obtain ⟨As, cs, hSV, -⟩ := hsf w H.out.cellsAll
  rw [hdl] at hSV
  subst hSV
  clear hfil hgood hsf hl1 hdl
  go_enter Tryz.func64, Tryz.ntmps64
  go_wp2_with (first
    | (at_builtin; refine wpList_append_files rfl _ _ rfl w.heap.size (.slice none 0 0) 0 [] (rs.take i) _ rfl rfl (by simpa [rcs] using World.ownsRow_nil w w.heap.size _ _) (head_files (by omega) H.out.cellsAll) (fun p hp => HONE.out p (List.mem_of_mem_take hp)) (by rw [HL1.out]; omega) (Nat.le_refl _) ?_; intro v5 w5 h51 h52 h53; rw [HL1.out, Nat.zero_add, List.nil_append] at h51; obtain ⟨A5, c5, rfl⟩ := own_form h51; have H5 := Lib.hid h51; have hk5 := (Kept.refl w).grown h52 (fun g hg => by cases hg); have p5 := (H.out.kept hk5).c1; clear h51)
    | (at_builtin; refine wpList_append_files rfl _ _ rfl w.heap.size _ i (rs.take i) (rs.drop (i + 1)) _ rfl rfl H5.out (HSF.out _ (H.out.kept hk5).cellsAll) (fun p hp => HONE.out p (List.mem_of_mem_drop hp)) (by rw [HDL.out]; omega) hk5.size ?_; intro v7 w7 h71 h72 h73; rw [HDL.out] at h71; obtain ⟨A7, c7, rfl⟩ := own_form h71; have hk7 := hk5.grown h72 (own_ge H5.out); have p7 := (H.out.kept hk7).c1; have f7 := (H.out.kept hk7).f1; have HT := Lib.hid (H.out.turn hk7 (rs' := dropAt i rs) (base := w.heap.size) (by rw [show (dropAt i rs).length = i + (rs.length - (i + 1)) by omega]; exact h71) (Nat.le_refl _) HFIL.out HGOOD.out hfit (by omega)); clear h71))
  go_end0
  exact ⟨rfl, ⟨_, HT.out.1⟩, HT.out.2⟩
end Go.Proofs.YtngbgngfdklnlaaGreatDoor
