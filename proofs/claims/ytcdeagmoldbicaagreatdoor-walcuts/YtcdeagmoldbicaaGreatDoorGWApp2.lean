/- append of one element onto a row of the call's own: a slice of bytes, a segment, a number. The walk of add: a record more, in the segment at a place. -/
import Derived.Test.YtcdeagmoldbicaaGreatDoorGWMem2
import Derived.Deep.RegionLaw
set_option linter.unusedSimpArgs false
set_option linter.unusedVariables false
namespace Go.Proofs.YtcdeagmoldbicaaGreatDoor
open Go.RowKit
/-- What a type is, for append. -/
structure Elem (st et : TypeId) (size bytes : Nat) : Prop where
  under : Tryz.prog.underlying st = some (.slice et)
  info : ∃ i z, Tryz.prog.info? et = some i ∧ i.zero = some z ∧ i.size = size ∧ i.bytes = bytes ∧ z.cells.size = size
  pos : 0 < size
theorem elem_of {st et : TypeId} {size bytes : Nat} {z : Value} (hu : Tryz.prog.underlying st = some (.slice et)) (h : (Tryz.prog.info? et).map (fun i => (i.zero, i.size, i.bytes)) = some (some z, size, bytes)) (hz : z.cells.size = size) (hp : 0 < size) : Elem st et size bytes := by
  refine ⟨hu, ?_, hp⟩
  cases hq : Tryz.prog.info? et with
  | none => rw [hq] at h; cases h
  | some i =>
    rw [hq] at h
    simp only [Option.map_some, Option.some.injEq, Prod.mk.injEq] at h
    exact ⟨i, z, rfl, h.1, h.2.1, h.2.2, hz⟩
theorem elemB : Elem 41 40 1 24 := elem_of (z := .slice none 0 0) Tryz.underlying41 (by kernel_rfl) rfl (by decide)
theorem elemS : Elem 82 104 4 48 := elem_of (z := .agg #[.int .i64 0, .int .i64 0, .int .i64 0, .slice none 0 0]) Tryz.underlying82 (by kernel_rfl) rfl (by decide)
theorem elemI : Elem 42 3 1 8 := elem_of (z := .int .i64 0) Tryz.underlying42 (by kernel_rfl) rfl (by decide)
theorem append_one_run {st et : TypeId} {size bytes : Nat} (E : Elem st et size bytes) (ty : TypeId) (w : World) (base : Nat) (v : Value) (n : Nat) (xs news : List Value) (hown : w.ownsRow base et size v n xs) (b c : Nat) (hl : news.length = size) (hc : ∀ j u, news[j]? = some u → w.cell? ⟨b, j, none⟩ = some u) (h1 : ∀ u ∈ news, u.oneCell' = true)
    (hlim : (n + 1) * bytes ≤ 140737488355328) (h63 : n + 1 ≤ maxLen) (hbase : base ≤ w.heap.size) :
    ∃ v' w', (Builtin.append_ #[st, st] ty #[v, .slice (some ⟨b, 0, none⟩) 1 c]).run Tryz.prog w = .ok v' w' ∧ w'.ownsRow base et size v' (n + 1) (xs ++ news) ∧ w.grownBy w' v.ownBlock ∧ (v'.ownBlock = v.ownBlock ∨ v'.ownBlock = some w.heap.size) := by
  obtain ⟨i, z, hi, hz, hs, hb, hzs⟩ := E.info
  have ha : ∀ j, ((⟨b, 0, none⟩ : Addr).add j) = ⟨b, j, none⟩ := fun j => by unfold Addr.add; split <;> simp_all
  obtain ⟨v', w', hrun, h2, h3, _, h5⟩ := run_append_own_at (P := Tryz.prog) w base st ty et i z size bytes E.under hi hz hs hb hzs E.pos v n _ hown ⟨b, 0, none⟩ 1 c news (by omega) (fun j u hu => by rw [ha]; exact hc j u hu) h1 h63 hlim hbase
  exact ⟨v', w', hrun, h2, h3, h5⟩
/-- append, for the walk. -/
theorem wpList_append_one {st et : TypeId} {size bytes : Nat} (E : Elem st et size bytes) {w : World} {ops : Array Oper} {rest : List Oper} {o : Oper} {a : Act} {Q : Exit → Act → World → Prop} (hgd : o.guard = none) (s x : Operand)
    (ho : o.op = .call { callee := .builtin .append, args := #[s, x], argTypes := #[st, st] }) (base : Nat) (v : Value) (n : Nat) (xs news : List Value) (b c : Nat) (hs : a.eval s = v) (hxe : a.eval x = .slice (some ⟨b, 0, none⟩) 1 c)
    (hown : w.ownsRow base et size v n xs) (hl : news.length = size) (hc : ∀ j u, news[j]? = some u → w.cell? ⟨b, j, none⟩ = some u) (h1 : ∀ u ∈ news, u.oneCell' = true) (hlim : (n + 1) * bytes ≤ 140737488355328) (h63 : n + 1 ≤ maxLen) (hbase : base ≤ w.heap.size)
    (h : ∀ v' w', w'.ownsRow base et size v' (n + 1) (xs ++ news) → w.grownBy w' v.ownBlock → (v'.ownBlock = v.ownBlock ∨ v'.ownBlock = some w.heap.size) → wpList Tryz.prog ops Q rest (a.put o.dst v') w') : wpList Tryz.prog ops Q (o :: rest) a w := by
  refine wpList_plain hgd fun K hK => ?_
  obtain ⟨v', w', hrun, h2, h3, h4⟩ := append_one_run E o.type w base v n xs news hown b c hl hc h1 hlim h63 hbase
  unfold Oper.wp execOp
  simp only [ho, resolve, invoke, builtin, Sem.run_bind, Sem.run_pure, Result.andThen_ok, List.map_toArray, List.map_cons, List.map_nil, hs, hxe, hrun]
  exact hK _ _ (h v' w' h2 h3 h4)
/-- append, in a region that draws. -/
theorem step_append_one {st et : TypeId} {size bytes : Nat} (E : Elem st et size bytes) {w : World} {ops : Array Oper} {o : Oper} {a : Act} {K : Act → World → Prop} {Q : Exit → Act → World → Prop} {X : Prop} (hgd : o.guard = none) (s x : Operand)
    (ho : o.op = .call { callee := .builtin .append, args := #[s, x], argTypes := #[st, st] }) (base : Nat) (v : Value) (n : Nat) (xs news : List Value) (b c : Nat) (hs : a.eval s = v) (hxe : a.eval x = .slice (some ⟨b, 0, none⟩) 1 c)
    (hown : w.ownsRow base et size v n xs) (hl : news.length = size) (hc : ∀ j u, news[j]? = some u → w.cell? ⟨b, j, none⟩ = some u) (h1 : ∀ u ∈ news, u.oneCell' = true) (hlim : (n + 1) * bytes ≤ 140737488355328) (h63 : n + 1 ≤ maxLen) (hbase : base ≤ w.heap.size)
    (h : ∀ v' w', w'.ownsRow base et size v' (n + 1) (xs ++ news) → w.grownBy w' v.ownBlock → (v'.ownBlock = v.ownBlock ∨ v'.ownBlock = some w.heap.size) → K (a.put o.dst v') w') :
    if Region.wanted o (yielded ops a.tmps) = true then Oper.wp Tryz.prog o a w K Q else X := by
  have hw : Region.wanted o (yielded ops a.tmps) = true := by simp [Region.wanted, hgd]
  rw [if_pos hw]
  obtain ⟨v', w', hrun, h2, h3, h4⟩ := append_one_run E o.type w base v n xs news hown b c hl hc h1 hlim h63 hbase
  unfold Oper.wp execOp
  simp only [ho, resolve, invoke, builtin, Sem.run_bind, Sem.run_pure, Result.andThen_ok, List.map_toArray, List.map_cons, List.map_nil, hs, hxe, hrun]
  exact h v' w' h2 h3 h4
end Go.Proofs.YtcdeagmoldbicaaGreatDoor
set_option linter.unusedSimpArgs false
set_option linter.unusedVariables false
namespace Go.Proofs.YtcdeagmoldbicaaGreatDoor
open Go.RowKit
theorem cell_new1 (w : World) (u : Value) (t : TypeId) : ∀ j x, ([u] : List Value)[j]? = some x → (w.alloc (.cells #[u] t)).cell? ⟨w.heap.size, j, none⟩ = some x := by
  intro j x hx
  rw [cell_at (heap_alloc_new w _)]
  match j, hx with
  | 0, hx => simpa using hx
theorem one_cell {u : Value} (h : u.oneCell' = true) : ∀ x ∈ [u], x.oneCell' = true := by
  intro x hx
  rw [List.mem_singleton.1 hx]
  exact h
set_option maxRecDepth 100000 in
set_option maxHeartbeats 4000000 in
theorem add_any (b o : Nat) (cs : Array Value) (t : TypeId) (siz n : Nat) (rv : Value) (rs : List (List UInt8)) (r : List UInt8) (v : Value) (G : Nat → Prop) (w : World) (hb : w.heap[b]? = some (.cells cs t (0, 0))) (h2 : cs[o + 2]? = some (.int .i64 (siz : Int))) (h3 : cs[o + 3]? = some rv)
    (ht : t ≠ 40) (ht' : t ≠ 5) (hr : RecsAt w rv rs G) (hv : Bts w v r) (hl : r.length ≤ 1073741824) (hn : rs.length ≤ 1073741824) (hs : siz + n < 9223372036854775808) :
    Calls Tryz.prog 83 #[.pointer (some ⟨b, o, none⟩), v, .int .i64 (n : Int)] w fun e w' => e = .returned (.tuple #[]) ∧ ∃ rv', w'.heap[b]? = some (.cells ((cs.setIfInBounds (o + 3) rv').setIfInBounds (o + 2) (.int .i64 ((siz + n : Nat) : Int))) t (0, 0)) ∧
      RecsAt w' rv' (rs ++ [r]) (ext G w w') ∧ (∀ g, rv'.ownBlock = some g → rv.ownBlock = some g ∨ w.heap.size ≤ g) ∧ Chg (fun g => g = b ∨ rv.ownBlock = some g) w w' := by
  have HR := Lib.hid hr
  have HB := Lib.hid hb
  obtain ⟨A, c, rfl, hc1, hc2⟩ := hr.form
  have hK0 := (Kept.refl w).drew
  have HC := Lib.hid (show ∀ W, Kept w W → _ from fun W hW => bclone_any r v W (hv.kept hW) (by omega))
  obtain ⟨Av, cv, hvv, hv1, hv2, -⟩ := hv
  subst hvv
  obtain ⟨us, hrow, hrG, hrs⟩ := hr
  have HRS := Lib.hid hrs
  have HROW := Lib.hid hrow
  have c2 : w.cell? ⟨b, o + 2, none⟩ = some (.int .i64 (siz : Int)) := by rw [cell_at hb, h2]
  have c3 : w.cell? ⟨b, o + 3, none⟩ = some (.slice A rs.length c) := by rw [cell_at hb, h3]
  have f2 := frozen_at hb (o + 2)
  have f3 := frozen_at hb (o + 3)
  have hbl : b < w.heap.size := (Array.getElem?_eq_some_iff.1 hb).1
  have hbr : ∀ g, (Value.slice A rs.length c).ownBlock = some g → g ≠ b := by
    rintro g hg rfl
    obtain ⟨cur, hc⟩ := own_type hrow hg
    rw [hb] at hc
    injection hc with hc
    injection hc with _ hc
    exact ht hc
  have HBR := Lib.hid hbr
  have HRG := Lib.hid hrG
  clear hb hrow hrs hbr hrG
  go_enter Tryz.func83, Tryz.ntmps83
  go_wp2
  go_region_law (first
      | (go_simp; go_at_call 69; refine (HC.out _ hK0).mono ?_; rintro e w3 ⟨v3, rfl, ho3, hq⟩; have hq1 := hK0.trans hq; have hqa := hq1.alloc (.cells #[v3] 40); have z1 := hq1.cell c3; have z2 := frozen_at (hq1.block' HB.out) (o + 3); have HO3 := Lib.hid ho3; obtain ⟨A3, cc3, rfl⟩ := own_form ho3; have z3 := hqa.cell c3; have hb3 : b < w3.heap.size := Nat.lt_of_lt_of_le hbl hq1.size; clear ho3)
      | (refine step_append_one elemB (by rfl) _ _ (by rfl) 0 _ _ us [.slice A3 r.length cc3] w3.heap.size 1 (by rfl) (by rfl) (own_kept HROW.out hqa) (by rfl) (cell_new1 w3 _ _) (one_cell (by rfl)) (by omega) (by unfold maxLen; omega) (Nat.zero_le _) ?_; intro v4 w4 a1 a2 a3; obtain ⟨A4, cc4, rfl⟩ := own_form a1; have HA1 := Lib.hid a1; have HA2 := Lib.hid a2; have HA3 := Lib.hid a3; have hbb := a2.block b (Nat.lt_of_lt_of_le hbl hqa.size) (fun e => HBR.out _ e.symm rfl); rw [hqa.block' HB.out] at hbb; have hcb := (cell_at hbb (o + 3)).trans h3; have hfb := frozen_at hbb (o + 3); have HBB := Lib.hid hbb; clear hbb a1 a2 a3))
  all_goals (
    have hsz3 := hq1.size
    have hza : (w3.alloc (.cells #[.slice A3 r.length cc3] 40)).heap.size = w3.heap.size + 1 := by simp
    have hAw : ∀ g, (Value.slice A rs.length c).ownBlock = some g → g < w.heap.size := fun g hg => (HROW.out.lt g hg).2
    have hb5 := Lib.heap_setCell_same (i := o + 3) HBB.out (.slice A4 (rs.length + 1) cc4)
    have hC34 : Chg (fun g => g = b ∨ (Value.slice A rs.length c).ownBlock = some g) w3 w4 := (Chg.of_kept ((Kept.refl w3).alloc _)).trans (Chg.of_grown HA2.out (fun g hg _ => Or.inr hg)) (fun g _ x => x)
    have hC35 := hC34.setCell (b := b) (o := o + 3) (.slice A4 (rs.length + 1) cc4) (fun _ => .inl rfl)
    have hC45 : Chg (fun g => g = b) w4 (w4.setCell ⟨b, o + 3, none⟩ (.slice A4 (rs.length + 1) cc4)) := (Chg.refl _ w4).setCell _ (fun _ => rfl)
    generalize w4.setCell ⟨b, o + 3, none⟩ (.slice A4 (rs.length + 1) cc4) = w5 at *
    have q2 : w5.cell? ⟨b, o + 2, none⟩ = some (.int .i64 (siz : Int)) := by
      rw [cell_at hb5, Array.getElem?_setIfInBounds_ne (by omega)]
      exact h2
    have q3 := frozen_at hb5 (o + 2)
    have HB5 := Lib.hid hb5
    clear hb5
    go_wp2
    go_end0
    have hb6 := Lib.heap_setCell_same (i := o + 2) HB5.out (.int .i64 ((siz : Int) + (n : Int)))
    have hC36 := hC35.setCell (b := b) (o := o + 2) (.int .i64 ((siz : Int) + (n : Int))) (fun _ => .inl rfl)
    have hC46 := hC45.setCell (b := b) (o := o + 2) (.int .i64 ((siz : Int) + (n : Int))) (fun _ => rfl)
    have hCw : Chg (fun g => g = b ∨ (Value.slice A rs.length c).ownBlock = some g) w (w5.setCell ⟨b, o + 2, none⟩ (.int .i64 ((siz : Int) + (n : Int)))) := (Chg.of_kept hq1).trans hC36 (fun g _ x => x)
    generalize w5.setCell ⟨b, o + 2, none⟩ (.int .i64 ((siz : Int) + (n : Int))) = w6 at *
    have hA4 : ∀ g, (Value.slice A4 (rs.length + 1) cc4).ownBlock = some g → (Value.slice A rs.length c).ownBlock = some g ∨ w.heap.size ≤ g := by
      intro g hg
      rcases HA3.out with e | e
      · left; rw [← e]; exact hg
      · right
        rw [hg] at e
        have : g = (w3.alloc (.cells #[.slice A3 r.length cc3] 40)).heap.size := by simpa using e
        omega
    have hrow6 := own_chg HA1.out hC46 (fun g hg e => by
      rcases hA4 g hg with x | x
      · exact HBR.out g x e
      · omega)
    refine ⟨rfl, .slice A4 (rs.length + 1) cc4, by push_cast; exact hb6, ⟨us ++ [.slice A3 r.length cc3], by rw [List.length_append]; exact hrow6, fun g hg => ?_, fun k hk => ?_⟩, hA4, hCw⟩
    · rcases hA4 g hg with x | x
      · exact .inl (HRG.out g x)
      · exact .inr ⟨x, (hrow6.lt g hg).2⟩
    · have hus : us.length = rs.length := by have := HROW.out.1; omega
      by_cases hkr : k < rs.length
      · obtain ⟨u, b1, b2, b3⟩ := HRS.out k hkr
        refine ⟨u, by rw [List.getElem?_append_left (by omega)]; exact b1, ?_, fun g hg => .inl (b3 g hg)⟩
        rw [List.getElem_append_left hkr]
        refine own_chg b2 hCw (fun g hg x => ?_)
        obtain ⟨cur, hcur⟩ := own_type b2 hg
        rcases x with rfl | x
        · rw [HB.out] at hcur
          injection hcur with hcur
          injection hcur with _ hcur
          exact ht' hcur
        · obtain ⟨cur', hcur'⟩ := own_type HROW.out x
          rw [hcur] at hcur'
          injection hcur' with hcur'
          injection hcur' with _ hcur'
          exact absurd hcur' (by decide)
      · obtain rfl : k = rs.length := by simp at hk; omega
        have hlt3 := fun g hg => (HO3.out.lt g hg)
        have hw0 : w.drew.heap.size = w.heap.size := rfl
        have hrr : (rs ++ [r])[rs.length]'hk = r := by simp
        have hr6 := own_base' (own_chg HO3.out hC36 (fun g hg x => by
          have := (hlt3 g hg).1
          rcases x with rfl | x
          · omega
          · have := hAw g x
            omega)) (Nat.zero_le _)
        refine ⟨.slice A3 r.length cc3, by rw [List.getElem?_append_right (by omega)]; simp [hus], by rw [hrr]; exact hr6, fun g hg => .inr ⟨by have := (hlt3 g hg).1; omega, (hr6.lt g hg).2⟩⟩)
end Go.Proofs.YtcdeagmoldbicaaGreatDoor
