/- The document's Deliver. The document's Deliver, any. -/
import Derived.Test.YtnpenabkmpoafaaQNRf7
set_option linter.unusedSimpArgs false
set_option linter.unusedVariables false
namespace Go.Proofs.Ytnpenabkmpoafaa
open Go.RowKit
theorem wpList_append_many {st et : TypeId} {size bytes : Nat} (E : Elem st et size bytes) {w : World} {ops : Array Oper} {rest : List Oper} {o : Oper} {a : Act} {Q : Exit → Act → World → Prop} (hgd : o.guard = none) (s x : Operand)
    (ho : o.op = .call { callee := .builtin .append, args := #[s, x], argTypes := #[st, st] }) (base : Nat) (v : Value) (n : Nat) (xs news : List Value) (A : Addr) (m c : Nat) (hs : a.eval s = v) (hxe : a.eval x = .slice (some A) m c)
    (hown : w.ownsRow base et size v n xs) (hl : news.length = m * size) (hc : ∀ j u, news[j]? = some u → w.cell? (A.add j) = some u) (h1 : ∀ u ∈ news, u.oneCell' = true) (hlim : (n + m) * bytes ≤ 140737488355328) (h63 : n + m ≤ maxLen) (hbase : base ≤ w.heap.size)
    (h : ∀ v' w', w'.ownsRow base et size v' (n + m) (xs ++ news) → w.grownBy w' v.ownBlock → (v'.ownBlock = v.ownBlock ∨ v'.ownBlock = some w.heap.size) → wpList Try.prog ops Q rest (a.put o.dst v') w') : wpList Try.prog ops Q (o :: rest) a w := by
  refine wpList_plain hgd fun K hK => ?_
  obtain ⟨i, z, hi, hz, hsz, hb, hzs⟩ := E.info
  obtain ⟨v', w', hrun, h2, h3, _, h5⟩ := run_append_own_at (P := Try.prog) w base st o.type et i z size bytes E.under hi hz hsz hb hzs E.pos v n xs hown A m c news hl hc h1 h63 hlim hbase
  unfold Oper.wp execOp
  simp only [ho, resolve, invoke, builtin, Sem.run_bind, Sem.run_pure, Result.andThen_ok, List.map_toArray, List.map_cons, List.map_nil, hs, hxe, hrun]
  exact hK _ _ (h v' w' h2 h3 h5)
/-- Without the i-th of those that q names. -/
def delNth {α : Type} (q : α → Bool) : List α → Nat → List α
  | [], _ => []
  | y :: ys, i => if q y then (match i with | 0 => ys | i + 1 => y :: delNth q ys i) else y :: delNth q ys i
theorem hits_cons (a b : Int) (y : Sent) (vs : List Sent) : hits a b (y :: vs) = (if isAt a b (bare y) then 1 else 0) + hits a b vs := by
  unfold hits
  rw [List.filter_cons]
  by_cases h : isAt a b (bare y) = true
  · rw [if_pos h, if_pos h, List.length_cons]; omega
  · rw [if_neg h, if_neg h]; omega
theorem place_del (a b : Int) : ∀ (vs : List Sent) (i p : Nat), Place a b vs i p → delNth (isAt a b) (vs.map bare) i = (vs.take p ++ vs.drop (p + 1)).map bare
  | [], _, _, ⟨_, h, _⟩ => by simp at h
  | y :: vs, i, 0, ⟨z, h1, h2, h3, h4⟩ => by
    obtain rfl : y = z := by simpa using h1
    have h4 : 0 = i := h4
    subst h4
    have hq : isAt a b (bare y) = true := by simp [isAt, bare, h2, h3]
    simp [delNth, hq]
  | y :: vs, i, p + 1, ⟨z, h1, h2, h3, h4⟩ => by
    rw [List.take_succ_cons, hits_cons] at h4
    have h1 : vs[p]? = some z := by simpa using h1
    by_cases hq : isAt a b (bare y) = true
    · rw [if_pos hq] at h4
      obtain ⟨i', rfl⟩ : ∃ i', i = i' + 1 := ⟨i - 1, by omega⟩
      have := place_del a b vs i' p ⟨z, h1, h2, h3, by omega⟩
      simp only [List.map_cons, delNth, hq, if_true, List.take_succ_cons, List.drop_succ_cons, List.cons_append, this]
    · rw [if_neg hq] at h4
      have := place_del a b vs i p ⟨z, h1, h2, h3, by omega⟩
      simp only [List.map_cons, delNth, hq, List.take_succ_cons, List.drop_succ_cons, List.cons_append, this]
      rfl
def rDelS (d : RS) (a b i : Int) : RS := if rWait d a b i = 0 then { d with list := delNth (isAt a b) d.list i.toNat } else d
theorem cells3_take (vs : List Sent) (p : Nat) : ∀ (j : Nat) (u : Value), (cells3 (vs.take p))[j]? = some u → (cells3 vs)[j]? = some u := by
  intro j u h
  have hj := (List.getElem?_eq_some_iff.1 h).1
  rw [← List.take_append_drop p vs, cells3_app, List.getElem?_append_left hj]
  exact h
theorem cells3_drop {vs : List Sent} {p : Nat} (hp : p ≤ vs.length) : ∀ (j : Nat) (u : Value), (cells3 (vs.drop p))[j]? = some u → (cells3 vs)[p * 3 + j]? = some u := by
  intro j u h
  have e : (cells3 (vs.take p)).length = p * 3 := by rw [cells3_len, List.length_take, Nat.min_eq_left hp]
  rw [← List.take_append_drop p vs, cells3_app, List.getElem?_append_right (by omega), e, Nat.add_sub_cancel_left]
  exact h
theorem add_at (g o j : Nat) : ((⟨g, o, none⟩ : Addr).add j) = ⟨g, o + j, none⟩ := by unfold Addr.add; split <;> simp_all
theorem cells3_one {vs : List Sent} (h : ∀ y ∈ vs, ∃ A n c, y.2.2.1 = .slice A n c) : ∀ u ∈ cells3 vs, u.oneCell' = true := by
  intro u hu
  unfold cells3 at hu
  obtain ⟨y, hy, hu⟩ := List.mem_flatMap.1 hu
  obtain ⟨A, n, c, e⟩ := h y hy
  have hu : u = .int .i64 y.1 ∨ u = .int .i64 y.2.1 ∨ u = y.2.2.1 := by simpa [cell3] using hu
  rcases hu with rfl | rfl | rfl
  · rfl
  · rfl
  · rw [e]; rfl
theorem RefAt.placeVal {w : World} {db : Nat} {Z : Array Value} {A : Option Addr} {c n : Nat} {vs : List Sent} {d : RS} {G : Nat → Prop} (h : RefAt w db Z (.slice A n c) vs d G) {a b : Int} {i p : Nat} (hp : p < vs.length) (hpl : Place a b vs i p) :
    vs[p].2.2.2 = rPick d a b i := by
  obtain ⟨y, h1, h2, h3, h4⟩ := hpl
  obtain ⟨hp', hy⟩ := List.getElem?_eq_some_iff.1 h1
  have this := filter_at (fun y => isAt a b (bare y)) vs h1 (by simp [isAt, bare, h2, h3])
  rw [show ((vs.take p).filter fun y => isAt a b (bare y)).length = i from h4] at this
  rw [hy]
  unfold rPick
  rw [← h.same, List.filter_map, List.getElem?_map, List.getElem?_map, Int.toNat_natCast, show (isAt a b ∘ bare) = fun y => isAt a b (bare y) from rfl, this]
  rfl
set_option maxRecDepth 100000 in
set_option maxHeartbeats 4000000 in
theorem refDeliver_ok (a b : Int) (i : Nat) (w : World) (db : Nat) (Z : Array Value) (lv : Value) (vs : List Sent) (d : RS) (G : Nat → Prop) (h : RefAt w db Z lv vs d G) (hw0 : rWait d a b i = 0) :
    Calls Try.prog 16 #[.pointer (some ⟨db, 0, none⟩), .int .i64 a, .int .i64 b, .int .i64 (i : Int)] w fun e w' => (∃ mv, e = .returned (.tuple #[mv, .int .i64 0]) ∧ Bts w' mv (rPick d a b i)) ∧ RefTo w w' db (rDelS d a b i) G := by
  have hn := h.small
  have hbad : badR d a b = false := by
    cases hb : badR d a b with
    | false => rfl
    | true => unfold rWait at hw0; rw [hb] at hw0; cases hw0
  have hic : i < cntR d a b := by
    unfold rWait at hw0
    rw [hbad, if_neg (by simp)] at hw0
    by_cases e : (i : Int) < 0 ∨ (cntR d a b : Int) ≤ i
    · rw [if_pos e] at hw0; cases hw0
    · omega
  have HB := Lib.hid (bad_any a b w db d hn h.c0)
  rw [hbad] at HB
  have HC := Lib.hid (countR_any a b w db Z lv vs d G h)
  have t1 : decide ((i : Int) < 0) = false := by simp
  have t2 : decide ((cntR d a b : Int) ≤ i) = false := by simp; omega
  have t2n : decide (cntR d a b ≤ i) = false := by simp; omega
  have hfew := h.few
  have hih : i < hits a b vs := by rw [hits_cnt h]; omega
  have HFI := Lib.hid (findR_any a b i w db Z lv vs d G h hih)
  have HDS := Lib.hid (show rDelS d a b i = { d with list := delNth (isAt a b) d.list i } from by unfold rDelS; rw [if_pos hw0]; rfl)
  have hrow := h.row
  obtain ⟨A, c, rfl⟩ := own_form h.row
  have c2 := h.c2
  have hdb : db < w.heap.size := World.block_lt_of_cell? _ _ c2
  have f2 : w.frozen? ⟨db, 2, none⟩ = false := frozen_at h.net 2
  have H := Lib.hid h
  clear h hbad hw0 hih hic
  go_enter Try.func16, Try.ntmps16
  go_wp2_with fail
  refine HB.out.mono ?_
  rintro e w1 ⟨rfl, rfl⟩
  generalize cntR d a b = cn at *
  go_wp2_with fail
  refine HC.out.mono ?_
  rintro e w1 ⟨rfl, rfl⟩
  go_wp2_with fail
  refine HFI.out.mono ?_
  rintro e w2 ⟨⟨p, rfl, hp, hpl⟩, rfl⟩
  have HPL := Lib.hid hpl
  obtain ⟨g, Ay, cy, r, rfl, r2, hbt, hrp, -⟩ := H.out.place hp hpl
  have HBT := Lib.hid hbt
  have HRP := Lib.hid hrp
  have gp : (p : Int) < (vs.length : Int) := by omega
  have hcap : vs.length ≤ c ∧ c ≤ maxLen := by
    rcases hrow.2 with ⟨e, h0⟩ | ⟨g', cap, cur, e, -, -, q1, q2, -⟩
    · omega
    · obtain ⟨-, rfl⟩ : g = g' ∧ c = cap := by simpa using e
      exact ⟨q1, q2⟩
  obtain ⟨hcap1, hcap2⟩ := hcap
  unfold maxLen at hcap2
  have hpc : p + 1 ≤ c := by omega
  have HROW := Lib.hid hrow
  clear hbt hrp hpl hrow
  have hone : ∀ (l : List Sent), (∀ y ∈ l, y ∈ vs) → ∀ u ∈ cells3 l, u.oneCell' = true := fun l hl => cells3_one fun y hy => by
    obtain ⟨A, c, e⟩ := own_form (H.out.vals y (hl y hy))
    exact ⟨_, _, _, e⟩
  have HONE := Lib.hid hone
  clear hone
  have hdl : (vs.drop (p + 1)).length = vs.length - (p + 1) := List.length_drop
  have HDL := Lib.hid hdl
  clear hdl
  by_cases hce : c - (p + 1) = 0
  all_goals
    go_wp2_with (first
      | (at_builtin; refine wpList_append_many elemM rfl _ _ rfl 0 (.slice none 0 0) 0 [] (cells3 (vs.take p)) _ p _ rfl rfl (World.ownsRow_nil _ _ _ _) (by rw [cells3_len, List.length_take, Nat.min_eq_left (by omega)]) (fun j u hu => HROW.out.cells rfl j u (cells3_take vs p j u hu)) (HONE.out _ fun y hy => List.mem_of_mem_take hy) (by omega) (by unfold maxLen; omega) (Nat.zero_le _) ?_; intro v3 w3 p1 p2 p3; have hq3 := out_more (ov := .slice none 0 0) (Kept.refl w2) (Kept.refl w2) p2 p3 (fun g hg => by cases hg); rw [Nat.zero_add, List.nil_append] at p1; obtain ⟨A3, c3, rfl⟩ := own_form p1; have HQ3 := Lib.hid hq3; have P1 := Lib.hid p1; have z2 := hq3.1.cell c2; have HR3 := Lib.hid (own_kept HROW.out hq3.1); clear p1 p2 p3 hq3)
      | (at_builtin; refine wpList_append_many elemM rfl _ _ rfl 0 (.slice A3 p c3) p (cells3 (vs.take p)) (cells3 (vs.drop (p + 1))) _ (vs.length - (p + 1)) _ rfl rfl P1.out (by rw [cells3_len, HDL.out]) (by
          intro j u hu
          first
            | (rw [add_at]; have hh := HR3.out.cells rfl _ _ (cells3_drop (by omega) j u hu); rw [add_at, Nat.zero_add] at hh; exact hh)
            | (exfalso; have hh := (List.getElem?_eq_some_iff.1 hu).1; rw [cells3_len, HDL.out] at hh; omega)) (HONE.out _ fun y hy => List.mem_of_mem_drop hy) (by omega) (by unfold maxLen; omega) (Nat.zero_le _) ?_; intro v4 w4 p1 p2 p3; have hq4 := out_more (ov := .slice A3 p c3) HQ3.out.1 (Kept.refl w3) p2 p3 HQ3.out.2; have HQ4 := Lib.hid hq4; have P4 := Lib.hid p1; have f4 : w4.frozen? ⟨db, 2, none⟩ = false := (by exact frozen_at (H.out.kept hq4.1).net 2); have z4 := hq4.1.cell c2; obtain ⟨A4, c4, rfl⟩ := own_form p1; clear p1 p2 p3 hq4))
    go_ret2
    have hl : (vs.take p ++ vs.drop (p + 1)).length = p + (vs.length - (p + 1)) := by rw [List.length_append, List.length_take, HDL.out, Nat.min_eq_left (by omega)]
    have hcs : Chg (fun g => g = db) w4 (w4.setCell ⟨db, 2, none⟩ (.slice A4 (p + (vs.length - (p + 1))) c4)) := (Chg.refl _ _).setCell _ (fun _ => rfl)
    refine ⟨⟨_, rfl, ?_⟩, ⟨Z.setIfInBounds 2 (.slice A4 (p + (vs.length - (p + 1))) c4), .slice A4 (p + (vs.length - (p + 1))) c4, vs.take p ++ vs.drop (p + 1), ?_, trivial⟩, ?_⟩
    · obtain ⟨g', e, -, -, q2⟩ := H.out.at hp
      obtain rfl : g = g' := by simpa using e
      rw [r2] at q2
      injection q2 with q2
      have hv := H.out.vals vs[p] (List.getElem_mem hp)
      rw [← q2, H.out.placeVal hp HPL.out] at hv
      refine Bts.of_own (own_chg (own_kept hv HQ4.out.1) hcs fun g1 h1 e1 => ?_)
      subst e1
      obtain ⟨k1, h3⟩ := own_type hv h1
      have h4 := H.out.net
      rw [h3] at h4
      simp only [Option.some.injEq, Obj.cells.injEq] at h4
      exact absurd h4.2.1 (by decide)
    · rw [HDS.out]
      exact H.out.setRow HQ4.out.1 (by rw [hl, cells3_app]; exact P4.out) HQ4.out.2 (fun y hy => by
        rcases List.mem_append.1 hy with hy | hy
        · exact List.mem_of_mem_take hy
        · exact List.mem_of_mem_drop hy) (by omega) (by rw [← place_del a b vs i p HPL.out, H.out.same]) (fun g x => .inl x) (fun g x1 x2 => .inr ⟨x1, by simpa using x2⟩)
    · exact (Chg.of_kept (F := G) HQ4.out.1).setCell _ (fun _ => H.out.inN)
end Go.Proofs.Ytnpenabkmpoafaa
set_option linter.unusedSimpArgs false
set_option linter.unusedVariables false
namespace Go.Proofs.Ytnpenabkmpoafaa
open Go.RowKit
theorem rDelS_no {d : RS} {a b i : Int} (h : rWait d a b i ≠ 0) : rDelS d a b i = d := by unfold rDelS; rw [if_neg h]
set_option maxRecDepth 100000 in
set_option maxHeartbeats 4000000 in
theorem refDeliver_any (a b i : Int) (w : World) (db : Nat) (Z : Array Value) (lv : Value) (vs : List Sent) (d : RS) (G : Nat → Prop) (h : RefAt w db Z lv vs d G) :
    Calls Try.prog 16 #[.pointer (some ⟨db, 0, none⟩), .int .i64 a, .int .i64 b, .int .i64 i] w fun e w' => (∃ mv, e = .returned (.tuple #[mv, .int .i64 (rWait d a b i)]) ∧ (if rWait d a b i = 0 then Bts w' mv (rPick d a b i) else mv = .slice none 0 0)) ∧ RefTo w w' db (rDelS d a b i) G := by
  by_cases hw0 : rWait d a b i = 0
  · have hi : 0 ≤ i := by
      unfold rWait at hw0
      by_cases e : badR d a b = true
      · rw [if_pos e] at hw0; cases hw0
      · rw [if_neg e] at hw0
        by_cases e2 : i < 0 ∨ (cntR d a b : Int) ≤ i
        · rw [if_pos e2] at hw0; cases hw0
        · omega
    obtain ⟨i', rfl⟩ : ∃ i' : Nat, i = i' := ⟨i.toNat, by omega⟩
    refine (refDeliver_ok a b i' w db Z lv vs d G h hw0).mono ?_
    rintro e w' ⟨⟨mv, h1, h2⟩, h3⟩
    exact ⟨⟨mv, by rw [h1, hw0], by rw [if_pos hw0]; exact h2⟩, h3⟩
  have HB := Lib.hid (bad_any a b w db d h.small h.c0)
  have HC := Lib.hid (countR_any a b w db Z lv vs d G h)
  by_cases hbad : badR d a b = true
  · have hw : rWait d a b i = 60 := by unfold rWait; rw [if_pos hbad]
    rw [rDelS_no hw0, hw]
    rw [hbad] at HB
    have H := Lib.hid h
    clear h hbad hw hw0
    go_enter Try.func16, Try.ntmps16
    go_wp2_with fail
    refine HB.out.mono ?_
    rintro e w1 ⟨rfl, rfl⟩
    go_wp2
    go_ret2
    first | exact ⟨⟨_, rfl, rfl⟩, RefTo.same H.out (by first | exact Kept.refl _ | exact (Kept.refl _).drew)⟩ | exact ⟨rfl, RefTo.same H.out (by first | exact Kept.refl _ | exact (Kept.refl _).drew)⟩
  have hbad : badR d a b = false := by simpa using hbad
  have hr : i < 0 ∨ (cntR d a b : Int) ≤ i := by
    rcases Classical.em (i < 0 ∨ (cntR d a b : Int) ≤ i) with e | e
    · exact e
    · exact absurd (by unfold rWait; rw [if_neg (by simp [hbad]), if_neg e]) hw0
  have hw : rWait d a b i = 62 := by unfold rWait; rw [if_neg (by simp [hbad]), if_pos hr]
  rw [rDelS_no hw0, hw]
  rw [hbad] at HB
  by_cases hneg : i < 0
  · have t1 : decide (i < 0) = true := by simpa using hneg
    have H := Lib.hid h
    clear h hbad hw hw0 hr hneg
    go_enter Try.func16, Try.ntmps16
    go_wp2_with fail
    refine HB.out.mono ?_
    rintro e w1 ⟨rfl, rfl⟩
    go_wp2
    go_ret2
    first | exact ⟨⟨_, rfl, rfl⟩, RefTo.same H.out (by first | exact Kept.refl _ | exact (Kept.refl _).drew)⟩ | exact ⟨rfl, RefTo.same H.out (by first | exact Kept.refl _ | exact (Kept.refl _).drew)⟩
  · have t1 : decide (i < 0) = false := by simpa using hneg
    have hov : (cntR d a b : Int) ≤ i := by omega
    have t2 : decide ((cntR d a b : Int) ≤ i) = true := by simpa using hov
    have H := Lib.hid h
    clear h hbad hw hw0 hr hneg hov
    go_enter Try.func16, Try.ntmps16
    go_wp2_with fail
    refine HB.out.mono ?_
    rintro e w1 ⟨rfl, rfl⟩
    generalize cntR d a b = cn at *
    go_wp2_with fail
    refine HC.out.mono ?_
    rintro e w1 ⟨rfl, rfl⟩
    go_wp2
    go_ret2
    first | exact ⟨⟨_, rfl, rfl⟩, RefTo.same H.out (by first | exact Kept.refl _ | exact (Kept.refl _).drew)⟩ | exact ⟨rfl, RefTo.same H.out (by first | exact Kept.refl _ | exact (Kept.refl _).drew)⟩
end Go.Proofs.Ytnpenabkmpoafaa
