/- InterfOrder: append of items onto items; its walk. -/
import Derived.Test.YtgmpbalibdlhdaaQITx
set_option linter.unusedSimpArgs false
set_option linter.unusedVariables false
namespace Go.Proofs.Ytgmpbalibdlhdaa
open Go.RowKit
theorem cellsIt_append (l m : List It) : cellsIt (l ++ m) = cellsIt l ++ cellsIt m := by unfold cellsIt; simp [List.flatMap_append]
theorem cellsIt_one' (l : List It) : ∀ u ∈ cellsIt l, u.oneCell' = true := by
  intro u hu
  unfold cellsIt at hu
  obtain ⟨x, -, hx⟩ := List.mem_flatMap.1 hu
  unfold It.cs at hx
  simp at hx
  rcases hx with rfl | rfl | rfl | rfl | rfl | rfl <;> rfl
theorem append_runIt (ty : TypeId) (w : World) (base : Nat) (v : Value) (n : Nat) (l m : List It) (x : Value) (hown : w.ownsRow base 49 6 v n (cellsIt l)) (hx : Its w x m) (hlim : (n + m.length) * 72 ≤ 140737488355328) (hbase : base ≤ w.heap.size) :
    ∃ v' w', (Builtin.append_ #[22, 22] ty #[v, x]).run Try.prog w = .ok v' w' ∧ w'.ownsRow base 49 6 v' (n + m.length) (cellsIt (l ++ m)) ∧ w.grownBy w' v.ownBlock ∧ (v'.ownBlock = v.ownBlock ∨ v'.ownBlock = some w.heap.size) := by
  obtain ⟨i, z, hi, hz, hs, hb, hzs⟩ := elemIt.info
  rw [cellsIt_append]
  rcases Nat.eq_zero_or_pos m.length with hm0 | hmp
  · obtain rfl := List.eq_nil_of_length_eq_zero hm0
    obtain ⟨A, c, rfl, hc1, hc2⟩ := hx.form
    cases A with
    | none =>
      refine ⟨v, w, ?_, by simpa [cellsIt] using hown, ⟨rfl, rfl, rfl, Nat.le_refl _, fun _ _ _ => rfl⟩, .inl rfl⟩
      rcases hown.2 with ⟨rfl, rfl⟩ | ⟨g, cap, cur, rfl, _, _, hnc, _⟩
      · simp [Builtin.append_, run_underlying elemIt.under, sizeOf, typeInfo, hi, Builtin.lenOf, Builtin.firstCells]
      · simp [Builtin.append_, run_underlying elemIt.under, sizeOf, typeInfo, hi, Builtin.lenOf, Builtin.firstCells, hnc, storeCells]
    | some ad =>
      obtain ⟨v', w', hrun, h2, h3, _, h5⟩ := run_append_own_at (P := Try.prog) w base 22 ty 49 i z 6 72 elemIt.under hi hz hs hb hzs (by decide) v n _ hown ad 0 c [] (by simp) (fun j u hu => by simp at hu) (fun u hu => by cases hu) (by unfold maxLen; simp at hlim; omega) (by simpa using hlim) hbase
      exact ⟨v', w', hrun, by simpa [cellsIt] using h2, h3, h5⟩
  · obtain ⟨b, o, c, rfl, hc1, hc2, hcells⟩ := hx.cells hmp
    obtain ⟨v', w', hrun, h2, h3, _, h5⟩ := run_append_own_at (P := Try.prog) w base 22 ty 49 i z 6 72 elemIt.under hi hz hs hb hzs (by decide) v n _ hown ⟨b, o, none⟩ m.length c (cellsIt m) (cellsIt_len m) hcells (cellsIt_one' m) (by unfold maxLen; omega) hlim hbase
    exact ⟨v', w', hrun, h2, h3, h5⟩
/-- append, for the walk. -/
theorem wpList_append_its {w : World} {ops : Array Oper} {rest : List Oper} {o : Oper} {a : Act} {Q : Exit → Act → World → Prop} (hgd : o.guard = none) (s x : Operand)
    (ho : o.op = .call { callee := .builtin .append, args := #[s, x], argTypes := #[22, 22] }) (base : Nat) (v : Value) (n : Nat) (l m : List It) (xv : Value) (hs : a.eval s = v) (hxe : a.eval x = xv)
    (hown : w.ownsRow base 49 6 v n (cellsIt l)) (hx : Its w xv m) (hlim : (n + m.length) * 72 ≤ 140737488355328) (hbase : base ≤ w.heap.size)
    (h : ∀ v' w', w'.ownsRow base 49 6 v' (n + m.length) (cellsIt (l ++ m)) → w.grownBy w' v.ownBlock → (v'.ownBlock = v.ownBlock ∨ v'.ownBlock = some w.heap.size) → wpList Try.prog ops Q rest (a.put o.dst v') w') : wpList Try.prog ops Q (o :: rest) a w := by
  refine wpList_plain hgd fun K hK => ?_
  obtain ⟨v', w', hrun, h2, h3, h4⟩ := append_runIt o.type w base v n l m xv hown hx hlim hbase
  unfold Oper.wp execOp
  simp only [ho, resolve, invoke, builtin, Sem.run_bind, Sem.run_pure, Result.andThen_ok, List.map_toArray, List.map_cons, List.map_nil, hs, hxe, hrun]
  exact hK _ _ (h v' w' h2 h3 h4)
set_option maxRecDepth 100000 in
set_option maxHeartbeats 4000000 in
theorem interfOrder_any (n : Int) (xs : List It) (c : Cm) (v : Value) (w : World) (hv : Its w v xs) (hlim : xs.length * 144 ≤ 140737488355328) (hh : ∀ x ∈ xs, x.c.home.length ≤ 140737488355328) (hc : c.home.length ≤ 140737488355328) :
    Calls Try.prog 5 #[.int .i64 n, v, c.v] w fun e w' => e = .returned (.bool true) ∧ Kept w w' := by
  have HV := Lib.hid hv
  have HH := Lib.hid hh
  obtain ⟨A, cp, rfl, hc1, hc2⟩ := hv.form
  unfold maxLen at hc2
  have HC := Lib.hid (cells3 (heap_alloc_new w (.cells #[.int .i64 c.kind, .string ⟨c.home.toArray⟩, c.dv] 34)))
  have HK0 := Lib.hid ((Kept.refl w).alloc (.cells #[.int .i64 c.kind, .string ⟨c.home.toArray⟩, c.dv] 34))
  have HAT := Lib.hid (fun X xb mb st L (h : IxAt X xb mb n.toNat st L) => attr_any h c hc)
  have HSA := Lib.hid (att_same (n := n.toNat) (c := c) (known_rev n.toNat xs))
  obtain ⟨kind, home, da, dn, dc⟩ := c
  unfold Cm.v Cm.dv at *
  simp only at *
  clear hv hh
  go_enter Try.func5, Try.ntmps5
  go_upto_region 1 with (fail)
  generalize w.alloc (.cells #[.int .i64 kind, .string ⟨home.toArray⟩, .slice da dn dc] 34) = w0 at *
  go_wp2
  go_loopw [7, 23] (fun sv i W => ∃ k : Nat, i = .int .i64 (k : Int) ∧ k ≤ xs.length ∧ W.ownsRow w0.heap.size 49 6 sv k (cellsIt (xs.reverse.take k)) ∧ Kept w0 W) (fun _ i _ => xs.length - (intOf i).toNat)
  case atStart => exact ⟨0, rfl, Nat.zero_le _, World.ownsRow_nil _ _ _ _, Kept.refl _⟩
  case round =>
    obtain ⟨k, rfl, hk, hr, hkw⟩ := hrel
    have HR := Lib.hid hr
    have HKW := Lib.hid hkw
    obtain ⟨A3, p3, rfl⟩ := own_form hr
    by_cases hlt : k < xs.length
    · have hq : xs.length - 1 - k < xs.length := by omega
      obtain ⟨b, o, rfl, q0, q1, q2, q3, q4, q5⟩ := (HV.out.kept (HK0.out.trans hkw)).at hq
      have g1 : (k : Int) < (xs.length : Int) := by omega
      have hw1 : IntKind.i64.wrap ((xs.length : Int) - 1) = (xs.length : Int) - 1 := IntWalk.i64_in _ (by omega)
      have hw2 : IntKind.i64.wrap ((xs.length : Int) - 1 - (k : Int)) = ((xs.length - 1 - k : Nat) : Int) := by rw [IntWalk.i64_in _ (by omega)]; omega
      have HRV := Lib.hid (show xs.reverse.take (k + 1) = xs.reverse.take k ++ [xs[xs.length - 1 - k]] by
        rw [List.take_succ_eq_append_getElem (by simpa using hlt), List.getElem_reverse])
      generalize xs[xs.length - 1 - k] = x at *
      generalize hqj : xs.length - 1 - k = q at *
      have g2 : (q : Int) < (xs.length : Int) := by omega
      unfold Cm.dv at q2
      have hka := (Kept.refl wr).alloc (.cells #[.int .i64 x.c.kind, .string ⟨x.c.home.toArray⟩, .slice x.c.da x.c.dn x.c.dc, .int .i64 x.rep, .int .i64 x.num, .int .i64 x.seq] 49)
      have HRW := Lib.hid (own_kept hr hka)
      have hb : w0.heap.size ≤ (wr.alloc (.cells #[.int .i64 x.c.kind, .string ⟨x.c.home.toArray⟩, .slice x.c.da x.c.dn x.c.dc, .int .i64 x.rep, .int .i64 x.num, .int .i64 x.seq] 49)).heap.size := (hkw.trans hka).size
      have HKA := Lib.hid (hkw.trans hka)
      clear hr hkw hka hqj
      go_wp2_with (at_builtin; refine wpList_append_one elemIt rfl _ _ rfl w0.heap.size _ _ (cellsIt (xs.reverse.take k)) [.int .i64 x.c.kind, .string ⟨x.c.home.toArray⟩, .slice x.c.da x.c.dn x.c.dc, .int .i64 x.rep, .int .i64 x.num, .int .i64 x.seq] wr.heap.size 1 rfl rfl HRW.out (by rfl) (cell_new6 wr _ _ _ _ _ _ _) (by intro u hu; simp at hu; rcases hu with rfl | rfl | rfl | rfl | rfl | rfl <;> rfl) (by omega) (by unfold maxLen; omega) hb ?_; intro v6 w6 z1 z2 z3; obtain ⟨A6, p6, rfl⟩ := own_form z1; have Z1 := Lib.hid z1; have HK6 := Lib.hid (show Kept w0 w6 from (Chg.of_grown (F := fun g => w0.heap.size ≤ g) z2 (fun g hg _ => (HR.out.lt g hg).1)).kept HKA.out (fun g x => x)); clear z1 z2 z3)
      go_roundw
      case rel => exact ⟨k + 1, by go_num, by omega, by rw [HRV.out, cellsIt_snoc]; exact Z1.out, HK6.out⟩
      case measure => simp [intOf]; omega
    · obtain rfl : k = xs.length := by omega
      rw [List.take_of_length_le (by simp)] at HR
      have HBU := Lib.hid (build_any n xs _ wr (HV.out.kept (HK0.out.trans hkw)) (by omega) HH.out)
      obtain ⟨c0, c1, c2⟩ := HC.out
      have c0 := hkw.cell c0
      have c1 := hkw.cell c1
      have c2 := hkw.cell c2
      clear hr hkw
      go_wp2_with fail
      refine HBU.out.mono ?_
      rintro e w1 h1
      rcases h1 with ⟨hn, rfl, k1⟩ | ⟨hn, xb, mb, db, st, lv, rfl, hb⟩
      · have HK1 := Lib.hid k1
        have HN := Lib.hid hn
        clear k1 hn c0 c1 c2
        by_cases q1 : n < 1
        · have t1 : decide (n < 1) = true := decide_eq_true q1
          go_wp2_with (first
            | (at_builtin; refine wpList_append_its rfl _ _ rfl w0.heap.size _ _ xs.reverse xs _ rfl rfl (own_kept HR.out HK1.out) (HV.out.kept ((HK0.out.trans HKW.out).trans HK1.out)) (by omega) (HKW.out.trans HK1.out).size ?_; intro v2 w2 z1 z2 z3; obtain ⟨A2, p2, rfl⟩ := own_form z1; have HK2 := Lib.hid (show Kept w0 w2 from (Chg.of_grown (F := fun g => w0.heap.size ≤ g) z2 (fun g hg _ => (HR.out.lt g hg).1)).kept (HKW.out.trans HK1.out) (fun g x => x)); have HI2 := Lib.hid (show Its w2 (.slice A2 (xs.length + xs.length) p2) (xs.reverse ++ xs) from by have hz := z1; rw [show xs.length + xs.length = (xs.reverse ++ xs).length by simp] at hz ⊢; exact Its.of_own hz); have HC2 := Lib.hid (Chg.of_grown (F := fun g => g < wr.heap.size) z2 (fun g hg _ => (HR.out.lt g hg).2)); clear z1 z2 z3)
            | (go_at_call 9; refine (build_any n (xs.reverse ++ xs) _ w2 HI2.out (by simp; omega) (fun x hx => by rcases List.mem_append.1 hx with h | h; exact HH.out x (List.mem_reverse.1 h); exact HH.out x h)).mono ?_; rintro e w3 h3; rcases h3 with ⟨-, rfl, k3⟩ | ⟨hn, -⟩; rotate_left; exact absurd hn (by have := HN.out; omega); have HK3 := Lib.hid (HK2.out.trans k3); clear k3))
          refine (awake_any _).mono ?_
          rintro e w4 ⟨rfl, k4⟩
          have hk := (HK0.out.trans HK3.out).trans k4
          go_wp2
          go_ret
          exact ⟨rfl, hk⟩
        · have t1 : decide (n < 1) = false := decide_eq_false q1
          have t2 : decide (7 < n) = true := decide_eq_true (by have := HN.out; omega)
          go_wp2_with (first
            | (at_builtin; refine wpList_append_its rfl _ _ rfl w0.heap.size _ _ xs.reverse xs _ rfl rfl (own_kept HR.out HK1.out) (HV.out.kept ((HK0.out.trans HKW.out).trans HK1.out)) (by omega) (HKW.out.trans HK1.out).size ?_; intro v2 w2 z1 z2 z3; obtain ⟨A2, p2, rfl⟩ := own_form z1; have HK2 := Lib.hid (show Kept w0 w2 from (Chg.of_grown (F := fun g => w0.heap.size ≤ g) z2 (fun g hg _ => (HR.out.lt g hg).1)).kept (HKW.out.trans HK1.out) (fun g x => x)); have HI2 := Lib.hid (show Its w2 (.slice A2 (xs.length + xs.length) p2) (xs.reverse ++ xs) from by have hz := z1; rw [show xs.length + xs.length = (xs.reverse ++ xs).length by simp] at hz ⊢; exact Its.of_own hz); have HC2 := Lib.hid (Chg.of_grown (F := fun g => g < wr.heap.size) z2 (fun g hg _ => (HR.out.lt g hg).2)); clear z1 z2 z3)
            | (go_at_call 9; refine (build_any n (xs.reverse ++ xs) _ w2 HI2.out (by simp; omega) (fun x hx => by rcases List.mem_append.1 hx with h | h; exact HH.out x (List.mem_reverse.1 h); exact HH.out x h)).mono ?_; rintro e w3 h3; rcases h3 with ⟨-, rfl, k3⟩ | ⟨hn, -⟩; rotate_left; exact absurd hn (by have := HN.out; omega); have HK3 := Lib.hid (HK2.out.trans k3); clear k3))
          refine (awake_any _).mono ?_
          rintro e w4 ⟨rfl, k4⟩
          have hk := (HK0.out.trans HK3.out).trans k4
          go_wp2
          go_ret
          exact ⟨rfl, hk⟩
      · have HK1 := Lib.hid hb.old
        have HB := Lib.hid hb
        have HN := Lib.hid hn
        have HLK := Lib.hid (known_len n.toNat xs)
        clear hb hn c0 c1 c2
        go_wp2_with (first
          | (at_builtin; refine wpList_append_its rfl _ _ rfl w0.heap.size _ _ xs.reverse xs _ rfl rfl (own_kept HR.out HK1.out) (HV.out.kept ((HK0.out.trans HKW.out).trans HK1.out)) (by omega) (HKW.out.trans HK1.out).size ?_; intro v2 w2 z1 z2 z3; obtain ⟨A2, p2, rfl⟩ := own_form z1; have HK2 := Lib.hid (show Kept w0 w2 from (Chg.of_grown (F := fun g => w0.heap.size ≤ g) z2 (fun g hg _ => (HR.out.lt g hg).1)).kept (HKW.out.trans HK1.out) (fun g x => x)); have HI2 := Lib.hid (show Its w2 (.slice A2 (xs.length + xs.length) p2) (xs.reverse ++ xs) from by have hz := z1; rw [show xs.length + xs.length = (xs.reverse ++ xs).length by simp] at hz ⊢; exact Its.of_own hz); have HC2 := Lib.hid (Chg.of_grown (F := fun g => g < wr.heap.size) z2 (fun g hg _ => (HR.out.lt g hg).2)); clear z1 z2 z3)
          | (go_at_call 9; refine (build_any n (xs.reverse ++ xs) _ w2 HI2.out (by simp; omega) (fun x hx => by rcases List.mem_append.1 hx with h | h; exact HH.out x (List.mem_reverse.1 h); exact HH.out x h)).mono ?_; rintro e w3 h3; rcases h3 with ⟨hn, -⟩ | ⟨-, xb', mb', db', st', lv', rfl, hb'⟩; exact absurd HN.out (by omega); have HK3 := Lib.hid (HK2.out.trans hb'.old); have HB' := Lib.hid hb'; have hc0 := HK3.out.cell HC.out.1; have hc1 := HK3.out.cell HC.out.2.1; have hc2 := HK3.out.cell HC.out.2.2; clear hb'))
        have HXX := Lib.hid (show IxAt w3 xb mb n.toNat st (known n.toNat xs) from (HB.out.ix.chg HC2.out (fun e => by have := HB.out.gx; omega) (fun e => by have := HB.out.gm; omega)).kept HB'.out.old)
        have HYY := Lib.hid (show IxAt w3 xb' mb' n.toNat st' (known n.toNat (xs.reverse ++ xs)) from HB'.out.ix)
        have HNM := Lib.hid (names_same HXX.out HYY.out (fun x => known_rev n.toNat xs x))
        have HST := Lib.hid (show st.length * 16 ≤ 140737488355328 ∧ st'.length * 16 ≤ 140737488355328 from ⟨by have := HXX.out.few; have := HLK.out; omega, by have := HYY.out.few; have := known_len n.toNat (xs.reverse ++ xs); simp at this; omega⟩)
        unfold AttrTo at HAT
        refine (HAT.out _ _ _ _ _ HXX.out).mono ?_
        rintro e w4 ⟨v4, rfl, ho4, k4⟩
        have hc0 := k4.cell hc0
        have hc1 := k4.cell hc1
        have hc2 := k4.cell hc2
        have HX4 := Lib.hid (HXX.out.kept k4)
        have HY4 := Lib.hid (HYY.out.kept k4)
        have HK4 := Lib.hid (HK3.out.trans k4)
        have HI4 := Lib.hid (Ints.of_own ho4)
        obtain ⟨A4, p4, rfl⟩ := own_form ho4
        clear ho4 k4
        go_wp2_with fail
        refine (HAT.out _ _ _ _ _ HY4.out).mono ?_
        rintro e w5 ⟨v5, rfl, ho5, k5⟩
        rw [← HSA.out.1]
        rw [← HSA.out.2] at ho5
        have HX5 := Lib.hid (HX4.out.kept k5)
        have HY5 := Lib.hid (HY4.out.kept k5)
        have HK5 := Lib.hid (HK4.out.trans k5)
        have HI4 := Lib.hid (HI4.out.kept k5)
        have HI5 := Lib.hid (Ints.of_own ho5)
        obtain ⟨A5, p5, rfl⟩ := own_form ho5
        clear ho5 k5 hc0 hc1 hc2
        have HSS := Lib.hid (sameInts_any _ _ _ _ w5 HI4.out HI5.out)
        rw [same_self] at HSS
        clear HAT
        go_wp2_with fail
        refine HSS.out.mono ?_
        rintro e w6 ⟨rfl, k6⟩
        have HX6 := Lib.hid (HX5.out.kept k6)
        have HY6 := Lib.hid (HY5.out.kept k6)
        have HK6 := Lib.hid (HK5.out.trans k6)
        clear k6
        go_wp2_with fail
        refine (homes_any HX6.out HST.out.1).mono ?_
        rintro e w7 ⟨v7, rfl, ho7, k7⟩
        have HY7 := Lib.hid (HY6.out.kept k7)
        have HK7 := Lib.hid (HK6.out.trans k7)
        have HT7 := Lib.hid (Txts.of_own ho7)
        obtain ⟨A7, p7, rfl⟩ := own_form ho7
        clear ho7 k7
        go_wp2_with fail
        refine (homes_any HY7.out HST.out.2).mono ?_
        rintro e w8 ⟨v8, rfl, ho8, k8⟩
        have HK8 := Lib.hid (HK7.out.trans k8)
        have HT7 := Lib.hid (HT7.out.kept k8)
        have HT8 := Lib.hid (Txts.of_own ho8)
        obtain ⟨A8, p8, rfl⟩ := own_form ho8
        clear ho8 k8
        rw [← HNM.out] at HT8 ⊢
        generalize namesZ st = ks at *
        go_wp2_with fail
        refine (sameTexts_any ks _ _ _ HT7.out HT8.out).mono ?_
        rintro e w9 ⟨rfl, k9⟩
        go_wp2_with fail
        refine (awake_any _).mono ?_
        rintro e wa ⟨rfl, ka⟩
        have hk := (HK0.out.trans HK8.out).trans (k9.trans ka)
        go_wp2
        go_ret
        exact ⟨rfl, hk⟩
end Go.Proofs.Ytgmpbalibdlhdaa
