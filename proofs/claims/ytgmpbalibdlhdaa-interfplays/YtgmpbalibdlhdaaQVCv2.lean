/- The walks of Covers, Clone and With. -/
import Derived.Test.YtgmpbalibdlhdaaQVCov
import Derived.Lib.MinMax
import Derived.Test.YtgmpbalibdlhdaaQVNxt
set_option linter.unusedSimpArgs false
set_option linter.unusedVariables false
namespace Go.Proofs.Ytgmpbalibdlhdaa
open Go.RowKit
theorem wpList_append_many {st et : TypeId} {size bytes : Nat} (E : Elem st et size bytes) {w : World} {ops : Array Oper} {rest : List Oper} {o : Oper} {a : Act} {Q : Exit → Act → World → Prop} (hgd : o.guard = none) (s x : Operand)
    (ho : o.op = .call { callee := .builtin .append, args := #[s, x], argTypes := #[st, st] }) (base : Nat) (v : Value) (n : Nat) (xs news : List Value) (A : Addr) (m c : Nat) (hs : a.eval s = v) (hxe : a.eval x = .slice (some A) m c)
    (hown : w.ownsRow base et size v n xs) (hl : news.length = m * size) (hc : ∀ j u, news[j]? = some u → w.cell? (A.add j) = some u) (h1 : ∀ u ∈ news, u.oneCell' = true) (hlim : (n + m) * bytes ≤ 140737488355328) (h63 : n + m ≤ maxLen) (hbase : base ≤ w.heap.size)
    (h : ∀ v' w', w'.ownsRow base et size v' (n + m) (xs ++ news) → w.grownBy w' v.ownBlock → (v'.ownBlock = v.ownBlock ∨ v'.ownBlock = some w.heap.size) → wpList Try.prog ops Q rest (a.put o.dst v') w') : wpList Try.prog ops Q (o :: rest) a w := by
  refine wpList_plain hgd fun K hK => ?_
  obtain ⟨i, z, hi, hz, hsz, hb, hzs⟩ := E.info
  obtain ⟨v', w', hrun, h2, h3, _, h5⟩ := run_append_own_at (P := Try.prog) w base st o.type et i z size bytes E.under hi hz hsz hb hzs E.pos v n xs hown A m c news hl hc h1 h63 hlim hbase
  unfold Oper.wp execOp
  simp only [ho, resolve, invoke, builtin, Sem.run_bind, Sem.run_pure, Result.andThen_ok, List.map_toArray, List.map_cons, List.map_nil, hs, hxe, hrun]
  exact hK _ _ (h v' w' h2 h3 h5)
theorem kept_grown {w w' : World} {o : Obj} {b : Option Nat} (h : (w.alloc o).grownBy w' b) (hb : b = some w.heap.size) : Kept w w' :=
  (Chg.trans (Chg.of_kept (F := fun g => w.heap.size ≤ g) ((Kept.refl w).alloc o)) (Chg.of_grown (F := fun g => w.heap.size ≤ g) h (fun g hg _ => (by rw [hb] at hg; have : w.heap.size = g := (by simpa using hg); omega))) (fun g _ x => x)).kept (Kept.refl w) (fun g x => x)
theorem elemVI : Elem 36 3 1 8 := elem_of (z := .int .i64 0) Try.underlying36 (by kernel_rfl) rfl (by decide)
theorem own_none (w : World) (t : TypeId) : (w.alloc (.cells #[] t)).ownsRow w.heap.size t 1 (.slice (some ⟨w.heap.size, 0, none⟩) 0 0) 0 [] :=
  ⟨rfl, .inr ⟨w.heap.size, 0, #[], rfl, Nat.le_refl _, heap_alloc_new w _, Nat.le_refl _, by decide, rfl, rfl⟩⟩
set_option maxHeartbeats 1000000 in
theorem vclone_any (l : List Int) (v : Value) (w : World) (hv : Ints w v l) (h1 : 1 ≤ l.length) (h7 : l.length ≤ 7) : Calls Try.prog 22 #[v] w fun e w' => ∃ v', e = .returned v' ∧ w'.ownsRow w.heap.size 3 1 v' l.length (iv l) ∧ Kept w w' := by
  obtain ⟨A, c, rfl, hc1, hc2, hcs⟩ := hv
  obtain ⟨b, o, rfl, hcell⟩ := hcs (by omega)
  unfold maxLen at hc2
  have HC := Lib.hid hcell
  have hnil : (binOp .eql 36 (.slice (some ⟨b, o, none⟩) l.length c) (.slice none 0 0)).run Try.prog w = .ok (.bool false) w := Lib.run_eql_slice_nil w _ _ _ _ _ 0 0 Try.underlying36
  clear hcs hcell
  go_enter Try.func22, Try.ntmps22
  go_wp2_with (at_builtin; refine wpList_append_many elemVI rfl _ _ rfl w.heap.size (.slice (some ⟨w.heap.size, 0, none⟩) 0 0) 0 [] (iv l) ⟨b, o, none⟩ l.length c rfl rfl (own_none w _) (by simp) ?_ ?_ (by omega) (by unfold maxLen; omega) (by simp) ?_)
  · intro j u hu
    obtain ⟨x, hx, rfl⟩ : ∃ x, l[j]? = some x ∧ Value.int .i64 x = u := by simpa [iv] using hu
    have e : ((⟨b, o, none⟩ : Addr).add j) = ⟨b, o + j, none⟩ := by unfold Addr.add; split <;> simp_all
    rw [e]
    exact ((Kept.refl w).alloc _).cell (HC.out j x hx)
  · intro u hu
    obtain ⟨x, -, rfl⟩ := List.mem_map.1 hu
    rfl
  · intro v' w' a1 a2 a3
    have hkk : Kept w w' := kept_grown a2 rfl
    have A1 := Lib.hid a1
    obtain ⟨A', c', rfl⟩ := own_form a1
    clear a1 a2 a3
    go_wp2
    go_ret
    exact ⟨_, rfl, A1.out, hkk⟩
theorem hasPlace_at {w : World} {l : List Int} {v : Value} {r : Int} {b : Bool} (hv : Ints w v l) (hb : decide (0 ≤ r ∧ r < l.length) = b) : Calls Try.prog 29 #[v, .int .i64 r] w fun e w' => e = .returned (.bool b) ∧ Kept w w' :=
  (hasPlace_any l r v w hv).mono fun _ _ h => ⟨by rw [h.1, hb], h.2 ▸ Kept.refl _⟩
theorem takeI_more {l : List (Int × Int)} {k : Nat} (hk : k < l.length) {Q : Int × Int → Prop} (h : ∀ x ∈ l.take k, Q x) (hx : Q l[k]) : ∀ x ∈ l.take (k + 1), Q x := by
  rw [List.take_succ_eq_append_getElem hk]
  intro x hm
  rcases List.mem_append.1 hm with hm | hm
  · exact h x hm
  · rw [List.mem_singleton.1 hm]; exact hx
theorem covT_no {l : List Int} {ids : List (Int × Int)} {d : Int × Int} (hd : d ∈ ids) (h : ¬ cov1 l d.1 d.2 = true) : covT l ids = false := by
  unfold covT
  cases ha : ids.all (fun d => cov1 l d.1 d.2) with
  | false => simp
  | true => exact absurd (List.all_eq_true.1 ha d hd) h
theorem covT_yes {l : List Int} {ids : List (Int × Int)} (hv : vok l = true) (h : ∀ d ∈ ids, cov1 l d.1 d.2 = true) : covT l ids = true := by
  unfold covT
  rw [hv, List.all_eq_true.2 h]
  rfl
set_option maxRecDepth 100000 in
set_option maxHeartbeats 4000000 in
theorem covers_any (l : List Int) (ids : List (Int × Int)) (v u : Value) (w : World) (hv : Ints w v l) (hu : Ids w u ids) : Calls Try.prog 17 #[v, u] w fun e w' => e = .returned (.bool (covT l ids)) ∧ Kept w w' := by
  obtain ⟨A, c, rfl, hc1, hc2⟩ := hv.form
  obtain ⟨B, d, rfl, hd1, hd2⟩ := hu.form
  unfold maxLen at hc2 hd2
  have HV := Lib.hid hv
  have HU := Lib.hid hu
  clear hv hu
  cases hok : vok l with
  | false =>
    have HE := Lib.hid (vE_no hok)
    have HR := Lib.hid (show covT l ids = false by unfold covT; rw [hok]; rfl)
    clear hok
    go_enter Try.func17, Try.ntmps17
    go_wp2_with fail
    refine (vcheck_any l _ _ HV.out).mono ?_
    rintro e w1 ⟨rfl, rfl⟩
    rw [HE.out]
    go_wp2
    go_ret
    exact ⟨ret_b HR.out.symm, Kept.refl w⟩
  | true =>
    have HE := Lib.hid (vE_ok hok)
    have HOK := Lib.hid hok
    clear hok
    go_enter Try.func17, Try.ntmps17
    go_wp2_with fail
    refine (vcheck_any l _ _ HV.out).mono ?_
    rintro e w1 ⟨rfl, rfl⟩
    rw [HE.out]
    go_wp2
    go_loopw [12] (fun i W => ∃ k : Nat, i = .int .i64 (k : Int) ∧ k ≤ ids.length ∧ Kept w W ∧ ∀ d ∈ ids.take k, cov1 l d.1 d.2 = true) (fun i _ => ids.length - (intOf i).toNat)
    case atStart => exact ⟨0, rfl, Nat.zero_le _, Kept.refl w, fun d hd => by simp at hd⟩
    case round =>
      obtain ⟨k, rfl, hk, hkk, hall⟩ := hrel
      have HALL := Lib.hid hall
      have HK := Lib.hid hkk
      clear hall hkk
      by_cases hlt : k < ids.length
      · obtain ⟨b, o, rfl, hcell0, hcell1⟩ := HU.out.at hlt
        have hcell0 := HK.out.cell hcell0
        have hcell1 := HK.out.cell hcell1
        have HM := Lib.hid (List.getElem_mem hlt)
        have HTM := Lib.hid (fun h => takeI_more (Q := fun d => cov1 l d.1 d.2 = true) hlt HALL.out h)
        generalize ids[k] = x at *
        obtain ⟨r, m⟩ := x
        simp only at hcell0 hcell1
        have g1 : (k : Int) < (ids.length : Int) := by omega
        have HK2 := Lib.hid (HK.out.alloc (.cells #[.int .i64 r, .int .i64 m] 47))
        obtain ⟨p0, p1⟩ := cells2 (heap_alloc_new wr (.cells #[.int .i64 r, .int .i64 m] 47))
        have p0 := KW.cells p0
        have p1 := KW.cells p1
        go_wp2
        generalize wr.alloc (.cells #[.int .i64 r, .int .i64 m] 47) = w2 at *
        by_cases h1 : 0 ≤ r ∧ r < (l.length : Int)
        · have HP := Lib.hid (show decide (0 ≤ r ∧ r < (l.length : Int)) = true from decide_eq_true h1)
          by_cases h2 : m < 1
          · have t2 : decide (m < 1) = true := decide_eq_true h2
            have HR := Lib.hid (covT_no (l := l) HM.out (fun h => absurd (cov1_iff.1 h).2.1 (by show ¬ 1 ≤ m; omega)))
            clear h1
            refine region_kept (by kernel_rfl) (by kernel_rfl) ?_
            repeat (go_big_quiet_step ((go_at_call 29; exact KW.call (fun W q => hasPlace_at (HV.out.kept (HK2.out.trans q)) HP.out))))
            refine wpQuiet_nil ?_
            rintro _ ⟨⟨w6, k6⟩, rfl⟩
            have hkk := HK2.out.trans k6
            go_wp2
            go_ret
            exact ⟨ret_b HR.out.symm, hkk⟩
          · have t2 : decide (m < 1) = false := decide_eq_false h2
            obtain ⟨j, rfl⟩ := Int.eq_ofNat_of_zero_le h1.1
            have hj : j < l.length := by omega
            obtain ⟨b1, o1, rfl, hc3⟩ := (HV.out.kept HK2.out).atI hj
            have hg : l.getD (j : Int).toNat 0 = l[j] := by rw [getD_at h1.1 h1.2]; rfl
            have q3 := KW.cells hc3
            have g2 : (j : Int) < (l.length : Int) := h1.2
            by_cases h3 : l[j] < m
            · have t3 : decide (l[j] < m) = true := decide_eq_true h3
              have HR := Lib.hid (covT_no (l := l) HM.out (fun h => absurd (cov1_iff.1 h).2.2 (by show ¬ m ≤ l.getD (j : Int).toNat 0; rw [hg]; omega)))
              clear h1 hg hc3
              generalize l[j] = y at *
              refine region_kept (by kernel_rfl) (by kernel_rfl) ?_
              repeat (go_big_quiet_step ((go_at_call 29; exact KW.call (fun W q => hasPlace_at (HV.out.kept (HK2.out.trans q)) HP.out))))
              refine wpQuiet_nil ?_
              rintro _ ⟨⟨w6, k6⟩, rfl⟩
              have hkk := HK2.out.trans k6
              go_wp2
              go_ret
              exact ⟨ret_b HR.out.symm, hkk⟩
            · have t3 : decide (l[j] < m) = false := decide_eq_false h3
              have HN := Lib.hid (HTM.out (cov1_iff.2 ⟨h1, by omega, by show m ≤ l.getD (j : Int).toNat 0; rw [hg]; omega⟩))
              clear h1 hg hc3
              generalize l[j] = y at *
              refine region_kept (by kernel_rfl) (by kernel_rfl) ?_
              repeat (go_big_quiet_step ((go_at_call 29; exact KW.call (fun W q => hasPlace_at (HV.out.kept (HK2.out.trans q)) HP.out))))
              refine wpQuiet_nil ?_
              rintro _ ⟨⟨w6, k6⟩, rfl⟩
              have HKK := Lib.hid (HK2.out.trans k6)
              clear k6 p0 p1 q3
              go_wp2
              go_roundw
              case rel => exact ⟨k + 1, by go_num, by omega, HKK.out, HN.out⟩
              case measure => simp [intOf]; omega
        · have HP := Lib.hid (show decide (0 ≤ r ∧ r < (l.length : Int)) = false from decide_eq_false h1)
          have HR := Lib.hid (covT_no (l := l) HM.out (fun h => absurd (cov1_iff.1 h).1 h1))
          clear h1
          refine region_kept (by kernel_rfl) (by kernel_rfl) ?_
          repeat (go_big_quiet_step ((go_at_call 29; exact KW.call (fun W q => hasPlace_at (HV.out.kept (HK2.out.trans q)) HP.out))))
          refine wpQuiet_nil ?_
          rintro _ ⟨⟨w6, k6⟩, rfl⟩
          have hkk := HK2.out.trans k6
          go_wp2
          go_ret
          exact ⟨ret_b HR.out.symm, hkk⟩
      · obtain rfl : k = ids.length := by omega
        have hall := HALL.out
        rw [List.take_length] at hall
        have HR := Lib.hid (covT_yes HOK.out hall)
        clear hall
        go_wp2
        go_ret
        exact ⟨ret_b HR.out.symm, HK.out⟩
end Go.Proofs.Ytgmpbalibdlhdaa
