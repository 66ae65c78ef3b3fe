/- InterfCovers: what it says, as plain data; its walk. -/
import Derived.Test.YtgmpbalibdlhdaaQIBd
set_option linter.unusedSimpArgs false
set_option linter.unusedVariables false
namespace Go.Proofs.Ytgmpbalibdlhdaa
open Go.RowKit
def somes (c : Cm) (xs : List It) : List It := xs.filter fun x => itf c x.c
theorem somes_snoc (c : Cm) (xs : List It) (x : It) : somes c (xs ++ [x]) = if itf c x.c then somes c xs ++ [x] else somes c xs := by
  unfold somes
  rw [List.filter_append]
  cases h : itf c x.c <;> simp [h]
theorem somes_ah {m : Nat} {c : Cm} (hc : okK c.kind = true) (xs : List It) : ahT c (known m (somes c xs)) = ahT c (known m xs) := by
  refine tp_ext fun x => ?_
  unfold somes pC
  rw [known_mem, known_mem, List.mem_filter]
  constructor
  · rintro ⟨⟨⟨a, b⟩, d⟩, e⟩
    exact ⟨⟨a, d⟩, e⟩
  · rintro ⟨⟨a, d⟩, e⟩
    exact ⟨⟨⟨a, by rw [itf_met hc d]; exact e⟩, d⟩, e⟩
theorem somes_att {m : Nat} {c : Cm} (hc : okK c.kind = true) (xs : List It) : attS c (known m (somes c xs)) = attS c (known m xs) ∧ attD m c (known m (somes c xs)) = attD m c (known m xs) := by
  unfold attS attD seqT depT
  rw [hc, somes_ah hc]
  exact ⟨rfl, rfl⟩
theorem dep_vok {m : Nat} {c : Cm} {L : List It} (h : ∀ x ∈ L, okI m x) (hm : 1 ≤ m ∧ m ≤ 7) : vok (depT m c L) = true := by
  refine vok_of (by rw [depT_len]; omega) (by rw [depT_len]; omega) fun y hy => ?_
  unfold depT at hy
  obtain ⟨r, -, rfl⟩ := List.mem_map.1 hy
  exact ⟨tp_pos _ _ _, tp_le h _⟩
/-- What interferes and was taken is covered, and has a lesser sequence number. -/
theorem covered {m : Nat} {c : Cm} {xs : List It} {x : It} (hm : 1 ≤ m ∧ m ≤ 7) (hx : x ∈ xs) (hi : itf c x.c = true) (hn : okN m x = true) :
    covT (depT m c (known m xs)) [(x.rep, x.num)] = true ∧ x.seq < seqT c (known m xs) := by
  have hk : okK x.c.kind = true ∧ metC c x.c = true := by
    unfold itf at hi
    simp only [Bool.and_eq_true] at hi
    exact hi.2
  have ho : okI m x := ⟨of_decide_eq_true hk.1, of_decide_eq_true hn⟩
  have hL : x ∈ known m xs := known_mem.2 ⟨hx, ho⟩
  have hg : ∀ y ∈ known m xs, okI m y := fun y hy => known_ok hy
  constructor
  · refine covT_yes (dep_vok hg hm) fun d hd => ?_
    rw [List.mem_singleton.1 hd]
    obtain ⟨-, ⟨h1, h2⟩, ⟨h3, h4⟩, -⟩ := ho
    refine cov1_iff.2 ⟨⟨h1, by rw [depT_len]; exact h2⟩, h3, ?_⟩
    have h5 := ah_ge (n := m) hL hk.2 (x.rep.toNat + 1)
    rw [depT_at (by omega)]
    unfold un at h5
    rw [if_neg (by omega), if_pos (by omega)] at h5
    exact h5
  · have h5 := ah_ge (n := m) hL hk.2 0
    unfold un at h5
    rw [if_pos rfl] at h5
    unfold seqT
    omega
theorem same_self (l : List Int) : (l == l) = true := by simp
theorem Ids.one (w : World) (r m : Int) (t : TypeId) : Ids (w.alloc (.cells #[.int .i64 r, .int .i64 m] t)) (.slice (some ⟨w.heap.size, 0, none⟩) 1 1) [(r, m)] := by
  obtain ⟨h0, h1⟩ := cells2 (heap_alloc_new w (.cells #[.int .i64 r, .int .i64 m] t))
  refine ⟨_, _, rfl, Nat.le_refl _, by decide, fun _ => ⟨_, _, rfl, fun k x hx => ?_⟩⟩
  match k, hx with
  | 0, hx =>
    obtain rfl : (r, m) = x := by simpa using hx
    exact ⟨h0, h1⟩
set_option maxRecDepth 100000 in
set_option maxHeartbeats 4000000 in
theorem interfCovers_any (n : Int) (xs : List It) (c : Cm) (v : Value) (w : World) (hv : Its w v xs) (hlim : xs.length * 72 ≤ 140737488355328) (hh : ∀ x ∈ xs, x.c.home.length ≤ 140737488355328) (hc : c.home.length ≤ 140737488355328) :
    Calls Try.prog 4 #[.int .i64 n, v, c.v] w fun e w' => e = .returned (.bool true) ∧ Kept w w' := by
  have HV := Lib.hid hv
  have HH := Lib.hid hh
  obtain ⟨A, cp, rfl, hc1, hc2⟩ := hv.form
  unfold maxLen at hc2
  have HC := Lib.hid (cells3 (heap_alloc_new w (.cells #[.int .i64 c.kind, .string ⟨c.home.toArray⟩, c.dv] 34)))
  have HK0 := Lib.hid ((Kept.refl w).alloc (.cells #[.int .i64 c.kind, .string ⟨c.home.toArray⟩, c.dv] 34))
  have HBU := Lib.hid (fun X (k : Kept w X) => build_any n xs _ X (hv.kept k) hlim hh)
  have HAT := Lib.hid (fun X xb mb st L (h : IxAt X xb mb n.toNat st L) => attr_any h c hc)
  have HIF := Lib.hid (fun b v X h => interf_any c b v X h)
  have HSN := Lib.hid (fun l x => somes_snoc c l x)
  have HS0 := Lib.hid (show somes c [] = [] from rfl)
  have HSL := Lib.hid (fun l => show (somes c l).length ≤ l.length from List.length_filter_le _ _)
  have HSM := Lib.hid (fun x (h : x ∈ somes c xs) => (List.mem_filter.1 h).1)
  have HCV := Lib.hid (fun (hm : 1 ≤ n.toNat ∧ n.toNat ≤ 7) x hx hi ho => covered (m := n.toNat) (c := c) (xs := xs) (x := x) hm hx hi ho)
  have HSA := Lib.hid (fun h => somes_att (m := n.toNat) (c := c) h xs)
  have HGS := Lib.hid (fun (h : okK c.kind = true) (L : List It) => show attS c L = seqT c L ∧ attD n.toNat c L = depT n.toNat c L from ⟨by unfold attS; rw [h]; rfl, by unfold attD; rw [h]; rfl⟩)
  have HVK := Lib.hid (fun (h : okK c.kind = true) => show attE c = 0 by unfold attE; rw [h]; rfl)
  generalize somes c = S at *
  generalize itf c = I at *
  obtain ⟨kind, home, da, dn, dc⟩ := c
  unfold Cm.v Cm.dv at *
  simp only at *
  clear hv hh
  go_enter Try.func4, Try.ntmps4
  go_upto_region 1 with (fail)
  generalize w.alloc (.cells #[.int .i64 kind, .string ⟨home.toArray⟩, .slice da dn dc] 34) = w0 at *
  go_wp2_with fail
  refine (HBU.out _ HK0.out).mono ?_
  rintro e w1 h1
  rcases h1 with ⟨hn, rfl, k1⟩ | ⟨hn, xb, mb, db, st, lv, rfl, hb⟩
  · have HK1 := Lib.hid (HK0.out.trans k1)
    clear k1
    by_cases q1 : n < 1
    · have t1 : decide (n < 1) = true := decide_eq_true q1
      clear hn
      go_wp2_with fail
      refine (awake_any _).mono ?_
      rintro e w2 ⟨rfl, k2⟩
      have hk := HK1.out.trans k2
      go_wp2
      go_ret
      exact ⟨rfl, hk⟩
    · have t1 : decide (n < 1) = false := decide_eq_false q1
      have t2 : decide (7 < n) = true := decide_eq_true (by omega)
      clear hn
      go_wp2_with fail
      refine (awake_any _).mono ?_
      rintro e w2 ⟨rfl, k2⟩
      have hk := HK1.out.trans k2
      go_wp2
      go_ret
      exact ⟨rfl, hk⟩
  · obtain ⟨c0, c1, c2⟩ := HC.out
    have HB := Lib.hid hb
    have HKB := Lib.hid hb.old
    have c0 := HKB.out.cell c0
    have c1 := HKB.out.cell c1
    have c2 := HKB.out.cell c2
    clear hb
    go_wp2_with fail
    refine (HAT.out _ _ _ _ _ HB.out.ix).mono ?_
    rintro e w2 ⟨v2, rfl, ho2, k2⟩
    have HK2 := Lib.hid k2
    have c0 := HK2.out.cell c0
    have c1 := HK2.out.cell c1
    have c2 := HK2.out.cell c2
    clear k2
    cases hK : okK kind with
    | false =>
      clear ho2 HCV HSA HSN
      have he : attE ⟨kind, home, da, dn, dc⟩ = 100 := by unfold attE; simp only; rw [hK]; rfl
      have hkk := of_decide_eq_false hK
      rw [he]
      have HKF := Lib.hid ((HK0.out.trans HKB.out).trans HK2.out)
      by_cases q1 : kind < 0
      · have t1 : decide (kind < 0) = true := decide_eq_true q1
        go_wp2_with fail
        refine (awake_any _).mono ?_
        rintro e w3 ⟨rfl, k3⟩
        have hk := HKF.out.trans k3
        go_wp2
        go_ret
        exact ⟨rfl, hk⟩
      · have t1 : decide (kind < 0) = false := decide_eq_false q1
        have t2 : decide (2 < kind) = true := decide_eq_true (by omega)
        go_wp2_with fail
        refine (awake_any _).mono ?_
        rintro e w3 ⟨rfl, k3⟩
        have hk := HKF.out.trans k3
        go_wp2
        go_ret
        exact ⟨rfl, hk⟩
    | true =>
      have he : attE ⟨kind, home, da, dn, dc⟩ = 0 := by unfold attE; simp only; rw [hK]; rfl
      rw [he]
      obtain ⟨m, rfl⟩ := Int.eq_ofNat_of_zero_le (show 0 ≤ n by omega)
      have hm : 1 ≤ m ∧ m ≤ 7 := by omega
      have htn : ((m : Int)).toNat = m := rfl
      simp only [htn] at HAT HCV HSA HGS HB ho2
      rw [htn]
      have HBU := Lib.hid (fun X k => HBU.out X k)
      obtain ⟨gs1, gs2⟩ := HGS.out hK (known m xs)
      obtain ⟨sa1, sa2⟩ := HSA.out hK
      have HCV := Lib.hid (fun x hx hi ho => HCV.out hm x hx hi ho)
      have hvk := HVK.out hK
      have HAT2 := Lib.hid (fun X xb mb st (h : IxAt X xb mb m st (known m (S xs))) => HAT.out X xb mb st _ h)
      unfold AttrTo at HAT2
      rw [sa1, sa2, gs1, gs2, hvk] at HAT2
      rw [gs2] at ho2
      rw [gs1]
      have hdl := depT_len m ⟨kind, home, da, dn, dc⟩ (known m xs)
      clear HAT HSA HGS HVK gs1 gs2 sa1 sa2 hvk he hK htn
      generalize depT m ⟨kind, home, da, dn, dc⟩ (known m xs) = D at *
      generalize seqT ⟨kind, home, da, dn, dc⟩ (known m xs) = s at *
      have HO2 := Lib.hid ho2
      obtain ⟨A2, p2, rfl⟩ := own_form ho2
      have HI2 := Lib.hid (Ints.of_own HO2.out)
      have HK20 := Lib.hid ((HK0.out.trans HKB.out).trans HK2.out)
      clear ho2
      go_wp2
      go_loopw [13, 62] (fun sv i W => ∃ k : Nat, i = .int .i64 (k : Int) ∧ k ≤ xs.length ∧ W.ownsRow w2.heap.size 49 6 sv (S (xs.take k)).length (cellsIt (S (xs.take k))) ∧ Kept w2 W) (fun _ i _ => xs.length - (intOf i).toNat)
      case atStart => exact ⟨0, rfl, Nat.zero_le _, by rw [List.take_zero, HS0.out]; exact World.ownsRow_nil _ _ _ _, Kept.refl _⟩
      case round =>
        obtain ⟨k, rfl, hk, hrow, hkw⟩ := hrel
        have HR := Lib.hid hrow
        have HKW := Lib.hid hkw
        obtain ⟨A3, p3, rfl⟩ := own_form hrow
        have c0 := hkw.cell c0
        have c1 := hkw.cell c1
        have c2 := hkw.cell c2
        by_cases hlt : k < xs.length
        · obtain ⟨b, o, rfl, q0, q1, q2, q3, q4, q5⟩ := (HV.out.kept (HK20.out.trans hkw)).at hlt
          have g1 : (k : Int) < (xs.length : Int) := by omega
          have HCX := Lib.hid (HCV.out xs[k] (List.getElem_mem hlt))
          have HSX := Lib.hid (show S (xs.take (k + 1)) = _ by rw [List.take_succ_eq_append_getElem hlt, HSN.out])
          have hle := HSL.out (xs.take k)
          rw [List.length_take] at hle
          generalize xs[k] = x at *
          unfold Cm.dv at q2
          have hna := heap_alloc_new wr (.cells #[.int .i64 x.c.kind, .string ⟨x.c.home.toArray⟩, .slice x.c.da x.c.dn x.c.dc, .int .i64 x.rep, .int .i64 x.num, .int .i64 x.seq] 49)
          have HNA := Lib.hid hna
          have HKN := Lib.hid (HKW.out.alloc (.cells #[.int .i64 x.c.kind, .string ⟨x.c.home.toArray⟩, .slice x.c.da x.c.dn x.c.dc, .int .i64 x.rep, .int .i64 x.num, .int .i64 x.seq] 49))
          have hkn := (Kept.refl wr).alloc (.cells #[.int .i64 x.c.kind, .string ⟨x.c.home.toArray⟩, .slice x.c.da x.c.dn x.c.dc, .int .i64 x.rep, .int .i64 x.num, .int .i64 x.seq] 49)
          have HRN := Lib.hid (own_kept HR.out hkn)
          have c0 := hkn.cell c0
          have c1 := hkn.cell c1
          have c2 := hkn.cell c2
          clear hrow hkw hna hkn
          go_upto_region 11 with (fail)
          generalize wr.alloc _ = w3 at *
          clear q0 q1 q2 q3 q4 q5
          have e0 := (cell_at HNA.out 0).trans rfl
          have e1 := (cell_at HNA.out 1).trans rfl
          have e2 := (cell_at HNA.out 2).trans rfl
          have hs3 : wr.heap.size < w3.heap.size := (Array.getElem?_eq_some_iff.1 HNA.out).1
          go_wp2_with fail
          refine (HIF.out x.c _ _ (Cms.one w3 x.c 34)).mono ?_
          rintro e w4 ⟨rfl, k4⟩
          have HK4 := Lib.hid (((Kept.refl w3).alloc (.cells #[.int .i64 x.c.kind, .string ⟨x.c.home.toArray⟩, x.c.dv] 34)).trans k4)
          clear k4 e0 e1 e2 c0 c1 c2
          cases hI : I x.c with
          | false =>
            rw [hI] at HSX
            have HRF := Lib.hid (own_kept HRN.out HK4.out)
            have HKF := Lib.hid (HKN.out.trans HK4.out)
            clear hI
            go_wp2
            go_roundw
            case rel => exact ⟨k + 1, by go_num, by omega, by rw [HSX.out]; exact HRF.out, HKF.out⟩
            case measure => simp [intOf]; omega
          | true =>
            have hSX : S (xs.take (k + 1)) = S (xs.take k) ++ [x] := by have := HSX.out; rw [hI] at this; simpa using this
            have HSX := Lib.hid hSX
            have hCX : okN m x = true → covT D [(x.rep, x.num)] = true ∧ x.seq < s := fun h => HCX.out hI h
            have HCX := Lib.hid hCX
            clear hI hSX hCX
            have e0 := (cell_at (HK4.out.block' HNA.out) 0).trans rfl
            have e1 := (cell_at (HK4.out.block' HNA.out) 1).trans rfl
            have e2 := (cell_at (HK4.out.block' HNA.out) 2).trans rfl
            have e3 := (cell_at (HK4.out.block' HNA.out) 3).trans rfl
            have e4 := (cell_at (HK4.out.block' HNA.out) 4).trans rfl
            have e5 := (cell_at (HK4.out.block' HNA.out) 5).trans rfl
            simp only [List.getElem?_toArray, List.getElem?_cons_zero, List.getElem?_cons_succ] at e0 e1 e2 e3 e4 e5
            have kn4 := (Kept.refl w4).alloc (.cells #[.int .i64 x.c.kind, .string ⟨x.c.home.toArray⟩, .slice x.c.da x.c.dn x.c.dc, .int .i64 x.rep, .int .i64 x.num, .int .i64 x.seq] 49)
            have HK5 := Lib.hid (HK4.out.trans kn4)
            have hb4 : w2.heap.size ≤ (w4.alloc (.cells #[.int .i64 x.c.kind, .string ⟨x.c.home.toArray⟩, .slice x.c.da x.c.dn x.c.dc, .int .i64 x.rep, .int .i64 x.num, .int .i64 x.seq] 49)).heap.size := Nat.le_trans HKN.out.size HK5.out.size
            have HRW := Lib.hid (own_kept HRN.out HK5.out)
            generalize hsl : (S (xs.take k)).length = sl at *
            have HSLL := Lib.hid hsl
            clear hsl kn4
            go_upto_region 13 with (at_builtin; refine wpList_append_one elemIt rfl _ _ rfl w2.heap.size _ _ (cellsIt (S (xs.take k))) [.int .i64 x.c.kind, .string ⟨x.c.home.toArray⟩, .slice x.c.da x.c.dn x.c.dc, .int .i64 x.rep, .int .i64 x.num, .int .i64 x.seq] w4.heap.size 1 rfl rfl HRW.out (by rfl) (cell_new6 w4 _ _ _ _ _ _ _) (by intro u hu; simp at hu; rcases hu with rfl | rfl | rfl | rfl | rfl | rfl <;> rfl) (by omega) (by unfold maxLen; omega) hb4 ?_; intro v6 w6 z1 z2 z3; obtain ⟨A6, p6, rfl⟩ := own_form z1)
            have P1 := Lib.hid z1
            have hc6 : Chg (fun g => (Value.slice A3 sl p3).ownBlock = some g) w3 w6 := (Chg.of_kept HK5.out).trans (Chg.of_grown z2 (fun g hg _ => hg)) (fun g _ x => x)
            have HC6 := Lib.hid hc6
            have hne6 : ¬ (Value.slice A3 sl p3).ownBlock = some wr.heap.size := fun e => by have := (HR.out.lt _ e).2; omega
            have HB6 := Lib.hid (hc6.block' HNA.out hne6)
            have HK6 := Lib.hid (show Kept w2 w6 from hc6.kept HKN.out (fun g e => (HR.out.lt g e).1))
            clear e0 e1 e2 e3 e4 e5 z1 z2 z3 hc6 hne6
            have f3 := (cell_at HB6.out 3).trans rfl
            have f4 := (cell_at HB6.out 4).trans rfl
            have f5 := (cell_at HB6.out 5).trans rfl
            simp only [List.getElem?_toArray, List.getElem?_cons_zero, List.getElem?_cons_succ] at f3 f4 f5
            go_cut [16] (fun t X => t = .bool (okN m x) ∧ X = w6)
            case first =>
              by_cases r0 : 0 ≤ x.rep
              · have u1 : decide (0 ≤ x.rep) = true := decide_eq_true r0
                by_cases r1 : x.rep < (m : Int)
                · have u2 : decide (x.rep < (m : Int)) = true := decide_eq_true r1
                  by_cases r2 : 1 ≤ x.num
                  · have u3 : decide (1 ≤ x.num) = true := decide_eq_true r2
                    by_cases r3 : x.num ≤ 4611686018427387903
                    · have u4 : decide (x.num ≤ 4611686018427387903) = true := decide_eq_true r3
                      by_cases r4 : 0 ≤ x.seq
                      · have u5 : decide (0 ≤ x.seq) = true := decide_eq_true r4
                        by_cases r5 : x.seq < 4611686018427387903
                        · have u6 : decide (x.seq < 4611686018427387903) = true := decide_eq_true r5
                          go_wp2
                          go_meet
                          case rel => exact ⟨by rw [show okN m x = true from decide_eq_true (by omega)], rfl⟩
                        · have u6 : decide (x.seq < 4611686018427387903) = false := decide_eq_false r5
                          go_wp2
                          go_meet
                          case rel => exact ⟨by rw [show okN m x = false from decide_eq_false (by omega)], rfl⟩
                      · have u5 : decide (0 ≤ x.seq) = false := decide_eq_false r4
                        go_wp2
                        go_meet
                        case rel => exact ⟨by rw [show okN m x = false from decide_eq_false (by omega)], rfl⟩
                    · have u4 : decide (x.num ≤ 4611686018427387903) = false := decide_eq_false r3
                      go_wp2
                      go_meet
                      case rel => exact ⟨by rw [show okN m x = false from decide_eq_false (by omega)], rfl⟩
                  · have u3 : decide (1 ≤ x.num) = false := decide_eq_false r2
                    go_wp2
                    go_meet
                    case rel => exact ⟨by rw [show okN m x = false from decide_eq_false (by omega)], rfl⟩
                · have u2 : decide (x.rep < (m : Int)) = false := decide_eq_false r1
                  go_wp2
                  go_meet
                  case rel => exact ⟨by rw [show okN m x = false from decide_eq_false (by omega)], rfl⟩
              · have u1 : decide (0 ≤ x.rep) = false := decide_eq_false r0
                go_wp2
                go_meet
                case rel => exact ⟨by rw [show okN m x = false from decide_eq_false (by omega)], rfl⟩
            case rest =>
            obtain ⟨rfl, rfl⟩ := hcut
            have HRX := Lib.hid (show wc.ownsRow w2.heap.size 49 6 (.slice A6 (sl + 1) p6) (S (xs.take (k + 1))).length (cellsIt (S (xs.take (k + 1)))) from by
              rw [HSX.out, List.length_append, HSLL.out, cellsIt_snoc]
              exact P1.out)
            cases hN : okN m x with
            | false =>
              clear hN
              go_wp2
              go_roundw
              case rel => exact ⟨k + 1, by go_num, by omega, HRX.out, HK6.out⟩
              case measure => simp [intOf]; omega
            | true =>
              have HCY := Lib.hid (HCX.out hN)
              have HK7 := Lib.hid ((Kept.refl wc).alloc (.cells #[.int .i64 x.rep, .int .i64 x.num] 47))
              have HCC := Lib.hid (covers_any D _ _ _ _ (HI2.out.kept (HK6.out.trans HK7.out)) (Ids.one wc x.rep x.num 47))
              rw [HCY.out.1, hdl] at HCC
              have hsq := HCY.out.2
              have HSQ := Lib.hid (show decide (s ≤ x.seq) = false from decide_eq_false (by omega))
              clear hN hsq
              go_wp2_with fail
              refine HCC.out.mono ?_
              rintro e w8 ⟨rfl, k8⟩
              have HK8 := Lib.hid (HK7.out.trans k8)
              have f5' := HK8.out.cell f5
              have t9 := HSQ.out
              clear k8 f3 f4 f5
              go_wp2
              have hrf := own_kept HRX.out HK8.out
              have hkf := HK6.out.trans HK8.out
              go_roundw
              case rel => exact ⟨k + 1, by go_num, by omega, hrf, hkf⟩
              case measure => simp [intOf]; omega
        · obtain rfl : k = xs.length := by omega
          simp only [List.take_length] at HR ⊢
          have HRX := Lib.hid (show wr.ownsRow w2.heap.size 49 6 (.slice A3 (S xs).length p3) (S xs).length (cellsIt (S xs)) from HR.out)
          have HIT := Lib.hid (Its.of_own HRX.out)
          have hsl := HSL.out xs
          have HB2 := Lib.hid (build_any (m : Int) (S xs) _ wr HIT.out (by omega) (fun x hx => HH.out x (HSM.out x hx)))
          have hc0 := HC.out
          have k20 := HK20.out
          clear hrow hkw
          go_wp2_with fail
          refine HB2.out.mono ?_
          rintro e w4 h4
          rcases h4 with ⟨hn4, -⟩ | ⟨-, xb', mb', db', st', lv', rfl, hb'⟩
          · omega
          have HBB := Lib.hid (show Kept wr w4 from hb'.old)
          have HBX := Lib.hid (show IxAt w4 xb' mb' m st' (known m (S xs)) from hb'.ix)
          have c0 := hb'.old.cell c0
          have c1 := hb'.old.cell c1
          have c2 := hb'.old.cell c2
          clear hb'
          go_wp2_with fail
          refine (HAT2.out _ _ _ _ HBX.out).mono ?_
          rintro e w5 ⟨v5, rfl, ho5, k5⟩
          have HK5 := Lib.hid ((HKW.out.trans HBB.out).trans k5)
          have HSS := Lib.hid (sameInts_any D D _ v5 w5 (HI2.out.kept HK5.out) (Ints.of_own ho5))
          rw [same_self] at HSS
          obtain ⟨A5, p5, rfl⟩ := own_form ho5
          rw [hdl] at HSS
          clear ho5 k5 c0 c1 c2
          go_wp2_with fail
          refine HSS.out.mono ?_
          rintro e w6 ⟨rfl, k6⟩
          go_wp2_with fail
          refine (awake_any _).mono ?_
          rintro e w7 ⟨rfl, k7⟩
          have hk := (HK20.out.trans HK5.out).trans (k6.trans k7)
          go_wp2
          go_ret
          exact ⟨rfl, hk⟩
end Go.Proofs.Ytgmpbalibdlhdaa
