/- The walk of the document's Attr. -/
import Derived.Test.YtgmpbalibdlhdaaQICp
set_option linter.unusedSimpArgs false
set_option linter.unusedVariables false
namespace Go.Proofs.Ytgmpbalibdlhdaa
open Go.RowKit
theorem ah_add {n : Nat} {c : Cm} {L : List It} {x : It} (hx : okI n x) (hm : metC c x.c = true) : ahT c (L ++ [x]) = wiT (ahT c L) x.rep x.num x.seq := tp_add hx hm
theorem ah_pass {c : Cm} {L : List It} {x : It} (hm : metC c x.c = false) : ahT c (L ++ [x]) = ahT c L := tp_pass hm
theorem ah_add0 {n : Nat} {c : Cm} {L : List It} {x : It} (hx : okI n x) (hm : metC c x.c = true) : ahT c (L ++ [x]) 0 = max (ahT c L 0) x.seq := by rw [ah_add hx hm]; rfl
theorem dep_get {n : Nat} {c : Cm} {L : List It} {r : Nat} (h : r < n) : (depT n c L)[r]? = some (ahT c L (r + 1)) := by
  unfold depT
  rw [List.getElem?_map, List.getElem?_range h]
  rfl
theorem dep_add {n : Nat} {c : Cm} {L : List It} {x : It} (hx : okI n x) (hm : metC c x.c = true) {r : Nat} (hr : x.rep = r) : depT n c (L ++ [x]) = (depT n c L).set r (max (ahT c L (r + 1)) x.num) := by
  have hrn : r < n := by have := hx.2.1; omega
  apply List.ext_getElem?
  intro i
  by_cases hi : i < n
  · rw [dep_get hi, ah_add hx hm]
    unfold wiT
    rw [if_neg (by omega)]
    by_cases e : r = i
    · subst e
      rw [if_pos (by omega), List.getElem?_set_self (by rw [depT_len]; exact hi)]
    · rw [if_neg (by omega), List.getElem?_set_ne e, dep_get hi]
  · rw [List.getElem?_eq_none (by rw [depT_len]; omega), List.getElem?_eq_none (by rw [List.length_set, depT_len]; omega)]
theorem dep_same {n : Nat} {c : Cm} {L : List It} {x : It} (hx : okI n x) (hm : metC c x.c = true) {r : Nat} (hr : x.rep = r) (hle : x.num ≤ ahT c L (r + 1)) : depT n c (L ++ [x]) = depT n c L := by
  have hrn : r < n := by have := hx.2.1; omega
  rw [dep_add hx hm hr, show max (ahT c L (r + 1)) x.num = ahT c L (r + 1) by omega]
  apply List.ext_getElem?
  intro i
  by_cases e : r = i
  · subst e
    rw [List.getElem?_set_self (by rw [depT_len]; exact hrn), dep_get hrn]
  · rw [List.getElem?_set_ne e]
theorem dep_nil (n : Nat) (c : Cm) : depT n c [] = List.replicate n 0 := by
  unfold depT
  rw [List.eq_replicate_iff]
  refine ⟨by simp, fun y hy => ?_⟩
  obtain ⟨r, -, rfl⟩ := List.mem_map.1 hy
  rfl
set_option maxRecDepth 100000 in
set_option maxHeartbeats 4000000 in
theorem refAttr_any {w : World} {base db n : Nat} {lv : Value} {L : List It} (h : RxAt w base db n lv L) (hg : ∀ x ∈ L, okI n x) (hn : 1 ≤ n ∧ n ≤ 7) (c : Cm) :
    Calls Try.prog 11 #[.pointer (some ⟨db, 0, none⟩), c.v] w (AttrTo w n c L) := by
  have HBD := Lib.hid (fun e k => AttrTo.bad (w := w) (w' := k) (n := n) (c := c) (L := L) e)
  have HGD := Lib.hid (fun v e k => AttrTo.good (w := w) (w' := k) (n := n) (c := c) (L := L) (v := v) e)
  have H := Lib.hid h
  have HK1 := Lib.hid ((Kept.refl w).alloc (.cells #[.int .i64 c.kind, .string ⟨c.home.toArray⟩, c.dv] 34))
  have HC := Lib.hid (cells3 (heap_alloc_new w (.cells #[.int .i64 c.kind, .string ⟨c.home.toArray⟩, c.dv] 34)))
  have HIF := Lib.hid (fun b X => refItf_any c b X)
  have HIM := Lib.hid (fun (hk : okK c.kind = true) x hx => itf_met hk (hg x hx))
  have HG := Lib.hid hg
  have HA0 := Lib.hid (fun l x hx hm => ah_add0 (n := n) (c := c) (L := l) (x := x) hx hm)
  have HDA := Lib.hid (fun l x hx hm r hr => dep_add (n := n) (c := c) (L := l) (x := x) hx hm (r := r) hr)
  have HDS := Lib.hid (fun l x hx hm r hr hle => dep_same (n := n) (c := c) (L := l) (x := x) hx hm (r := r) hr hle)
  have HDG := Lib.hid (fun l r hr => dep_get (n := n) (c := c) (L := l) (r := r) hr)
  have HPS := Lib.hid (fun l x hm => ah_pass (c := c) (L := l) (x := x) hm)
  have HPD := Lib.hid (fun l x (hm : metC c x.c = false) => show depT n c (l ++ [x]) = depT n c l by unfold depT; rw [ah_pass hm])
  have HDN := Lib.hid (dep_nil n c)
  have HR0 := Lib.hid (show ahT c [] 0 = 0 from rfl)
  have HDL := Lib.hid (fun l => depT_len n c l)
  have HBN := Lib.hid (fun l (hl : ∀ x ∈ l, okI n x) => And.intro (tp_pos (pC c) l 0) (tp_le0 (p := pC c) hl))
  change Hid (∀ l, (∀ x ∈ l, okI n x) → 0 ≤ ahT c l 0 ∧ ahT c l 0 ≤ 4611686018427387902) at HBN
  generalize depT n c = D at *
  generalize ahT c = R at *
  generalize itf c = I at *
  generalize metC c = M at *
  obtain ⟨lA, lc, rfl⟩ := own_form h.row
  obtain ⟨kind, home, da, dn, dc⟩ := c
  unfold Cm.v Cm.dv at *
  simp only at *
  clear h hg
  by_cases h1 : kind < 0
  · have t1 : decide (kind < 0) = true := decide_eq_true h1
    have HE := Lib.hid (HBD.out (decide_eq_false (by omega)) _ HK1.out)
    go_enter Try.func11, Try.ntmps11
    go_wp2
    refine bodyPost_ret (v := .tuple #[.int .i64 0, .slice none 0 0, .int .i64 100]) (by simp [results, Try.results11, go_sem]) rfl ?_
    exact HE.out
  · have t1 : decide (kind < 0) = false := decide_eq_false h1
    by_cases h2 : 2 < kind
    · have t2 : decide (2 < kind) = true := decide_eq_true h2
      have HE := Lib.hid (HBD.out (decide_eq_false (by omega)) _ HK1.out)
      go_enter Try.func11, Try.ntmps11
      go_wp2
      refine bodyPost_ret (v := .tuple #[.int .i64 0, .slice none 0 0, .int .i64 100]) (by simp [results, Try.results11, go_sem]) rfl ?_
      exact HE.out
    · have t2 : decide (2 < kind) = false := decide_eq_false h2
      have hK : okK kind = true := decide_eq_true (by omega)
      have HGD := Lib.hid (fun v => HGD.out v hK)
      have HIM := Lib.hid (HIM.out hK)
      clear hK HBD
      obtain ⟨w1, hw1⟩ : ∃ w1, w.alloc (.cells #[.int .i64 kind, .string ⟨home.toArray⟩, .slice da dn dc] 34) = w1 := ⟨_, rfl⟩
      rw [hw1] at HK1 HC
      have H1 := Lib.hid (H.out.kept HK1.out)
      obtain ⟨i, hi, hz, hs, hb⟩ := info_int
      obtain ⟨w2, hmk, hrow, hgr⟩ := run_make_full (P := Try.prog) w1 w1.heap.size 35 3 i (.int .i64 0) 1 Try.underlying35 hi hz hs .i64 .i64 n (by rw [hb]; omega) (by unfold maxLen; omega) (Nat.le_refl _)
      have hk2 : Kept w1 w2 := (Chg.of_grown (F := no) hgr (fun g hg => by cases hg)).to_kept
      have HR2 := Lib.hid (show w2.ownsRow w1.heap.size 3 1 (.slice (some ⟨w1.heap.size, 0, none⟩) n n) n (iv (D [])) from by
        have h := hrow
        rw [show (Value.int .i64 0).cells = #[Value.int .i64 0] from rfl, toList_madeCells_one] at h
        rw [HDN.out]
        simpa [iv] using h)
      have HK2 := Lib.hid hk2
      obtain ⟨d0, d1⟩ := cells2 H1.out.blk
      clear hrow hgr hi hz hs hb hk2 i
      go_enter Try.func11, Try.ntmps11
      go_upto_region 1 with (fail)
      clear hw1
      obtain ⟨c0, c1, c2⟩ := HC.out
      go_wp2
      clear hmk d0 d1 c0 c1 c2
      go_loopw [7, 9] (fun sv i W => ∃ k : Nat, i = .int .i64 (k : Int) ∧ k ≤ L.length ∧ sv = .int .i64 (R (L.take k) 0) ∧ W.ownsRow w1.heap.size 3 1 (.slice (some ⟨w1.heap.size, 0, none⟩) n n) n (iv (D (L.take k))) ∧ Kept w1 W) (fun _ i _ => L.length - (intOf i).toNat)
      case atStart => exact ⟨0, rfl, Nat.zero_le _, by rw [List.take_zero, HR0.out], HR2.out, HK2.out⟩
      case round =>
        obtain ⟨k, rfl, hk, rfl, hr, hkw⟩ := hrel
        have HR := Lib.hid hr
        have HKW := Lib.hid hkw
        have hHW := H1.out.kept hkw
        obtain ⟨d0, d1⟩ := cells2 hHW.blk
        by_cases hlt : k < L.length
        · obtain ⟨g, lc', ev, hlc, hcm⟩ := own_some hHW.row (by omega)
          obtain ⟨rfl, -, rfl⟩ : lA = some ⟨g, 0, none⟩ ∧ L.length = L.length ∧ lc = lc' := by simpa using ev
          unfold maxLen at hcm
          have g1 : (k : Int) < (L.length : Int) := by omega
          have q0 := own_cell hHW.row (j := k * 6 + 0) ((flat_at (m := 6) (f := It.cs) (fun _ => rfl) hlt (j := 0) (by omega)).trans rfl)
          have q1 := own_cell hHW.row (j := k * 6 + 1) ((flat_at (m := 6) (f := It.cs) (fun _ => rfl) hlt (j := 1) (by omega)).trans rfl)
          have q2 := own_cell hHW.row (j := k * 6 + 2) ((flat_at (m := 6) (f := It.cs) (fun _ => rfl) hlt (j := 2) (by omega)).trans rfl)
          have q3 := own_cell hHW.row (j := k * 6 + 3) ((flat_at (m := 6) (f := It.cs) (fun _ => rfl) hlt (j := 3) (by omega)).trans rfl)
          have q4 := own_cell hHW.row (j := k * 6 + 4) ((flat_at (m := 6) (f := It.cs) (fun _ => rfl) hlt (j := 4) (by omega)).trans rfl)
          have q5 := own_cell hHW.row (j := k * 6 + 5) ((flat_at (m := 6) (f := It.cs) (fun _ => rfl) hlt (j := 5) (by omega)).trans rfl)
          simp only [Nat.add_zero] at q0
          have HTK := Lib.hid (show L.take (k + 1) = L.take k ++ [L[k]] from List.take_succ_eq_append_getElem hlt)
          have HX := Lib.hid (HG.out L[k] (List.getElem_mem hlt))
          have HIX := Lib.hid (HIM.out L[k] (List.getElem_mem hlt))
          generalize L[k] = x at *
          generalize L.take k = T at *
          unfold Cm.dv at q2
          have hka := (Kept.refl wr).alloc (.cells #[.int .i64 x.c.kind, .string ⟨x.c.home.toArray⟩, .slice x.c.da x.c.dn x.c.dc, .int .i64 x.rep, .int .i64 x.num, .int .i64 x.seq] 49)
          have HKA := Lib.hid (hkw.trans hka)
          have HRA := Lib.hid (own_kept hr hka)
          have hxb := heap_alloc_new wr (.cells #[.int .i64 x.c.kind, .string ⟨x.c.home.toArray⟩, .slice x.c.da x.c.dn x.c.dc, .int .i64 x.rep, .int .i64 x.num, .int .i64 x.seq] 49)
          have HXB := Lib.hid hxb
          have c0 := HKA.out.cell HC.out.1
          have c1 := HKA.out.cell HC.out.2.1
          have c2 := HKA.out.cell HC.out.2.2
          have hws : w1.heap.size ≤ wr.heap.size := hkw.size
          clear hr hkw hHW ev hka
          go_upto_region 9 with (fail)
          generalize wr.alloc _ = w3 at *
          clear q0 q1 q2 q3 q4 q5 d0 d1
          have e0 := (cell_at HXB.out 0).trans rfl
          have e1 := (cell_at HXB.out 1).trans rfl
          have e2 := (cell_at HXB.out 2).trans rfl
          simp only [List.getElem?_toArray, List.getElem?_cons_zero, List.getElem?_cons_succ] at e0 e1 e2
          go_wp2_with fail
          refine (HIF.out x.c _).mono ?_
          rintro e w4 ⟨rfl, k4⟩
          have HK4 := Lib.hid (HKA.out.trans k4)
          have HR4 := Lib.hid (own_kept HRA.out k4)
          have hb4 := k4.block' HXB.out
          have f3 := (cell_at hb4 3).trans rfl
          have f4 := (cell_at hb4 4).trans rfl
          have f5 := (cell_at hb4 5).trans rfl
          simp only [List.getElem?_toArray, List.getElem?_cons_zero, List.getElem?_cons_succ] at f3 f4 f5
          have HB4 := Lib.hid hb4
          clear k4 e0 e1 e2 c0 c1 c2 hb4 hxb
          cases hI : I x.c with
          | false =>
            have hM := HIX.out.symm.trans hI
            have HRT := Lib.hid (show R (L.take (k + 1)) = R T by rw [HTK.out]; exact HPS.out T x hM)
            have HDT := Lib.hid (show D (L.take (k + 1)) = D T by rw [HTK.out]; exact HPD.out T x hM)
            clear hI hM
            go_wp2
            go_roundw
            case rel => exact ⟨k + 1, by go_num, by omega, by rw [HRT.out], by rw [HDT.out]; exact HR4.out, HK4.out⟩
            case measure => simp [intOf]; omega
          | true =>
            have hM := HIX.out.symm.trans hI
            have HM := Lib.hid hM
            obtain ⟨r, hr⟩ := Int.eq_ofNat_of_zero_le HX.out.2.1.1
            have hrn : r < n := by have := HX.out.2.1.2; omega
            have HRR := Lib.hid hr
            rw [hr] at f3
            have g3 : (r : Int) < (n : Int) := by omega
            have HRS := Lib.hid (show R (L.take (k + 1)) 0 = max (R T 0) x.seq by rw [HTK.out]; exact HA0.out T x HX.out hM)
            have p0 := own_cell HR4.out (j := r) (show (iv (D T))[r]? = some (.int .i64 (R T (r + 1))) by unfold iv; rw [List.getElem?_map, HDG.out T r hrn]; rfl)
            have z0 : w4.frozen? ⟨w1.heap.size, r, none⟩ = false := by
              obtain ⟨cur, hcur⟩ := own_type HR4.out (g := w1.heap.size) rfl
              exact frozen_at hcur r
            clear hI hM hr
            by_cases hs : R T 0 < x.seq
            · have t5 : decide (R T 0 < x.seq) = true := decide_eq_true hs
              have hmax : max (R T 0) x.seq = x.seq := by omega
              rw [hmax] at HRS
              by_cases hq : R T (r + 1) < x.num
              · have t6 : decide (R T (r + 1) < x.num) = true := decide_eq_true hq
                have HDT := Lib.hid (show D (L.take (k + 1)) = (D T).set r x.num by rw [HTK.out, HDA.out T x HX.out HM.out r HRR.out, show max (R T (r + 1)) x.num = x.num by omega])
                clear hs hq hmax
                go_wp2
                go_quiet (fail)
                have hkn := (Kept.refl w4).drewN nq
                have HK5 := Lib.hid (HK4.out.trans hkn)
                have HR5 := Lib.hid (own_kept HR4.out hkn)
                have f3 := (show (w4.drewN nq).cell? _ = _ from f3)
                have f4 := (show (w4.drewN nq).cell? _ = _ from f4)
                have z0 := (show (w4.drewN nq).frozen? _ = _ from z0)
                have p0 := (show (w4.drewN nq).cell? _ = _ from p0)
                clear f5 hkn
                generalize w4.drewN nq = w5 at *
                have HPK := Lib.hid (kept_poke HK5.out (Nat.le_refl _) r (.int .i64 x.num))
                have HST := Lib.hid (row_set HR5.out r x.num)
                go_wp2
                go_roundw
                case rel => exact ⟨k + 1, by go_num, by omega, by rw [HRS.out], by rw [HDT.out]; exact HST.out, HPK.out⟩
                case measure => simp [intOf]; omega
              · have t6 : decide (R T (r + 1) < x.num) = false := decide_eq_false hq
                have HDT := Lib.hid (show D (L.take (k + 1)) = D T by rw [HTK.out]; exact HDS.out T x HX.out HM.out r HRR.out (by omega))
                clear hs hq hmax
                go_wp2
                go_quiet (fail)
                have hkn := (Kept.refl w4).drewN nq
                have HK5 := Lib.hid (HK4.out.trans hkn)
                have HR5 := Lib.hid (own_kept HR4.out hkn)
                have f3 := (show (w4.drewN nq).cell? _ = _ from f3)
                have f4 := (show (w4.drewN nq).cell? _ = _ from f4)
                have z0 := (show (w4.drewN nq).frozen? _ = _ from z0)
                have p0 := (show (w4.drewN nq).cell? _ = _ from p0)
                clear f5 hkn
                generalize w4.drewN nq = w5 at *
                go_wp2
                go_roundw
                case rel => exact ⟨k + 1, by go_num, by omega, by rw [HRS.out], by rw [HDT.out]; exact HR5.out, HK5.out⟩
                case measure => simp [intOf]; omega
            · have t5 : decide (R T 0 < x.seq) = false := decide_eq_false hs
              have hmax : max (R T 0) x.seq = R T 0 := by omega
              rw [hmax] at HRS
              by_cases hq : R T (r + 1) < x.num
              · have t6 : decide (R T (r + 1) < x.num) = true := decide_eq_true hq
                have HDT := Lib.hid (show D (L.take (k + 1)) = (D T).set r x.num by rw [HTK.out, HDA.out T x HX.out HM.out r HRR.out, show max (R T (r + 1)) x.num = x.num by omega])
                clear hs hq hmax
                go_wp2
                go_quiet (fail)
                have hkn := (Kept.refl w4).drewN nq
                have HK5 := Lib.hid (HK4.out.trans hkn)
                have HR5 := Lib.hid (own_kept HR4.out hkn)
                have f3 := (show (w4.drewN nq).cell? _ = _ from f3)
                have f4 := (show (w4.drewN nq).cell? _ = _ from f4)
                have z0 := (show (w4.drewN nq).frozen? _ = _ from z0)
                have p0 := (show (w4.drewN nq).cell? _ = _ from p0)
                clear f5 hkn
                generalize w4.drewN nq = w5 at *
                have HPK := Lib.hid (kept_poke HK5.out (Nat.le_refl _) r (.int .i64 x.num))
                have HST := Lib.hid (row_set HR5.out r x.num)
                go_wp2
                go_roundw
                case rel => exact ⟨k + 1, by go_num, by omega, by rw [HRS.out], by rw [HDT.out]; exact HST.out, HPK.out⟩
                case measure => simp [intOf]; omega
              · have t6 : decide (R T (r + 1) < x.num) = false := decide_eq_false hq
                have HDT := Lib.hid (show D (L.take (k + 1)) = D T by rw [HTK.out]; exact HDS.out T x HX.out HM.out r HRR.out (by omega))
                clear hs hq hmax
                go_wp2
                go_quiet (fail)
                have hkn := (Kept.refl w4).drewN nq
                have HK5 := Lib.hid (HK4.out.trans hkn)
                have HR5 := Lib.hid (own_kept HR4.out hkn)
                have f3 := (show (w4.drewN nq).cell? _ = _ from f3)
                have f4 := (show (w4.drewN nq).cell? _ = _ from f4)
                have z0 := (show (w4.drewN nq).frozen? _ = _ from z0)
                have p0 := (show (w4.drewN nq).cell? _ = _ from p0)
                clear f5 hkn
                generalize w4.drewN nq = w5 at *
                go_wp2
                go_roundw
                case rel => exact ⟨k + 1, by go_num, by omega, by rw [HRS.out], by rw [HDT.out]; exact HR5.out, HK5.out⟩
                case measure => simp [intOf]; omega
        · obtain rfl : k = L.length := by omega
          simp only [List.take_length] at HR ⊢
          have hb0 := HBN.out L HG.out
          have hwr : IntKind.i64.wrap (R L 0 + 1) = R L 0 + 1 := IntWalk.i64_in _ (by omega)
          have HF := Lib.hid (HGD.out _ _ (row_base HR.out HK1.out.size) (HK1.out.trans HKW.out))
          clear hr hkw hHW
          go_wp2
          refine bodyPost_ret (v := .tuple #[.int .i64 (R L 0 + 1), .slice (some ⟨w1.heap.size, 0, none⟩) n n, .int .i64 0]) (by simp [results, Try.results11, go_sem]) rfl ?_
          exact HF.out
end Go.Proofs.Ytgmpbalibdlhdaa
