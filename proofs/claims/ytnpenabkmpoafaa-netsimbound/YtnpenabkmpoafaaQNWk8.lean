/- The walk of Send. -/
import Derived.Test.YtnpenabkmpoafaaQNWk6
import Derived.IntWalk
import Derived.Deep.CutBlock
import Derived.Deep.DeepCutAuto
set_option linter.unusedSimpArgs false
set_option linter.unusedVariables false
namespace Go.Proofs.Ytnpenabkmpoafaa
open Go.RowKit
/-- No two of these values lie in one block. -/
def NInj (l : List (Value × List UInt8)) : Prop := ∀ (i i' : Nat) (x x' : Value × List UInt8) (g : Nat), l[i]? = some x → l[i']? = some x' → x.1.ownBlock = some g → x'.1.ownBlock = some g → i' = i
theorem NInj.nil : NInj [] := fun i i' x x' g h => by simp at h
theorem NInj.one (x : Value × List UInt8) : NInj [x] := fun i i' y y' g h h' _ _ => by
  have := (List.getElem?_eq_some_iff.1 h).1
  have := (List.getElem?_eq_some_iff.1 h').1
  simp at *
  omega
theorem NInj.append {l r : List (Value × List UInt8)} (h1 : NInj l) (h2 : NInj r) (h : ∀ x ∈ l, ∀ y ∈ r, ∀ g, x.1.ownBlock = some g → y.1.ownBlock ≠ some g) : NInj (l ++ r) := by
  intro i i' x x' g hx hx' hg hg'
  by_cases c : i < l.length
  · rw [List.getElem?_append_left c] at hx
    by_cases c' : i' < l.length
    · rw [List.getElem?_append_left c'] at hx'
      exact h1 i i' x x' g hx hx' hg hg'
    · rw [List.getElem?_append_right (by omega)] at hx'
      exact absurd hg' (h x (List.mem_of_getElem? hx) x' (List.mem_of_getElem? hx') g hg)
  · rw [List.getElem?_append_right (by omega)] at hx
    by_cases c' : i' < l.length
    · rw [List.getElem?_append_left c'] at hx'
      exact absurd hg (h x' (List.mem_of_getElem? hx') x (List.mem_of_getElem? hx) g hg')
    · rw [List.getElem?_append_right (by omega)] at hx'
      have := h2 _ _ x x' g hx hx' hg hg'
      omega
theorem NetAt.inj {w : World} {nb : Nat} {m : NM} {s : NS} {lim : Nat} {F : Nat → Prop} (h : NetAt w nb m s lim F) {a b : Nat} (ha : a < s.n) (hb : b < s.n) : NInj (m.us a b) := fun i i' x x' g h1 h2 h3 h4 => (h.msgAp a b i x a b i' x' g ha hb ha hb h1 h2 h3 h4).2.2
theorem step_look_ok {w : World} {ops : Array Oper} {o : Oper} {a : Act} {K : Act → World → Prop} {Q : Exit → Act → World → Prop} {E : Prop} (hgd : o.guard = none) (s x : Operand)
    (ho : o.op = .lookup 49 s x true) (mb n : Nat) (C : DataW Value) (i j : Nat) (hs : a.eval s = .map (some mb)) (hx : a.eval x = pv i j) (hown : OwnsU w mb n C) (hi : i < 1000) (hj : j < 1000)
    (h : K (a.put o.dst (.tuple #[.agg #[], .bool (Maps.has C (kl i j))])) w) : if Region.wanted o (yielded ops a.tmps) = true then Oper.wp Try.prog o a w K Q else E := by
  have hw : Region.wanted o (yielded ops a.tmps) = true := by simp [Region.wanted, hgd]
  rw [if_pos hw]
  have hrun := hown.look_ok hi hj
  unfold Oper.wp execOp
  simp only [ho, Sem.run_bind, Sem.run_pure, Result.andThen_ok, hs, hx, hrun]
  exact h
def grow (m : NM) (a b : Nat) : Nat → Prop := fun g => g = m.qb ∨ (qv m.D a b).ownBlock = some g
set_option maxRecDepth 100000 in
set_option maxHeartbeats 1000000 in
theorem send_ok (w : World) (nb : Nat) (m : NM) (s : NS) (lim : Nat) (F : Nat → Prop) (h : NetAt w nb m s lim F) (a b : Nat) (ha : a < s.n) (hb : b < s.n) (hcut : s.cut a b = false) (ms : List (List UInt8)) (v : Value)
    (hv : ∀ W, Chg (grow m a b) w W → Parts W v ms) (hms : ∀ x ∈ ms, x.length ≤ 140737488355328) (hfit : (s.q a b).length + ms.length ≤ s.room) (hl : lim < maxLen) :
    Calls Try.prog 12 #[.pointer (some ⟨nb, 0, none⟩), .int .i64 (a : Int), .int .i64 (b : Int), v] w fun e w' => e = .returned (.int .i64 0) ∧ (∃ m', NetAt w' nb m' (s.turn a b (s.q a b ++ ms)) (lim + 1) (ext F w w')) ∧ Chg (grow m a b) w w' := by
  have hsm := h.small
  have hrm := h.roomy
  have hv0 := hv w (Chg.refl _ _)
  have HV := Lib.hid hv
  have HMS := Lib.hid hms
  have HCK := Lib.hid fun t => h.check2 a b t
  rw [chk_two ha hb] at HCK
  obtain ⟨A, c, rfl, hc1, hc2, -⟩ := hv0
  unfold maxLen at hc2
  have hk1 := (Kept.refl w).alloc (.cells #[.int .i64 (a : Int), .int .i64 (b : Int)] 3)
  have hk2 := (Kept.refl (w.alloc (.cells #[.int .i64 (a : Int), .int .i64 (b : Int)] 3))).alloc (.cells #[.int .i64 (a : Int), .int .i64 (b : Int)] 71)
  have hbx := heap_alloc_new (w.alloc (.cells #[.int .i64 (a : Int), .int .i64 (b : Int)] 3)) (.cells #[.int .i64 (a : Int), .int .i64 (b : Int)] 71)
  have hbs : (w.alloc (.cells #[.int .i64 (a : Int), .int .i64 (b : Int)] 3)).heap.size = w.heap.size + 1 := by simp
  rw [hbs] at hbx
  have b0 := cell_at hbx 0
  have b1 := cell_at hbx 1
  simp only [List.getElem?_toArray, List.getElem?_cons_zero, List.getElem?_cons_succ] at b0 b1
  have hkb := hk1.trans hk2
  obtain ⟨A0, c0, hq0⟩ := own_form (h.rows a b ha hb)
  have hul := h.ulen ha hb
  rw [hul] at hq0
  have H := Lib.hid h
  have HQ0 := Lib.hid hq0
  have HUL := Lib.hid hul
  have HFIT := Lib.hid hfit
  have hfl : (s.q a b).length ≤ 4096 := by omega
  clear hv hms h hul hk1 hk2 hbx hbs hq0
  generalize hqn : (s.q a b).length = qn at *
  have HQN := Lib.hid hqn
  clear hqn
  go_enter Try.func12, Try.ntmps12
  go_wp2_with fail
  refine (HCK.out _).mono ?_
  rintro e w1 ⟨rfl, rfl⟩
  have t1 : decide ((s.room : Int) - (qn : Int) < (ms.length : Int)) = false := by simp; omega
  have h64 : IntKind.i64.wrap ((s.room : Int) - (qn : Int)) = (s.room : Int) - (qn : Int) := IntWalk.i64_in _ (by omega)
  go_wp2
  generalize (w.alloc (.cells #[.int .i64 (a : Int), .int .i64 (b : Int)] 3)).alloc (.cells #[.int .i64 (a : Int), .int .i64 (b : Int)] 71) = wb at *
  have c3 := (H.out.kept hkb).c3
  have hlk := (H.out.kept (hkb.trans (Kept.refl wb).drew)).cs.look_ok (a := a) (b := b) (by omega) (by omega)
  rw [(H.out.kept hkb).cuts a b ha hb, hcut] at hlk
  have hkc := (hkb.alloc (.cells #[] 74)).drew
  have HC := Lib.hid (H.out.kept hkc)
  have hlk' := HC.out.cs.look_ok (a := a) (b := b) (by omega) (by omega)
  rw [HC.out.cuts a b ha hb, hcut] at hlk'
  unfold pv at hlk hlk'
  go_cut [12] (fun t W => t = .bool false ∧ W = (wb.alloc (.cells #[] 74)).drew)
  case first =>
    go_region_held3 (fun W => W.cell? ⟨nb, 3, none⟩ = some (.map (some m.cb)) ∧ W.cell? ⟨w.heap.size + 1, 0, none⟩ = some (.int .i64 (a : Int)) ∧ W.cell? ⟨w.heap.size + 1, 1, none⟩ = some (.int .i64 (b : Int)) ∧ Kept wb W)
      (refine ⟨Kept.cell ?_ c3, Kept.cell ?_ b0, Kept.cell ?_ b1, ?_⟩ <;> repeat (first | exact Kept.refl _ | assumption | refine Kept.drew ?_ | refine Kept.alloc ?_ _))
      (first | (go_at_call 33))
    all_goals
      go_wp2
      go_meet
      case rel => exact ⟨rfl, rfl⟩
  case rest =>
  obtain ⟨rfl, rfl⟩ := hcut
  have e0 := ((Kept.refl wb).alloc (.cells #[] 74)).drew.cell b0
  have e1 := ((Kept.refl wb).alloc (.cells #[] 74)).drew.cell b1
  have d2 := HC.out.c2
  have d1 := HC.out.c1
  clear hlk hlk' c3 b0 b1
  generalize (wb.alloc (.cells #[] 74)).drew = W2 at *
  have hq := (HC.out.kept (Kept.refl W2).drew).qs.look (a := a) (b := b) (by omega) (by omega)
  rw [HQ0.out] at hq
  unfold pv at hq
  go_wp2
  go_region
  have hkd := hkc.trans (Kept.refl W2).drew
  have HD := Lib.hid (H.out.kept hkd)
  have e0 : W2.drew.cell? ⟨w.heap.size + 1, 0, none⟩ = some (.int .i64 (a : Int)) := e0
  have e1 : W2.drew.cell? ⟨w.heap.size + 1, 1, none⟩ = some (.int .i64 (b : Int)) := e1
  have d1 := HD.out.c1
  have hws := hkd.size
  clear hq d2 hkc hkb HC
  generalize W2.drew = W3 at *
  have HROW := Lib.hid (HD.out.rows a b ha hb)
  rw [HQ0.out] at HROW
  have hrow0 := HROW.out
  rw [HUL.out] at hrow0
  have HR0 := Lib.hid hrow0
  have HWS := Lib.hid hws
  clear hrow0 HROW
  go_wp2
  go_loopw [13, 57] (fun t i W => ∃ (k : Nat) (news : List (Value × List UInt8)), i = .int .i64 (k : Int) ∧ k ≤ ms.length ∧ news.map Prod.snd = ms.take k ∧ W.ownsRow 0 54 1 t (qn + k) ((m.us a b ++ news).map Prod.fst) ∧
      (∀ g, t.ownBlock = some g → (qv m.D a b).ownBlock = some g ∨ (W3.heap.size ≤ g ∧ g < W.heap.size)) ∧ (∀ x ∈ news, W.ownsRow 0 5 1 x.1 x.2.length (Lib.byteCells x.2) ∧ ∀ g, x.1.ownBlock = some g → W3.heap.size ≤ g ∧ g < W.heap.size) ∧ NInj news ∧ Chg (fun g => (qv m.D a b).ownBlock = some g) W3 W) (fun _ i _ => ms.length - (intOf i).toNat)
  case atStart => exact ⟨0, [], rfl, Nat.zero_le _, rfl, by rw [List.append_nil]; exact HR0.out, fun g hg => .inl (by rw [HQ0.out]; exact hg), fun x hx => (by cases hx), NInj.nil, Chg.refl _ _⟩
  case round =>
    obtain ⟨k, news, rfl, hk, hsnd, hrow, hblk, hnew, hinj, hC⟩ := hrel
    obtain ⟨A5, c5, rfl⟩ := own_form hrow
    have HSND := Lib.hid hsnd
    have HROW := Lib.hid hrow
    have HBLK := Lib.hid hblk
    have HNEW := Lib.hid hnew
    have HINJ := Lib.hid hinj
    have hCw : Chg (grow m a b) w wr := (Chg.of_kept hkd).trans (hC.mono fun g _ x => .inr x) (fun _ _ x => x)
    clear hsnd hrow hblk hnew hinj
    by_cases hlt : k < ms.length
    · obtain ⟨b6, o6, u6', hA, hcell, hbu⟩ := (HV.out wr hCw).at hlt
      subst hA
      have HBU := Lib.hid hbu
      obtain ⟨Au, cu, hu, -, -, -⟩ := hbu
      subst hu
      have g1 : (k : Int) < (ms.length : Int) := by omega
      have hsl := HMS.out ms[k] (List.getElem_mem hlt)
      have HTS := Lib.hid (show ms.take (k + 1) = ms.take k ++ [ms[k]] from List.take_succ_eq_append_getElem hlt)
      generalize hr : ms[k] = r at *
      clear hr
      have hflen : ((m.us a b ++ news).map Prod.fst).length = qn + k := by have := HROW.out.1; simpa using this
      have HFL := Lib.hid hflen
      clear hflen
      go_wp2_with fail
      refine (bclone_any r _ wr HBU.out hsl).mono ?_
      rintro e w4 ⟨v4, rfl, ho4, k4⟩
      obtain ⟨A4, c4, rfl⟩ := own_form ho4
      have HO4 := Lib.hid ho4
      have K4 := Lib.hid k4
      clear ho4 k4
      go_wp2_with (at_builtin; refine wpList_append_one elemB rfl _ _ rfl 0 _ _ ((m.us a b ++ news).map Prod.fst) [.slice A4 r.length c4] w4.heap.size 1 rfl rfl (own_kept HROW.out (K4.out.trans ((Kept.refl w4).alloc _))) rfl (cell_new1 w4 _ _) (one_cell rfl) (by omega) (by unfold maxLen; omega) (Nat.zero_le _) ?_; intro v5 w5 a1 a2 a3)
      go_roundw
      case rel =>
        have hk4s := K4.out.size
        have hC5 : Chg (fun g => (Value.slice A5 (qn + k) c5).ownBlock = some g) wr w5 := (Chg.of_kept (K4.out.trans ((Kept.refl w4).alloc _))).trans (Chg.of_grown a2 (fun g hg _ => hg)) (fun g _ x => x)
        have h5s := hC5.size
        have hws3 := hC.size
        have hty : ∀ g, (Value.slice A5 (qn + k) c5).ownBlock = some g → ∀ x : Value, ∀ l : List UInt8, wr.ownsRow 0 5 1 x l.length (Lib.byteCells l) → x.ownBlock ≠ some g := fun g hg x l hx e => by
          obtain ⟨cur, h1⟩ := own_type hx e
          obtain ⟨cur', h2⟩ := own_type HROW.out hg
          rw [h1] at h2
          simp only [Option.some.injEq, Obj.cells.injEq] at h2
          exact absurd h2.2.1 (by decide)
        have ho5 : w5.ownsRow 0 5 1 (.slice A4 r.length c4) r.length (Lib.byteCells r) := by
          refine own_chg (own_kept (own_base' HO4.out (Nat.zero_le _)) ((Kept.refl w4).alloc _)) (Chg.of_grown (F := fun g => (Value.slice A5 (qn + k) c5).ownBlock = some g) a2 (fun g hg _ => hg)) (fun g hg e => ?_)
          have h6 := (HO4.out.lt g hg).1
          have h7 := (HROW.out.lt g e).2
          omega
        refine ⟨k + 1, news ++ [(.slice A4 r.length c4, r)], by go_num, by omega, by rw [List.map_append, HSND.out, HTS.out]; rfl, ?_, ?_, ?_, ?_, ?_⟩
        · have e : (m.us a b ++ (news ++ [(Value.slice A4 r.length c4, r)])).map Prod.fst = (m.us a b ++ news).map Prod.fst ++ [.slice A4 r.length c4] := by simp
          rw [e]
          exact a1
        · intro g hg
          rcases a3 with e | e
          · rw [e] at hg
            rcases HBLK.out g hg with x | x
            · exact .inl x
            · exact .inr ⟨x.1, by omega⟩
          · rw [hg] at e
            have e : g = (w4.alloc (.cells #[.slice A4 r.length c4] 54)).heap.size := by simpa using e
            have := (a1.lt g hg).2
            refine .inr ⟨?_, this⟩
            rw [e]
            simp
            omega
        · intro x hx
          rcases List.mem_append.1 hx with hx | hx
          · obtain ⟨q1, q2⟩ := HNEW.out x hx
            exact ⟨own_chg q1 hC5 (fun g hg e => hty g e x.1 x.2 q1 hg), fun g hg => ⟨(q2 g hg).1, by have := (q2 g hg).2; omega⟩⟩
          · obtain rfl : x = (.slice A4 r.length c4, r) := by simpa using hx
            refine ⟨ho5, fun g hg => ?_⟩
            have h6 := HO4.out.lt g hg
            have h8 := a2.size
            have h9 : w4.heap.size + 1 = (w4.alloc (.cells #[.slice A4 r.length c4] 54)).heap.size := by simp
            exact ⟨by omega, by omega⟩
        · refine HINJ.out.append (NInj.one _) (fun x hx y hy g hg e => ?_)
          obtain rfl : y = (.slice A4 r.length c4, r) := by simpa using hy
          have h6 := (HO4.out.lt g e).1
          have h7 := ((HNEW.out x hx).2 g hg).2
          omega
        · refine hC.trans hC5 (fun g hg e => ?_)
          rcases HBLK.out g e with x | x
          · exact x
          · omega
      case measure => simp [intOf]; omega
    · obtain rfl : k = ms.length := by omega
      have HW := Lib.hid (HD.out)
      have c26 : wr.cell? ⟨nb, 2, none⟩ = some (.map (some m.qb)) := chg_cellS hC HD.out.c2 (fun e => HD.out.aside ha hb HD.out.net (by decide) (.inr e))
      have hb6 : ¬ (qv m.D a b).ownBlock = some (w.heap.size + 1) := fun e => by
        have := (H.out.rows a b ha hb).lt _ e
        omega
      have e06 := chg_cellS hC e0 hb6
      have e16 := chg_cellS hC e1 hb6
      have hq6 : OwnsP wr m.qb lim m.D := map_chg HD.out.qs hC (fun e => by
        obtain ⟨cur, h1⟩ := own_type (HD.out.rows a b ha hb) e
        exact map_ne_cells HD.out.qs h1 rfl)
      obtain ⟨w9, hrun9, ho9, hg9⟩ := OwnsP.store (map_chg hq6 (Chg.of_kept (F := no) (Kept.refl wr).drew) (fun x => x)) (by omega) (a := a) (b := b) (by omega) (by omega) (.slice A5 (qn + ms.length) c5)
      unfold pv at hrun9
      have HO9 := Lib.hid ho9
      have hC9 : Chg (fun g => g = m.qb) wr w9 := (Chg.of_kept (Kept.refl wr).drew).trans (Chg.of_grown hg9 (fun g hg _ => by cases hg; rfl)) (fun _ _ x => x)
      clear ho9 hg9 hq6
      go_wp2
      go_region
      go_wp2
      go_ret
      have hCC : Chg (grow m a b) W3 w9 := (hC.mono fun g _ x => .inr x).trans (hC9.mono fun g _ x => .inl x) (fun _ _ x => x)
      have hD : Maps.IsMap m.D := World.ownsMap.isMap HD.out.qs
      have hvs : qv (m.D.put (kl a b) (.held (.slice A5 (qn + ms.length) c5))) a b = .slice A5 (qn + ms.length) c5 := qv_put_same hD (by omega) (by omega) _
      have hmq : ∀ {g : Nat} {cur : Array Value} {t : TypeId}, wr.heap[g]? = some (.cells cur t (0, 0)) → ¬ g = m.qb := fun hc e => map_ne_cells (map_chg HD.out.qs hC (fun e => by
        obtain ⟨cur, h1⟩ := own_type (HD.out.rows a b ha hb) e
        exact map_ne_cells HD.out.qs h1 rfl)) hc e
      have h3s := hC.size
      have h9s := hC9.size
      have hus : (m.us a b).map Prod.snd = s.q a b := H.out.same a b ha hb
      have hlen : (m.us a b ++ news).length = qn + ms.length := by have := HROW.out.1; simpa using this
      have hN := HD.out.turn (w' := w9) (lim' := lim + 1) ha hb (us' := m.us a b ++ news) (by omega) HO9.out (fun a' b' ha' hb' hne => qv_put_other (kl_ne (by omega) (by omega) (by omega) (by omega) hne) _) hCC
        (by
          rw [hvs, hlen]
          exact own_chg HROW.out hC9 (fun g hg e => by
            obtain ⟨cur, h1⟩ := own_type HROW.out hg
            exact hmq h1 e))
        (fun x hx => by
          rcases List.mem_append.1 hx with hx | hx
          · refine own_chg (H.out.msgs a b ha hb x hx |> fun y => own_kept y hkd) hCC (fun g hg e => ?_)
            obtain ⟨cur, h1⟩ := own_type (HD.out.msgs a b ha hb x hx) hg
            exact HD.out.aside ha hb h1 (by decide) e
          · obtain ⟨q1, -⟩ := HNEW.out x hx
            exact own_chg q1 hC9 (fun g hg e => by
              obtain ⟨cur, h1⟩ := own_type q1 hg
              exact hmq h1 e))
        (fun g hg => by
          rw [hvs] at hg
          rcases HBLK.out g hg with x | x
          · exact .inl x
          · exact .inr ⟨x.1, by omega⟩)
        (fun x hx => by
          rcases List.mem_append.1 hx with hx | hx
          · exact .inl hx
          · exact .inr fun g hg => by
              have := (HNEW.out x hx).2 g hg
              exact ⟨this.1, by omega⟩)
        ((HD.out.inj ha hb).append HINJ.out (fun x hx y hy g hg e => by
          have h6 := ((HD.out.msgs a b ha hb x hx).lt g hg).2
          have h7 := ((HNEW.out y hy).2 g e).1
          omega))
        (by rw [hlen]; exact HFIT.out)
        (fun x hx => by
          rcases List.mem_append.1 hx with hx | hx
          · exact H.out.light a b ha hb x.2 (by rw [← hus]; exact List.mem_map_of_mem hx)
          · refine HMS.out x.2 ?_
            have := List.mem_map_of_mem (f := Prod.snd) hx
            rw [HSND.out, List.take_length] at this
            exact this)
      have hmap : (m.us a b ++ news).map Prod.snd = s.q a b ++ ms := by rw [List.map_append, hus, HSND.out, List.take_length]
      rw [hmap] at hN
      have hks := hkd.size
      refine ⟨rfl, ⟨_, hN.mono (fun g x => ?_)⟩, (Chg.of_kept hkd).trans hCC (fun _ _ x => x)⟩
      rcases x with x | x
      · exact .inl x
      · exact .inr ⟨by omega, x.2⟩
end Go.Proofs.Ytnpenabkmpoafaa
