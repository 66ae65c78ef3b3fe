/- The walks of Deliver, Drop, Repeat, whatever they are asked. -/
import Derived.Test.YtnpenabkmpoafaaQNWka
set_option linter.unusedSimpArgs false
set_option linter.unusedVariables false
namespace Go.Proofs.Ytnpenabkmpoafaa
open Go.RowKit
def delS (s : NS) (a b i : Int) : NS := if waitE s a b i = 0 then s.turn a.toNat b.toNat ((s.q a.toNat b.toNat).eraseIdx i.toNat) else s
def msgS (s : NS) (a b i : Int) : List UInt8 := if waitE s a b i = 0 then (s.q a.toNat b.toNat).getD i.toNat [] else []
theorem grow_F {w : World} {nb : Nat} {m : NM} {s : NS} {lim : Nat} {F : Nat → Prop} (h : NetAt w nb m s lim F) {a b : Nat} (ha : a < s.n) (hb : b < s.n) : ∀ g, grow m a b g → F g := fun g x => by
  rcases x with rfl | x
  · exact h.inQ
  · exact h.inR a b g ha hb x
set_option maxRecDepth 100000 in
set_option maxHeartbeats 1000000 in
theorem deliver_any (w : World) (nb : Nat) (m : NM) (s : NS) (lim : Nat) (F : Nat → Prop) (h : NetAt w nb m s lim F) (a b i : Int) (hl : lim < maxLen) :
    Calls Try.prog 13 #[.pointer (some ⟨nb, 0, none⟩), .int .i64 a, .int .i64 b, .int .i64 i] w fun e w' => ∃ v, e = .returned (.tuple #[v, .int .i64 (waitE s a b i)]) ∧ w'.ownsRow 0 5 1 v (msgS s a b i).length (Lib.byteCells (msgS s a b i)) ∧ (∀ g, v.ownBlock = some g → F g) ∧ (∃ m', NetAt w' nb m' (delS s a b i) (lim + 1) (fun g => ext F w w' g ∧ v.ownBlock ≠ some g)) ∧ Chg F w w' := by
  by_cases hk : waitE s a b i = 0
  · unfold delS msgS
    rw [hk, if_pos rfl, if_pos rfl]
    obtain ⟨a, b, i, rfl, rfl, rfl, ha, hb, hi⟩ := waitE_zero hk
    refine (deliver_ok w nb m s lim F h a b i ha hb hi hl).mono ?_
    rintro e w' ⟨x, hx, h1, h2, h3, h4⟩
    have hx2 : (s.q a b).getD i [] = x.2 := by
      rw [← h.same a b ha hb, List.getD_eq_getElem?_getD, List.getElem?_map, hx]
      rfl
    simp only [Int.toNat_natCast]
    rw [hx2]
    exact ⟨x.1, h1, h3, fun g hg => h.inM a b x g ha hb (List.mem_of_getElem? hx) hg, h2, h4.mono fun g _ => grow_F h ha hb g⟩
  · unfold delS msgS
    rw [if_neg hk, if_neg hk]
    have HW := Lib.hid (waiting_bad w nb m s lim F h a b i hk)
    have H := Lib.hid h
    have hne := hk
    clear h
    generalize waitE s a b i = er at *
    have t1 : decide (er = 0) = false := by simpa using hne
    go_enter Try.func13, Try.ntmps13
    go_wp2_with fail
    refine HW.out.mono ?_
    rintro e w1 ⟨rfl, hk1⟩
    go_wp2
    go_ret2
    exact ⟨_, rfl, World.ownsRow_nil _ _ _ _, fun g hg => (by cases hg), ⟨m, ((H.out.kept hk1).mono (fun g x => ⟨.inl x, by simp [Value.ownBlock]⟩)).more (by omega)⟩, Chg.of_kept hk1⟩
set_option maxRecDepth 100000 in
set_option maxHeartbeats 1000000 in
theorem drop_any (w : World) (nb : Nat) (m : NM) (s : NS) (lim : Nat) (F : Nat → Prop) (h : NetAt w nb m s lim F) (a b i : Int) (hl : lim < maxLen) :
    Calls Try.prog 18 #[.pointer (some ⟨nb, 0, none⟩), .int .i64 a, .int .i64 b, .int .i64 i] w fun e w' => e = .returned (.int .i64 (waitE s a b i)) ∧ (∃ m', NetAt w' nb m' (delS s a b i) (lim + 1) (ext F w w')) ∧ Chg F w w' := by
  have HD := Lib.hid (deliver_any w nb m s lim F h a b i hl)
  clear h
  generalize waitE s a b i = er at *
  go_enter Try.func18, Try.ntmps18
  go_wp2_with fail
  refine HD.out.mono ?_
  rintro e w1 ⟨v, rfl, ho, -, ⟨m', hn⟩, hc⟩
  obtain ⟨A, c, rfl⟩ := own_form ho
  have HN := Lib.hid hn
  have HC := Lib.hid hc
  clear hn hc ho
  go_wp2
  go_ret
  exact ⟨rfl, ⟨m', HN.out.mono fun g x => x.1⟩, HC.out⟩
def repE (s : NS) (a b i : Int) : Int := if waitE s a b i = 0 then sendE s a b 1 else waitE s a b i
def repS (s : NS) (a b i : Int) : NS := if waitE s a b i = 0 then sendS s a b [msgS s a b i] else s
set_option maxRecDepth 100000 in
set_option maxHeartbeats 1000000 in
theorem repeat_ok (w : World) (nb : Nat) (m : NM) (s : NS) (lim : Nat) (F : Nat → Prop) (h : NetAt w nb m s lim F) (a b i : Nat) (ha : a < s.n) (hb : b < s.n) (hi : i < (s.q a b).length) (hl : lim < maxLen) :
    Calls Try.prog 19 #[.pointer (some ⟨nb, 0, none⟩), .int .i64 (a : Int), .int .i64 (b : Int), .int .i64 (i : Int)] w fun e w' => e = .returned (.int .i64 (sendE s a b 1)) ∧ (∃ m', NetAt w' nb m' (sendS s a b [(s.q a b).getD i []]) (lim + 1) (ext F w w')) ∧ Chg F w w' := by
  have hsm := h.small
  have HW := Lib.hid (waiting_ok w nb m s lim F h a b i ha hb hi)
  have H := Lib.hid h
  obtain ⟨A0, c0, hq0⟩ := own_form (h.rows a b ha hb)
  have hul := h.ulen ha hb
  rw [hul] at hq0
  have HQ0 := Lib.hid hq0
  rw [hq0] at HW
  have hfl : (s.q a b).length ≤ 4096 := by have := h.full a b ha hb; have := h.roomy; omega
  obtain ⟨x, hx⟩ : ∃ x, (m.us a b)[i]? = some x := ⟨(m.us a b)[i]'(by omega), by simp⟩
  have hx2 : (s.q a b).getD i [] = x.2 := by
    rw [← h.same a b ha hb, List.getD_eq_getElem?_getD, List.getElem?_map, hx]
    rfl
  have hrow := h.rows a b ha hb
  have hxs : ((m.us a b).map Prod.fst)[i]? = some x.1 := by rw [List.getElem?_map, hx]; rfl
  have hmo := h.msgs a b ha hb x (List.mem_of_getElem? hx)
  obtain ⟨Ax, cx, hxv⟩ := own_form hmo
  have HMO := Lib.hid hmo
  have HXV := Lib.hid hxv
  have hmf : ∀ W W', Kept w W → Chg (grow m a b) W W' → W'.ownsRow 0 5 1 x.1 x.2.length (Lib.byteCells x.2) := fun W W' k c => own_chg (own_kept hmo k) c (fun g hg => by
    obtain ⟨cur, h1⟩ := own_type hmo hg
    exact h.aside ha hb h1 (by decide))
  have HMF := Lib.hid hmf
  have hml : x.2.length ≤ 140737488355328 := h.light a b ha hb x.2 (by rw [← h.same a b ha hb]; exact List.mem_map_of_mem (List.mem_of_getElem? hx))
  obtain ⟨g0, hA0⟩ : ∃ g0, A0 = some ⟨g0, 0, none⟩ := by
    rw [hq0] at hrow
    rcases hrow.2 with ⟨e, e0⟩ | ⟨g, cap, cur, e, -⟩
    · omega
    · exact ⟨g, by simpa using (congrArg (fun v => match v with | .slice A _ _ => A | _ => none) e)⟩
  subst hA0
  have hcx : w.cell? ⟨g0, i, none⟩ = some (.slice Ax x.2.length cx) := by
    rw [hq0] at hrow
    have ha : ∀ j, ((⟨g0, 0, none⟩ : Addr).add j) = ⟨g0, j, none⟩ := fun j => by unfold Addr.add; split <;> simp_all
    have c1 := hrow.cells (g := g0) rfl i x.1 hxs
    rw [ha] at c1
    rw [c1, hxv]
  rw [hx2]
  have HS := Lib.hid fun W v k hv0 hv => send_any W nb m s lim F (h.kept k) a b [x.2] v hv0 (fun _ => hv) (by simpa using hml) hl
  clear h hq0 hx hxs hrow hul hxv hx2 hmo hmf
  generalize (s.q a b).length = qn at *
  go_enter Try.func19, Try.ntmps19
  go_wp2_with fail
  refine HW.out.mono ?_
  rintro e w1 ⟨rfl, hk1⟩
  have hcx1 := hk1.cell hcx
  go_wp2_with fail
  have hk2 := hk1.alloc (.cells #[.slice Ax x.2.length cx] 54)
  have hnew := heap_alloc_new w1 (.cells #[.slice Ax x.2.length cx] 54)
  have hlow : w.heap.size ≤ w1.heap.size := hk1.size
  have hpar : ∀ W, Chg (grow m a b) (w1.alloc (.cells #[.slice Ax x.2.length cx] 54)) W → Parts W (.slice (some ⟨w1.heap.size, 0, none⟩) 1 1) [x.2] := fun W c => by
    have hng : ¬ grow m a b w1.heap.size := by
      rintro (e | e)
      · have := World.ownsMap.lt H.out.qs; omega
      · have := ((H.out.rows a b ha hb).lt _ e).2; omega
    have c1 : W.cell? ⟨w1.heap.size, 0, none⟩ = some (.slice Ax x.2.length cx) := chg_cellS (F := grow m a b) c (by rw [cell_at hnew]; rfl) hng
    have hb := Bts.of_own (HMF.out _ W hk2 c)
    rw [HXV.out] at hb
    refine ⟨_, 1, rfl, Nat.le_refl _, by decide, fun _ => ⟨_, 0, rfl, fun k l hl => ?_⟩⟩
    match k, hl with
    | 0, hl =>
      obtain rfl : x.2 = l := by simpa using hl
      exact ⟨_, c1, hb⟩
  refine (HS.out _ _ hk2 (hpar _ (Chg.refl _ _)) hpar).mono ?_
  · rintro e w3 ⟨rfl, ⟨m', hN⟩, hC, -⟩
    have HN := Lib.hid hN
    have HC := Lib.hid hC
    clear hN hC
    go_wp2
    go_ret
    have hs := hk2.size
    refine ⟨rfl, ⟨m', HN.out.mono fun g y => ?_⟩, (Chg.of_kept hk2).trans HC.out (fun _ _ y => y)⟩
    rcases y with y | y
    · exact .inl y
    · exact .inr ⟨by omega, y.2⟩
theorem repeat_any (w : World) (nb : Nat) (m : NM) (s : NS) (lim : Nat) (F : Nat → Prop) (h : NetAt w nb m s lim F) (a b i : Int) (hl : lim < maxLen) :
    Calls Try.prog 19 #[.pointer (some ⟨nb, 0, none⟩), .int .i64 a, .int .i64 b, .int .i64 i] w fun e w' => e = .returned (.int .i64 (repE s a b i)) ∧ (∃ m', NetAt w' nb m' (repS s a b i) (lim + 1) (ext F w w')) ∧ Chg F w w' := by
  unfold repE repS
  by_cases hk : waitE s a b i = 0
  · have hm : msgS s a b i = (s.q a.toNat b.toNat).getD i.toNat [] := by unfold msgS; rw [if_pos hk]
    rw [if_pos hk, if_pos hk, hm]
    obtain ⟨a, b, i, rfl, rfl, rfl, ha, hb, hi⟩ := waitE_zero hk
    exact repeat_ok w nb m s lim F h a b i ha hb hi hl
  · rw [if_neg hk, if_neg hk]
    have HW := Lib.hid (waiting_bad w nb m s lim F h a b i hk)
    have H := Lib.hid h
    have hne := hk
    clear h
    generalize waitE s a b i = er at *
    have t1 : decide (er = 0) = false := by simpa using hne
    go_enter Try.func19, Try.ntmps19
    go_wp2_with fail
    refine HW.out.mono ?_
    rintro e w1 ⟨rfl, hk1⟩
    go_wp2
    go_ret
    exact ⟨rfl, ⟨m, ((H.out.kept hk1).mono (fun g x => .inl x)).more (by omega)⟩, Chg.of_kept hk1⟩
end Go.Proofs.Ytnpenabkmpoafaa
