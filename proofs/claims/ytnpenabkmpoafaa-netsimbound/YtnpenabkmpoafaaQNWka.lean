/- The walks of waiting and Deliver. -/
import Derived.Test.YtnpenabkmpoafaaQNWk9
set_option linter.unusedSimpArgs false
set_option linter.unusedVariables false
namespace Go.Proofs.Ytnpenabkmpoafaa
open Go.RowKit
def waitE (s : NS) (a b i : Int) : Int := if chk s.n [a, b] ≠ 0 then 60 else if i < 0 ∨ ((s.q a.toNat b.toNat).length : Int) ≤ i then 62 else 0
theorem waitE_zero {s : NS} {a b i : Int} (h : waitE s a b i = 0) : ∃ a' b' i' : Nat, a = a' ∧ b = b' ∧ i = i' ∧ a' < s.n ∧ b' < s.n ∧ i' < (s.q a' b').length := by
  unfold waitE at h
  split at h
  · cases h
  · rename_i hk
    split at h
    · cases h
    · rename_i hi
      obtain ⟨a, b, rfl, rfl, ha, hb⟩ := chk_two_inv (Classical.not_not.1 hk)
      exact ⟨a, b, i.toNat, rfl, rfl, by omega, ha, hb, by simp only [Int.toNat_natCast] at hi; omega⟩
set_option maxRecDepth 100000 in
set_option maxHeartbeats 1000000 in
theorem waiting_ok (w : World) (nb : Nat) (m : NM) (s : NS) (lim : Nat) (F : Nat → Prop) (h : NetAt w nb m s lim F) (a b i : Nat) (ha : a < s.n) (hb : b < s.n) (hi : i < (s.q a b).length) :
    Calls Try.prog 34 #[.pointer (some ⟨nb, 0, none⟩), .int .i64 (a : Int), .int .i64 (b : Int), .int .i64 (i : Int)] w fun e w' => e = .returned (.tuple #[qv m.D a b, .int .i64 0]) ∧ Kept w w' := by
  have hsm := h.small
  have HC := Lib.hid (count_any w nb m s lim F h a b)
  have hk := chk_two ha hb
  have hco : countE s a b = (s.q a b).length := by unfold countE; rw [if_pos hk]; rfl
  rw [hk, hco] at HC
  have hfl : (s.q a b).length ≤ 4096 := by have := h.full a b ha hb; have := h.roomy; omega
  have H := Lib.hid h
  obtain ⟨A0, c0, hq0⟩ := own_form (h.rows a b ha hb)
  have HQ0 := Lib.hid hq0
  have t1 : decide ((i : Int) < 0) = false := by simp
  have t2 : decide (((s.q a b).length : Int) ≤ (i : Int)) = false := by simp; omega
  clear h hk hco hq0
  generalize (s.q a b).length = qn at *
  go_enter Try.func34, Try.ntmps34
  go_wp2_with fail
  refine HC.out.mono ?_
  rintro e w1 ⟨rfl, hk1⟩
  have c2 := (H.out.kept hk1).c2
  have hq' := (H.out.kept hk1).qs.look (a := a) (b := b) (by omega) (by omega)
  rw [HQ0.out] at hq'
  unfold pv at hq'
  go_wp2
  go_ret2
  rw [HQ0.out]
  exact ⟨rfl, hk1⟩
set_option maxRecDepth 100000 in
set_option maxHeartbeats 1000000 in
theorem waiting_bad (w : World) (nb : Nat) (m : NM) (s : NS) (lim : Nat) (F : Nat → Prop) (h : NetAt w nb m s lim F) (a b i : Int) (hi : waitE s a b i ≠ 0) :
    Calls Try.prog 34 #[.pointer (some ⟨nb, 0, none⟩), .int .i64 a, .int .i64 b, .int .i64 i] w fun e w' => e = .returned (.tuple #[.slice none 0 0, .int .i64 (waitE s a b i)]) ∧ Kept w w' := by
  have HC := Lib.hid (count_any w nb m s lim F h a b)
  unfold waitE at *
  by_cases hk : chk s.n [a, b] = 0
  · rw [if_neg (by simp [hk])] at hi ⊢
    obtain ⟨a, b, rfl, rfl, ha, hb⟩ := chk_two_inv hk
    simp only [Int.toNat_natCast] at *
    have hco : countE s a b = (s.q a b).length := by unfold countE; rw [if_pos hk]; rfl
    rw [hk, hco] at HC
    have hfl : (s.q a b).length ≤ 4096 := by have := h.full a b ha hb; have := h.roomy; omega
    clear hk hco h
    by_cases h0 : i < 0
    · have t1 : decide (i < 0) = true := by simpa using h0
      rw [if_pos (.inl h0)]
      clear hi
      go_enter Try.func34, Try.ntmps34
      go_wp2_with fail
      refine HC.out.mono ?_
      rintro e w1 ⟨rfl, hk1⟩
      go_wp2
      go_ret2
      exact ⟨rfl, hk1⟩
    · have t1 : decide (i < 0) = false := by simpa using h0
      by_cases h1 : ((s.q a b).length : Int) ≤ i
      · have t2 : decide (((s.q a b).length : Int) ≤ i) = true := by simpa using h1
        rw [if_pos (.inr h1)]
        clear hi
        go_enter Try.func34, Try.ntmps34
        go_wp2_with fail
        refine HC.out.mono ?_
        rintro e w1 ⟨rfl, hk1⟩
        go_wp2
        go_ret2
        exact ⟨rfl, hk1⟩
      · rw [if_neg (by omega)] at hi
        exact absurd rfl hi
  · rw [if_pos hk]
    rcases chk_or s.n [a, b] with e | e
    · exact absurd e hk
    · rw [e] at HC
      clear hi h
      go_enter Try.func34, Try.ntmps34
      go_wp2_with fail
      refine HC.out.mono ?_
      rintro e w1 ⟨rfl, hk1⟩
      go_wp2
      go_ret2
      exact ⟨rfl, hk1⟩
theorem NInj.erase {l : List (Value × List UInt8)} (h : NInj l) (k : Nat) : NInj (l.eraseIdx k) := by
  intro i i' x x' g hx hx' hg hg'
  rw [List.getElem?_eraseIdx] at hx hx'
  split at hx <;> split at hx'
  · exact h i i' x x' g hx hx' hg hg'
  · have := h _ _ x x' g hx hx' hg hg'
    omega
  · have := h _ _ x x' g hx hx' hg hg'
    omega
  · have := h _ _ x x' g hx hx' hg hg'
    omega
/-- A queue without its message i, and the message: the message's block is nowhere in it. -/
theorem NInj.gone {l : List (Value × List UInt8)} (h : NInj l) {k : Nat} {x : Value × List UInt8} (hx : l[k]? = some x) {g : Nat} (hg : x.1.ownBlock = some g) : ∀ y ∈ l.eraseIdx k, y.1.ownBlock ≠ some g := by
  intro y hy e
  obtain ⟨j, hj⟩ := List.mem_iff_getElem?.1 hy
  rw [List.getElem?_eraseIdx] at hj
  split at hj
  · have := h k j x y g hx hj hg e
    omega
  · have := h k (j + 1) x y g hx hj hg e
    omega
set_option maxRecDepth 100000 in
set_option maxHeartbeats 1000000 in
theorem deliver_ok (w : World) (nb : Nat) (m : NM) (s : NS) (lim : Nat) (F : Nat → Prop) (h : NetAt w nb m s lim F) (a b i : Nat) (ha : a < s.n) (hb : b < s.n) (hi : i < (s.q a b).length) (hl : lim < maxLen) :
    Calls Try.prog 13 #[.pointer (some ⟨nb, 0, none⟩), .int .i64 (a : Int), .int .i64 (b : Int), .int .i64 (i : Int)] w fun e w' => ∃ x : Value × List UInt8, (m.us a b)[i]? = some x ∧ e = .returned (.tuple #[x.1, .int .i64 0]) ∧ (∃ m', NetAt w' nb m' (s.turn a b ((s.q a b).eraseIdx i)) (lim + 1) (fun g => ext F w w' g ∧ x.1.ownBlock ≠ some g)) ∧ w'.ownsRow 0 5 1 x.1 x.2.length (Lib.byteCells x.2) ∧ Chg (grow m a b) w w' := by
  have hsm := h.small
  have HW := Lib.hid (waiting_ok w nb m s lim F h a b i ha hb hi)
  have H := Lib.hid h
  obtain ⟨A0, c0, hq0⟩ := own_form (h.rows a b ha hb)
  have hul := h.ulen ha hb
  rw [hul] at hq0
  have HQ0 := Lib.hid hq0
  rw [hq0] at HW
  have hfl : (s.q a b).length ≤ 4096 := by have := h.full a b ha hb; have := h.roomy; omega
  obtain ⟨x, hx⟩ : ∃ x, (m.us a b)[i]? = some x := ⟨(m.us a b)[i]'(by omega), by simp⟩
  have HX := Lib.hid hx
  have hrow := h.rows a b ha hb
  have hxs : ((m.us a b).map Prod.fst)[i]? = some x.1 := by rw [List.getElem?_map, hx]; rfl
  have hslices : ∀ y ∈ (m.us a b).map Prod.fst, ∃ A n c, y = Value.slice A n c := fun y hy => by
    obtain ⟨z, hz, rfl⟩ := List.mem_map.1 hy
    obtain ⟨A, c, e⟩ := own_form (h.msgs a b ha hb z hz)
    exact ⟨A, _, c, e⟩
  have HSL := Lib.hid hslices
  obtain ⟨Ax, cx, hxv⟩ := own_form (h.msgs a b ha hb x (List.mem_of_getElem? hx))
  have HXV := Lib.hid hxv
  obtain ⟨g0, hA0⟩ : ∃ g0, A0 = some ⟨g0, 0, none⟩ := by
    rw [hq0] at hrow
    rcases hrow.2 with ⟨e, e0⟩ | ⟨g, cap, cur, e, -⟩
    · omega
    · exact ⟨g, by simpa using (congrArg (fun v => match v with | .slice A _ _ => A | _ => none) e)⟩
  subst hA0
  have hcx : w.cell? ⟨g0, i, none⟩ = some (.slice Ax x.2.length cx) := by
    rw [hq0] at hrow
    have ha : ∀ j, ((⟨g0, 0, none⟩ : Addr).add j) = ⟨g0, j, none⟩ := fun j => by unfold Addr.add; split <;> simp_all
    have c1 := hrow.cells (g := g0) rfl i x.1 hxs
    rw [ha] at c1
    rw [c1, hxv]
  rw [hq0] at hrow
  have HROW := Lib.hid hrow
  have HUL := Lib.hid hul
  clear h hq0 hx hxs hslices hrow hul hxv
  generalize hqn : (s.q a b).length = qn at *
  have HQN := Lib.hid hqn
  clear hqn
  go_enter Try.func13, Try.ntmps13
  go_wp2_with fail
  refine HW.out.mono ?_
  rintro e w1 ⟨rfl, hk1⟩
  have hcx1 := hk1.cell hcx
  have c2 := (H.out.kept hk1).c2
  have hmlen : ((m.us a b).map Prod.fst).length = qn := by rw [List.length_map]; exact HUL.out
  have HDEL := Lib.hid (show ∀ W, Kept w1 W → _ from fun W k => delete_any (.slice (some ⟨g0, 0, none⟩) qn c0) ((m.us a b).map Prod.fst) i W (by
    rw [hmlen, ← HUL.out]
    exact own_kept (own_kept HROW.out hk1) k |> fun y => by simpa [HUL.out] using y) HSL.out (by omega))
  have hci : ((i + 1 : Nat) : Int) = (i : Int) + 1 := by omega
  rw [hci] at HDEL
  have hwr : IntKind.i64.wrap ((i : Int) + 1) = (i : Int) + 1 := IntWalk.i64_in _ (by omega)
  have hnb : ¬ g0 = nb := fun e => (H.out.aside ha hb H.out.net (by decide)) (.inr (by rw [HQ0.out, ← e]; rfl))
  have hqne : ¬ g0 = m.qb := fun e => by
    obtain ⟨cur, h1⟩ := own_type (H.out.rows a b ha hb) (g := g0) (by rw [HQ0.out]; rfl)
    exact map_ne_cells H.out.qs h1 e
  have hk1' := (Kept.refl w1).drew
  clear hci hmlen
  go_wp2
  go_region_held3 (fun W => W.cell? ⟨nb, 2, none⟩ = some (.map (some m.qb)))
    (first | exact c2 | exact z2 | exact y2)
    (first
      | (go_at_call 35; refine (HDEL.out _ hk1').mono ?_; rintro e w2 ⟨v2, rfl, ho2, hv2, hc2⟩; have hc2' : Chg (fun g => g = g0) w1 w2 := (Chg.of_kept hk1').trans (hc2.mono fun g _ e => by simpa [Value.ownBlock] using e.symm) (fun _ _ x => x); have z2 := chg_cellS hc2' c2 (fun e => hnb e.symm); obtain ⟨w3, hrun3, ho3, hg3⟩ := OwnsP.store (map_chg (H.out.kept hk1).qs hc2' (fun e => hqne e.symm)) (by omega) (a := a) (b := b) (by omega) (by omega) v2; unfold pv at hrun3; have hc3 : Chg (fun g => g = m.qb) w2 w3 := Chg.of_grown hg3 (fun g hg _ => by cases hg; rfl); have y2 := chg_cellS hc3 z2 (map_ne_cells H.out.qs H.out.net)))
  go_wp2
  go_ret2
  have hb0 : (qv m.D a b).ownBlock = some g0 := by rw [HQ0.out]; rfl
  have hC : Chg (grow m a b) w w3 := ((Chg.of_kept hk1).trans (hc2'.mono (G := grow m a b) fun g _ e => by subst e; exact .inr hb0) (fun _ _ y => y)).trans (hc3.mono (G := grow m a b) fun g _ e => .inl e) (fun _ _ y => y)
  have hD : Maps.IsMap m.D := World.ownsMap.isMap H.out.qs
  have hvs : qv (m.D.put (kl a b) (.held v2)) a b = v2 := qv_put_same hD (by omega) (by omega) _
  have hmsg : ∀ y ∈ m.us a b, w3.ownsRow 0 5 1 y.1 y.2.length (Lib.byteCells y.2) := fun y hy => own_chg (H.out.msgs a b ha hb y hy) hC (fun g hg => by
    obtain ⟨cur, h1⟩ := own_type (H.out.msgs a b ha hb y hy) hg
    exact H.out.aside ha hb h1 (by decide))
  have hel : ((m.us a b).map Prod.fst).eraseIdx i = ((m.us a b).eraseIdx i).map Prod.fst := by rw [List.eraseIdx_eq_take_drop_succ, List.eraseIdx_eq_take_drop_succ, List.map_append, List.map_take, List.map_drop]
  have hes : ((m.us a b).eraseIdx i).map Prod.snd = (s.q a b).eraseIdx i := by rw [← H.out.same a b ha hb, List.eraseIdx_eq_take_drop_succ, List.eraseIdx_eq_take_drop_succ, List.map_append, List.map_take, List.map_drop]
  rw [hel, List.length_map] at ho2
  have hinj := H.out.inj ha hb
  have hxm := List.mem_of_getElem? HX.out
  have hell : ((m.us a b).eraseIdx i).length ≤ qn := by have := List.length_eraseIdx_le (m.us a b) i; have := HUL.out; omega
  have hN := H.out.turn (w := w) (w' := w3) (lim' := lim + 1) (D' := m.D.put (kl a b) (.held v2)) ha hb (us' := (m.us a b).eraseIdx i) (by omega) ho3 (fun a' b' ha' hb' hne => qv_put_other (kl_ne (by omega) (by omega) (by omega) (by omega) hne) _) hC
    (by
      rw [hvs]
      exact own_chg ho2 hc3 (fun g hg e => by
        rw [hv2] at hg
        have : g0 = g := by simpa [Value.ownBlock] using hg
        omega))
    (fun y hy => hmsg y (List.mem_of_mem_eraseIdx hy))
    (fun g hg => by
      rw [hvs, hv2] at hg
      rw [HQ0.out]
      exact .inl hg)
    (fun y hy => .inl (List.mem_of_mem_eraseIdx hy))
    (hinj.erase i) (by have := H.out.full a b ha hb; have := HQN.out; omega) (fun y hy => H.out.light a b ha hb y.2 (by rw [← H.out.same a b ha hb]; exact List.mem_map_of_mem (List.mem_of_mem_eraseIdx hy)))
  rw [hes] at hN
  have hfin : NetAt w3 nb (m.turn a b (m.D.put (kl a b) (.held v2)) ((m.us a b).eraseIdx i)) (s.turn a b ((s.q a b).eraseIdx i)) (lim + 1) (fun g => ext F w w3 g ∧ x.1.ownBlock ≠ some g) := by
    cases hob : x.1.ownBlock with
    | none => exact hN.mono fun g y => ⟨y, by simp⟩
    | some gx =>
      obtain ⟨cur, hcur⟩ := own_type (hmsg x hxm) hob
      refine (hN.avoid hcur (fun a' b' y ha' hb' hy => ?_)).mono fun g y => ⟨y.1, fun e => y.2 (by simpa using e.symm)⟩
      have hy : y ∈ upd m.us a b ((m.us a b).eraseIdx i) a' b' := hy
      have ha' : a' < s.n := ha'
      have hb' : b' < s.n := hb'
      by_cases e : a' = a ∧ b' = b
      · obtain ⟨rfl, rfl⟩ := e
        rw [upd_same] at hy
        exact hinj.gone HX.out hob y hy
      · rw [upd_other _ _ e] at hy
        intro hyb
        obtain ⟨j, hj⟩ := List.mem_iff_getElem?.1 hy
        obtain ⟨q1, q2, -⟩ := H.out.msgAp a b i x a' b' j y gx ha hb ha' hb' HX.out hj hob hyb
        exact e ⟨q1, q2⟩
  exact ⟨x, HX.out, by rw [HXV.out]; rfl, ⟨_, hfin⟩, hmsg x hxm, hC⟩
end Go.Proofs.Ytnpenabkmpoafaa
