/- The walk of Advance. -/
import Derived.Test.YtnpenabkmpoafaaQNWk6
set_option linter.unusedSimpArgs false
set_option linter.unusedVariables false
namespace Go.Proofs.Ytnpenabkmpoafaa
open Go.RowKit
/-- The clocks behind Advance, none: one would go too far. -/
def adv (ticks : Int) : List Nat → List Int → Option (List Nat)
  | t, [] => some t
  | t, x :: r => if ticks > 1099511627776 - ((t.getD x.toNat 0 : Nat) : Int) then none else adv ticks (t.set x.toNat (t.getD x.toNat 0 + ticks.toNat)) r
def advE (s : NS) (ticks : Int) (l : List Int) : Int := if chk s.n l ≠ 0 then 60 else if ticks < 0 then 63 else if (adv ticks s.t l).isNone then 63 else 0
def advS (s : NS) (ticks : Int) (l : List Int) : NS := if advE s ticks l = 0 then { s with t := (adv ticks s.t l).getD s.t } else s
theorem getD_le {t : List Nat} (h : ∀ x ∈ t, x ≤ 1099511627776) (i : Nat) : t.getD i 0 ≤ 1099511627776 := by
  by_cases hi : i < t.length
  · rw [List.getD_eq_getElem?_getD, List.getElem?_eq_getElem hi]
    exact h _ (List.getElem_mem hi)
  · rw [List.getD_eq_getElem?_getD, List.getElem?_eq_none (by omega)]
    exact Nat.zero_le _
theorem set_le {t : List Nat} (h : ∀ x ∈ t, x ≤ 1099511627776) {i y : Nat} (hy : y ≤ 1099511627776) : ∀ x ∈ t.set i y, x ≤ 1099511627776 := fun x hx => by
  rcases List.mem_or_eq_of_mem_set hx with e | e
  · exact h x e
  · omega
set_option maxRecDepth 100000 in
set_option maxHeartbeats 1000000 in
theorem advance_ok (w : World) (nb : Nat) (m : NM) (s : NS) (lim : Nat) (F : Nat → Prop) (h : NetAt w nb m s lim F) (ticks : Int) (l : List Int) (v : Value) (hv : Ints w v l) (hk : chk s.n l = 0) (ht : 0 ≤ ticks) (ht2 : ticks ≤ 9223372036854775807) (er : Int) (he : (if (adv ticks s.t l).isNone then 63 else 0) = er) (t9 : List Nat) (h9 : (adv ticks s.t l).getD s.t = t9) :
    Calls Try.prog 28 #[.pointer (some ⟨nb, 0, none⟩), .int .i64 ticks, v] w fun e w' => e = .returned (.int .i64 er) ∧ NetAt w' nb m { s with t := t9 } lim F ∧ Chg F w w' := by
  have HE := Lib.hid he
  have H9 := Lib.hid h9
  clear he h9
  have hsm := h.small
  have HCK := Lib.hid (check_any l v nb s.n _ _ w hv h.c0 hsm)
  rw [hk] at HCK
  have HV := Lib.hid hv
  obtain ⟨A, c, rfl, hc1, hc2, -⟩ := hv
  unfold maxLen at hc2
  have H := Lib.hid h
  have HK := Lib.hid hk
  have hc0 := h.c0
  have t1 : decide (ticks < 0) = false := by simpa using ht
  clear h hk
  go_enter Try.func28, Try.ntmps28
  go_wp2_with fail
  refine HCK.out.mono ?_
  rintro e w1 ⟨rfl, rfl⟩
  have hzl : (List.map (fun x : Nat => (x : Int)) s.t).length = s.n := by rw [List.length_map]; exact H.out.tlen
  have HCL := Lib.hid (Try.slices_Clone_int m.tb 0 s.n s.n (List.map (fun x : Nat => (x : Int)) s.t) w1 (by omega) (by omega) (fun j hj => by
    rw [Nat.zero_add, cell_at H.out.tms]
    have hj : j < s.t.length := by simpa using hj
    simp [Iv, List.getD, hj]))
  go_wp2_with fail
  refine HCL.out.mono ?_
  rintro e w2 ⟨v2, rfl, ho2, hv2, hk2⟩
  have e1 : (List.take s.n (List.map (fun x : Nat => (x : Int)) s.t)).map (Value.int .i64) = s.t.map Iv := by
    rw [List.take_of_length_le (by omega), List.map_map]
    rfl
  rw [e1] at ho2
  have hk2 : Kept w1 w2 := hk2
  obtain ⟨g, cap, rfl⟩ : ∃ g cap, v2 = .slice (some ⟨g, 0, none⟩) s.n cap := by
    rcases ho2.2 with ⟨rfl, -⟩ | ⟨g, cap, cur, rfl, -⟩
    · exact absurd rfl hv2
    · exact ⟨g, cap, rfl⟩
  have HO2 := Lib.hid ho2
  have hg := (ho2.lt g rfl)
  clear ho2 hv2 e1 hzl
  go_wp2
  go_loopw [26] (fun i W => ∃ (k : Nat) (t' : List Nat), i = .int .i64 (k : Int) ∧ k ≤ l.length ∧ adv ticks s.t l = adv ticks t' (l.drop k) ∧ t'.length = s.n ∧ (∀ x ∈ t', x ≤ 1099511627776) ∧ W.ownsRow w1.heap.size 3 1 (.slice (some ⟨g, 0, none⟩) s.n cap) s.n (t'.map Iv) ∧ Kept w1 W) (fun i _ => l.length - (intOf i).toNat)
  case atStart => exact ⟨0, s.t, rfl, Nat.zero_le _, rfl, H.out.tlen, H.out.late, HO2.out, hk2⟩
  case round =>
    obtain ⟨k, t', rfl, hk, hadv, htl, hlate, hO, hK⟩ := hrel
    have HADV := Lib.hid hadv
    have HTL := Lib.hid htl
    have HLA := Lib.hid hlate
    have HO := Lib.hid hO
    clear hadv htl hlate hO
    by_cases hlt : k < l.length
    · obtain ⟨b, o, rfl, hcell⟩ := (HV.out.kept hK).at' hlt
      obtain ⟨x, hx, hxn⟩ := chk_all HK.out hlt
      have g1 : (k : Int) < (l.length : Int) := by omega
      have hdr : l.drop k = (x : Int) :: l.drop (k + 1) := by rw [List.drop_eq_getElem_cons hlt, hx]
      have HDR := Lib.hid hdr
      rw [hx] at hcell
      have hcx : wr.cell? ⟨g, x, none⟩ = some (.int .i64 ((t'.getD x 0 : Nat) : Int)) := by
        have ha : ∀ j, ((⟨g, 0, none⟩ : Addr).add j) = ⟨g, j, none⟩ := fun j => by unfold Addr.add; split <;> simp_all
        have c1 := HO.out.cells (g := g) rfl x (.int .i64 ((t'.getD x 0 : Nat) : Int)) (by have := HTL.out; simp [Iv, List.getD, show x < t'.length by omega])
        rwa [ha] at c1
      have hfx : wr.frozen? ⟨g, x, none⟩ = false := by
        rcases HO.out.2 with ⟨e, -⟩ | ⟨g', cap', cur, e, -, h1, -⟩
        · cases e
        · obtain ⟨rfl, -⟩ : g = g' ∧ cap = cap' := by simpa using e
          exact frozen_at h1 x
      have hle := getD_le HLA.out x
      have HY := Lib.hid (show ∃ y, t'.getD x 0 = y from ⟨_, rfl⟩)
      clear hdr hx
      generalize hy : t'.getD x 0 = y at *
      have HGY := Lib.hid hy
      clear hy
      by_cases hbig : ticks > 1099511627776 - (y : Int)
      · have t2 : decide (1099511627776 - (y : Int) < ticks) = true := by simpa using hbig
        have hnone : adv ticks s.t l = none := by
          rw [HADV.out, HDR.out]
          unfold adv
          rw [if_pos (by rw [show ((x : Int)).toNat = x from rfl, HGY.out]; exact hbig)]
        have HNO := Lib.hid hnone
        have h64 : IntKind.i64.wrap (1099511627776 - (y : Int)) = 1099511627776 - (y : Int) := IntWalk.i64_in _ (by omega)
        clear hnone
        go_wp2
        go_ret
        have he := HE.out
        have h9 := H9.out
        rw [HNO.out] at he h9
        refine ⟨ret_int' he, ?_, Chg.of_kept hK⟩
        rw [← h9]
        exact H.out.kept hK
      · have t2 : decide (1099511627776 - (y : Int) < ticks) = false := by simpa using hbig
        obtain ⟨tk, rfl⟩ : ∃ tk : Nat, ticks = tk := ⟨ticks.toNat, by omega⟩
        have hsome : adv tk s.t l = adv tk (t'.set x (y + tk)) (l.drop (k + 1)) := by
          rw [HADV.out, HDR.out]
          show (if _ then _ else _) = _
          rw [if_neg (by rw [show ((x : Int)).toNat = x from rfl, HGY.out]; exact hbig), show ((x : Int)).toNat = x from rfl, HGY.out]
          rfl
        have HSO := Lib.hid hsome
        have h64 : IntKind.i64.wrap (1099511627776 - (y : Int)) = 1099511627776 - (y : Int) := IntWalk.i64_in _ (by omega)
        have h65 : IntKind.i64.wrap ((y : Int) + (tk : Int)) = (y : Int) + (tk : Int) := IntWalk.i64_in _ (by omega)
        clear hsome
        have hc : Chg (fun k => k = g) wr (wr.setCell ⟨g, x, none⟩ (.int .i64 ((y : Int) + (tk : Int)))) := (Chg.refl _ wr).setCell _ (fun _ => rfl)
        go_wp2
        go_roundw
        case rel =>
          refine ⟨k + 1, t'.set x (y + tk), by go_num, by omega, HSO.out, by rw [List.length_set]; exact HTL.out, set_le HLA.out (by omega), ?_, hc.kept hK (fun k e => by rw [e]; exact hg.1)⟩
          have := own_set HO.out (g := g) rfl x (.int .i64 ((y : Int) + (tk : Int)))
          rw [List.map_set]
          exact this
        case measure => simp [intOf]; omega
    · obtain rfl : k = l.length := by omega
      have hc9 := (H.out.kept hK).c0
      have htm := (H.out.kept hK).tms
      have HCP := Lib.hid (show (t'.map Iv).length = Nat.min s.n s.n by rw [List.length_map, HTL.out]; exact (Nat.min_self _).symm)
      have hsrc : ∀ j v, (t'.map Iv)[j]? = some v → wr.cell? ((⟨g, 0, none⟩ : Addr).add j) = some v := fun j v hj => HO.out.cells (g := g) rfl j v hj
      have HSRC := Lib.hid hsrc
      have hone : ∀ v ∈ t'.map Iv, v.oneCell' = true := fun v hv => by
        obtain ⟨y, -, rfl⟩ := List.mem_map.1 hv
        rfl
      have HONE := Lib.hid hone
      have HTM := Lib.hid htm
      clear hsrc hone htm
      have htl := HTL.out
      have hsl := H.out.tlen
      have hfin : adv ticks s.t l = some t' := by
        rw [HADV.out, List.drop_of_length_le (by omega)]
        rfl
      have HFIN := Lib.hid hfin
      clear hfin
      go_wp2_with (refine wpList_copy_own (o := ⟨some 50, _, _, _, _, _⟩) rfl (.tmp 48) (.tmp 49) 37 37 rfl 3 Try.underlying37 size_int m.tb 0 s.n s.n ⟨g, 0, none⟩ s.n cap rfl rfl _ 3 HTM.out (t'.map Iv) HCP.out HSRC.out (by simp; omega) HONE.out ?_)
      go_wp2
      go_ret
      have he := HE.out
      have h9 := H9.out
      rw [HFIN.out] at he h9
      have hC : ∀ X : Array Value, Chg (fun k => k = m.tb) wr (wr.setRow m.tb X) := fun X => ⟨rfl, rfl, rfl, by simp, fun k _ hk => setRow_other wr m.tb k _ hk⟩
      have hN : ∀ X : Array Value, X = (t'.map Iv).toArray → NetAt (wr.setRow m.tb X) nb m { s with t := t' } lim F := fun X hX => (H.out.kept hK).tick (t' := t') (by rw [setRow_heap wr m.tb _ _ _ _ HTM.out, hX]) HTL.out HLA.out (hC X)
      refine ⟨ret_int' he, ?_, (Chg.of_kept hK).trans ((hC _).mono fun k _ e => by subst e; exact H.out.inT) (fun _ _ x => x)⟩
      rw [← h9]
      exact hN _ (by simp [htl, hsl])
theorem advance_any (w : World) (nb : Nat) (m : NM) (s : NS) (lim : Nat) (F : Nat → Prop) (h : NetAt w nb m s lim F) (ticks : Int) (l : List Int) (v : Value) (hv : Ints w v l) (ht2 : ticks ≤ 9223372036854775807) :
    Calls Try.prog 28 #[.pointer (some ⟨nb, 0, none⟩), .int .i64 ticks, v] w fun e w' => e = .returned (.int .i64 (advE s ticks l)) ∧ NetAt w' nb m (advS s ticks l) lim F ∧ Chg F w w' := by
  have hsm := h.small
  have HCK := Lib.hid (check_any l v nb s.n _ _ w hv h.c0 hsm)
  by_cases hk : chk s.n l = 0
  · by_cases ht : ticks < 0
    · have hE : advE s ticks l = 63 := by unfold advE; rw [if_neg (by simp [hk]), if_pos ht]
      have hS : advS s ticks l = s := by unfold advS; rw [hE]; rfl
      rw [hE, hS]
      rw [hk] at HCK
      have H := Lib.hid h
      have t1 : decide (ticks < 0) = true := by simpa using ht
      clear h hv hE hS
      go_enter Try.func28, Try.ntmps28
      go_wp2_with fail
      refine HCK.out.mono ?_
      rintro e w1 ⟨rfl, rfl⟩
      go_wp2
      go_ret
      exact ⟨rfl, H.out, Chg.refl _ _⟩
    · have hE : advE s ticks l = if (adv ticks s.t l).isNone then 63 else 0 := by unfold advE; rw [if_neg (by simp [hk]), if_neg ht]
      have hS : advS s ticks l = { s with t := (adv ticks s.t l).getD s.t } := by
        unfold advS
        rw [hE]
        cases adv ticks s.t l with
        | none => rfl
        | some t' => rfl
      rw [hE, hS]
      exact advance_ok w nb m s lim F h ticks l v hv hk (by omega) ht2 _ rfl _ rfl
  · have hE : advE s ticks l = 60 := by unfold advE; rw [if_pos hk]
    have hS : advS s ticks l = s := by unfold advS; rw [hE]; rfl
    rw [hE, hS]
    rcases chk_or s.n l with e | e
    · exact absurd e hk
    · rw [e] at HCK
      have H := Lib.hid h
      clear h hv hE hS
      go_enter Try.func28, Try.ntmps28
      go_wp2_with fail
      refine HCK.out.mono ?_
      rintro e w1 ⟨rfl, rfl⟩
      go_wp2
      go_ret
      exact ⟨rfl, H.out, Chg.refl _ _⟩
end Go.Proofs.Ytnpenabkmpoafaa
