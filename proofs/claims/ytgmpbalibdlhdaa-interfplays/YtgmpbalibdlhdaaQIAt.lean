/- The walk of Attr. -/
import Derived.Test.YtgmpbalibdlhdaaQINw
set_option linter.unusedSimpArgs false
set_option linter.unusedVariables false
namespace Go.Proofs.Ytgmpbalibdlhdaa
open Go.RowKit
def attS (c : Cm) (L : List It) : Int := if okK c.kind then seqT c L else 0
def attD (n : Nat) (c : Cm) (L : List It) : List Int := if okK c.kind then depT n c L else []
def attE (c : Cm) : Int := if okK c.kind then 0 else 100
/-- What Attr tells. -/
def AttrTo (w : World) (n : Nat) (c : Cm) (L : List It) (e : Ending) (w' : World) : Prop := ∃ v, e = .returned (.tuple #[.int .i64 (attS c L), v, .int .i64 (attE c)]) ∧ w'.ownsRow w.heap.size 3 1 v (attD n c L).length (iv (attD n c L)) ∧ Kept w w'
theorem AttrTo.bad {w w' : World} {n : Nat} {c : Cm} {L : List It} (h : okK c.kind = false) (k : Kept w w') : AttrTo w n c L (.returned (.tuple #[.int .i64 0, .slice none 0 0, .int .i64 100])) w' := by
  refine ⟨.slice none 0 0, by unfold attS attE; rw [h]; rfl, ?_, k⟩
  rw [show attD n c L = [] by unfold attD; rw [h]; rfl]
  exact World.ownsRow_nil _ _ _ _
theorem AttrTo.good {w w' : World} {n : Nat} {c : Cm} {L : List It} {v : Value} (h : okK c.kind = true) (hr : w'.ownsRow w.heap.size 3 1 v n (iv (depT n c L))) (k : Kept w w') : AttrTo w n c L (.returned (.tuple #[.int .i64 (ahT c L 0 + 1), v, .int .i64 0])) w' := by
  refine ⟨v, by unfold attS attE; rw [h]; rfl, ?_, k⟩
  rw [show attD n c L = depT n c L by unfold attD; rw [h]; rfl, depT_len]
  exact hr
set_option maxRecDepth 100000 in
set_option maxHeartbeats 2000000 in
theorem attr_any {w : World} {xb mb n : Nat} {st : TSt} {L : List It} (h : IxAt w xb mb n st L) (c : Cm) (hh : c.home.length ≤ 140737488355328) :
    Calls Try.prog 10 #[.pointer (some ⟨xb, 0, none⟩), c.v] w (AttrTo w n c L) := by
  have HI := Lib.hid (isKind_any c.kind)
  have HBD := Lib.hid (fun e k => AttrTo.bad (w := w) (w' := k) (n := n) (c := c) (L := L) e)
  have HGD := Lib.hid (fun v e k => AttrTo.good (w := w) (w' := k) (n := n) (c := c) (L := L) (v := v) e)
  have H := Lib.hid h
  have HAH := Lib.hid (fun X (k : Kept w X) e => ahead_any (h.kept k) c e hh)
  have HK1 := Lib.hid ((Kept.refl w).alloc (.cells #[.int .i64 c.kind, .string ⟨c.home.toArray⟩, c.dv] 34))
  have HC := Lib.hid (cells3 (heap_alloc_new w (.cells #[.int .i64 c.kind, .string ⟨c.home.toArray⟩, c.dv] 34)))
  have hl0 := tp_pos (pC c) L 0
  have hl1 := tp_le0 (p := pC c) h.good
  have HD := Lib.hid (show depT n c L = (List.range n).map fun r => ahT c L (r + 1) from rfl)
  have hn := h.size
  have hlt := h.lt.1
  change 0 ≤ ahT c L 0 at hl0
  change ahT c L 0 ≤ _ at hl1
  generalize depT n c L = D at *
  generalize ahT c L = R at *
  obtain ⟨kind, home, da, dn, dc⟩ := c
  unfold Cm.v Cm.dv at *
  simp only at *
  clear h hh
  cases hK : okK kind with
  | false =>
    rw [hK] at HI
    have hE := HBD.out hK
    have HE := Lib.hid hE
    clear hE hK
    go_enter Try.func10, Try.ntmps10
    go_wp2_with fail
    refine (HI.out _).mono ?_
    rintro e w1 ⟨rfl, rfl⟩
    go_wp2
    refine bodyPost_ret (v := .tuple #[.int .i64 0, .slice none 0 0, .int .i64 100]) (by simp [results, Try.results10, go_sem]) rfl ?_
    exact HE.out _ HK1.out
  | true =>
    rw [hK] at HI
    have HGD := Lib.hid (fun v => HGD.out v hK)
    have HAH := Lib.hid (fun X k => HAH.out X k hK)
    clear HBD
    clear hK
    go_enter Try.func10, Try.ntmps10
    go_upto_region 1 with (fail)
    generalize w.alloc (.cells #[.int .i64 kind, .string ⟨home.toArray⟩, .slice da dn dc] 34) = w1 at *
    obtain ⟨c0, c1, c2⟩ := HC.out
    go_wp2_with fail
    refine (HI.out _).mono ?_
    rintro e w2 ⟨rfl, rfl⟩
    go_wp2_with fail
    refine (HAH.out _ HK1.out).mono ?_
    rintro e w2 ⟨rfl, hk2⟩
    have HK2 := Lib.hid (HK1.out.trans hk2)
    unfold tv tcs
    clear c0 c1 c2 hk2 HAH HI HC
    have HB3 := Lib.hid (heap_alloc_new w2 (.cells (tcs R) 59))
    have HK3 := Lib.hid (HK2.out.alloc (.cells (tcs R) 59))
    unfold tcs at HB3 HK3
    go_upto_region 4 with (fail)
    generalize w2.alloc _ = w3 at *
    have hkd := (Kept.refl w3).drew
    have b0 : w3.cell? ⟨w2.heap.size, 0, none⟩ = some (.int .i64 (R 0)) := by rw [cell_at HB3.out]; rfl
    have x0 : w3.cell? ⟨xb, 0, none⟩ = some (.int .i64 (n : Int)) := (H.out.kept HK3.out).c0
    have HIN := Lib.hid (fun X (k : Kept w3 X) => show Ints X (.slice (some ⟨w2.heap.size, 1, none⟩) D.length 7) D from by
      have hD := HD.out
      have hl : D.length = n := by rw [hD]; simp
      refine ⟨_, _, rfl, by omega, by decide, fun _ => ⟨_, _, rfl, fun j x hx => ?_⟩⟩
      have hj : j < n := by have := (List.getElem?_eq_some_iff.1 hx).1; omega
      rw [hD, List.getElem?_map, List.getElem?_range hj] at hx
      obtain rfl : R (j + 1) = x := by simpa using hx
      refine k.cell ?_
      rw [cell_at HB3.out]
      have : j = 0 ∨ j = 1 ∨ j = 2 ∨ j = 3 ∨ j = 4 ∨ j = 5 ∨ j = 6 := by omega
      rcases this with rfl | rfl | rfl | rfl | rfl | rfl | rfl <;> rfl)
    have hDl : D.length = n := by rw [HD.out]; simp
    have HVC := Lib.hid (fun X (k : Kept w3 X) => vclone_any D _ X (HIN.out X k) (by omega) (by omega))
    rw [hDl] at HVC
    clear HIN HD hDl
    obtain ⟨hn1, hn7⟩ := hn
    have g1 : (0 : Int) ≤ (n : Int) := by omega
    have g2 : (n : Int) ≤ 7 := by omega
    have hw : IntKind.i64.wrap (R 0 + 1) = R 0 + 1 := IntWalk.i64_in _ (by omega)
    go_region_held3 (fun X => X.cell? ⟨w2.heap.size, 0, none⟩ = some (.int .i64 (R 0)) ∧ X.cell? ⟨xb, 0, none⟩ = some (.int .i64 (n : Int)) ∧ Kept w3 X)
      (refine ⟨Kept.cell ?_ b0, Kept.cell ?_ x0, ?_⟩ <;> repeat (first | exact Kept.refl _ | assumption | refine Kept.drew ?_))
      (first
        | (go_at_call 22; refine (HVC.out _ hkd).mono ?_; rintro e w4 ⟨v4, rfl, ho4, hk4⟩; have hq4 := hkd.trans hk4; have HO4 := Lib.hid ho4; clear ho4))
    all_goals
      have hfin := HGD.out v4 w4 (row_base HO4.out (Nat.le_trans HK3.out.size hkd.size)) (HK3.out.trans hq4)
      have HF := Lib.hid hfin
      obtain ⟨A4, c4, rfl⟩ := own_form HO4.out
      clear hfin
      go_wp2
      refine bodyPost_ret (v := .tuple #[.int .i64 (R 0 + 1), .slice A4 n c4, .int .i64 0]) (by simp [results, Try.results10, go_sem]) rfl ?_
      exact HF.out
end Go.Proofs.Ytgmpbalibdlhdaa
