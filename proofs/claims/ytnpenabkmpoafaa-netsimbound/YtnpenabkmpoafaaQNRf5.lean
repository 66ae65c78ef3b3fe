/- The document's Cut. -/
import Derived.Test.YtnpenabkmpoafaaQNRf4
set_option linter.unusedSimpArgs false
set_option linter.unusedVariables false
namespace Go.Proofs.Ytnpenabkmpoafaa
open Go.RowKit
theorem RefAt.setCut {w : World} {db : Nat} {Z : Array Value} {lv : Value} {vs : List Sent} {d : RS} {G : Nat → Prop} (h : RefAt w db Z lv vs d G) {a b : Nat} (ha : a < 32) (hb : b < 32) :
    RefAt (w.setCell ⟨db, 3 + a * 32 + b, none⟩ (.bool true)) db (Z.setIfInBounds (3 + a * 32 + b) (.bool true)) lv vs { d with cut := upd d.cut a b true } G := by
  have hcs : Chg (fun g => g = db) w (w.setCell ⟨db, 3 + a * 32 + b, none⟩ (.bool true)) := (Chg.refl _ _).setCell _ (fun _ => rfl)
  refine ⟨Lib.heap_setCell_same h.net _, h.cells.setCut ha hb, own_chg h.row hcs fun g hg e => ?_, fun y hy => own_chg (h.vals y hy) hcs fun g hg e => ?_, h.same, h.small, h.roomy, h.few, h.inN, h.inL, h.inV⟩
  · subst e; exact h.apart hg
  · subst e
    obtain ⟨c1, h1⟩ := own_type (h.vals y hy) hg
    have h2 := h.net
    rw [h1] at h2
    simp only [Option.some.injEq, Obj.cells.injEq] at h2
    exact absurd h2.2.1 (by decide)
/-- A list of some of these takes the list's place. -/
theorem RefAt.setRow {w W : World} {db : Nat} {Z : Array Value} {lv ov : Value} {vs os : List Sent} {d : RS} {G G' : Nat → Prop} (h : RefAt w db Z lv vs d G) (k : Kept w W) (p : W.ownsRow 0 81 3 ov os.length (cells3 os)) (fresh : ∀ g, ov.ownBlock = some g → w.heap.size ≤ g)
    (hsub : ∀ y ∈ os, y ∈ vs) (hlen : os.length ≤ 5000000) {l : List (Int × Int × List UInt8)} (hl : os.map bare = l) (hG : ∀ g, G g → G' g) (hnew : ∀ g, w.heap.size ≤ g → g < W.heap.size → G' g) :
    RefAt (W.setCell ⟨db, 2, none⟩ ov) db (Z.setIfInBounds 2 ov) ov os { d with list := l } G' := by
  have hcs : Chg (fun g => g = db) W (W.setCell ⟨db, 2, none⟩ ov) := (Chg.refl _ _).setCell _ (fun _ => rfl)
  have hk := h.kept k
  have hdb : db < w.heap.size := (Array.getElem?_eq_some_iff.1 h.net).1
  refine ⟨Lib.heap_setCell_same hk.net ov, hk.cells.setList _ _, own_chg p hcs fun g hg e => ?_, fun y hy => own_chg (hk.vals y (hsub y hy)) hcs fun g hg e => ?_, hl, h.small, h.roomy, hlen, hG _ h.inN, fun g hg => hnew g (fresh g hg) (p.lt g hg).2, fun y hy g hg => hG _ (h.inV y (hsub y hy) g hg)⟩
  · have := fresh g hg; omega
  · subst e
    obtain ⟨c1, h1⟩ := own_type (hk.vals y (hsub y hy)) hg
    have h2 := hk.net
    rw [h1] at h2
    simp only [Option.some.injEq, Obj.cells.injEq] at h2
    exact absurd h2.2.1 (by decide)
def offPair (a b : Int) (y : Int × Int × List UInt8) : Bool := !(isAt a b y || isAt b a y)
def rCutE (d : RS) (a b : Int) : Int := if badR d a b then 60 else 0
def rCutS (d : RS) (a b : Int) : RS := if badR d a b then d else { d with cut := upd (upd d.cut a.toNat b.toNat true) b.toNat a.toNat true, list := d.list.filter (offPair a b) }
theorem out_more {w0 wr W w5 : World} {ov v5 : Value} (hK : Kept w0 wr) (k2 : Kept wr W) (p2 : W.grownBy w5 ov.ownBlock) (p3 : v5.ownBlock = ov.ownBlock ∨ v5.ownBlock = some W.heap.size) (hfr : ∀ g, ov.ownBlock = some g → w0.heap.size ≤ g) : Kept w0 w5 ∧ ∀ g, v5.ownBlock = some g → w0.heap.size ≤ g := by
  refine ⟨Chg.kept (hK.trans k2) (Chg.of_grown p2 (F := fun g => ov.ownBlock = some g) (fun g hg _ => hg)) hfr, fun g hg => ?_⟩
  rcases p3 with e | e
  · exact hfr g (e ▸ hg)
  · rw [hg] at e
    injection e with e
    have := (hK.trans k2).size
    omega
theorem cell_new3' (w : World) (u v x : Value) (t : TypeId) {n : Nat} (hn : w.heap.size = n) : ∀ j y, ([u, v, x] : List Value)[j]? = some y → (w.alloc (.cells #[u, v, x] t)).cell? ⟨n, j, none⟩ = some y := by
  subst hn
  exact cell_new3 w u v x t
theorem keep_succ (p : Sent → Bool) {vs : List Sent} {k : Nat} (hk : k < vs.length) : (vs.take (k + 1)).filter p = (vs.take k).filter p ++ if p vs[k] then [vs[k]] else [] := by
  rw [List.take_succ_eq_append_getElem hk, List.filter_append]
  congr 1
  by_cases h : p vs[k] = true
  · rw [if_pos h, List.filter_cons_of_pos h]; rfl
  · rw [if_neg h, List.filter_cons_of_neg h]; rfl
set_option maxRecDepth 100000 in
set_option maxHeartbeats 1000000 in
theorem refCut_any (a b : Int) (w : World) (db : Nat) (Z : Array Value) (lv : Value) (vs : List Sent) (d : RS) (G : Nat → Prop) (h : RefAt w db Z lv vs d G) :
    Calls Try.prog 22 #[.pointer (some ⟨db, 0, none⟩), .int .i64 a, .int .i64 b] w fun e w' => e = .returned (.int .i64 (rCutE d a b)) ∧ RefTo w w' db (rCutS d a b) G := by
  have hn := h.small
  have HB := Lib.hid (bad_any a b w db d hn h.c0)
  by_cases hbad : badR d a b = true
  · unfold rCutE rCutS
    rw [if_pos hbad, if_pos hbad]
    rw [hbad] at HB
    have H := Lib.hid h
    clear h hbad
    go_enter Try.func22, Try.ntmps22
    go_wp2_with fail
    refine HB.out.mono ?_
    rintro e w1 ⟨rfl, rfl⟩
    go_wp2
    go_ret
    exact ⟨rfl, RefTo.same H.out (by first | exact Kept.refl _ | exact (Kept.refl _).drew | exact (Kept.refl _).drew.drew)⟩
  have hbad : badR d a b = false := by simpa using hbad
  obtain ⟨a', b', rfl, rfl, ha, hb⟩ := badR_false hbad
  unfold rCutE rCutS
  rw [if_neg (by simp [hbad]), if_neg (by simp [hbad])]
  rw [hbad] at HB
  have ha32 : a' < 32 := by omega
  have hb32 : b' < 32 := by omega
  have H2 := Lib.hid ((h.setCut ha32 hb32).setCut hb32 ha32)
  have hC2 : Chg G w ((w.setCell ⟨db, 3 + a' * 32 + b', none⟩ (.bool true)).setCell ⟨db, 3 + b' * 32 + a', none⟩ (.bool true)) := ((Chg.refl _ _).setCell _ (fun _ => h.inN)).setCell _ (fun _ => h.inN)
  have HC2 := Lib.hid hC2
  have cc1 := h.cc ha32 hb32
  have cc2 := (h.setCut ha32 hb32).cc hb32 ha32
  have f1 : w.frozen? ⟨db, 3 + a' * 32 + b', none⟩ = false := frozen_at h.net _
  have f2 : (w.setCell ⟨db, 3 + a' * 32 + b', none⟩ (.bool true)).frozen? ⟨db, 3 + b' * 32 + a', none⟩ = false := frozen_at (h.setCut ha32 hb32).net _
  have hfew := h.few
  have hdb : db < w.heap.size := (Array.getElem?_eq_some_iff.1 h.net).1
  obtain ⟨A, c, rfl⟩ := own_form h.row
  clear h hbad hC2
  go_enter Try.func22, Try.ntmps22
  go_wp2_with fail
  refine HB.out.mono ?_
  rintro e w1 ⟨rfl, rfl⟩
  go_wp2
  go_region
  clear cc1 cc2 f1 f2
  generalize hZ2 : (Z.setIfInBounds (3 + a' * 32 + b') (.bool true)).setIfInBounds (3 + b' * 32 + a') (.bool true) = Z2 at *
  generalize hw2 : (w1.setCell ⟨db, 3 + a' * 32 + b', none⟩ (.bool true)).setCell ⟨db, 3 + b' * 32 + a', none⟩ (.bool true) = w2 at *
  clear hZ2 hw2
  have c2 := H2.out.c2
  have K0 := (Kept.refl w2).drew
  go_wp2
  go_loopw [7, 8] (fun o i W => ∃ k : Nat, i = .int .i64 (k : Int) ∧ k ≤ vs.length ∧ Kept w2 W ∧ W.ownsRow 0 81 3 o ((vs.take k).filter fun y => offPair a' b' (bare y)).length (cells3 ((vs.take k).filter fun y => offPair a' b' (bare y))) ∧ (∀ g, o.ownBlock = some g → w2.heap.size ≤ g)) (fun _ i _ => vs.length - (intOf i).toNat)
  case atStart => exact ⟨0, rfl, Nat.zero_le _, K0, World.ownsRow_nil _ _ _ _, fun g hg => by cases hg⟩
  case round =>
    obtain ⟨k, rfl, hk, hK, hrow, hfr⟩ := hrel
    have HR := Lib.hid (H2.out.kept hK)
    have c2' := hK.cell c2
    have HK := Lib.hid hK
    have HFR := Lib.hid hfr
    by_cases hlt : k < vs.length
    · have g1 : (k : Int) < (vs.length : Int) := by omega
      have hol : ((vs.take k).filter fun y => offPair a' b' (bare y)).length ≤ k := Nat.le_trans (List.length_filter_le _ _) (by rw [List.length_take]; omega)
      obtain ⟨Ao, co, rfl⟩ := own_form hrow
      have HKS := Lib.hid (keep_succ (fun y => offPair a' b' (bare y)) hlt)
      obtain ⟨g, rfl, r0, r1, r2⟩ := HR.out.at hlt
      have hyf := own_form (HR.out.vals vs[k] (List.getElem_mem hlt))
      generalize (vs.take k).filter (fun y => offPair a' b' (bare y)) = os at *
      generalize vs[k] = y at *
      obtain ⟨ya, yb, yv, yl⟩ := y
      simp only at r0 r1 r2 hyf
      obtain ⟨Ay, cy, rfl⟩ := hyf
      have HROW := Lib.hid hrow
      clear hfr hK hrow
      have HP := Lib.hid (show offPair a' b' (bare (ya, yb, .slice Ay yl.length cy, yl)) = !(decide (ya = a') && decide (yb = b') || decide (ya = b') && decide (yb = a')) from rfl)
      have hwr := HK.out.size
      have drop : offPair a' b' (bare (ya, yb, .slice Ay yl.length cy, yl)) = false → ∃ x, x = os ∧ (vs.take (k + 1)).filter (fun y => offPair a' b' (bare y)) = x := fun hp => ⟨os, rfl, by
        have e := HKS.out
        rwa [if_neg (by simp [hp]), List.append_nil] at e⟩
      have HD := Lib.hid drop
      have add : offPair a' b' (bare (ya, yb, .slice Ay yl.length cy, yl)) = true → (vs.take (k + 1)).filter (fun y => offPair a' b' (bare y)) = os ++ [(ya, yb, .slice Ay yl.length cy, yl)] := fun hp => by
        have e := HKS.out
        rwa [if_pos (by simpa using hp)] at e
      have HA := Lib.hid add
      clear drop add HKS
      by_cases h1 : ya = a' ∧ yb = b'
      · obtain ⟨x, hx, hx2⟩ := HD.out (by rw [HP.out]; simp [h1])
        subst hx
        have HE := Lib.hid hx2
        clear HD HA HP hx2
        obtain ⟨rfl, rfl⟩ := h1
        go_wp2
        go_roundw
        case rel => exact ⟨k + 1, by go_num, by omega, HK.out.alloc _, by rw [HE.out]; exact own_kept HROW.out ((Kept.refl wr).alloc _), by intro g hg; exact HFR.out g hg⟩
        case measure => simp [intOf]; omega
      · by_cases h2 : ya = b' ∧ yb = a'
        · obtain ⟨x, hx, hx2⟩ := HD.out (by rw [HP.out]; simp [h2])
          subst hx
          have HE := Lib.hid hx2
          clear HD HA HP hx2
          obtain ⟨rfl, rfl⟩ := h2
          by_cases h3 : (b' : Int) = a'
          · have t1 : decide ((b' : Int) = (a' : Int)) = true := by simpa using h3
            have t1' : ((b' : Int) == (a' : Int)) = true := by simpa using h3
            exact absurd ⟨h3, h3.symm⟩ h1
          · have t1 : decide ((b' : Int) = (a' : Int)) = false := by simpa using h3
            have t1' : ((b' : Int) == (a' : Int)) = false := by simpa using h3
            clear h1 h3
            go_wp2
            go_roundw
            case rel => exact ⟨k + 1, by go_num, by omega, HK.out.alloc _, by rw [HE.out]; exact own_kept HROW.out ((Kept.refl wr).alloc _), by intro g hg; exact HFR.out g hg⟩
            case measure => simp [intOf]; omega
        · have HE := Lib.hid (HA.out (by
            rw [HP.out]
            simp only [Bool.not_eq_true', Bool.or_eq_false_iff, Bool.and_eq_false_iff, decide_eq_false_iff_not]
            constructor
            · by_cases e : ya = a'
              · exact .inr fun e2 => h1 ⟨e, e2⟩
              · exact .inl e
            · by_cases e : ya = b'
              · exact .inr fun e2 => h2 ⟨e, e2⟩
              · exact .inl e))
          clear HD HA HP
          have t1 : ya = a' → decide (yb = b') = false := fun e => by simpa using fun e2 => h1 ⟨e, e2⟩
          have t2 : ya = b' → decide (yb = a') = false := fun e => by simpa using fun e2 => h2 ⟨e, e2⟩
          have HT1 := Lib.hid t1
          have HT2 := Lib.hid t2
          clear t1 t2 h1 h2
          cases e1 : decide (ya = a') <;> cases e2 : decide (ya = b')
          all_goals
            (try have u1 := HT1.out (of_decide_eq_true e1))
            (try have u2 := HT2.out (of_decide_eq_true e2))
            (try have u1' : (yb == (b' : Int)) = false := HT1.out (of_decide_eq_true e1))
            (try have u2' : (yb == (a' : Int)) = false := HT2.out (of_decide_eq_true e2))
            have e1' : (ya == (a' : Int)) = decide (ya = a') := rfl
            have e2' : (ya == (b' : Int)) = decide (ya = b') := rfl
            rw [e1] at e1'
            rw [e2] at e2'
            go_wp2_with (at_builtin; refine wpList_append_one elemM rfl _ _ rfl 0 _ _ (cells3 os) [.int .i64 ya, .int .i64 yb, .slice Ay yl.length cy] (wr.heap.size + 1) 1 rfl rfl (own_kept HROW.out (((Kept.refl wr).alloc _).alloc _)) rfl (cell_new3' _ _ _ _ _ (by simp)) (by intro u hu; simp at hu; rcases hu with rfl | rfl | rfl <;> rfl) (by omega) (by unfold maxLen; omega) (Nat.zero_le _) ?_; intro v5 w5 p1 p2 p3)
            have hq := out_more (ov := .slice Ao os.length co) HK.out (((Kept.refl wr).alloc _).alloc _) p2 p3 HFR.out
            have P1 := Lib.hid p1
            have HQ := Lib.hid hq
            clear p1 p2 p3 hq
            refine ⟨⟨k + 1, by go_num, by omega, HQ.out.1, ?_, HQ.out.2⟩, by simp [intOf]; omega⟩
            rw [HE.out, List.length_append, cells3_app]
            exact P1.out
    · obtain rfl : k = vs.length := by omega
      rw [List.take_length] at hrow
      have f3 : wr.frozen? ⟨db, 2, none⟩ = false := frozen_at HR.out.net 2
      have hos : ((vs.filter fun y => offPair a' b' (bare y))).length ≤ 5000000 := Nat.le_trans (List.length_filter_le _ _) hfew
      obtain ⟨Ao, co, rfl⟩ := own_form hrow
      have HROW := Lib.hid hrow
      have HF := Lib.hid (fun (G' : Nat → Prop) h1 h2 => H2.out.setRow (G' := G') HK.out HROW.out HFR.out (fun y hy => (List.mem_filter.1 hy).1) hos (l := d.list.filter (offPair a' b')) (by
        have e := H2.out.same
        have e : vs.map bare = d.list := e
        rw [← e, List.filter_map]
        rfl) h1 h2)
      have HC3 := Lib.hid (show Chg G w1 (wr.setCell ⟨db, 2, none⟩ (.slice Ao ((vs.filter fun y => offPair a' b' (bare y))).length co)) from (HC2.out.trans (Chg.of_kept (F := G) HK.out) (fun _ _ x => x)).setCell _ (fun _ => H2.out.inN))
      have hws := HC2.out.size
      have hwk := HK.out.size
      clear hrow hfr hK
      generalize (vs.filter fun y => offPair a' b' (bare y)) = os at *
      go_wp2
      go_ret
      exact ⟨rfl, ⟨_, _, _, HF.out _ (fun g x => .inl x) (fun g x1 x2 => .inr ⟨by omega, by simpa using x2⟩), trivial⟩, HC3.out⟩
end Go.Proofs.Ytnpenabkmpoafaa
