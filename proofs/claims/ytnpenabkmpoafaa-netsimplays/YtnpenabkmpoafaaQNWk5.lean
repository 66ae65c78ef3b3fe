/- The walks of Cut and Heal. -/
import Derived.Test.YtnpenabkmpoafaaQNWk4
set_option linter.unusedSimpArgs false
set_option linter.unusedVariables false
namespace Go.Proofs.Ytnpenabkmpoafaa
open Go.RowKit
def cutN (s : NS) (a b : Nat) : NS := { s.lose a b with cut := upd (upd s.cut a b true) b a true }
def cutS (s : NS) (a b : Int) : NS := if chk s.n [a, b] = 0 then cutN s a.toNat b.toNat else s
theorem has_put {D : DataW Value} (hD : Maps.IsMap D) {a b i j : Nat} (ha : a < 1000) (hb : b < 1000) (hi : i < 1000) (hj : j < 1000) (d : DataW Value) (f : Nat → Nat → Bool) (h : Maps.has D (kl i j) = f i j) : Maps.has (D.put (kl a b) d) (kl i j) = upd f a b true i j := by
  by_cases e : i = a ∧ j = b
  · obtain ⟨rfl, rfl⟩ := e
    rw [upd_same]
    exact Maps.has_put_same hD (kl_key i j hi hj) d
  · rw [upd_other _ _ e, ← h]
    exact Maps.has_put_other (kl_ne ha hb hi hj e) d
theorem ext_trans {F : Nat → Prop} {w w1 w2 : World} (h1 : w.heap.size ≤ w1.heap.size) (h2 : w1.heap.size ≤ w2.heap.size) : ∀ g, ext F w w1 g → ext F w w2 g := fun g h => ext_mono h2 h
set_option maxRecDepth 100000 in
set_option maxHeartbeats 1000000 in
theorem cut_ok (w : World) (nb : Nat) (m : NM) (s : NS) (lim : Nat) (F : Nat → Prop) (h : NetAt w nb m s lim F) (a b : Nat) (ha : a < s.n) (hb : b < s.n) (hl : lim + 2 < maxLen) :
    Calls Try.prog 21 #[.pointer (some ⟨nb, 0, none⟩), .int .i64 (a : Int), .int .i64 (b : Int)] w fun e w' => e = .returned (.int .i64 0) ∧ (∃ m', NetAt w' nb m' (cutN s a b) (lim + 2) (ext F w w')) ∧ Chg (fun g => g = m.qb ∨ g = m.cb) w w' := by
  have hsm := h.small
  have HCK := Lib.hid fun t => h.check2 a b t
  rw [chk_two ha hb] at HCK
  have hk1 := (Kept.refl w).alloc (.cells #[.int .i64 (a : Int), .int .i64 (b : Int)] 3)
  have hk2 := (Kept.refl (w.alloc (.cells #[.int .i64 (a : Int), .int .i64 (b : Int)] 3))).alloc (.cells #[.int .i64 (a : Int), .int .i64 (b : Int)] 71)
  have hbx := heap_alloc_new (w.alloc (.cells #[.int .i64 (a : Int), .int .i64 (b : Int)] 3)) (.cells #[.int .i64 (a : Int), .int .i64 (b : Int)] 71)
  have hbs : (w.alloc (.cells #[.int .i64 (a : Int), .int .i64 (b : Int)] 3)).heap.size = w.heap.size + 1 := by simp
  rw [hbs] at hbx
  have hw2 : w.heap.size + 2 = ((w.alloc (.cells #[.int .i64 (a : Int), .int .i64 (b : Int)] 3)).alloc (.cells #[.int .i64 (a : Int), .int .i64 (b : Int)] 71)).heap.size := by simp
  have b0 := cell_at hbx 0
  have b1 := cell_at hbx 1
  simp only [List.getElem?_toArray, List.getElem?_cons_zero, List.getElem?_cons_succ] at b0 b1
  have H2 := Lib.hid (h.kept (hk1.trans hk2))
  have HL := Lib.hid (lose_any _ nb m s lim F H2.out a b ha hb)
  have hkw := hk1.trans hk2
  clear hbx hbs
  go_enter Try.func21, Try.ntmps21
  go_wp2_with fail
  refine (HCK.out _).mono ?_
  rintro e w1 ⟨rfl, rfl⟩
  go_wp2_with fail
  refine HL.out.mono ?_
  rintro e w3 ⟨rfl, ⟨m3, hn3, hcb3, htb3, hqb3⟩, hc3⟩
  generalize (w.alloc (.cells #[.int .i64 (a : Int), .int .i64 (b : Int)] 3)).alloc (.cells #[.int .i64 (a : Int), .int .i64 (b : Int)] 71) = wb at *
  have HCB := Lib.hid hcb3
  have hcm3 : m3.cb < w.heap.size := by rw [hcb3]; exact World.ownsMap.lt h.cs
  clear hcb3 htb3 hqb3
  have hqb := World.ownsMap.lt h.qs
  have hcbl := World.ownsMap.lt h.cs
  have b03 := chg_cellS hc3 b0 (by omega)
  have b13 := chg_cellS hc3 b1 (by omega)
  have c33 := hn3.c3
  have H3 := Lib.hid hn3
  clear b0 b1 hn3
  obtain ⟨w4, hrun4, ho4, hg4⟩ := (H3.out.kept (Kept.refl w3).drew).cs.storeU (by omega) (a := a) (b := b) (by omega) (by omega)
  unfold pv at hrun4
  have hc4 : Chg (fun g => g = m3.cb) w3 w4 := (Chg.of_kept (Kept.refl w3).drew).trans (Chg.of_grown hg4 (fun g hg _ => by cases hg; rfl)) (fun _ _ x => x)
  have HO4 := Lib.hid ho4
  have hnb : nb ≠ m3.cb := map_ne_cells H3.out.cs H3.out.net
  have hbn : w.heap.size + 1 ≠ m3.cb := by omega
  have b04 := chg_cellS hc4 b03 hbn
  have b14 := chg_cellS hc4 b13 hbn
  have c34 := chg_cellS hc4 c33 hnb
  clear ho4 hg4
  go_wp2
  go_region
  go_wp2
  go_region_held3 (fun W => W.cell? ⟨nb, 3, none⟩ = some (.map (some m3.cb)) ∧ W.cell? ⟨w.heap.size + 1, 0, none⟩ = some (.int .i64 (a : Int)) ∧ W.cell? ⟨w.heap.size + 1, 1, none⟩ = some (.int .i64 (b : Int)))
    (first | exact ⟨c34, b04, b14⟩ | exact ⟨z1, z2, z3⟩ | exact ⟨y1, y2, y3⟩)
    (first
      | (go_at_call 39; refine (back_any a b _).mono ?_; rintro e w6 ⟨rfl, hk6⟩; have hk6' : Kept w4 w6 := Kept.trans ((Kept.refl w4).drew) hk6; have z1 := hk6'.cell c34; have z2 := hk6'.cell b04; have z3 := hk6'.cell b14; obtain ⟨w7, hrun7, ho7, hg7⟩ := OwnsU.storeU (map_chg HO4.out (Chg.of_kept (F := no) hk6') (fun x => x)) (by omega) (a := b) (b := a) (by omega) (by omega); unfold pv at hrun7; have hc7 : Chg (fun g => g = m3.cb) w6 w7 := Chg.of_grown hg7 (fun g hg _ => by cases hg; rfl); have HO7 := Lib.hid ho7; clear ho7 hg7; have y1 := chg_cellS hc7 z1 hnb; have y2 := chg_cellS hc7 z2 hbn; have y3 := chg_cellS hc7 z3 hbn))
  go_wp2
  go_ret
  have hC7 : Chg (fun g => g = m3.cb) w3 w7 := (hc4.then_kept hk6').trans hc7 (fun _ _ x => x)
  have hm : Maps.IsMap m3.C := World.ownsMap.isMap H3.out.cs
  have hs3 : (s.lose a b).n = s.n := rfl
  refine ⟨rfl, ⟨_, (H3.out.cutting (cut' := upd (upd s.cut a b true) b a true) (by omega) HO7.out (fun i j hi hj => ?_) hC7).mono (fun g x => ?_)⟩, ?_⟩
  · have hi : i < s.n := hi
    have hj : j < s.n := hj
    exact has_put (Maps.IsMap.put hm _ _) (by omega) (by omega) (by omega) (by omega) _ _ (has_put hm (by omega) (by omega) (by omega) (by omega) _ _ (H3.out.cuts i j hi hj))
  · have h1 := hkw.size
    have h2 := hc3.size
    have h3 := hC7.size
    rcases x with x | x
    · exact .inl x
    · exact .inr ⟨by omega, by omega⟩
  · rw [HCB.out] at hC7
    exact (Chg.of_kept hkw).trans ((hc3.mono (fun g _ x => .inl x)).trans hC7 (fun g _ x => .inr x)) (fun _ _ x => x)
theorem cut_any (w : World) (nb : Nat) (m : NM) (s : NS) (lim : Nat) (F : Nat → Prop) (h : NetAt w nb m s lim F) (a b : Int) (hl : lim + 2 < maxLen) :
    Calls Try.prog 21 #[.pointer (some ⟨nb, 0, none⟩), .int .i64 a, .int .i64 b] w fun e w' => e = .returned (.int .i64 (chk s.n [a, b])) ∧ (∃ m', NetAt w' nb m' (cutS s a b) (lim + 2) (ext F w w')) ∧ Chg F w w' := by
  unfold cutS
  by_cases hk : chk s.n [a, b] = 0
  · obtain ⟨a, b, rfl, rfl, ha, hb⟩ := chk_two_inv hk
    rw [hk, if_pos rfl]
    refine (cut_ok w nb m s lim F h a b ha hb hl).mono ?_
    rintro e w' ⟨h1, h2, h3⟩
    exact ⟨h1, h2, h3.mono fun g _ x => by
      rcases x with rfl | rfl
      · exact h.inQ
      · exact h.inC⟩
  · have HCK := Lib.hid fun t => h.check2 a b t
    have hk1 := (Kept.refl w).alloc (.cells #[.int .i64 a, .int .i64 b] 3)
    rcases chk_or s.n [a, b] with e | e
    · exact absurd e hk
    · rw [e] at HCK ⊢
      rw [if_neg (by decide)]
      have HN := Lib.hid (h.kept hk1)
      go_enter Try.func21, Try.ntmps21
      go_wp2_with fail
      refine (HCK.out _).mono ?_
      rintro e w1 ⟨rfl, rfl⟩
      go_wp2
      go_ret
      exact ⟨rfl, ⟨m, (HN.out.mono (fun g x => .inl x)).more (by omega)⟩, Chg.of_kept hk1⟩
def healS (s : NS) : NS := { s with cut := fun _ _ => false }
set_option maxRecDepth 100000 in
set_option maxHeartbeats 1000000 in
theorem heal_any (w : World) (nb : Nat) (m : NM) (s : NS) (lim : Nat) (F : Nat → Prop) (h : NetAt w nb m s lim F) :
    Calls Try.prog 23 #[.pointer (some ⟨nb, 0, none⟩)] w fun e w' => e = .returned (.tuple #[]) ∧ (∃ m', NetAt w' nb m' (healS s) lim F) ∧ Chg F w w' := by
  have c3 := h.c3
  obtain ⟨w4, hrun4, ho4, hg4⟩ := h.cs.clear 0
  have hc4 : Chg (fun g => g = m.cb) w w4 := Chg.of_grown hg4 (fun g hg _ => by cases hg; rfl)
  have HO4 := Lib.hid ho4
  clear ho4 hg4
  go_enter Try.func23, Try.ntmps23
  go_wp2
  go_end0
  exact ⟨rfl, ⟨_, h.cutting (cut' := fun _ _ => false) (Nat.le_refl _) HO4.out (fun _ _ _ _ => rfl) hc4⟩, hc4.mono fun g _ x => by rw [x]; exact h.inC⟩
end Go.Proofs.Ytnpenabkmpoafaa
