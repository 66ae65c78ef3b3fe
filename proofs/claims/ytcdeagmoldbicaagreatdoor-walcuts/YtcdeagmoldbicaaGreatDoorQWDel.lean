/- The walk of the library's Delete at the head of a row of segments. -/
import Derived.Test.YtcdeagmoldbicaaGreatDoorGWWrt3
import Derived.Deep.RegionLaw
set_option linter.unusedSimpArgs false
set_option linter.unusedVariables false
namespace Go.Proofs.YtcdeagmoldbicaaGreatDoor
open Go.RowKit
def setL : List Value → Nat → List Value → List Value
  | xs, _, [] => xs
  | xs, j, u :: us => setL (xs.set j u) (j + 1) us
theorem setL_len (us : List Value) : ∀ xs j, (setL xs j us).length = xs.length := by
  induction us with
  | nil => intro xs j; rfl
  | cons u us ih =>
    intro xs j
    show (setL (xs.set j u) (j + 1) us).length = _
    rw [ih, List.length_set]
theorem setL_take (us : List Value) : ∀ xs j k, k ≤ j → (setL xs j us).take k = xs.take k := by
  induction us with
  | nil => intro xs j k h; rfl
  | cons u us ih =>
    intro xs j k h
    show (setL (xs.set j u) (j + 1) us).take k = _
    rw [ih _ _ _ (by omega), List.take_set, List.set_eq_of_length_le (by rw [List.length_take]; omega)]
theorem setL_here (us : List Value) : ∀ xs j, j + us.length ≤ xs.length → (setL xs j us).take (j + us.length) = xs.take j ++ us := by
  induction us with
  | nil => intro xs j h; simp [setL]
  | cons u us ih =>
    intro xs j h
    rw [List.length_cons] at h
    have := ih (xs.set j u) (j + 1) (by rw [List.length_set]; omega)
    show (setL (xs.set j u) (j + 1) us).take _ = _
    rw [List.length_cons, show j + (us.length + 1) = j + 1 + us.length by omega, this, List.take_succ_eq_append_getElem (by rw [List.length_set]; omega), List.take_set, List.set_eq_of_length_le (by rw [List.length_take]; omega)]
    simp
theorem own_setCells {b : Nat} {e : TypeId} {s n : Nat} {v : Value} {g : Nat} (hv : v.ownBlock = some g) (us : List Value) : ∀ (j : Nat) (w : World) (xs : List Value), w.ownsRow b e s v n xs → (w.setCells g j us).ownsRow b e s v n (setL xs j us) := by
  induction us with
  | nil => intro j w xs h; exact h
  | cons u us ih =>
    intro j w xs h
    exact ih (j + 1) _ _ (own_set h hv j u)
theorem chg_setCells {F : Nat → Prop} {w : World} {b : Nat} (hb : b < w.heap.size → F b) (us : List Value) : ∀ (o : Nat) (w' : World), Chg F w w' → Chg F w (w'.setCells b o us) := by
  induction us with
  | nil => intro o w' h; exact h
  | cons u us ih =>
    intro o w' h
    exact ih (o + 1) _ (h.setCell u hb)
/-- The front of a row. -/
theorem own_front {w : World} {b : Nat} {e : TypeId} {s n c : Nat} {A : Option Addr} {xs : List Value} (h : w.ownsRow b e s (.slice A n c) n xs) {k : Nat} (hk : k ≤ n) : w.ownsRow b e s (.slice A k c) k (xs.take (k * s)) := by
  obtain ⟨h1, h2⟩ := h
  have hks : k * s ≤ n * s := Nat.mul_le_mul_right s hk
  refine ⟨by rw [List.length_take]; omega, ?_⟩
  rcases h2 with ⟨e1, e2⟩ | ⟨g, cap, cur, e1, a1, a2, a3, a4, a5, a6⟩
  · obtain ⟨rfl, -, rfl⟩ : A = none ∧ n = 0 ∧ c = 0 := by simpa using e1
    obtain rfl : k = 0 := by omega
    exact .inl ⟨rfl, rfl⟩
  · obtain ⟨rfl, -, rfl⟩ : A = some ⟨g, 0, none⟩ ∧ n = n ∧ c = cap := by simpa using e1
    refine .inr ⟨g, c, cur, rfl, a1, a2, by omega, a4, a5, ?_⟩
    rw [← a6, List.take_take, Nat.min_eq_left hks]
/-- The front of a row of segments. -/
theorem Segs.front {w : World} {A : Option Addr} {c : Nat} {ps : Ps} {G : Nat → Prop} (h : Segs w (.slice A ps.length c) ps G) {k : Nat} (hk : k ≤ ps.length) : Segs w (.slice A k c) (ps.take k) G := by
  have hl : (ps.take k).length = k := by rw [List.length_take]; omega
  refine ⟨?_, fun p hp => h.recs p (List.mem_of_mem_take hp), h.apart.sublist (List.take_sublist k ps), fun g x => h.rowG g (by
    cases A with
    | none => simp [Value.ownBlock] at x
    | some a => exact x)⟩
  have h1 := own_front h.row hk
  have e : (scs ps).take (k * 4) = scs (ps.take k) := by
    have e1 : scs ps = scs (ps.take k) ++ scs (ps.drop k) := by rw [← scs_app, List.take_append_drop]
    rw [e1, List.take_left' (by rw [scs_len, hl])]
  rw [e] at h1
  rw [hl]
  exact h1
def zeroS : Value := .agg #[.int .i64 0, .int .i64 0, .int .i64 0, .slice none 0 0]
theorem zeroSeg (w : World) : (zeroValue 104).run Tryz.prog w = .ok zeroS w := by kernel_rfl
def zerosS (n : Nat) : List Value := (Builtin.zeroCells zeroS.cells n).toList
theorem zerosS_len (n : Nat) : (zerosS n).length = n * 4 := by simp [zerosS, Builtin.zeroCells, zeroS, Value.cells]
theorem zerosS_one (n : Nat) : ∀ v ∈ zerosS n, v.oneCell' = true := by
  intro v hv
  have hz : zeroS.cells = #[.int .i64 0, .int .i64 0, .int .i64 0, .slice none 0 0] := rfl
  unfold zerosS Builtin.zeroCells at hv
  rw [Array.toList_map, List.mem_map] at hv
  obtain ⟨i, -, rfl⟩ := hv
  rw [hz]
  have h4 : i % 4 = 0 ∨ i % 4 = 1 ∨ i % 4 = 2 ∨ i % 4 = 3 := by omega
  show (#[Value.int .i64 0, .int .i64 0, .int .i64 0, .slice none 0 0][i % 4]!).oneCell' = true
  rcases h4 with h | h | h | h <;> rw [h] <;> rfl
/-- clear, of segments. -/
theorem run_clear_seg (w : World) (ty : TypeId) (b o n c : Nat) (hn : 0 < n) (hc : ∀ j, j < n * 4 → (w.cell? ⟨b, o + j, none⟩).isSome = true) (hf : ∀ j, j < n * 4 → w.frozen? ⟨b, o + j, none⟩ = false) :
    (Builtin.clear_ #[82] ty #[.slice (some ⟨b, o, none⟩) n c]).run Tryz.prog w = .ok (.tuple #[]) (w.setCells b o (zerosS n)) := by
  have hst := run_storeCells_cells (P := Tryz.prog) b o (zerosS n) 0 w (by rw [zerosS_len]; simpa using hc) (by rw [zerosS_len]; simpa using hf) (zerosS_one n)
  simp only [Nat.add_zero] at hst
  obtain ⟨m, rfl⟩ : ∃ m, n = m + 1 := ⟨n - 1, by omega⟩
  have hzs : (Builtin.zeroCells zeroS.cells (m + 1)).toList = zerosS (m + 1) := rfl
  have hzs2 : (Builtin.zeroCells (Value.agg #[.int .i64 0, .int .i64 0, .int .i64 0, .slice none 0 0]).cells (m + 1)).toList = zerosS (m + 1) := rfl
  simp [Builtin.clear_, run_underlying Tryz.underlying82, zeroSeg, hzs, hzs2, hst]
theorem scs_one {w : World} {sv : Value} {ps : Ps} {G : Nat → Prop} (h : Segs w sv ps G) : ∀ v ∈ scs ps, v.oneCell' = true := by
  intro v hv
  unfold scs at hv
  rw [List.mem_flatMap] at hv
  obtain ⟨p, hp, hv⟩ := hv
  obtain ⟨A, c, hf, -⟩ := (h.recs p hp).form
  simp only [sc, List.mem_cons, List.not_mem_nil, or_false] at hv
  rcases hv with rfl | rfl | rfl | rfl
  · rfl
  · rfl
  · rfl
  · rw [hf]; rfl
/-- What has changed is the segments' own row. -/
theorem Segs.recs_row {w w' : World} {g n c : Nat} {ps : Ps} {G : Nat → Prop} (h : Segs w (.slice (some ⟨g, 0, none⟩) n c) ps G) (k : Chg (fun x => x = g) w w') : ∀ p ∈ ps, RecsAt w' p.2 p.1.recs G := by
  obtain ⟨cur, hcur⟩ := own_type h.row (g := g) rfl
  intro p hp
  refine (h.recs p hp).other k (fun x hx e => ?_) (fun x e cur2 hc2 => ?_)
  · subst e
    obtain ⟨-, cur3, hc3⟩ := (h.recs p hp).ok hx
    rw [hcur] at hc3
    simp at hc3
  · subst e
    rw [hcur] at hc2
    simp at hc2
/-- The row behind Delete. -/
theorem Segs.cut {w : World} {g c : Nat} {ps : Ps} {G : Nat → Prop} (h : Segs w (.slice (some ⟨g, 0, none⟩) ps.length c) ps G) {k : Nat} (hk : k ≤ ps.length) :
    Segs ((w.drew.setCells g 0 (scs (ps.drop k))).setCells g ((ps.length - k) * 4) (zerosS k)) (.slice (some ⟨g, 0, none⟩) (ps.length - k) c) (ps.drop k) G ∧
      Chg (fun x => x = g) w ((w.drew.setCells g 0 (scs (ps.drop k))).setCells g ((ps.length - k) * 4) (zerosS k)) := by
  have hC : Chg (fun x => x = g) w ((w.drew.setCells g 0 (scs (ps.drop k))).setCells g ((ps.length - k) * 4) (zerosS k)) :=
    chg_setCells (F := fun x => x = g) (fun _ => rfl) _ _ _ (chg_setCells (F := fun x => x = g) (fun _ => rfl) _ _ _ (Chg.refl _ w).drew)
  refine ⟨⟨?_, fun p hp => h.recs_row hC p (List.mem_of_mem_drop hp), h.apart.sublist (List.drop_sublist k ps), fun x hx => h.rowG x hx⟩, hC⟩
  have hl : (ps.drop k).length = ps.length - k := List.length_drop
  have h0 : w.drew.ownsRow 0 104 4 (.slice (some ⟨g, 0, none⟩) ps.length c) ps.length (scs ps) := own_kept h.row (Kept.refl w).drew
  have h2 := own_front (own_setCells (g := g) rfl (zerosS k) ((ps.length - k) * 4) _ _ (own_setCells (g := g) rfl (scs (ps.drop k)) 0 _ _ h0)) (k := ps.length - k) (by omega)
  have e : (setL (setL (scs ps) 0 (scs (ps.drop k))) ((ps.length - k) * 4) (zerosS k)).take ((ps.length - k) * 4) = scs (ps.drop k) := by
    rw [setL_take _ _ _ _ (Nat.le_refl _)]
    have := setL_here (scs (ps.drop k)) (scs ps) 0 (by rw [scs_len, scs_len, hl]; omega)
    rw [scs_len, hl, Nat.zero_add] at this
    simpa using this
  rw [e] at h2
  rw [hl]
  exact h2
theorem delete_zero (g n c : Nat) (w : World) (hc1 : n ≤ c) (hc2 : c ≤ 9223372036854775807) :
    Calls Tryz.prog 53 #[.slice (some ⟨g, 0, none⟩) n c, .int .i64 0, .int .i64 0] w fun e w' => e = .returned (.slice (some ⟨g, 0, none⟩) n c) ∧ w' = w := by
  go_enter Tryz.func53, Tryz.ntmps53
  go_wp2
  all_goals (go_ret; exact ⟨rfl, rfl⟩)
theorem delete_nil (w : World) :
    Calls Tryz.prog 53 #[.slice none 0 0, .int .i64 0, .int .i64 0] w fun e w' => e = .returned (.slice none 0 0) ∧ w' = w := by
  go_enter Tryz.func53, Tryz.ntmps53
  go_wp2
  all_goals (go_ret; exact ⟨rfl, rfl⟩)
set_option maxRecDepth 100000 in
set_option maxHeartbeats 4000000 in
theorem delete_some (g c : Nat) (ps : Ps) (k : Nat) (G : Nat → Prop) (w : World) (h : Segs w (.slice (some ⟨g, 0, none⟩) ps.length c) ps G) (hk0 : 0 < k) (hk : k < ps.length) :
    Calls Tryz.prog 53 #[.slice (some ⟨g, 0, none⟩) ps.length c, .int .i64 0, .int .i64 (k : Int)] w fun e w' => e = .returned (.slice (some ⟨g, 0, none⟩) (ps.length - k) c) ∧ w' = (w.drew.setCells g 0 (scs (ps.drop k))).setCells g ((ps.length - k) * 4) (zerosS k) := by
  obtain ⟨A', c', e, hc1, hc2⟩ := h.form
  obtain ⟨-, -, rfl⟩ : some (⟨g, 0, none⟩ : Addr) = A' ∧ True ∧ c = c' := by simpa using e
  unfold maxLen at hc2
  obtain ⟨i0, z0, hi0, -, hz1, -, -⟩ := elemS.info
  obtain ⟨cur, hcur, hcs⟩ : ∃ cur, w.drew.heap[g]? = some (.cells cur 104 (0, 0)) ∧ cur.size = c * 4 := by
    rcases h.row.2 with ⟨e, -⟩ | ⟨g', cap', cur, e, -, hb, -, -, hsz, -⟩
    · simp at e
    · obtain ⟨rfl, rfl⟩ : g = g' ∧ c = cap' := by simpa using e
      exact ⟨cur, hb, hsz⟩
  have hrow : w.drew.ownsRow 0 104 4 (.slice (some ⟨g, 0, none⟩) ps.length c) ps.length (scs ps) := own_kept h.row (Kept.refl w).drew
  have hl : (ps.drop k).length = ps.length - k := List.length_drop
  have ha : ∀ b o t, ((⟨b, o, none⟩ : Addr).add t) = ⟨b, o + t, none⟩ := fun b o t => by unfold Addr.add; split <;> simp_all
  obtain ⟨news, hnews⟩ : ∃ news, news = scs (ps.drop k) := ⟨_, rfl⟩
  have hlen : news.length = (ps.length - k) * 4 := by rw [hnews, scs_len, hl]
  have hsrc : Hid (∀ t u, news[t]? = some u → w.drew.cell? ((⟨g, k * 4, none⟩ : Addr).add t) = some u) := Lib.hid (fun t u hu => by
    have e1 : (scs ps)[k * 4 + t]? = some u := by
      have e2 : scs ps = scs (ps.take k) ++ scs (ps.drop k) := by rw [← scs_app, List.take_append_drop]
      rw [e2, List.getElem?_append_right (by rw [scs_len, List.length_take]; omega), scs_len, List.length_take, show k * 4 + t - min k ps.length * 4 = t by omega, ← hnews]
      exact hu
    have := hrow.cells (g := g) rfl _ _ e1
    rw [ha, Nat.zero_add] at this
    rw [ha]
    exact this)
  have s1 := Lib.hid hlen
  have s2 : Hid (∀ u ∈ news, u.oneCell' = true) := Lib.hid (fun u hu => scs_one h u (by
    rw [hnews] at hu
    have e2 : scs ps = scs (ps.take k) ++ scs (ps.drop k) := by rw [← scs_app, List.take_append_drop]
    rw [e2]
    exact List.mem_append_right _ hu))
  have s3 : Hid (∀ t, t < news.length → (w.drew.cell? ⟨g, 0 + 0 * 4 + t, none⟩).isSome = true ∧ w.drew.frozen? ⟨g, 0 + 0 * 4 + t, none⟩ = false) := Lib.hid (fun t ht => ⟨by
    rw [cell_at hcur, Array.getElem?_eq_getElem (by omega)]; rfl, frozen_at hcur _⟩)
  obtain ⟨W1, hW1⟩ : ∃ W1, W1 = w.drew.setCells g (0 + 0 * 4) news := ⟨_, rfl⟩
  have hrow1 : W1.ownsRow 0 104 4 (.slice (some ⟨g, 0, none⟩) ps.length c) ps.length (setL (scs ps) (0 + 0 * 4) news) := by
    rw [hW1]
    exact own_setCells (g := g) rfl news _ _ _ hrow
  obtain ⟨cur1, hcur1, hcs1⟩ : ∃ cur, W1.heap[g]? = some (.cells cur 104 (0, 0)) ∧ cur.size = c * 4 := by
    rcases hrow1.2 with ⟨e, -⟩ | ⟨g', cap', cur, e, -, hb, -, -, hsz, -⟩
    · simp at e
    · obtain ⟨rfl, rfl⟩ : g = g' ∧ c = cap' := by simpa using e
      exact ⟨cur, hb, hsz⟩
  have hcl : ∀ ty, (Builtin.clear_ #[82] ty #[.slice (some ⟨g, (ps.length - k) * 4, none⟩) (ps.length - (ps.length - k)) (c - (ps.length - k))]).run Tryz.prog W1 = .ok (.tuple #[]) (W1.setCells g ((ps.length - k) * 4) (zerosS (ps.length - (ps.length - k)))) := fun ty =>
    run_clear_seg W1 ty g ((ps.length - k) * 4) _ _ (by omega) (fun t ht => by rw [cell_at hcur1, Array.getElem?_eq_getElem (by omega)]; rfl) (fun t _ => frozen_at hcur1 _)
  have HW := Lib.hid hW1
  have HN := Lib.hid hnews
  have hkc : k ≤ c := by omega
  have hne : ¬ c = k := by omega
  have hne2 : ¬ c = ps.length - k := by omega
  have hkp : k ≤ ps.length := by omega
  have t0 : ((0 : Int) == (k : Int)) = false := by simp; omega
  have t1 : (0 == k) = false := by simp; omega
  clear hW1 hnews hrow hrow1 hcur hcur1 hcs hcs1 hlen h e
  go_enter Tryz.func53, Tryz.ntmps53
  go_wp2_with fail
  go_region_law (refine step_append_room rfl (.tmp 22) (.tmp 25) 82 rfl 104 i0 4 Tryz.underlying82 hi0 hz1 g 0 0 c (by simp [Act.eval, Act.put]) ⟨g, k * 4, none⟩ (ps.length - k) (c - k) news (by simp [Act.eval, Act.put]) s1.out hsrc.out s2.out (by omega) s3.out ?_; rw [← HW.out])
  go_wp2
  go_ret
  refine ⟨by simp, ?_⟩
  rw [HW.out, HN.out, show ps.length - (ps.length - k) = k by omega]
/-- Delete, at the head. -/
theorem delete_any (g c : Nat) (ps : Ps) (k : Nat) (G : Nat → Prop) (w : World) (h : Segs w (.slice (some ⟨g, 0, none⟩) ps.length c) ps G) (hk : k = 0 ∨ k < ps.length) :
    Calls Tryz.prog 53 #[.slice (some ⟨g, 0, none⟩) ps.length c, .int .i64 0, .int .i64 (k : Int)] w fun e w' => e = .returned (.slice (some ⟨g, 0, none⟩) (ps.length - k) c) ∧ Segs w' (.slice (some ⟨g, 0, none⟩) (ps.length - k) c) (ps.drop k) G ∧ Chg (fun x => x = g) w w' := by
  obtain ⟨A', c', e, hc1, hc2⟩ := h.form
  obtain ⟨-, -, rfl⟩ : some (⟨g, 0, none⟩ : Addr) = A' ∧ True ∧ c = c' := by simpa using e
  unfold maxLen at hc2
  by_cases h0 : k = 0
  · subst h0
    refine (delete_zero g ps.length c w hc1 hc2).mono ?_
    rintro e w' ⟨rfl, rfl⟩
    exact ⟨rfl, h, Chg.refl _ _⟩
  · refine (delete_some g c ps k G w h (by omega) (by omega)).mono ?_
    rintro e w' ⟨rfl, rfl⟩
    obtain ⟨h1, h2⟩ := h.cut (k := k) (by omega)
    exact ⟨rfl, h1, h2⟩
end Go.Proofs.YtcdeagmoldbicaaGreatDoor
