/- The walks of check, New, Count, Clock. The walks of New, Count, Clock. The walks of New and Clock. -/
import Derived.Test.YtnpenabkmpoafaaQNShf
set_option linter.unusedSimpArgs false
set_option linter.unusedVariables false
namespace Go.Proofs.Ytnpenabkmpoafaa
open Go.RowKit
def okI (n : Nat) (x : Int) : Bool := decide (0 ≤ x) && decide (x < n)
def chk (n : Nat) (l : List Int) : Int := if l.all (okI n) then 0 else 60
theorem ret_int' {a b : Int} (h : a = b) : Ending.returned (.int .i64 a) = Ending.returned (.int .i64 b) := by rw [h]
theorem Ints.at' {w : World} {A : Option Addr} {n c : Nat} {l : List Int} (h : Ints w (.slice A n c) l) {k : Nat} (hk : k < l.length) : ∃ b o, A = some ⟨b, o, none⟩ ∧ w.cell? ⟨b, o + k, none⟩ = some (.int .i64 l[k]) := by
  obtain ⟨A', c', hv, -, -, h3⟩ := h
  obtain ⟨rfl, -, -⟩ : A = A' ∧ n = l.length ∧ c = c' := by simpa using hv
  obtain ⟨b, o, e, hc⟩ := h3 (by omega)
  exact ⟨b, o, e, hc k l[k] (by simp [hk])⟩
theorem chk_bad {n : Nat} {l : List Int} {k : Nat} (hk : k < l.length) (h : okI n l[k] = false) : chk n l = 60 := by
  unfold chk
  rw [if_neg]
  intro ha
  rw [List.all_eq_true] at ha
  rw [ha _ (List.getElem_mem hk)] at h
  cases h
set_option maxRecDepth 100000 in
set_option maxHeartbeats 1000000 in
theorem check_any (l : List Int) (v : Value) (nb n : Nat) (A : Option Addr) (c : Nat) (w : World) (hv : Ints w v l) (hc : w.cell? ⟨nb, 0, none⟩ = some (.slice A n c)) (hn : n ≤ 32) :
    Calls Try.prog 30 #[.pointer (some ⟨nb, 0, none⟩), v] w fun e w' => e = .returned (.int .i64 (chk n l)) ∧ w' = w := by
  have HV := Lib.hid hv
  obtain ⟨Av, cv, rfl, hc1, hc2, -⟩ := hv
  unfold maxLen at hc2
  go_enter Try.func30, Try.ntmps30
  go_wp2
  go_loop [9] (fun i => ∃ k : Nat, k ≤ l.length ∧ i = .int .i64 (k : Int) ∧ (l.take k).all (okI n) = true) (fun i => l.length - (intOf i).toNat)
  case atStart => exact ⟨0, Nat.zero_le _, rfl, rfl⟩
  case round =>
    obtain ⟨k, hk, rfl, hall⟩ := hrel
    have HA := Lib.hid hall
    clear hall
    by_cases hlt : k < l.length
    · obtain ⟨b, o, rfl, hcell⟩ := HV.out.at' hlt
      have g1 : (k : Int) < (l.length : Int) := by omega
      cases hb : okI n l[k] with
      | true =>
        have HB := Lib.hid hb
        have hb2 := hb
        unfold okI at hb2
        simp only [Bool.and_eq_true, decide_eq_true_eq] at hb2
        have t1 : decide (l[k] < 0) = false := by simp; omega
        have t2 : decide ((n : Int) ≤ l[k]) = false := by simp; omega
        have ht : (l.take (k + 1)).all (okI n) = true := by
          rw [List.take_succ_eq_append_getElem hlt, List.all_append, HA.out, List.all_cons, hb]; rfl
        have HT := Lib.hid ht
        clear hb hb2 ht
        generalize l[k] = x at *
        go_wp2
        go_round
        case rel => exact ⟨k + 1, by omega, by go_num, HT.out⟩
        case measure => simp [intOf]; omega
      | false =>
        have HB := Lib.hid (chk_bad hlt hb)
        have hb2 := hb
        unfold okI at hb2
        clear hb
        by_cases h0 : l[k] < 0
        · have t1 : decide (l[k] < 0) = true := by simpa using h0
          clear hb2
          generalize l[k] = x at *
          go_wp2
          go_ret
          exact ⟨ret_int' HB.out.symm, rfl⟩
        · have t1 : decide (l[k] < 0) = false := by simpa using h0
          have t2 : decide ((n : Int) ≤ l[k]) = true := by
            simp only [Bool.and_eq_false_iff, decide_eq_false_iff_not] at hb2
            simp; omega
          have t3 : (n : Int) ≤ l[k] := by simpa using t2
          clear hb2
          generalize l[k] = x at *
          go_wp2
          go_ret
          exact ⟨ret_int' HB.out.symm, rfl⟩
    · obtain rfl : k = l.length := by omega
      rw [List.take_length] at HA
      go_wp2
      go_ret
      exact ⟨ret_int' (by unfold chk; rw [HA.out]; rfl), rfl⟩
end Go.Proofs.Ytnpenabkmpoafaa
set_option linter.unusedSimpArgs false
set_option linter.unusedVariables false
namespace Go.Proofs.Ytnpenabkmpoafaa
open Go.RowKit
theorem Ints.two (w : World) (a b : Int) (t : TypeId) : Ints (w.alloc (.cells #[.int .i64 a, .int .i64 b] t)) (.slice (some ⟨w.heap.size, 0, none⟩) 2 2) [a, b] := by
  refine ⟨_, 2, rfl, by simp, by decide, fun _ => ⟨_, 0, rfl, fun k x hx => ?_⟩⟩
  rw [Nat.zero_add, cell_at (heap_alloc_new w _)]
  match k, hx with
  | 0, hx => simp at hx; simp [hx]
  | 1, hx => simp at hx; simp [hx]
theorem Ints.one' (w : World) (a : Int) (t : TypeId) : Ints (w.alloc (.cells #[.int .i64 a] t)) (.slice (some ⟨w.heap.size, 0, none⟩) 1 1) [a] := by
  refine ⟨_, 1, rfl, by simp, by decide, fun _ => ⟨_, 0, rfl, fun k x hx => ?_⟩⟩
  rw [Nat.zero_add, cell_at (heap_alloc_new w _)]
  match k, hx with
  | 0, hx => simp at hx; simp [hx]
section
variable {w : World} {nb : Nat} {m : NM} {s : NS} {lim : Nat} {F : Nat → Prop}
theorem NetAt.c0 (h : NetAt w nb m s lim F) : w.cell? ⟨nb, 0, none⟩ = some (.slice (some ⟨m.tb, 0, none⟩) s.n s.n) := by rw [cell_at h.net]; rfl
theorem NetAt.c1 (h : NetAt w nb m s lim F) : w.cell? ⟨nb, 1, none⟩ = some (.int .i64 (s.room : Int)) := by rw [cell_at h.net]; rfl
theorem NetAt.c2 (h : NetAt w nb m s lim F) : w.cell? ⟨nb, 2, none⟩ = some (.map (some m.qb)) := by rw [cell_at h.net]; rfl
theorem NetAt.c3 (h : NetAt w nb m s lim F) : w.cell? ⟨nb, 3, none⟩ = some (.map (some m.cb)) := by rw [cell_at h.net]; rfl
/-- The check of two nodes, in an array of the call's own. -/
theorem NetAt.check2 (h : NetAt w nb m s lim F) (a b : Int) (t : TypeId) :
    Calls Try.prog 30 #[.pointer (some ⟨nb, 0, none⟩), .slice (some ⟨w.heap.size, 0, none⟩) 2 2] (w.alloc (.cells #[.int .i64 a, .int .i64 b] t)) fun e w' => e = .returned (.int .i64 (chk s.n [a, b])) ∧ w' = w.alloc (.cells #[.int .i64 a, .int .i64 b] t) :=
  check_any [a, b] _ nb s.n _ _ _ (Ints.two w a b t) (((Kept.refl w).alloc _).cell h.c0) h.small
theorem NetAt.check1 (h : NetAt w nb m s lim F) (a : Int) (t : TypeId) :
    Calls Try.prog 30 #[.pointer (some ⟨nb, 0, none⟩), .slice (some ⟨w.heap.size, 0, none⟩) 1 1] (w.alloc (.cells #[.int .i64 a] t)) fun e w' => e = .returned (.int .i64 (chk s.n [a])) ∧ w' = w.alloc (.cells #[.int .i64 a] t) :=
  check_any [a] _ nb s.n _ _ _ (Ints.one' w a t) (((Kept.refl w).alloc _).cell h.c0) h.small
end
theorem chk_two {n a b : Nat} (ha : a < n) (hb : b < n) : chk n [(a : Int), (b : Int)] = 0 := by
  unfold chk okI
  simp
  omega
theorem chk_two_inv {n : Nat} {a b : Int} (h : chk n [a, b] = 0) : ∃ a' b' : Nat, a = a' ∧ b = b' ∧ a' < n ∧ b' < n := by
  have h : [a, b].all (okI n) = true := by
    unfold chk at h
    split at h
    · assumption
    · cases h
  simp only [List.all_cons, List.all_nil, Bool.and_true, okI, Bool.and_eq_true, decide_eq_true_eq] at h
  exact ⟨a.toNat, b.toNat, by omega, by omega, by omega, by omega⟩
theorem chk_or (n : Nat) (l : List Int) : chk n l = 0 ∨ chk n l = 60 := by unfold chk; split <;> simp
theorem chk_one {n a : Nat} (ha : a < n) : chk n [(a : Int)] = 0 := by
  unfold chk okI
  simp
  omega
theorem chk_one_inv {n : Nat} {a : Int} (h : chk n [a] = 0) : ∃ a' : Nat, a = a' ∧ a' < n := by
  have h : [a].all (okI n) = true := by
    unfold chk at h
    split at h
    · assumption
    · cases h
  simp only [List.all_cons, List.all_nil, Bool.and_true, okI, Bool.and_eq_true, decide_eq_true_eq] at h
  exact ⟨a.toNat, by omega, by omega⟩
def countE (s : NS) (a b : Int) : Int := if chk s.n [a, b] = 0 then (s.q a.toNat b.toNat).length else 0
set_option maxRecDepth 100000 in
set_option maxHeartbeats 1000000 in
theorem count_any (w : World) (nb : Nat) (m : NM) (s : NS) (lim : Nat) (F : Nat → Prop) (h : NetAt w nb m s lim F) (a b : Int) :
    Calls Try.prog 9 #[.pointer (some ⟨nb, 0, none⟩), .int .i64 a, .int .i64 b] w fun e w' => e = .returned (.tuple #[.int .i64 (countE s a b), .int .i64 (chk s.n [a, b])]) ∧ Kept w w' := by
  have hc0 := h.c0
  have HCK := Lib.hid fun t => h.check2 a b t
  by_cases hk : chk s.n [a, b] = 0
  · obtain ⟨a, b, rfl, rfl, ha, hb⟩ := chk_two_inv hk
    have hco : countE s a b = (s.q a b).length := by unfold countE; rw [if_pos hk]; rfl
    rw [hk] at HCK ⊢
    rw [hco]
    obtain ⟨A, c, hq⟩ := own_form (h.rows a b ha hb)
    have hl := h.ulen ha hb
    have hsm := h.small
    rw [hl] at hq
    have hkk := (Kept.refl w).alloc (.cells #[.int .i64 (a : Int), .int .i64 (b : Int)] 3)
    have h2 := h.kept hkk
    have hc2 := h2.c2
    have hlk := h2.qs.look (a := a) (b := b) (by omega) (by omega)
    rw [hq] at hlk
    have hfl : (s.q a b).length ≤ 4096 := by have := h.full a b ha hb; have := h.roomy; omega
    generalize (s.q a b).length = len at *
    unfold pv at hlk
    clear h2 hk hco hl hq h
    go_enter Try.func9, Try.ntmps9
    go_wp2_with fail
    refine (HCK.out _).mono ?_
    rintro e w1 ⟨rfl, rfl⟩
    go_wp2
    go_ret2
    exact ⟨rfl, hkk⟩
  · have hco : countE s a b = 0 := by unfold countE; rw [if_neg hk]
    rcases chk_or s.n [a, b] with e | e
    · exact absurd e hk
    · rw [e] at HCK ⊢
      rw [hco]
      go_enter Try.func9, Try.ntmps9
      go_wp2_with fail
      refine (HCK.out _).mono ?_
      rintro e w1 ⟨rfl, rfl⟩
      go_wp2
      go_ret2
      exact ⟨rfl, (Kept.refl w).alloc _⟩
end Go.Proofs.Ytnpenabkmpoafaa
set_option linter.unusedSimpArgs false
set_option linter.unusedVariables false
namespace Go.Proofs.Ytnpenabkmpoafaa
open Go.RowKit
def newE (n r : Int) : Int := if n < 1 ∨ 32 < n then 60 else if r < 1 ∨ 4096 < r then 61 else 0
set_option maxRecDepth 100000 in
set_option maxHeartbeats 1000000 in
theorem new_bad (n r : Int) (w : World) (h : newE n r ≠ 0) : Calls Try.prog 5 #[.int .i64 n, .int .i64 r] w fun e w' => e = .returned (.tuple #[.pointer none, .int .i64 (newE n r)]) ∧ w' = w := by
  unfold newE at *
  by_cases h1 : n < 1
  · have t1 : decide (n < 1) = true := by simpa using h1
    rw [if_pos (.inl h1)]
    go_enter Try.func5, Try.ntmps5
    go_wp2
    go_ret2
    exact ⟨rfl, rfl⟩
  have t1 : decide (n < 1) = false := by simpa using h1
  by_cases h2 : 32 < n
  · have t2 : decide (32 < n) = true := by simpa using h2
    rw [if_pos (.inr h2)]
    go_enter Try.func5, Try.ntmps5
    go_wp2
    go_ret2
    exact ⟨rfl, rfl⟩
  have t2 : decide (32 < n) = false := by simpa using h2
  rw [if_neg (by omega)] at h ⊢
  by_cases h3 : r < 1
  · have t3 : decide (r < 1) = true := by simpa using h3
    rw [if_pos (.inl h3)]
    go_enter Try.func5, Try.ntmps5
    go_wp2
    go_ret2
    exact ⟨rfl, rfl⟩
  have t3 : decide (r < 1) = false := by simpa using h3
  by_cases h4 : 4096 < r
  · have t4 : decide (4096 < r) = true := by simpa using h4
    rw [if_pos (.inr h4)]
    go_enter Try.func5, Try.ntmps5
    go_wp2
    go_ret2
    exact ⟨rfl, rfl⟩
  rw [if_neg (by omega)] at h
  exact absurd rfl h
def NS.new (n r : Nat) : NS := ⟨n, r, fun _ _ => [], fun _ _ => false, List.replicate n 0⟩
set_option maxRecDepth 100000 in
set_option maxHeartbeats 1000000 in
theorem new_good (n r : Nat) (w : World) (hn : 1 ≤ n ∧ n ≤ 32) (hr : 1 ≤ r ∧ r ≤ 4096) :
    Calls Try.prog 5 #[.int .i64 (n : Int), .int .i64 (r : Int)] w fun e w' => ∃ nb m, e = .returned (.tuple #[.pointer (some ⟨nb, 0, none⟩), .int .i64 0]) ∧ NetAt w' nb m (NS.new n r) 0 (fresh w w') ∧ Kept w w' := by
  have t1 : decide ((n : Int) < 1) = false := by simp; omega
  have t2 : decide ((32 : Int) < (n : Int)) = false := by simp; omega
  have t3 : decide ((r : Int) < 1) = false := by simp; omega
  have t4 : decide ((4096 : Int) < (r : Int)) = false := by simp; omega
  have hmm := @run_makeMap Try.prog
  obtain ⟨i, hi, hz, hs, hb⟩ := info_int
  obtain ⟨w1, hmk, hrow, hgr⟩ := run_make_full (P := Try.prog) w w.heap.size 37 3 i (.int .i64 0) 1 Try.underlying37 hi hz hs .i64 .i64 n (by rw [hb]; omega) (by unfold maxLen; omega) (Nat.le_refl _)
  have hk1 : Kept w w1 := (Chg.of_grown (F := no) hgr (fun g hg => by cases hg)).to_kept
  have hcur : w1.heap[w.heap.size]? = some (.cells ((List.replicate n 0).map Iv).toArray 3 (0, 0)) := by
    rcases hrow.2 with ⟨e, -⟩ | ⟨g, cap, cur, e, -, h1, -, -, h2, h3⟩
    · cases e
    · obtain ⟨rfl, rfl⟩ : w.heap.size = g ∧ n = cap := by simpa using e
      rw [h1]
      have e2 : cur.toList = (List.replicate n 0).map Iv := by
        have hsz : cur.toList.length = n := by simpa using h2
        rw [Nat.mul_one, List.take_of_length_le (by omega)] at h3
        rw [h3]
        show (madeCells #[.int .i64 0] n).toList = _
        rw [toList_madeCells_one, List.map_replicate]
        rfl
      have e3 : cur = ((List.replicate n 0).map Iv).toArray := by rw [← e2]
      rw [e3]
  have HCUR := Lib.hid hcur
  clear hrow hgr hcur hi hz hs hb
  go_enter Try.func5, Try.ntmps5
  go_wp2
  go_ret2
  have hlt : w.heap.size < w1.heap.size := (Array.getElem?_eq_some_iff.1 HCUR.out).1
  have k1 := (Kept.refl w1).alloc (.map #[] 0)
  have k2 := (Kept.refl (w1.alloc (.map #[] 0))).alloc (.map #[] 0)
  have k3 := (Kept.refl ((w1.alloc (.map #[] 0)).alloc (.map #[] 0))).alloc (.cells #[.slice (some ⟨w.heap.size, 0, none⟩) n n, .int .i64 (r : Int), .map (some w1.heap.size), .map (some (w1.heap.size + 1))] 51)
  have s1 : (w1.alloc (.map #[] 0)).heap.size = w1.heap.size + 1 := by simp
  have s2 : ((w1.alloc (.map #[] 0)).alloc (.map #[] 0)).heap.size = w1.heap.size + 2 := by simp
  have hnet := heap_alloc_new ((w1.alloc (.map #[] 0)).alloc (.map #[] 0)) (.cells #[.slice (some ⟨w.heap.size, 0, none⟩) n n, .int .i64 (r : Int), .map (some w1.heap.size), .map (some (w1.heap.size + 1))] 51)
  rw [s2] at hnet
  have hq : OwnsP _ w1.heap.size 0 (.map []) := map_chg (World.ownsMap_made w1 Try.prog 71 rdV) (Chg.of_kept (F := no) (k2.trans k3)) (fun x => x)
  have hc' := World.ownsMap_made (H := Value) (w1.alloc (.map #[] 0)) Try.prog 71 unitElem
  rw [s1] at hc'
  have hc : OwnsU _ (w1.heap.size + 1) 0 (.map []) := map_chg hc' (Chg.of_kept (F := no) k3) (fun x => x)
  have hin : ∀ g, w.heap.size ≤ g → g < w1.heap.size + 3 → fresh w ((((w1.alloc (.map #[] 0)).alloc (.map #[] 0)).alloc (.cells #[.slice (some ⟨w.heap.size, 0, none⟩) n n, .int .i64 (r : Int), .map (some w1.heap.size), .map (some (w1.heap.size + 1))] 51))) g := fun g h1 h2 => .inr ⟨h1, by simpa using h2⟩
  refine ⟨w1.heap.size + 2, ⟨w.heap.size, w1.heap.size, w1.heap.size + 1, .map [], .map [], fun _ _ => []⟩, rfl, ⟨hnet, (((k1.trans k2).trans k3).block' HCUR.out), by simp [NS.new], hq, hc, by simp, fun a b _ _ => World.ownsRow_nil _ _ _ _, fun a b _ _ x hx => (by cases hx), fun _ _ _ _ => rfl, fun _ _ _ _ => rfl, fun a b a' b' g _ _ _ _ hg => (by cases hg), fun a b i x a' b' i' x' g _ _ _ _ hx => (by simp at hx), hn.1, hn.2, hr, fun a b _ _ => Nat.zero_le _, fun x hx => ?_, fun a b _ _ l hl => (by cases hl), hin _ (by first | omega | (dsimp only; omega)) (by first | omega | (dsimp only; omega)), hin _ (by first | omega | (dsimp only; omega)) (by first | omega | (dsimp only; omega)), hin _ (by first | omega | (dsimp only; omega)) (by first | omega | (dsimp only; omega)), hin _ (by first | omega | (dsimp only; omega)) (by first | omega | (dsimp only; omega)), fun a b g _ _ hg => (by cases hg), fun a b x g _ _ hx => (by cases hx)⟩, ((hk1.trans k1).trans k2).trans k3⟩
  have := List.eq_of_mem_replicate hx
  omega
def clockE (s : NS) (i : Int) : Int := if chk s.n [i] = 0 then (s.t.getD i.toNat 0 : Nat) else 0
set_option maxRecDepth 100000 in
set_option maxHeartbeats 1000000 in
theorem clock_any (w : World) (nb : Nat) (m : NM) (s : NS) (lim : Nat) (F : Nat → Prop) (h : NetAt w nb m s lim F) (i : Int) :
    Calls Try.prog 11 #[.pointer (some ⟨nb, 0, none⟩), .int .i64 i] w fun e w' => e = .returned (.tuple #[.int .i64 (clockE s i), .int .i64 (chk s.n [i])]) ∧ Kept w w' := by
  have hc0 := h.c0
  have HCK := Lib.hid fun t => h.check1 i t
  have hkk := (Kept.refl w).alloc (.cells #[.int .i64 i] 3)
  by_cases hk : chk s.n [i] = 0
  · obtain ⟨a, rfl, ha⟩ := chk_one_inv hk
    have hco : clockE s a = (s.t.getD a 0 : Nat) := by unfold clockE; rw [if_pos hk]; rfl
    rw [hk] at HCK ⊢
    rw [hco]
    have h2 := h.kept hkk
    have hc2 := h2.c0
    have hct : (w.alloc (.cells #[.int .i64 (a : Int)] 3)).cell? ⟨m.tb, a, none⟩ = some (.int .i64 ((s.t.getD a 0 : Nat) : Int)) := by
      rw [cell_at h2.tms]
      have hl := h.tlen
      simp [List.getD, Iv, show a < s.t.length by omega]
    generalize s.t.getD a 0 = x at *
    have hsm := h.small
    clear h2 hk hco h
    go_enter Try.func11, Try.ntmps11
    go_wp2_with fail
    refine (HCK.out _).mono ?_
    rintro e w1 ⟨rfl, rfl⟩
    go_wp2
    go_ret2
    exact ⟨rfl, hkk⟩
  · have hco : clockE s i = 0 := by unfold clockE; rw [if_neg hk]
    rcases chk_or s.n [i] with e | e
    · exact absurd e hk
    · rw [e] at HCK ⊢
      rw [hco]
      go_enter Try.func11, Try.ntmps11
      go_wp2_with fail
      refine (HCK.out _).mono ?_
      rintro e w1 ⟨rfl, rfl⟩
      go_wp2
      go_ret2
      exact ⟨rfl, hkk⟩
end Go.Proofs.Ytnpenabkmpoafaa
