/- The walks of New and Clock. -/
import Derived.Test.YtmoimldkagmkaaaQNWk2
set_option linter.unusedSimpArgs false
set_option linter.unusedVariables false
namespace Go.Proofs.Ytmoimldkagmkaaa
open Go.RowKit
def newE (n r : Int) : Int := if n < 1 ∨ 32 < n then 60 else if r < 1 ∨ 4096 < r then 61 else 0
set_option maxRecDepth 100000 in
set_option maxHeartbeats 1000000 in
theorem new_bad (n r : Int) (w : World) (h : newE n r ≠ 0) : Calls Try.prog 8 #[.int .i64 n, .int .i64 r] w fun e w' => e = .returned (.tuple #[.pointer none, .int .i64 (newE n r)]) ∧ w' = w := by
  unfold newE at *
  by_cases h1 : n < 1
  · have t1 : decide (n < 1) = true := by simpa using h1
    rw [if_pos (.inl h1)]
    go_enter Try.func8, Try.ntmps8
    go_wp2
    go_ret2
    exact ⟨rfl, rfl⟩
  have t1 : decide (n < 1) = false := by simpa using h1
  by_cases h2 : 32 < n
  · have t2 : decide (32 < n) = true := by simpa using h2
    rw [if_pos (.inr h2)]
    go_enter Try.func8, Try.ntmps8
    go_wp2
    go_ret2
    exact ⟨rfl, rfl⟩
  have t2 : decide (32 < n) = false := by simpa using h2
  rw [if_neg (by omega)] at h ⊢
  by_cases h3 : r < 1
  · have t3 : decide (r < 1) = true := by simpa using h3
    rw [if_pos (.inl h3)]
    go_enter Try.func8, Try.ntmps8
    go_wp2
    go_ret2
    exact ⟨rfl, rfl⟩
  have t3 : decide (r < 1) = false := by simpa using h3
  by_cases h4 : 4096 < r
  · have t4 : decide (4096 < r) = true := by simpa using h4
    rw [if_pos (.inr h4)]
    go_enter Try.func8, Try.ntmps8
    go_wp2
    go_ret2
    exact ⟨rfl, rfl⟩
  rw [if_neg (by omega)] at h
  exact absurd rfl h
def NS.new (n r : Nat) : NS := ⟨n, r, fun _ _ => [], fun _ _ => false, List.replicate n 0⟩
set_option maxRecDepth 100000 in
set_option maxHeartbeats 1000000 in
theorem new_good (n r : Nat) (w : World) (hn : 1 ≤ n ∧ n ≤ 32) (hr : 1 ≤ r ∧ r ≤ 4096) :
    Calls Try.prog 8 #[.int .i64 (n : Int), .int .i64 (r : Int)] w fun e w' => ∃ nb m, e = .returned (.tuple #[.pointer (some ⟨nb, 0, none⟩), .int .i64 0]) ∧ NetAt w' nb m (NS.new n r) 0 (fresh w w') ∧ Kept w w' := by
  have t1 : decide ((n : Int) < 1) = false := by simp; omega
  have t2 : decide ((32 : Int) < (n : Int)) = false := by simp; omega
  have t3 : decide ((r : Int) < 1) = false := by simp; omega
  have t4 : decide ((4096 : Int) < (r : Int)) = false := by simp; omega
  have hmm := @run_makeMap Try.prog
  obtain ⟨i, hi, hz, hs, hb⟩ := info_int
  obtain ⟨w1, hmk, hrow, hgr⟩ := run_make_full (P := Try.prog) w w.heap.size 37 3 i (.int .i64 0) 1 Try.underlying37 hi hz hs .i64 .i64 n (by rw [hb]; omega) (by unfold maxLen; omega) (Nat.le_refl _)
  have hk1 : Kept w w1 := (Chg.of_grown (F := no) hgr (fun g hg => by cases hg)).to_kept
  have hcur : w1.heap[w.heap.size]? = some (.cells ((List.replicate n 0).map Iv).toArray 3 (0, 0)) := by
    rcases hrow.2 with ⟨e, -⟩ | ⟨g, cap, cur, e, -, h1, -, -, h2, h3⟩
    · cases e
    · obtain ⟨rfl, rfl⟩ : w.heap.size = g ∧ n = cap := by simpa using e
      rw [h1]
      have e2 : cur.toList = (List.replicate n 0).map Iv := by
        have hsz : cur.toList.length = n := by simpa using h2
        rw [Nat.mul_one, List.take_of_length_le (by omega)] at h3
        rw [h3]
        show (madeCells #[.int .i64 0] n).toList = _
        rw [toList_madeCells_one, List.map_replicate]
        rfl
      have e3 : cur = ((List.replicate n 0).map Iv).toArray := by rw [← e2]
      rw [e3]
  have HCUR := Lib.hid hcur
  clear hrow hgr hcur hi hz hs hb
  go_enter Try.func8, Try.ntmps8
  go_wp2
  go_ret2
  have hlt : w.heap.size < w1.heap.size := (Array.getElem?_eq_some_iff.1 HCUR.out).1
  have k1 := (Kept.refl w1).alloc (.map #[] 0)
  have k2 := (Kept.refl (w1.alloc (.map #[] 0))).alloc (.map #[] 0)
  have k3 := (Kept.refl ((w1.alloc (.map #[] 0)).alloc (.map #[] 0))).alloc (.cells #[.slice (some ⟨w.heap.size, 0, none⟩) n n, .int .i64 (r : Int), .map (some w1.heap.size), .map (some (w1.heap.size + 1))] 51)
  have s1 : (w1.alloc (.map #[] 0)).heap.size = w1.heap.size + 1 := by simp
  have s2 : ((w1.alloc (.map #[] 0)).alloc (.map #[] 0)).heap.size = w1.heap.size + 2 := by simp
  have hnet := heap_alloc_new ((w1.alloc (.map #[] 0)).alloc (.map #[] 0)) (.cells #[.slice (some ⟨w.heap.size, 0, none⟩) n n, .int .i64 (r : Int), .map (some w1.heap.size), .map (some (w1.heap.size + 1))] 51)
  rw [s2] at hnet
  have hq : OwnsP _ w1.heap.size 0 (.map []) := map_chg (World.ownsMap_made w1 Try.prog 76 rdV) (Chg.of_kept (F := no) (k2.trans k3)) (fun x => x)
  have hc' := World.ownsMap_made (H := Value) (w1.alloc (.map #[] 0)) Try.prog 76 unitElem
  rw [s1] at hc'
  have hc : OwnsU _ (w1.heap.size + 1) 0 (.map []) := map_chg hc' (Chg.of_kept (F := no) k3) (fun x => x)
  have hin : ∀ g, w.heap.size ≤ g → g < w1.heap.size + 3 → fresh w ((((w1.alloc (.map #[] 0)).alloc (.map #[] 0)).alloc (.cells #[.slice (some ⟨w.heap.size, 0, none⟩) n n, .int .i64 (r : Int), .map (some w1.heap.size), .map (some (w1.heap.size + 1))] 51))) g := fun g h1 h2 => .inr ⟨h1, by simpa using h2⟩
  refine ⟨w1.heap.size + 2, ⟨w.heap.size, w1.heap.size, w1.heap.size + 1, .map [], .map [], fun _ _ => []⟩, rfl, ⟨hnet, (((k1.trans k2).trans k3).block' HCUR.out), by simp [NS.new], hq, hc, by simp, fun a b _ _ => World.ownsRow_nil _ _ _ _, fun a b _ _ x hx => (by cases hx), fun _ _ _ _ => rfl, fun _ _ _ _ => rfl, fun a b a' b' g _ _ _ _ hg => (by cases hg), fun a b i x a' b' i' x' g _ _ _ _ hx => (by simp at hx), hn.1, hn.2, hr, fun a b _ _ => Nat.zero_le _, fun x hx => ?_, fun a b _ _ l hl => (by cases hl), hin _ (by first | omega | (dsimp only; omega)) (by first | omega | (dsimp only; omega)), hin _ (by first | omega | (dsimp only; omega)) (by first | omega | (dsimp only; omega)), hin _ (by first | omega | (dsimp only; omega)) (by first | omega | (dsimp only; omega)), hin _ (by first | omega | (dsimp only; omega)) (by first | omega | (dsimp only; omega)), fun a b g _ _ hg => (by cases hg), fun a b x g _ _ hx => (by cases hx)⟩, ((hk1.trans k1).trans k2).trans k3⟩
  have := List.eq_of_mem_replicate hx
  omega
def clockE (s : NS) (i : Int) : Int := if chk s.n [i] = 0 then (s.t.getD i.toNat 0 : Nat) else 0
set_option maxRecDepth 100000 in
set_option maxHeartbeats 1000000 in
theorem clock_any (w : World) (nb : Nat) (m : NM) (s : NS) (lim : Nat) (F : Nat → Prop) (h : NetAt w nb m s lim F) (i : Int) :
    Calls Try.prog 14 #[.pointer (some ⟨nb, 0, none⟩), .int .i64 i] w fun e w' => e = .returned (.tuple #[.int .i64 (clockE s i), .int .i64 (chk s.n [i])]) ∧ Kept w w' := by
  have hc0 := h.c0
  have HCK := Lib.hid fun t => h.check1 i t
  have hkk := (Kept.refl w).alloc (.cells #[.int .i64 i] 3)
  by_cases hk : chk s.n [i] = 0
  · obtain ⟨a, rfl, ha⟩ := chk_one_inv hk
    have hco : clockE s a = (s.t.getD a 0 : Nat) := by unfold clockE; rw [if_pos hk]; rfl
    rw [hk] at HCK ⊢
    rw [hco]
    have h2 := h.kept hkk
    have hc2 := h2.c0
    have hct : (w.alloc (.cells #[.int .i64 (a : Int)] 3)).cell? ⟨m.tb, a, none⟩ = some (.int .i64 ((s.t.getD a 0 : Nat) : Int)) := by
      rw [cell_at h2.tms]
      have hl := h.tlen
      simp [List.getD, Iv, show a < s.t.length by omega]
    generalize s.t.getD a 0 = x at *
    have hsm := h.small
    clear h2 hk hco h
    go_enter Try.func14, Try.ntmps14
    go_wp2_with fail
    refine (HCK.out _).mono ?_
    rintro e w1 ⟨rfl, rfl⟩
    go_wp2
    go_ret2
    exact ⟨rfl, hkk⟩
  · have hco : clockE s i = 0 := by unfold clockE; rw [if_neg hk]
    rcases chk_or s.n [i] with e | e
    · exact absurd e hk
    · rw [e] at HCK ⊢
      rw [hco]
      go_enter Try.func14, Try.ntmps14
      go_wp2_with fail
      refine (HCK.out _).mono ?_
      rintro e w1 ⟨rfl, rfl⟩
      go_wp2
      go_ret2
      exact ⟨rfl, hkk⟩
end Go.Proofs.Ytmoimldkagmkaaa
