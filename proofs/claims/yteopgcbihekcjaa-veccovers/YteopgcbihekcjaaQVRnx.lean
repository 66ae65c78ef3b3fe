/- The walks of the document's Next and of told. -/
import Derived.Test.YteopgcbihekcjaaQVNxt
set_option linter.unusedSimpArgs false
set_option linter.unusedVariables false
namespace Go.Proofs.Yteopgcbihekcjaa
open Go.RowKit
/-- Is it told so? -/
def toldB (e : Int) (ok : Bool) (code : Int) : Bool := if ok then e == 0 else e == code
set_option maxHeartbeats 400000 in
theorem told_any (e : Int) (ok : Bool) (code : Int) (w : World) : Calls Try.prog 11 #[.int .i64 e, .bool ok, .int .i64 code] w fun x w' => x = .returned (.bool (toldB e ok code)) ∧ w = w' := by
  unfold toldB
  cases ok with
  | true =>
    by_cases h : e = 0
    · have t : (e == 0) = true := beq_iff_eq.2 h
      simp only [if_true]
      rw [t]
      go_enter Try.func11, Try.ntmps11
      go_wp2
      go_ret
      exact ⟨rfl, rfl⟩
    · have t : (e == 0) = false := beq_eq_false_iff_ne.2 h
      simp only [if_true]
      rw [t]
      go_enter Try.func11, Try.ntmps11
      go_wp2
      go_ret
      exact ⟨rfl, rfl⟩
  | false =>
    simp only [Bool.false_eq_true, if_false]
    generalize ht : (e == code) = t
    go_enter Try.func11, Try.ntmps11
    go_wp2
    go_ret
    exact ⟨rfl, rfl⟩
theorem nextOk_no1 {n r rep : Int} (h : bOk n r = false) : nextOk n r rep = false := by unfold nextOk; rw [h]; rfl
theorem nextOk_no2 {n r rep : Int} (h : rep < 0 ∨ 6 < rep) : nextOk n r rep = false := by
  unfold nextOk
  rw [bOk_no (n := nextN n r rep) (by omega)]
  simp
theorem pair_new {w : World} (x y : Value) (t : TypeId) : (w.alloc (.cells #[x, y] t)).cell? ⟨w.heap.size, 0, none⟩ = some x ∧ (w.alloc (.cells #[x, y] t)).cell? ⟨w.heap.size, 1, none⟩ = some y := cells2 (heap_alloc_new w (.cells #[x, y] t))
set_option maxHeartbeats 1000000 in
theorem refNext_any (n r rep : Int) (w : World) : Calls Try.prog 9 #[bal n r, .int .i64 rep] w fun e w' => e = .returned (.tuple #[bal (nextA n r rep) (nextB n r rep), .bool (nextOk n r rep)]) ∧ Kept w w' := by
  cases hb : bOk n r with
  | false =>
    have HB := Lib.hid (show (!bOk n r) = true by rw [hb]; rfl)
    have hno := nextOk_no1 (rep := rep) hb
    obtain ⟨e1, e2, -⟩ := next_bad hno
    rw [e1, e2, hno]
    clear e1 e2 hno hb
    go_enter Try.func9, Try.ntmps9
    go_wp2_with fail
    refine (bbad_any n r _).mono ?_
    rintro e w1 ⟨rfl, k1⟩
    rw [HB.out]
    have b0 := k1.block' (((Kept.refl _).alloc _).block' (heap_alloc_new w (.cells #[.int .i64 n, .int .i64 r] 24)))
    have b1 := k1.block' (two_new w (.cells #[.int .i64 n, .int .i64 r] 24) 24 (.int .i64 0) (.int .i64 0))
    obtain ⟨q0, q1⟩ := cells2 b0
    obtain ⟨x0, x1⟩ := cells2 b1
    have y0 := frozen_at b1 0
    have y1 := frozen_at b1 1
    have HP := Lib.hid (put2 b1 (.int .i64 0) (.int .i64 0))
    have HKK := Lib.hid (put2_kept ((((Kept.refl w).alloc _).alloc _).trans k1) (b := w.heap.size + 1) (Nat.le_succ _) (.int .i64 0) (.int .i64 0))
    clear b0 b1 k1
    go_wp2
    (try simp only [Exit.inBlock, Exit.then])
    have hp := HP.out
    have hk := HKK.out
    generalize (w1.setCell ⟨w.heap.size + 1, 0, none⟩ (.int .i64 0)).setCell ⟨w.heap.size + 1, 1, none⟩ (.int .i64 0) = w9 at hp hk ⊢
    obtain ⟨d0, d1⟩ := cells2 hp
    refine bodyPost_ret (v := .tuple #[bal 0 0, .bool false]) (by simp [results, Try.results9, go_sem, d0, d1]) rfl ?_
    exact ⟨rfl, hk⟩
  | true =>
    have HB := Lib.hid (show (!bOk n r) = false by rw [hb]; rfl)
    have hr := (bOk_iff n r).1 hb
    have HO := Lib.hid hb
    clear hb
    by_cases h1 : rep < 0
    · have t1 : decide (rep < 0) = true := decide_eq_true h1
      have hno := nextOk_no2 (n := n) (r := r) (rep := rep) (.inl h1)
      obtain ⟨e1, e2, -⟩ := next_bad hno
      rw [e1, e2, hno]
      clear e1 e2 hno
      go_enter Try.func9, Try.ntmps9
      go_wp2_with fail
      refine (bbad_any n r _).mono ?_
      rintro e w1 ⟨rfl, k1⟩
      rw [HB.out]
      have b0 := k1.block' (((Kept.refl _).alloc _).block' (heap_alloc_new w (.cells #[.int .i64 n, .int .i64 r] 24)))
      have b1 := k1.block' (two_new w (.cells #[.int .i64 n, .int .i64 r] 24) 24 (.int .i64 0) (.int .i64 0))
      obtain ⟨q0, q1⟩ := cells2 b0
      obtain ⟨x0, x1⟩ := cells2 b1
      have y0 := frozen_at b1 0
      have y1 := frozen_at b1 1
      have HP := Lib.hid (put2 b1 (.int .i64 0) (.int .i64 0))
      have HKK := Lib.hid (put2_kept ((((Kept.refl w).alloc _).alloc _).trans k1) (b := w.heap.size + 1) (Nat.le_succ _) (.int .i64 0) (.int .i64 0))
      clear b0 b1 k1
      go_wp2
      (try simp only [Exit.inBlock, Exit.then])
      have hp := HP.out
      have hk := HKK.out
      generalize (w1.setCell ⟨w.heap.size + 1, 0, none⟩ (.int .i64 0)).setCell ⟨w.heap.size + 1, 1, none⟩ (.int .i64 0) = w9 at hp hk ⊢
      obtain ⟨d0, d1⟩ := cells2 hp
      refine bodyPost_ret (v := .tuple #[bal 0 0, .bool false]) (by simp [results, Try.results9, go_sem, d0, d1]) rfl ?_
      exact ⟨rfl, hk⟩
    · have t1 : decide (rep < 0) = false := decide_eq_false h1
      by_cases h2 : 6 < rep
      · have t2 : decide (6 < rep) = true := decide_eq_true h2
        have hno := nextOk_no2 (n := n) (r := r) (rep := rep) (.inr h2)
        obtain ⟨e1, e2, -⟩ := next_bad hno
        rw [e1, e2, hno]
        clear e1 e2 hno
        go_enter Try.func9, Try.ntmps9
        go_wp2_with fail
        refine (bbad_any n r _).mono ?_
        rintro e w1 ⟨rfl, k1⟩
        rw [HB.out]
        have b0 := k1.block' (((Kept.refl _).alloc _).block' (heap_alloc_new w (.cells #[.int .i64 n, .int .i64 r] 24)))
        have b1 := k1.block' (two_new w (.cells #[.int .i64 n, .int .i64 r] 24) 24 (.int .i64 0) (.int .i64 0))
        obtain ⟨q0, q1⟩ := cells2 b0
        obtain ⟨x0, x1⟩ := cells2 b1
        have y0 := frozen_at b1 0
        have y1 := frozen_at b1 1
        have HP := Lib.hid (put2 b1 (.int .i64 0) (.int .i64 0))
        have HKK := Lib.hid (put2_kept ((((Kept.refl w).alloc _).alloc _).trans k1) (b := w.heap.size + 1) (Nat.le_succ _) (.int .i64 0) (.int .i64 0))
        clear b0 b1 k1
        go_wp2
        (try simp only [Exit.inBlock, Exit.then])
        have hp := HP.out
        have hk := HKK.out
        generalize (w1.setCell ⟨w.heap.size + 1, 0, none⟩ (.int .i64 0)).setCell ⟨w.heap.size + 1, 1, none⟩ (.int .i64 0) = w9 at hp hk ⊢
        obtain ⟨d0, d1⟩ := cells2 hp
        refine bodyPost_ret (v := .tuple #[bal 0 0, .bool false]) (by simp [results, Try.results9, go_sem, d0, d1]) rfl ?_
        exact ⟨rfl, hk⟩
      · have t2 : decide (6 < rep) = false := decide_eq_false h2
        by_cases hle : rep ≤ r
        · have t3 : decide (rep ≤ r) = true := decide_eq_true hle
          have hnn : nextN n r rep = n + 1 := nextN_le (by omega)
          by_cases h4 : 1099511627776 < n + 1
          · have t4 : decide (1099511627776 < n + 1) = true := decide_eq_true h4
            have hno : nextOk n r rep = false := by unfold nextOk; rw [hnn, bOk_no (n := n + 1) (r := rep) (by omega)]; simp
            obtain ⟨e1, e2, -⟩ := next_bad hno
            rw [e1, e2, hno]
            clear e1 e2 hno hnn
            go_enter Try.func9, Try.ntmps9
            go_wp2_with fail
            refine (bbad_any n r _).mono ?_
            rintro e w1 ⟨rfl, k1⟩
            rw [HB.out]
            have b0 := k1.block' (((Kept.refl _).alloc _).block' (heap_alloc_new w (.cells #[.int .i64 n, .int .i64 r] 24)))
            have b1 := k1.block' (two_new w (.cells #[.int .i64 n, .int .i64 r] 24) 24 (.int .i64 0) (.int .i64 0))
            obtain ⟨q0, q1⟩ := cells2 b0
            obtain ⟨x0, x1⟩ := cells2 b1
            have y0 := frozen_at b1 0
            have y1 := frozen_at b1 1
            have HP := Lib.hid (put2 b1 (.int .i64 0) (.int .i64 0))
            have HKK := Lib.hid (put2_kept ((((Kept.refl w).alloc _).alloc _).trans k1) (b := w.heap.size + 1) (Nat.le_succ _) (.int .i64 0) (.int .i64 0))
            clear b0 b1 k1
            go_wp2
            (try simp only [Exit.inBlock, Exit.then])
            have hp := HP.out
            have hk := HKK.out
            generalize (w1.setCell ⟨w.heap.size + 1, 0, none⟩ (.int .i64 0)).setCell ⟨w.heap.size + 1, 1, none⟩ (.int .i64 0) = w9 at hp hk ⊢
            obtain ⟨d0, d1⟩ := cells2 hp
            refine bodyPost_ret (v := .tuple #[bal 0 0, .bool false]) (by simp [results, Try.results9, go_sem, d0, d1]) rfl ?_
            exact ⟨rfl, hk⟩
          · have t4 : decide (1099511627776 < n + 1) = false := decide_eq_false h4
            have hno : nextOk n r rep = true := by unfold nextOk; rw [hnn, HO.out, (bOk_iff (n + 1) rep).2 (by omega)]; rfl
            obtain ⟨e1, e2, -⟩ := next_good hno
            rw [e1, e2, hno, hnn]
            clear e1 e2 hno hnn
            go_enter Try.func9, Try.ntmps9
            go_wp2_with fail
            refine (bbad_any n r _).mono ?_
            rintro e w1 ⟨rfl, k1⟩
            rw [HB.out]
            have b0 := k1.block' (((Kept.refl _).alloc _).block' (heap_alloc_new w (.cells #[.int .i64 n, .int .i64 r] 24)))
            have b1 := k1.block' (two_new w (.cells #[.int .i64 n, .int .i64 r] 24) 24 (.int .i64 0) (.int .i64 0))
            obtain ⟨q0, q1⟩ := cells2 b0
            obtain ⟨x0, x1⟩ := cells2 b1
            have y0 := frozen_at b1 0
            have y1 := frozen_at b1 1
            have HP := Lib.hid (put2 b1 (.int .i64 (n + 1)) (.int .i64 rep))
            have HKK := Lib.hid (put2_kept ((((Kept.refl w).alloc _).alloc _).trans k1) (b := w.heap.size + 1) (Nat.le_succ _) (.int .i64 (n + 1)) (.int .i64 rep))
            clear b0 b1 k1
            go_wp2
            (try simp only [Exit.inBlock, Exit.then])
            have hp := HP.out
            have hk := HKK.out
            generalize (w1.setCell ⟨w.heap.size + 1, 0, none⟩ (.int .i64 (n + 1))).setCell ⟨w.heap.size + 1, 1, none⟩ (.int .i64 rep) = w9 at hp hk ⊢
            obtain ⟨d0, d1⟩ := cells2 hp
            refine bodyPost_ret (v := .tuple #[bal (n + 1) rep, .bool true]) (by simp [results, Try.results9, go_sem, d0, d1]) rfl ?_
            exact ⟨rfl, hk⟩
        · have t3 : decide (rep ≤ r) = false := decide_eq_false hle
          have hnn : nextN n r rep = n := nextN_lt (by omega)
          have t4 : decide (1099511627776 < n) = false := decide_eq_false (by omega)
          have hno : nextOk n r rep = true := by unfold nextOk; rw [hnn, HO.out, (bOk_iff n rep).2 (by omega)]; rfl
          obtain ⟨e1, e2, -⟩ := next_good hno
          rw [e1, e2, hno, hnn]
          clear e1 e2 hno hnn
          go_enter Try.func9, Try.ntmps9
          go_wp2_with fail
          refine (bbad_any n r _).mono ?_
          rintro e w1 ⟨rfl, k1⟩
          rw [HB.out]
          have b0 := k1.block' (((Kept.refl _).alloc _).block' (heap_alloc_new w (.cells #[.int .i64 n, .int .i64 r] 24)))
          have b1 := k1.block' (two_new w (.cells #[.int .i64 n, .int .i64 r] 24) 24 (.int .i64 0) (.int .i64 0))
          obtain ⟨q0, q1⟩ := cells2 b0
          obtain ⟨x0, x1⟩ := cells2 b1
          have y0 := frozen_at b1 0
          have y1 := frozen_at b1 1
          have HP := Lib.hid (put2 b1 (.int .i64 n) (.int .i64 rep))
          have HKK := Lib.hid (put2_kept ((((Kept.refl w).alloc _).alloc _).trans k1) (b := w.heap.size + 1) (Nat.le_succ _) (.int .i64 n) (.int .i64 rep))
          clear b0 b1 k1
          go_wp2
          (try simp only [Exit.inBlock, Exit.then])
          have hp := HP.out
          have hk := HKK.out
          generalize (w1.setCell ⟨w.heap.size + 1, 0, none⟩ (.int .i64 n)).setCell ⟨w.heap.size + 1, 1, none⟩ (.int .i64 rep) = w9 at hp hk ⊢
          obtain ⟨d0, d1⟩ := cells2 hp
          refine bodyPost_ret (v := .tuple #[bal n rep, .bool true]) (by simp [results, Try.results9, go_sem, d0, d1]) rfl ?_
          exact ⟨rfl, hk⟩
end Go.Proofs.Yteopgcbihekcjaa
