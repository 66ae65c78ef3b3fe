/- The walk of an index's Add: what is refused, and a Noop. -/
import Derived.Test.YtgmpbalibdlhdaaQIIx
set_option linter.unusedSimpArgs false
set_option linter.unusedVariables false
namespace Go.Proofs.Ytgmpbalibdlhdaa
open Go.RowKit
/-- What Add leaves. -/
def AddTo (w : World) (xb mb n : Nat) (L : List It) (x : It) (e : Ending) (w' : World) : Prop := e = .returned (.int .i64 (addE n x)) ∧ (∃ st', IxAt w' xb mb n st' (addL n x L)) ∧ Chg (fun g => g = xb ∨ g = mb) w w'
section
variable {w : World} {xb mb n : Nat} {st : TSt} {L : List It}
theorem AddTo.same {w' : World} (h : IxAt w xb mb n st L) {x : It} {e : Int} (k : Kept w w') (he : addE n x = e) (hne : e ≠ 0) : AddTo w xb mb n L x (.returned (.int .i64 e)) w' := by
  refine ⟨by rw [he], ⟨st, ?_⟩, Chg.of_kept k⟩
  unfold addL
  rw [if_neg (by rw [he]; exact hne)]
  exact h.kept k
theorem AddTo.of {w' : World} {st' : TSt} {x : It} (hx : okI n x) (h : IxAt w' xb mb n st' (L ++ [x])) (c : Chg (fun g => g = xb ∨ g = mb) w w') : AddTo w xb mb n L x (.returned (.int .i64 0)) w' := by
  refine ⟨by rw [okI_iff.2 hx], ⟨st', ?_⟩, c⟩
  unfold addL
  rw [if_pos (okI_iff.2 hx)]
  exact h
theorem addE_kind {x : It} (h : ¬ (0 ≤ x.c.kind ∧ x.c.kind ≤ 2)) : addE n x = 100 := by unfold addE okK; simp [h]
theorem addE_num {x : It} (h : 0 ≤ x.c.kind ∧ x.c.kind ≤ 2) (h2 : ¬ ((0 ≤ x.rep ∧ x.rep < n) ∧ (1 ≤ x.num ∧ x.num ≤ 4611686018427387903) ∧ 0 ≤ x.seq ∧ x.seq ≤ 4611686018427387902)) : addE n x = 10 := by unfold addE okK okN; simp [h, h2]
set_option maxHeartbeats 1000000 in
theorem add_kind (h : IxAt w xb mb n st L) (x : It) (hk : ¬ (0 ≤ x.c.kind ∧ x.c.kind ≤ 2)) : Calls Try.prog 18 #[.pointer (some ⟨xb, 0, none⟩), x.c.v, x.id, .int .i64 x.seq] w (AddTo w xb mb n L x) := by
  have HR := Lib.hid (fun w' (k : Kept w w') => AddTo.same (w := w) h k (addE_kind hk) (by decide))
  have HKK := Lib.hid (show okK x.c.kind = false from decide_eq_false hk)
  have HK := Lib.hid (fun o o' => ((Kept.refl w).alloc o).alloc o')
  obtain ⟨⟨kind, home, da, dn, dc⟩, rep, num, seq⟩ := x
  simp only at *
  unfold Cm.v It.id Cm.dv
  clear h hk
  go_enter Try.func18, Try.ntmps18
  go_wp2_with fail
  refine (isKind_any kind _).mono ?_
  rintro e w1 ⟨rfl, rfl⟩
  rw [HKK.out]
  go_wp2
  go_ret
  exact HR.out _ (HK.out _ _)
set_option maxRecDepth 100000 in
set_option maxHeartbeats 2000000 in
theorem add_num (h : IxAt w xb mb n st L) (x : It) (hk : 0 ≤ x.c.kind ∧ x.c.kind ≤ 2) (h2 : ¬ ((0 ≤ x.rep ∧ x.rep < n) ∧ (1 ≤ x.num ∧ x.num ≤ 4611686018427387903) ∧ 0 ≤ x.seq ∧ x.seq ≤ 4611686018427387902)) : Calls Try.prog 18 #[.pointer (some ⟨xb, 0, none⟩), x.c.v, x.id, .int .i64 x.seq] w (AddTo w xb mb n L x) := by
  have HR := Lib.hid (fun w' (k : Kept w w') => AddTo.same (w := w) h k (addE_num hk h2) (by decide))
  have HKK := Lib.hid (show okK x.c.kind = true from decide_eq_true hk)
  have HK := Lib.hid (fun o o' => ((Kept.refl w).alloc o).alloc o')
  have HC := Lib.hid (fun o o' => (((Kept.refl w).alloc o).alloc o').cell h.c0)
  obtain ⟨⟨kind, home, da, dn, dc⟩, rep, num, seq⟩ := x
  simp only at *
  unfold Cm.v It.id Cm.dv
  clear h hk
  by_cases h1 : 0 ≤ rep ∧ rep < n
  · by_cases q0 : num < 1
    · have HP := Lib.hid (show decide (0 ≤ rep ∧ rep < n) = true from decide_eq_true h1)
      have t1 : decide (num < 1) = true := decide_eq_true q0
      clear h1 h2
      go_enter Try.func18, Try.ntmps18
      go_wp2_with fail
      refine (isKind_any kind _).mono ?_
      rintro e w1 ⟨rfl, rfl⟩
      rw [HKK.out]
      go_wp2_with fail
      refine (xPlace_any n rep xb _ (HC.out _ _)).mono ?_
      rintro e w1 ⟨rfl, rfl⟩
      rw [HP.out]
      go_wp2
      go_ret
      exact HR.out _ (HK.out _ _)
    · skip
      by_cases q1 : 4611686018427387903 < num
      · have HP := Lib.hid (show decide (0 ≤ rep ∧ rep < n) = true from decide_eq_true h1)
        have t1 : decide (num < 1) = false := decide_eq_false q0
        have t2 : decide (4611686018427387903 < num) = true := decide_eq_true q1
        clear h1 h2
        go_enter Try.func18, Try.ntmps18
        go_wp2_with fail
        refine (isKind_any kind _).mono ?_
        rintro e w1 ⟨rfl, rfl⟩
        rw [HKK.out]
        go_wp2_with fail
        refine (xPlace_any n rep xb _ (HC.out _ _)).mono ?_
        rintro e w1 ⟨rfl, rfl⟩
        rw [HP.out]
        go_wp2
        go_ret
        exact HR.out _ (HK.out _ _)
      · skip
        by_cases q2 : seq < 0
        · have HP := Lib.hid (show decide (0 ≤ rep ∧ rep < n) = true from decide_eq_true h1)
          have t1 : decide (num < 1) = false := decide_eq_false q0
          have t2 : decide (4611686018427387903 < num) = false := decide_eq_false q1
          have t3 : decide (seq < 0) = true := decide_eq_true q2
          clear h1 h2
          go_enter Try.func18, Try.ntmps18
          go_wp2_with fail
          refine (isKind_any kind _).mono ?_
          rintro e w1 ⟨rfl, rfl⟩
          rw [HKK.out]
          go_wp2_with fail
          refine (xPlace_any n rep xb _ (HC.out _ _)).mono ?_
          rintro e w1 ⟨rfl, rfl⟩
          rw [HP.out]
          go_wp2
          go_ret
          exact HR.out _ (HK.out _ _)
        · skip
          have HP := Lib.hid (show decide (0 ≤ rep ∧ rep < n) = true from decide_eq_true h1)
          have t1 : decide (num < 1) = false := decide_eq_false q0
          have t2 : decide (4611686018427387903 < num) = false := decide_eq_false q1
          have t3 : decide (seq < 0) = false := decide_eq_false q2
          have t4 : decide (4611686018427387902 < seq) = true := decide_eq_true (by omega)
          clear h1 h2
          go_enter Try.func18, Try.ntmps18
          go_wp2_with fail
          refine (isKind_any kind _).mono ?_
          rintro e w1 ⟨rfl, rfl⟩
          rw [HKK.out]
          go_wp2_with fail
          refine (xPlace_any n rep xb _ (HC.out _ _)).mono ?_
          rintro e w1 ⟨rfl, rfl⟩
          rw [HP.out]
          go_wp2
          go_ret
          exact HR.out _ (HK.out _ _)
  · have HP := Lib.hid (show decide (0 ≤ rep ∧ rep < n) = false from decide_eq_false h1)
    clear h1 h2
    go_enter Try.func18, Try.ntmps18
    go_wp2_with fail
    refine (isKind_any kind _).mono ?_
    rintro e w1 ⟨rfl, rfl⟩
    rw [HKK.out]
    go_wp2_with fail
    refine (xPlace_any n rep xb _ (HC.out _ _)).mono ?_
    rintro e w1 ⟨rfl, rfl⟩
    rw [HP.out]
    go_wp2
    go_ret
    exact HR.out _ (HK.out _ _)
set_option maxRecDepth 100000 in
set_option maxHeartbeats 2000000 in
theorem add_noop (h : IxAt w xb mb n st L) (x : It) (hx : okI n x) (hh : x.c.home.length ≤ 140737488355328) (hk : x.c.kind = 0) : Calls Try.prog 18 #[.pointer (some ⟨xb, 0, none⟩), x.c.v, x.id, .int .i64 x.seq] w (AddTo w xb mb n L x) := by
  have HR := Lib.hid (fun w' (k : Kept w w') => AddTo.of hx ((h.noop hx hh hk).kept k) (Chg.of_kept k))
  have HKK := Lib.hid (show okK x.c.kind = true from decide_eq_true hx.1)
  have HK := Lib.hid (fun o o' => ((Kept.refl w).alloc o).alloc o')
  have HC := Lib.hid (fun o o' => (((Kept.refl w).alloc o).alloc o').cell h.c0)
  obtain ⟨-, h1, ⟨n1, n2⟩, s1, s2⟩ := hx
  obtain ⟨⟨kind, home, da, dn, dc⟩, rep, num, seq⟩ := x
  simp only at *
  unfold Cm.v It.id Cm.dv
  clear h hh
  have HP := Lib.hid (show decide (0 ≤ rep ∧ rep < n) = true from decide_eq_true h1)
  have t1 : decide (num < 1) = false := decide_eq_false (by omega)
  have t2 : decide (4611686018427387903 < num) = false := decide_eq_false (by omega)
  have t3 : decide (seq < 0) = false := decide_eq_false (by omega)
  have t4 : decide (4611686018427387902 < seq) = false := decide_eq_false (by omega)
  subst hk
  clear h1 n1 n2 s1 s2
  go_enter Try.func18, Try.ntmps18
  go_wp2_with fail
  refine (isKind_any 0 _).mono ?_
  rintro e w1 ⟨rfl, rfl⟩
  rw [HKK.out]
  go_wp2_with fail
  refine (xPlace_any n rep xb _ (HC.out _ _)).mono ?_
  rintro e w1 ⟨rfl, rfl⟩
  rw [HP.out]
  go_wp2
  go_ret
  exact HR.out _ (HK.out _ _)
end
end Go.Proofs.Ytgmpbalibdlhdaa
