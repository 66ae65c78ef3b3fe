/- The walk of VecNext. -/
import Derived.Test.YteopgcbihekcjaaQVLwB
import Derived.Test.YteopgcbihekcjaaQVQui
set_option linter.unusedSimpArgs false
set_option linter.unusedVariables false
namespace Go.Proofs.Yteopgcbihekcjaa
open Go.RowKit
set_option maxRecDepth 100000 in
set_option maxHeartbeats 2000000 in
theorem vecNext_any (n r m s rep : Int) (w : World) : Calls Try.prog 4 #[bal n r, bal m s, .int .i64 rep] w fun e w' => e = .returned (.bool true) ∧ Kept w w' := by
  obtain ⟨F1, F2, F3⟩ := next_facts n r m s rep
  have HF1 := Lib.hid F1
  have HF2 := Lib.hid F2
  have HF3 := Lib.hid F3
  clear F1 F2 F3
  go_enter Try.func4, Try.ntmps4
  go_wp2_with fail
  refine (bnext_any n r rep _).mono ?_
  rintro e w1 ⟨rfl, k1⟩
  have ha := k1.block' (((Kept.refl _).alloc _).block' (heap_alloc_new w (.cells #[.int .i64 n, .int .i64 r] 23)))
  have hb := k1.block' (two_new w (.cells #[.int .i64 n, .int .i64 r] 23) 23 (.int .i64 m) (.int .i64 s))
  have HA := Lib.hid (((Kept.refl w1).alloc (.cells #[.int .i64 (nextA n r rep), .int .i64 (nextB n r rep)] 23)).block' ha)
  have HB := Lib.hid (((Kept.refl w1).alloc (.cells #[.int .i64 (nextA n r rep), .int .i64 (nextB n r rep)] 23)).block' hb)
  have HN := Lib.hid (heap_alloc_new w1 (.cells #[.int .i64 (nextA n r rep), .int .i64 (nextB n r rep)] 23))
  have HK := Lib.hid (((((Kept.refl w).alloc _).alloc _).trans k1).alloc (.cells #[.int .i64 (nextA n r rep), .int .i64 (nextB n r rep)] 23))
  clear ha hb k1
  go_wp2
  generalize w1.heap.size = g at *
  generalize w1.alloc (.cells #[.int .i64 (nextA n r rep), .int .i64 (nextB n r rep)] 23) = w2 at *
  obtain ⟨a0, a1⟩ := cells2 HA.out
  obtain ⟨b0, b1⟩ := cells2 HB.out
  by_cases heq : n = m ∧ r = s
  · obtain ⟨rfl, rfl⟩ := heq
    have HL := Lib.hid (HF1.out ⟨rfl, rfl⟩)
    have a0 := KW.cells a0
    have a1 := KW.cells a1
    have b0 := KW.cells b0
    have b1 := KW.cells b1
    refine region_kept (by kernel_rfl) (by kernel_rfl) ?_
    repeat (go_big_quiet_step ((go_at_call 14; exact KW.call (fun W _ => by have := bless_any n r n r W; rw [HL.out] at this; exact this))))
    refine wpQuiet_nil ?_
    rintro _ ⟨⟨w3, k3⟩, rfl⟩
    clear a0 a1 b0 b1
    obtain ⟨a0, a1⟩ := cells2 (k3.block' HA.out)
    obtain ⟨b0, b1⟩ := cells2 (k3.block' HB.out)
    obtain ⟨c0, c1⟩ := cells2 (k3.block' HN.out)
    have HA3 := Lib.hid (k3.block' HA.out)
    have HB3 := Lib.hid (k3.block' HB.out)
    have HN3 := Lib.hid (k3.block' HN.out)
    have HK3 := Lib.hid (HK.out.trans k3)
    clear k3
    cases hok : nextOk n r rep with
    | false =>
      have he : (nextE n r rep != 0) = true := by rw [(next_bad hok).2.2]; rfl
      clear hok
      generalize nextE n r rep = er at *
      go_wp2_with fail
      refine (awake_any _).mono ?_
      rintro e w9 ⟨rfl, k9⟩
      have hkk := HK3.out.trans k9
      go_wp2
      go_ret
      exact ⟨rfl, hkk⟩
    | true =>
      have he : (nextE n r rep != 0) = false := by rw [(next_good hok).2.2]; rfl
      obtain ⟨f1, f2, f3⟩ := HF3.out hok
      rw [f2] at f1 f3 c1 HN3
      have HG1 := Lib.hid f1
      have HG3 := Lib.hid f3
      clear hok f1 f2 f3 HF3
      generalize nextE n r rep = er at *
      generalize nextA n r rep = nx at *
      generalize nextB n r rep = nb at *
      have t0 : (rep == rep) = true := beq_self_eq_true rep
      by_cases hs : r = rep
      · have t1 : (r == rep) = true := beq_iff_eq.2 hs
        cases hl : bLess n r n r with
        | true =>
          have HL1 := Lib.hid hl
          have HL2 := Lib.hid (HG3.out hs hl)
          clear hl hs
          go_wp2_with fail
          refine (bless_any n r n r _).mono ?_
          rintro e w4 ⟨rfl, k4⟩
          rw [HL1.out]
          have HA4 := Lib.hid (k4.block' (HA3.out))
          have HN4 := Lib.hid (k4.block' (HN3.out))
          have HB4 := Lib.hid (k4.block' (HB3.out))
          have HK4 := Lib.hid (HK3.out.trans k4)
          clear k4 a0 a1 b0 b1 c0 c1
          obtain ⟨a0, a1⟩ := cells2 HA4.out
          obtain ⟨b0, b1⟩ := cells2 HB4.out
          obtain ⟨c0, c1⟩ := cells2 HN4.out
          go_wp2_with fail
          refine (bless_any n r nx rep _).mono ?_
          rintro e w5 ⟨rfl, k5⟩
          rw [HL2.out]
          have HA5 := Lib.hid (k5.block' (HA4.out))
          have HN5 := Lib.hid (k5.block' (HN4.out))
          have HK5 := Lib.hid (HK4.out.trans k5)
          clear k5 a0 a1 b0 b1 c0 c1
          obtain ⟨a0, a1⟩ := cells2 HA5.out
          obtain ⟨c0, c1⟩ := cells2 HN5.out
          go_wp2_with fail
          refine (bless_any n r nx rep _).mono ?_
          rintro e w6 ⟨rfl, k6⟩
          rw [HG1.out]
          obtain ⟨d0, d1⟩ := cells2 (k6.block' HN5.out)
          have HK6 := Lib.hid (HK5.out.trans k6)
          clear k6
          go_wp2_with fail
          refine (awake_any _).mono ?_
          rintro e w9 ⟨rfl, k9⟩
          have hkk := HK6.out.trans k9
          go_wp2
          go_ret
          exact ⟨rfl, hkk⟩
        | false =>
          have HL1 := Lib.hid hl
          clear hl hs
          go_wp2_with fail
          refine (bless_any n r n r _).mono ?_
          rintro e w4 ⟨rfl, k4⟩
          rw [HL1.out]
          have HA4 := Lib.hid (k4.block' (HA3.out))
          have HN4 := Lib.hid (k4.block' (HN3.out))
          have HB4 := Lib.hid (k4.block' (HB3.out))
          have HK4 := Lib.hid (HK3.out.trans k4)
          clear k4 a0 a1 b0 b1 c0 c1
          obtain ⟨a0, a1⟩ := cells2 HA4.out
          obtain ⟨b0, b1⟩ := cells2 HB4.out
          obtain ⟨c0, c1⟩ := cells2 HN4.out
          go_wp2_with fail
          refine (bless_any n r nx rep _).mono ?_
          rintro e w6 ⟨rfl, k6⟩
          rw [HG1.out]
          obtain ⟨d0, d1⟩ := cells2 (k6.block' HN4.out)
          have HK6 := Lib.hid (HK4.out.trans k6)
          clear k6
          go_wp2_with fail
          refine (awake_any _).mono ?_
          rintro e w9 ⟨rfl, k9⟩
          have hkk := HK6.out.trans k9
          go_wp2
          go_ret
          exact ⟨rfl, hkk⟩
      · have t1 : (r == rep) = false := beq_eq_false_iff_ne.2 hs
        go_wp2_with fail
        refine (bless_any n r nx rep _).mono ?_
        rintro e w6 ⟨rfl, k6⟩
        rw [HG1.out]
        obtain ⟨d0, d1⟩ := cells2 (k6.block' HN3.out)
        have HK6 := Lib.hid (HK3.out.trans k6)
        clear k6
        go_wp2_with fail
        refine (awake_any _).mono ?_
        rintro e w9 ⟨rfl, k9⟩
        have hkk := HK6.out.trans k9
        go_wp2
        go_ret
        exact ⟨rfl, hkk⟩
  · have HL := Lib.hid (HF2.out heq)
    have hne : (bLess n r m s == bLess m s n r) = false := by rw [HL.out]; cases bLess m s n r <;> rfl
    by_cases hnm : n = m
    · subst hnm
      have hrs : ¬ r = s := fun h => heq ⟨rfl, h⟩
      have a0 := KW.cells a0
      have a1 := KW.cells a1
      have b0 := KW.cells b0
      have b1 := KW.cells b1
      refine region_kept (by kernel_rfl) (by kernel_rfl) ?_
      repeat (go_big_quiet_step ((go_at_call 14; exact KW.call (fun W _ => bless_any _ _ _ _ W))))
      refine wpQuiet_nil ?_
      rintro _ ⟨⟨w3, k3⟩, rfl⟩
      clear a0 a1 b0 b1
      obtain ⟨a0, a1⟩ := cells2 (k3.block' HA.out)
      obtain ⟨b0, b1⟩ := cells2 (k3.block' HB.out)
      obtain ⟨c0, c1⟩ := cells2 (k3.block' HN.out)
      have HA3 := Lib.hid (k3.block' HA.out)
      have HB3 := Lib.hid (k3.block' HB.out)
      have HN3 := Lib.hid (k3.block' HN.out)
      have HK3 := Lib.hid (HK.out.trans k3)
      clear k3
      cases hok : nextOk n r rep with
      | false =>
        have he : (nextE n r rep != 0) = true := by rw [(next_bad hok).2.2]; rfl
        clear hok
        generalize nextE n r rep = er at *
        go_wp2_with fail
        refine (awake_any _).mono ?_
        rintro e w9 ⟨rfl, k9⟩
        have hkk := HK3.out.trans k9
        go_wp2
        go_ret
        exact ⟨rfl, hkk⟩
      | true =>
        have he : (nextE n r rep != 0) = false := by rw [(next_good hok).2.2]; rfl
        obtain ⟨f1, f2, f3⟩ := HF3.out hok
        rw [f2] at f1 f3 c1 HN3
        have HG1 := Lib.hid f1
        have HG3 := Lib.hid f3
        clear hok f1 f2 f3 HF3
        generalize nextE n r rep = er at *
        generalize nextA n r rep = nx at *
        generalize nextB n r rep = nb at *
        have t0 : (rep == rep) = true := beq_self_eq_true rep
        by_cases hs : s = rep
        · have t1 : (s == rep) = true := beq_iff_eq.2 hs
          cases hl : bLess n r n s with
          | true =>
            have HL1 := Lib.hid hl
            have HL2 := Lib.hid (HG3.out hs hl)
            clear hl hs
            go_wp2_with fail
            refine (bless_any n r n s _).mono ?_
            rintro e w4 ⟨rfl, k4⟩
            rw [HL1.out]
            have HA4 := Lib.hid (k4.block' (HA3.out))
            have HN4 := Lib.hid (k4.block' (HN3.out))
            have HB4 := Lib.hid (k4.block' (HB3.out))
            have HK4 := Lib.hid (HK3.out.trans k4)
            clear k4 a0 a1 b0 b1 c0 c1
            obtain ⟨a0, a1⟩ := cells2 HA4.out
            obtain ⟨b0, b1⟩ := cells2 HB4.out
            obtain ⟨c0, c1⟩ := cells2 HN4.out
            go_wp2_with fail
            refine (bless_any n s nx rep _).mono ?_
            rintro e w5 ⟨rfl, k5⟩
            rw [HL2.out]
            have HA5 := Lib.hid (k5.block' (HA4.out))
            have HN5 := Lib.hid (k5.block' (HN4.out))
            have HK5 := Lib.hid (HK4.out.trans k5)
            clear k5 a0 a1 b0 b1 c0 c1
            obtain ⟨a0, a1⟩ := cells2 HA5.out
            obtain ⟨c0, c1⟩ := cells2 HN5.out
            go_wp2_with fail
            refine (bless_any n r nx rep _).mono ?_
            rintro e w6 ⟨rfl, k6⟩
            rw [HG1.out]
            obtain ⟨d0, d1⟩ := cells2 (k6.block' HN5.out)
            have HK6 := Lib.hid (HK5.out.trans k6)
            clear k6
            go_wp2_with fail
            refine (awake_any _).mono ?_
            rintro e w9 ⟨rfl, k9⟩
            have hkk := HK6.out.trans k9
            go_wp2
            go_ret
            exact ⟨rfl, hkk⟩
          | false =>
            have HL1 := Lib.hid hl
            clear hl hs
            go_wp2_with fail
            refine (bless_any n r n s _).mono ?_
            rintro e w4 ⟨rfl, k4⟩
            rw [HL1.out]
            have HA4 := Lib.hid (k4.block' (HA3.out))
            have HN4 := Lib.hid (k4.block' (HN3.out))
            have HB4 := Lib.hid (k4.block' (HB3.out))
            have HK4 := Lib.hid (HK3.out.trans k4)
            clear k4 a0 a1 b0 b1 c0 c1
            obtain ⟨a0, a1⟩ := cells2 HA4.out
            obtain ⟨b0, b1⟩ := cells2 HB4.out
            obtain ⟨c0, c1⟩ := cells2 HN4.out
            go_wp2_with fail
            refine (bless_any n r nx rep _).mono ?_
            rintro e w6 ⟨rfl, k6⟩
            rw [HG1.out]
            obtain ⟨d0, d1⟩ := cells2 (k6.block' HN4.out)
            have HK6 := Lib.hid (HK4.out.trans k6)
            clear k6
            go_wp2_with fail
            refine (awake_any _).mono ?_
            rintro e w9 ⟨rfl, k9⟩
            have hkk := HK6.out.trans k9
            go_wp2
            go_ret
            exact ⟨rfl, hkk⟩
        · have t1 : (s == rep) = false := beq_eq_false_iff_ne.2 hs
          go_wp2_with fail
          refine (bless_any n r nx rep _).mono ?_
          rintro e w6 ⟨rfl, k6⟩
          rw [HG1.out]
          obtain ⟨d0, d1⟩ := cells2 (k6.block' HN3.out)
          have HK6 := Lib.hid (HK3.out.trans k6)
          clear k6
          go_wp2_with fail
          refine (awake_any _).mono ?_
          rintro e w9 ⟨rfl, k9⟩
          have hkk := HK6.out.trans k9
          go_wp2
          go_ret
          exact ⟨rfl, hkk⟩
    · skip
      have a0 := KW.cells a0
      have a1 := KW.cells a1
      have b0 := KW.cells b0
      have b1 := KW.cells b1
      refine region_kept (by kernel_rfl) (by kernel_rfl) ?_
      repeat (go_big_quiet_step ((go_at_call 14; exact KW.call (fun W _ => bless_any _ _ _ _ W))))
      refine wpQuiet_nil ?_
      rintro _ ⟨⟨w3, k3⟩, rfl⟩
      clear a0 a1 b0 b1
      obtain ⟨a0, a1⟩ := cells2 (k3.block' HA.out)
      obtain ⟨b0, b1⟩ := cells2 (k3.block' HB.out)
      obtain ⟨c0, c1⟩ := cells2 (k3.block' HN.out)
      have HA3 := Lib.hid (k3.block' HA.out)
      have HB3 := Lib.hid (k3.block' HB.out)
      have HN3 := Lib.hid (k3.block' HN.out)
      have HK3 := Lib.hid (HK.out.trans k3)
      clear k3
      cases hok : nextOk n r rep with
      | false =>
        have he : (nextE n r rep != 0) = true := by rw [(next_bad hok).2.2]; rfl
        clear hok
        generalize nextE n r rep = er at *
        go_wp2_with fail
        refine (awake_any _).mono ?_
        rintro e w9 ⟨rfl, k9⟩
        have hkk := HK3.out.trans k9
        go_wp2
        go_ret
        exact ⟨rfl, hkk⟩
      | true =>
        have he : (nextE n r rep != 0) = false := by rw [(next_good hok).2.2]; rfl
        obtain ⟨f1, f2, f3⟩ := HF3.out hok
        rw [f2] at f1 f3 c1 HN3
        have HG1 := Lib.hid f1
        have HG3 := Lib.hid f3
        clear hok f1 f2 f3 HF3
        generalize nextE n r rep = er at *
        generalize nextA n r rep = nx at *
        generalize nextB n r rep = nb at *
        have t0 : (rep == rep) = true := beq_self_eq_true rep
        by_cases hs : s = rep
        · have t1 : (s == rep) = true := beq_iff_eq.2 hs
          cases hl : bLess n r m s with
          | true =>
            have HL1 := Lib.hid hl
            have HL2 := Lib.hid (HG3.out hs hl)
            clear hl hs
            go_wp2_with fail
            refine (bless_any n r m s _).mono ?_
            rintro e w4 ⟨rfl, k4⟩
            rw [HL1.out]
            have HA4 := Lib.hid (k4.block' (HA3.out))
            have HN4 := Lib.hid (k4.block' (HN3.out))
            have HB4 := Lib.hid (k4.block' (HB3.out))
            have HK4 := Lib.hid (HK3.out.trans k4)
            clear k4 a0 a1 b0 b1 c0 c1
            obtain ⟨a0, a1⟩ := cells2 HA4.out
            obtain ⟨b0, b1⟩ := cells2 HB4.out
            obtain ⟨c0, c1⟩ := cells2 HN4.out
            go_wp2_with fail
            refine (bless_any m s nx rep _).mono ?_
            rintro e w5 ⟨rfl, k5⟩
            rw [HL2.out]
            have HA5 := Lib.hid (k5.block' (HA4.out))
            have HN5 := Lib.hid (k5.block' (HN4.out))
            have HK5 := Lib.hid (HK4.out.trans k5)
            clear k5 a0 a1 b0 b1 c0 c1
            obtain ⟨a0, a1⟩ := cells2 HA5.out
            obtain ⟨c0, c1⟩ := cells2 HN5.out
            go_wp2_with fail
            refine (bless_any n r nx rep _).mono ?_
            rintro e w6 ⟨rfl, k6⟩
            rw [HG1.out]
            obtain ⟨d0, d1⟩ := cells2 (k6.block' HN5.out)
            have HK6 := Lib.hid (HK5.out.trans k6)
            clear k6
            go_wp2_with fail
            refine (awake_any _).mono ?_
            rintro e w9 ⟨rfl, k9⟩
            have hkk := HK6.out.trans k9
            go_wp2
            go_ret
            exact ⟨rfl, hkk⟩
          | false =>
            have HL1 := Lib.hid hl
            clear hl hs
            go_wp2_with fail
            refine (bless_any n r m s _).mono ?_
            rintro e w4 ⟨rfl, k4⟩
            rw [HL1.out]
            have HA4 := Lib.hid (k4.block' (HA3.out))
            have HN4 := Lib.hid (k4.block' (HN3.out))
            have HB4 := Lib.hid (k4.block' (HB3.out))
            have HK4 := Lib.hid (HK3.out.trans k4)
            clear k4 a0 a1 b0 b1 c0 c1
            obtain ⟨a0, a1⟩ := cells2 HA4.out
            obtain ⟨b0, b1⟩ := cells2 HB4.out
            obtain ⟨c0, c1⟩ := cells2 HN4.out
            go_wp2_with fail
            refine (bless_any n r nx rep _).mono ?_
            rintro e w6 ⟨rfl, k6⟩
            rw [HG1.out]
            obtain ⟨d0, d1⟩ := cells2 (k6.block' HN4.out)
            have HK6 := Lib.hid (HK4.out.trans k6)
            clear k6
            go_wp2_with fail
            refine (awake_any _).mono ?_
            rintro e w9 ⟨rfl, k9⟩
            have hkk := HK6.out.trans k9
            go_wp2
            go_ret
            exact ⟨rfl, hkk⟩
        · have t1 : (s == rep) = false := beq_eq_false_iff_ne.2 hs
          go_wp2_with fail
          refine (bless_any n r nx rep _).mono ?_
          rintro e w6 ⟨rfl, k6⟩
          rw [HG1.out]
          obtain ⟨d0, d1⟩ := cells2 (k6.block' HN3.out)
          have HK6 := Lib.hid (HK3.out.trans k6)
          clear k6
          go_wp2_with fail
          refine (awake_any _).mono ?_
          rintro e w9 ⟨rfl, k9⟩
          have hkk := HK6.out.trans k9
          go_wp2
          go_ret
          exact ⟨rfl, hkk⟩
end Go.Proofs.Yteopgcbihekcjaa
