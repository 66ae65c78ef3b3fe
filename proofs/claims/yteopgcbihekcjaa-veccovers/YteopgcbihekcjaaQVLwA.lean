/- The walk of VecBallots. -/
import Derived.Test.YteopgcbihekcjaaQVLwB
import Derived.Test.YteopgcbihekcjaaQVQui
set_option linter.unusedSimpArgs false
set_option linter.unusedVariables false
namespace Go.Proofs.Yteopgcbihekcjaa
open Go.RowKit
theorem told_bE' (n r : Int) : toldB (bE n r) (bOk n r) 110 = true := by unfold toldB bE; cases bOk n r <;> rfl
theorem told_true {e code : Int} {ok : Bool} (h : toldB e ok code = true) (W : World) : Calls Try.prog 11 #[.int .i64 e, .bool ok, .int .i64 code] W fun x w' => x = .returned (.bool true) ∧ Kept W w' :=
  (told_any e ok code W).mono fun _ _ h' => ⟨by rw [h'.1, h], h'.2 ▸ Kept.refl _⟩
theorem pair_first (w : World) (t : TypeId) (x y : Value) (p : Obj) : ((w.alloc (.cells #[x, y] t)).alloc p).drew.heap[w.heap.size]? = some (.cells #[x, y] t (0, 0)) := ((Kept.refl _).alloc p).drew.block' (heap_alloc_new w (.cells #[x, y] t))
theorem pair_second (w : World) (t : TypeId) (x y : Value) (o : Obj) : ((w.alloc o).alloc (.cells #[x, y] t)).drew.heap[w.heap.size + 1]? = some (.cells #[x, y] t (0, 0)) := (Kept.refl _).drew.block' (two_new w o t x y)
set_option maxRecDepth 100000 in
set_option maxHeartbeats 2000000 in
theorem vecBallots_any (n r m s rep : Int) (w : World) : Calls Try.prog 3 #[bal n r, bal m s, .int .i64 rep] w fun e w' => e = .returned (.bool true) ∧ Kept w w' := by
  have ha := ((Kept.refl _).alloc (.cells #[.int .i64 m, .int .i64 s] 23)).block' (heap_alloc_new w (.cells #[.int .i64 n, .int .i64 r] 23))
  have hb := two_new w (.cells #[.int .i64 n, .int .i64 r] 23) 23 (.int .i64 m) (.int .i64 s)
  go_enter Try.func3, Try.ntmps3
  go_wp2
  have HA := Lib.hid ha
  have HB := Lib.hid hb
  have hk0 := ((Kept.refl w).alloc (.cells #[.int .i64 n, .int .i64 r] 23)).alloc (.cells #[.int .i64 m, .int .i64 s] 23)
  have HK := Lib.hid hk0
  have hs2 := size_alloc2 w (.cells #[.int .i64 n, .int .i64 r] 23) (.cells #[.int .i64 m, .int .i64 s] 23)
  clear ha hb hk0
  generalize (w.alloc (.cells #[.int .i64 n, .int .i64 r] 23)).alloc (.cells #[.int .i64 m, .int .i64 s] 23) = w2 at *
  obtain ⟨a0, a1⟩ := cells2 HA.out
  obtain ⟨b0, b1⟩ := cells2 HB.out
  have hlt0 : w.heap.size < w2.heap.size := by omega
  have hlt1 : w.heap.size + 1 < w2.heap.size := by omega
  have HS2 := Lib.hid hs2
  clear hs2
  go_region
  · have HX := Lib.hid (pair_first w2 24 (.int .i64 n) (.int .i64 r) (.cells #[.int .i64 m, .int .i64 s] 24))
    have HY := Lib.hid (pair_second w2 24 (.int .i64 m) (.int .i64 s) (.cells #[.int .i64 n, .int .i64 r] 24))
    have hk3 := ((HK.out.alloc (.cells #[.int .i64 n, .int .i64 r] 24)).alloc (.cells #[.int .i64 m, .int .i64 s] 24)).drew
    have HA3 := Lib.hid ((((Kept.refl w2).alloc (.cells #[.int .i64 n, .int .i64 r] 24)).alloc (.cells #[.int .i64 m, .int .i64 s] 24)).drew.block' HA.out)
    have HB3 := Lib.hid ((((Kept.refl w2).alloc (.cells #[.int .i64 n, .int .i64 r] 24)).alloc (.cells #[.int .i64 m, .int .i64 s] 24)).drew.block' HB.out)
    have HK3 := Lib.hid hk3
    clear hk3
    generalize ((w2.alloc (.cells #[.int .i64 n, .int .i64 r] 24)).alloc (.cells #[.int .i64 m, .int .i64 s] 24)).drew = w3 at *
    generalize w2.heap.size + 1 = gy at *
    generalize w2.heap.size = gx at *
    clear a0 a1 b0 b1 hlt0 hlt1
    obtain ⟨a0, a1⟩ := cells2 HA3.out
    go_wp2_with fail
    refine (bnext_any n r rep _).mono ?_
    rintro e w4 ⟨rfl, k4⟩
    have HA5 := Lib.hid ((k4.alloc (.cells #[.int .i64 (nextA n r rep), .int .i64 (nextB n r rep)] 23)).block' HA3.out)
    have HB5 := Lib.hid ((k4.alloc (.cells #[.int .i64 (nextA n r rep), .int .i64 (nextB n r rep)] 23)).block' HB3.out)
    have HX5 := Lib.hid ((k4.alloc (.cells #[.int .i64 (nextA n r rep), .int .i64 (nextB n r rep)] 23)).block' HX.out)
    have HY5 := Lib.hid ((k4.alloc (.cells #[.int .i64 (nextA n r rep), .int .i64 (nextB n r rep)] 23)).block' HY.out)
    have HN5 := Lib.hid (heap_alloc_new w4 (.cells #[.int .i64 (nextA n r rep), .int .i64 (nextB n r rep)] 23))
    have HK5 := Lib.hid (HK3.out.trans (k4.alloc (.cells #[.int .i64 (nextA n r rep), .int .i64 (nextB n r rep)] 23)))
    obtain ⟨x0, x1⟩ := cells2 HX5.out
    clear k4 a0 a1
    go_wp2_with fail
    refine (refNext_any n r rep _).mono ?_
    rintro e w6 ⟨rfl, k6⟩
    have k7 := k6.alloc (.cells #[.int .i64 (nextA n r rep), .int .i64 (nextB n r rep)] 24)
    have HA7 := Lib.hid (k7.block' HA5.out)
    have HB7 := Lib.hid (k7.block' HB5.out)
    have HX7 := Lib.hid (k7.block' HX5.out)
    have HY7 := Lib.hid (k7.block' HY5.out)
    have HN7 := Lib.hid (k7.block' HN5.out)
    have HM7 := Lib.hid (heap_alloc_new w6 (.cells #[.int .i64 (nextA n r rep), .int .i64 (nextB n r rep)] 24))
    have HK7 := Lib.hid (HK5.out.trans k7)
    clear k6 k7 x0 x1
    go_wp2
    generalize w4.heap.size = gn at *
    generalize w6.heap.size = gm at *
    generalize w6.alloc (.cells #[.int .i64 (nextA n r rep), .int .i64 (nextB n r rep)] 24) = w7 at *
    obtain ⟨a0, a1⟩ := cells2 HA7.out
    obtain ⟨b0, b1⟩ := cells2 HB7.out
    obtain ⟨x0, x1⟩ := cells2 HX7.out
    obtain ⟨y0, y1⟩ := cells2 HY7.out
    obtain ⟨n0, n1⟩ := cells2 HN7.out
    obtain ⟨m0, m1⟩ := cells2 HM7.out
    have a0 := KW.cells a0
    have a1 := KW.cells a1
    have b0 := KW.cells b0
    have b1 := KW.cells b1
    have x0 := KW.cells x0
    have x1 := KW.cells x1
    have y0 := KW.cells y0
    have y1 := KW.cells y1
    have n0 := KW.cells n0
    have n1 := KW.cells n1
    have m0 := KW.cells m0
    have m1 := KW.cells m1
    have HT1 := Lib.hid (told_bE' n r)
    have HT2 := Lib.hid (told_next n r rep)
    generalize hne : nextE n r rep = ne at *
    generalize hno : nextOk n r rep = nok at *
    clear hne hno
    generalize hna : nextA n r rep = na at *
    generalize hnb : nextB n r rep = nb at *
    clear hna hnb
    refine region_kept (by kernel_rfl) (by kernel_rfl) ?_
    repeat (go_big_quiet_step (first
      | (go_at_call 10; exact KW.call (fun W _ => awake_any W))
      | (go_at_call 12; exact KW.call (fun W _ => bcheck_any _ _ W))
      | (go_at_call 13; exact KW.call (fun W _ => bbad_any _ _ W))
      | (go_at_call 14; exact KW.call (fun W _ => bless_any _ _ _ _ W))
      | (go_at_call 15; exact KW.call (fun W _ => refLess_any _ _ _ _ W))
      | (go_at_call 11; exact KW.call (fun W _ => told_true (by first | exact HT1.out | exact HT2.out) W))))
    refine wpQuiet_nil ?_
    rintro _ ⟨⟨w9, k9⟩, rfl⟩
    have hkk := HK7.out.trans k9
    go_wp2
    go_ret
    exact ⟨rfl, hkk⟩
  · have HX := Lib.hid (pair_second w2 24 (.int .i64 n) (.int .i64 r) (.cells #[.int .i64 m, .int .i64 s] 24))
    have HY := Lib.hid (pair_first w2 24 (.int .i64 m) (.int .i64 s) (.cells #[.int .i64 n, .int .i64 r] 24))
    have hk3 := ((HK.out.alloc (.cells #[.int .i64 m, .int .i64 s] 24)).alloc (.cells #[.int .i64 n, .int .i64 r] 24)).drew
    have HA3 := Lib.hid ((((Kept.refl w2).alloc (.cells #[.int .i64 m, .int .i64 s] 24)).alloc (.cells #[.int .i64 n, .int .i64 r] 24)).drew.block' HA.out)
    have HB3 := Lib.hid ((((Kept.refl w2).alloc (.cells #[.int .i64 m, .int .i64 s] 24)).alloc (.cells #[.int .i64 n, .int .i64 r] 24)).drew.block' HB.out)
    have HK3 := Lib.hid hk3
    clear hk3
    generalize ((w2.alloc (.cells #[.int .i64 m, .int .i64 s] 24)).alloc (.cells #[.int .i64 n, .int .i64 r] 24)).drew = w3 at *
    generalize w2.heap.size + 1 = gx at *
    generalize w2.heap.size = gy at *
    clear a0 a1 b0 b1 hlt0 hlt1
    obtain ⟨a0, a1⟩ := cells2 HA3.out
    go_wp2_with fail
    refine (bnext_any n r rep _).mono ?_
    rintro e w4 ⟨rfl, k4⟩
    have HA5 := Lib.hid ((k4.alloc (.cells #[.int .i64 (nextA n r rep), .int .i64 (nextB n r rep)] 23)).block' HA3.out)
    have HB5 := Lib.hid ((k4.alloc (.cells #[.int .i64 (nextA n r rep), .int .i64 (nextB n r rep)] 23)).block' HB3.out)
    have HX5 := Lib.hid ((k4.alloc (.cells #[.int .i64 (nextA n r rep), .int .i64 (nextB n r rep)] 23)).block' HX.out)
    have HY5 := Lib.hid ((k4.alloc (.cells #[.int .i64 (nextA n r rep), .int .i64 (nextB n r rep)] 23)).block' HY.out)
    have HN5 := Lib.hid (heap_alloc_new w4 (.cells #[.int .i64 (nextA n r rep), .int .i64 (nextB n r rep)] 23))
    have HK5 := Lib.hid (HK3.out.trans (k4.alloc (.cells #[.int .i64 (nextA n r rep), .int .i64 (nextB n r rep)] 23)))
    obtain ⟨x0, x1⟩ := cells2 HX5.out
    clear k4 a0 a1
    go_wp2_with fail
    refine (refNext_any n r rep _).mono ?_
    rintro e w6 ⟨rfl, k6⟩
    have k7 := k6.alloc (.cells #[.int .i64 (nextA n r rep), .int .i64 (nextB n r rep)] 24)
    have HA7 := Lib.hid (k7.block' HA5.out)
    have HB7 := Lib.hid (k7.block' HB5.out)
    have HX7 := Lib.hid (k7.block' HX5.out)
    have HY7 := Lib.hid (k7.block' HY5.out)
    have HN7 := Lib.hid (k7.block' HN5.out)
    have HM7 := Lib.hid (heap_alloc_new w6 (.cells #[.int .i64 (nextA n r rep), .int .i64 (nextB n r rep)] 24))
    have HK7 := Lib.hid (HK5.out.trans k7)
    clear k6 k7 x0 x1
    go_wp2
    generalize w4.heap.size = gn at *
    generalize w6.heap.size = gm at *
    generalize w6.alloc (.cells #[.int .i64 (nextA n r rep), .int .i64 (nextB n r rep)] 24) = w7 at *
    obtain ⟨a0, a1⟩ := cells2 HA7.out
    obtain ⟨b0, b1⟩ := cells2 HB7.out
    obtain ⟨x0, x1⟩ := cells2 HX7.out
    obtain ⟨y0, y1⟩ := cells2 HY7.out
    obtain ⟨n0, n1⟩ := cells2 HN7.out
    obtain ⟨m0, m1⟩ := cells2 HM7.out
    have a0 := KW.cells a0
    have a1 := KW.cells a1
    have b0 := KW.cells b0
    have b1 := KW.cells b1
    have x0 := KW.cells x0
    have x1 := KW.cells x1
    have y0 := KW.cells y0
    have y1 := KW.cells y1
    have n0 := KW.cells n0
    have n1 := KW.cells n1
    have m0 := KW.cells m0
    have m1 := KW.cells m1
    have HT1 := Lib.hid (told_bE' n r)
    have HT2 := Lib.hid (told_next n r rep)
    generalize hne : nextE n r rep = ne at *
    generalize hno : nextOk n r rep = nok at *
    clear hne hno
    generalize hna : nextA n r rep = na at *
    generalize hnb : nextB n r rep = nb at *
    clear hna hnb
    refine region_kept (by kernel_rfl) (by kernel_rfl) ?_
    repeat (go_big_quiet_step (first
      | (go_at_call 10; exact KW.call (fun W _ => awake_any W))
      | (go_at_call 12; exact KW.call (fun W _ => bcheck_any _ _ W))
      | (go_at_call 13; exact KW.call (fun W _ => bbad_any _ _ W))
      | (go_at_call 14; exact KW.call (fun W _ => bless_any _ _ _ _ W))
      | (go_at_call 15; exact KW.call (fun W _ => refLess_any _ _ _ _ W))
      | (go_at_call 11; exact KW.call (fun W _ => told_true (by first | exact HT1.out | exact HT2.out) W))))
    refine wpQuiet_nil ?_
    rintro _ ⟨⟨w9, k9⟩, rfl⟩
    have hkk := HK7.out.trans k9
    go_wp2
    go_ret
    exact ⟨rfl, hkk⟩
end Go.Proofs.Yteopgcbihekcjaa
