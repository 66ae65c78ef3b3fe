/- The walk of NetsimApart. -/
import Derived.Test.YtmoimldkagmkaaaQNLwO
set_option linter.unusedSimpArgs false
set_option linter.unusedVariables false
namespace Go.Proofs.Ytmoimldkagmkaaa
open Go.RowKit
theorem send_fit {s : NS} {a b : Nat} (ha : a < s.n) (hb : b < s.n) (hc : s.cut a b = false) {ms : List (List UInt8)} (h : (s.q a b).length + ms.length ≤ s.room) : sendE s a b ms.length = 0 ∧ sendS s a b ms = s.turn a b (s.q a b ++ ms) := by
  have hk := chk_two ha hb
  unfold sendE sendS
  simp only [Int.toNat_natCast]
  rw [if_neg (by simp [hk]), if_neg (by simp [hc]), if_neg (by omega), if_pos ⟨hk, hc, h⟩]
  exact ⟨rfl, rfl⟩
theorem send_shut {s : NS} {a b : Nat} (ha : a < s.n) (hb : b < s.n) (hc : s.cut a b = true) (ms : List (List UInt8)) : sendE s a b ms.length = 0 ∧ sendS s a b ms = s := by
  have hk := chk_two ha hb
  unfold sendE sendS
  simp only [Int.toNat_natCast]
  rw [if_neg (by simp [hk]), if_pos (by simp [hc]), if_neg (by simp [hc])]
  exact ⟨rfl, rfl⟩
theorem count_at {s : NS} {a b : Nat} (ha : a < s.n) (hb : b < s.n) : countE s a b = (s.q a b).length := by
  unfold countE
  rw [if_pos (chk_two ha hb)]
  rfl
/-- The states that NetsimApart goes through. -/
def ap1 (x : List (List UInt8)) : NS := (NS.new 3 4096).turn 0 1 x
def ap2 (x : List (List UInt8)) : NS := (ap1 x).turn 0 2 x
def ap3 (x : List (List UInt8)) : NS := cutN (ap2 x) 1 0
def ap4 (x : List (List UInt8)) : NS := healS (ap3 x)
def ap5 (x y : List (List UInt8)) : NS := (ap4 x).turn 0 1 y
theorem ap_1 (x : List (List UInt8)) (h : x.length ≤ 4000) : sendE (NS.new 3 4096) 0 1 x.length = 0 ∧ sendS (NS.new 3 4096) 0 1 x = ap1 x := send_fit (s := NS.new 3 4096) (a := 0) (b := 1) (by decide) (by decide) rfl (by simp [NS.new]; omega)
theorem ap_2 (x : List (List UInt8)) (h : x.length ≤ 4000) : sendE (ap1 x) 0 2 x.length = 0 ∧ sendS (ap1 x) 0 2 x = ap2 x := by
  have := send_fit (s := ap1 x) (a := 0) (b := 2) (ms := x) (show 0 < 3 by decide) (show 2 < 3 by decide) rfl (by show ([] : List (List UInt8)).length + x.length ≤ 4096; simp; omega)
  exact this
theorem ap_3 (x : List (List UInt8)) : chk (ap2 x).n [1, 0] = 0 ∧ cutS (ap2 x) 1 0 = ap3 x := by
  have hk : chk (ap2 x).n [1, 0] = 0 := by show chk 3 [1, 0] = 0; decide
  unfold cutS
  rw [if_pos hk]
  exact ⟨hk, rfl⟩
theorem ap_4 (x y : List (List UInt8)) : (sendE (ap3 x) 0 1 y.length = 0 ∧ sendS (ap3 x) 0 1 y = ap3 x) ∧ (sendE (ap3 x) 1 0 y.length = 0 ∧ sendS (ap3 x) 1 0 y = ap3 x) :=
  ⟨send_shut (s := ap3 x) (a := 0) (b := 1) (show 0 < 3 by decide) (show 1 < 3 by decide) rfl y, send_shut (s := ap3 x) (a := 1) (b := 0) (show 1 < 3 by decide) (show 0 < 3 by decide) rfl y⟩
theorem ap_5 (x : List (List UInt8)) : countE (ap3 x) 0 1 = 0 ∧ countE (ap3 x) 1 0 = 0 ∧ countE (ap3 x) 0 2 = x.length :=
  ⟨count_at (s := ap3 x) (a := 0) (b := 1) (show 0 < 3 by decide) (show 1 < 3 by decide), count_at (s := ap3 x) (a := 1) (b := 0) (show 1 < 3 by decide) (show 0 < 3 by decide), count_at (s := ap3 x) (a := 0) (b := 2) (show 0 < 3 by decide) (show 2 < 3 by decide)⟩
theorem ap_6 (x y : List (List UInt8)) (h : y.length ≤ 4000) : sendE (ap4 x) 0 1 y.length = 0 ∧ sendS (ap4 x) 0 1 y = ap5 x y := by
  have := send_fit (s := ap4 x) (a := 0) (b := 1) (ms := y) (show 0 < 3 by decide) (show 1 < 3 by decide) rfl (by show ([] : List (List UInt8)).length + y.length ≤ 4096; simp; omega)
  exact this
theorem ap_7 (x y : List (List UInt8)) : countE (ap5 x y) 0 1 = y.length := count_at (s := ap5 x y) (a := 0) (b := 1) (show 0 < 3 by decide) (show 1 < 3 by decide)
set_option maxRecDepth 100000 in
set_option maxHeartbeats 1000000 in
theorem netsimApart_any (xs ys zs : List (List UInt8)) (vx vy vz : Value) (w : World) (hx : Parts w vx xs) (hy : Parts w vy ys) (hz : Parts w vz zs) (hxl : xs.length ≤ 5864062014805) (hyl : ys.length ≤ 5864062014805) (hzl : zs.length ≤ 5864062014805)
    (hxs : ∀ l ∈ xs, l.length ≤ 140737488355328) (hys : ∀ l ∈ ys, l.length ≤ 140737488355328) (hzs : ∀ l ∈ zs, l.length ≤ 140737488355328) :
    Calls Try.prog 6 #[vx, vy, vz] w fun e w' => e = .returned (.bool true) ∧ Kept w w' := by
  have HN := Lib.hid (new_nk 3 4096 w (by omega) (by omega))
  have HX := Lib.hid hx
  have HY := Lib.hid hy
  have HZ := Lib.hid hz
  have HXS := Lib.hid hxs
  have HYS := Lib.hid hys
  have HZS := Lib.hid hzs
  obtain ⟨Ax, cx, rfl, -, hcx, -⟩ := hx
  obtain ⟨Ay, cy, rfl, -, hcy, -⟩ := hy
  obtain ⟨Az, cz, rfl, -, hcz, -⟩ := hz
  unfold maxLen at hcx hcy hcz
  clear hxs hys hzs
  have h64a : IntKind.i64.wrap ((xs.length : Int) + (ys.length : Int)) = (xs.length : Int) + (ys.length : Int) := IntWalk.i64_in _ (by omega)
  have h64b : IntKind.i64.wrap ((xs.length : Int) + (ys.length : Int) + (zs.length : Int)) = (xs.length : Int) + (ys.length : Int) + (zs.length : Int) := IntWalk.i64_in _ (by omega)
  go_enter Try.func6, Try.ntmps6
  go_wp2_with fail
  refine HN.out.mono ?_
  rintro e w1 ⟨nb, rfl, hn1⟩
  have HN1 := Lib.hid hn1
  have HK1 := Lib.hid hn1.old
  clear hn1
  by_cases hbig : 4000 < xs.length + ys.length + zs.length
  · have t1 : decide ((4000 : Int) < (xs.length : Int) + (ys.length : Int) + (zs.length : Int)) = true := by simp; omega
    go_wp2_with fail
    refine (awake_any _).mono ?_
    rintro e w9 ⟨rfl, k9⟩
    have hkk := HK1.out.trans k9
    go_wp2
    go_ret
    exact ⟨rfl, hkk⟩
  · have t1 : decide ((4000 : Int) < (xs.length : Int) + (ys.length : Int) + (zs.length : Int)) = false := by simp; omega
    have hA : ∀ W : World, ∀ g, none0 g → g < W.heap.size := fun W g x => x.elim
    -- Send(0, 1, before)
    go_wp2_with fail
    refine (copied_any xs _ w1 (HX.out.kept HK1.out) hxl HXS.out).mono ?_
    rintro e w2 ⟨v2, rfl, hr2, hk2⟩
    have HR2 := Lib.hid hr2
    have HK2 := Lib.hid hk2
    clear hr2 hk2
    go_wp2_with fail
    refine (send_nk HN1.out HK2.out (hA _) 0 1 xs v2 (fresh w1 w2) HR2.out (fun g x => fresh_new x) HXS.out (by decide)).mono ?_
    rintro e w3 ⟨rfl, hn3, -, -⟩
    rw [(ap_1 xs (by omega)).1]
    rw [(ap_1 xs (by omega)).2] at hn3
    have HN3 := Lib.hid hn3
    have HK3 := Lib.hid hn3.old
    clear hn3
    -- Send(0, 2, before)
    go_wp2_with fail
    refine (copied_any xs _ w3 (HX.out.kept HK3.out) hxl HXS.out).mono ?_
    rintro e w4 ⟨v4, rfl, hr4, hk4⟩
    have HR4 := Lib.hid hr4
    have HK4 := Lib.hid hk4
    clear hr4 hk4
    go_wp2_with fail
    refine (send_nk HN3.out HK4.out (hA _) 0 2 xs v4 (fresh w3 w4) HR4.out (fun g x => fresh_new x) HXS.out (by decide)).mono ?_
    rintro e w5 ⟨rfl, hn5, -, -⟩
    rw [(ap_2 xs (by omega)).1]
    rw [(ap_2 xs (by omega)).2] at hn5
    have HN5 := Lib.hid hn5
    clear hn5
    -- Cut(1, 0)
    go_wp2_with fail
    refine (cut_nk HN5.out (hA _) 1 0 (by decide)).mono ?_
    rintro e w6 ⟨rfl, hn6, -⟩
    rw [(ap_3 xs).1]
    rw [(ap_3 xs).2] at hn6
    have HN6 := Lib.hid hn6
    have HK6 := Lib.hid hn6.old
    clear hn6
    -- Send(0, 1, within)
    go_wp2_with fail
    refine (copied_any ys _ w6 (HY.out.kept HK6.out) hyl HYS.out).mono ?_
    rintro e w7 ⟨v7, rfl, hr7, hk7⟩
    have HR7 := Lib.hid hr7
    have HK7 := Lib.hid hk7
    clear hr7 hk7
    go_wp2_with fail
    refine (send_nk HN6.out HK7.out (hA _) 0 1 ys v7 (fresh w6 w7) HR7.out (fun g x => fresh_new x) HYS.out (by decide)).mono ?_
    rintro e w8 ⟨rfl, hn8, -, -⟩
    rw [(ap_4 xs ys).1.1]
    rw [(ap_4 xs ys).1.2] at hn8
    have HN8 := Lib.hid hn8
    have HK8 := Lib.hid hn8.old
    clear hn8
    -- Send(1, 0, within)
    go_wp2_with fail
    refine (copied_any ys _ w8 (HY.out.kept HK8.out) hyl HYS.out).mono ?_
    rintro e w9 ⟨v9, rfl, hr9, hk9⟩
    have HR9 := Lib.hid hr9
    have HK9 := Lib.hid hk9
    clear hr9 hk9
    go_wp2_with fail
    refine (send_nk HN8.out HK9.out (hA _) 1 0 ys v9 (fresh w8 w9) HR9.out (fun g x => fresh_new x) HYS.out (by decide)).mono ?_
    rintro e w10 ⟨rfl, hn10, -, -⟩
    rw [(ap_4 xs ys).2.1]
    rw [(ap_4 xs ys).2.2] at hn10
    have HN10 := Lib.hid hn10
    clear hn10
    -- the counts
    go_wp2_with fail
    refine (count_nk HN10.out 0 1).mono ?_
    rintro e w11 ⟨rfl, hn11, -⟩
    rw [(ap_5 xs).1]
    have HN11 := Lib.hid hn11
    clear hn11
    go_wp2_with fail
    refine (count_nk HN11.out 1 0).mono ?_
    rintro e w12 ⟨rfl, hn12, -⟩
    rw [(ap_5 xs).2.1]
    have HN12 := Lib.hid hn12
    clear hn12
    go_wp2_with fail
    refine (count_nk HN12.out 0 2).mono ?_
    rintro e w13 ⟨rfl, hn13, -⟩
    rw [(ap_5 xs).2.2]
    have HN13 := Lib.hid hn13
    clear hn13
    -- Heal
    go_wp2_with fail
    refine (heal_nk HN13.out (hA _)).mono ?_
    rintro e w14 ⟨rfl, hn14, -⟩
    have hn14 : NK none0 w w14 nb (ap4 xs) _ := hn14
    have HN14 := Lib.hid hn14
    have HK14 := Lib.hid hn14.old
    clear hn14
    -- Send(0, 1, after)
    go_wp2_with fail
    refine (copied_any zs _ w14 (HZ.out.kept HK14.out) hzl HZS.out).mono ?_
    rintro e w15 ⟨v15, rfl, hr15, hk15⟩
    have HR15 := Lib.hid hr15
    have HK15 := Lib.hid hk15
    clear hr15 hk15
    go_wp2_with fail
    refine (send_nk HN14.out HK15.out (hA _) 0 1 zs v15 (fresh w14 w15) HR15.out (fun g x => fresh_new x) HZS.out (by decide)).mono ?_
    rintro e w16 ⟨rfl, hn16, -, -⟩
    rw [(ap_6 xs zs (by omega)).1]
    rw [(ap_6 xs zs (by omega)).2] at hn16
    have HN16 := Lib.hid hn16
    clear hn16
    go_wp2_with fail
    refine (count_nk HN16.out 0 1).mono ?_
    rintro e w17 ⟨rfl, hn17, -⟩
    rw [ap_7 xs zs]
    have HK17 := Lib.hid hn17.old
    clear hn17
    go_wp2_with fail
    refine (awake_any _).mono ?_
    rintro e w18 ⟨rfl, k18⟩
    have hkk := HK17.out.trans k18
    go_wp2
    go_ret
    exact ⟨rfl, hkk⟩
end Go.Proofs.Ytmoimldkagmkaaa
