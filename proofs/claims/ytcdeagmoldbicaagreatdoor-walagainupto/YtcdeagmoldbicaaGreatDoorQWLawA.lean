/- The walk of WalAgain. -/
import Derived.Test.YtcdeagmoldbicaaGreatDoorQWTwo
import Derived.Test.YtcdeagmoldbicaaGreatDoorQWLawR
import Derived.BigQuiet
set_option linter.unusedSimpArgs false
set_option linter.unusedVariables false
namespace Go.Proofs.YtcdeagmoldbicaaGreatDoor
open Go.RowKit
theorem crashN_nums (cuts : List Int) (ns : Ns) : (crashN cuts ns).map Prod.fst = ns.map Prod.fst := by
  induction ns generalizing cuts with
  | nil => rfl
  | cons p r ih =>
    simp only [crashN]
    split
    · rw [List.map_cons, List.map_cons, ih]
    · rw [List.map_cons, List.map_cons, ih]
theorem crashN_used (cuts : List Int) (ns : Ns) : used (dsk (crashN cuts ns)) ≤ used (dsk ns) := by
  rw [used_dsk, used_dsk]
  induction ns generalizing cuts with
  | nil => simp [crashN]
  | cons p r ih =>
    simp only [crashN]
    split
    · have := ih cuts
      simp only [List.map_cons, List.sum_cons]
      omega
    · have := ih cuts.tail
      simp only [List.map_cons, List.sum_cons, crash1, List.length_take]
      omega
theorem crashN_ok {ns : Ns} (cuts : List Int) (h : NsOk ns) : NsOk (crashN cuts ns) ∧ (crashN cuts ns).length = ns.length := ⟨h.of_nums (crashN_nums cuts ns).symm, by
  have := congrArg List.length (crashN_nums cuts ns)
  simpa using this⟩
theorem crashN_fo (cuts : List Int) (ss : List Sg) : crashN cuts (ss.map fo) = ss.map fo := by
  have := crashN_safe cuts (ss.map fo) [] (fun p hp => by
    obtain ⟨s, -, rfl⟩ := List.mem_map.1 hp
    rfl)
  rw [List.append_nil] at this
  rw [this]
  simp [crashN]
theorem Ints.ofOwn {w : World} {base : Nat} {e : TypeId} {v : Value} {n : Nat} {l : List Int} (h : w.ownsRow base e 1 v n (l.map (Value.int .i64))) : Ints w v l := by
  have hn : l.length = n := by have := h.1; simpa using this
  rcases h.2 with ⟨rfl, h0⟩ | ⟨g, cap, cur, rfl, hB, hg, hc, hm, hs, ht⟩
  · obtain rfl : l = [] := List.eq_nil_of_length_eq_zero (by omega)
    exact ints_none w
  · subst hn
    refine ⟨_, cap, rfl, hc, hm, fun _ => ⟨g, 0, rfl, fun k x hx => ?_⟩⟩
    have := h.cells (g := g) rfl k (.int .i64 x) (by simp [hx])
    have e : ((⟨g, 0, none⟩ : Addr).add k) = ⟨g, 0 + k, none⟩ := by unfold Addr.add; split <;> simp_all
    rw [e] at this
    exact this
theorem costs_all (ls : List (List UInt8)) (j : Nat) : costs (ls.take j) ≤ costs ls := by
  have := costs_app (ls.take j) (ls.drop j)
  rw [List.take_append_drop] at this
  omega
theorem bts_none (w : World) : Bts w (.slice none 0 0) [] := ⟨none, 0, rfl, Nat.le_refl _, by decide, fun h => absurd h (by simp)⟩
/-- The junk behind the only file. -/
theorem junk_dk {w0 w : World} {d : Value} {cap : Nat} {p : Nat × Fl} {b : List UInt8} (hns : NsOk [p]) (h : DK w0 w d cap (if okA cap (fileN p.1) b (dsk [p]) = 0 then appS (fileN p.1) b (dsk [p]) else dsk [p])) :
    ∃ ns2, NsOk ns2 ∧ ns2.length = 1 ∧ used (dsk ns2) ≤ used (dsk [p]) + b.length ∧ DK w0 w d cap (dsk ns2) := by
  split at h
  · have e := app_dsk (a := []) (b := []) (p := p) hns b
    rw [List.nil_append, List.nil_append] at e
    rw [e] at h
    refine ⟨_, hns.of_nums (by simp), rfl, ?_, h⟩
    rw [used_dsk, used_dsk]
    simp
  · exact ⟨[p], hns, rfl, by omega, h⟩
set_option maxRecDepth 100000 in
set_option maxHeartbeats 8000000 in
theorem walAgain_walk (lim : Int) (lx : List (List UInt8)) (lj : List UInt8) (lu : List Int) (vx vy vu : Value) (w : World) (hx : Parts w vx lx) (hy : Bts w vy lj) (hu : Ints w vu lu) (hT : Tb w) (hlx : ∀ l ∈ lx, l.length ≤ 1048576) (hnx : lx.length ≤ 1048576) (hnj : lj.length ≤ 1048576) (hnu : lu.length ≤ 1048576) (hco : costs lx ≤ 30000000) :
    Calls Tryz.prog 5 #[.agg #[.int .i64 lim, vx, vy, vu]] w fun e w' => e = .returned (.bool true) ∧ Kept w w' := by
  have HT := Lib.hid hT
  have HX := Lib.hid hx
  have HY := Lib.hid hy
  have HU := Lib.hid hu
  have HLX := Lib.hid hlx
  obtain ⟨Ax, cx, hvx, hcx1, hcx2, -⟩ := hx
  obtain ⟨Ay, cy, hvy, hcy1, hcy2, -⟩ := hy
  obtain ⟨Au, cu, hvu, hcu1, hcu2, -⟩ := hu
  subst hvx hvy hvu
  unfold maxLen at hcx2 hcy2 hcu2
  have HAW := Lib.hid (show ∀ W, Kept w W → _ from fun W hW => awake_any W (hT.kept hW))
  have HCX := Lib.hid (show ∀ W, Kept w W → _ from fun W hW => copied_any lx _ W (HX.out.kept hW) (by omega) (fun l hl => by have := HLX.out l hl; omega))
  have HCJ := Lib.hid (show ∀ W, Kept w W → _ from fun W hW => copy_any lj _ W (HY.out.kept hW) (by omega))
  have HCU := Lib.hid (show ∀ W, Kept w W → _ from fun W hW => copyInts_any lu _ W (HU.out.kept hW) (by omega))
  have HCO := Lib.hid hco
  clear hT hlx hco
  have tbig : decide ((1000 : Int) < (lx.length : Int)) = true ∨ (decide ((1000 : Int) < (lx.length : Int)) = false ∧ lx.length ≤ 1000) := by
    by_cases h : 1000 < lx.length
    · exact .inl (by simp; omega)
    · exact .inr ⟨by simp; omega, by omega⟩
  have HTB := Lib.hid tbig
  clear tbig
  by_cases hlim : lim < 16 ∨ 1048576 < lim
  · have HOB := Lib.hid (show ∀ d W, DK w W d 1073741824 (dsk []) → _ from fun d W h => openbad_dk [] d lim 1073741824 w W h hlim)
    have t2 : decide (lim < 16) = true ∨ (decide (lim < 16) = false ∧ decide ((1048576 : Int) < lim) = true) := by
      rcases hlim with h | h
      · exact .inl (by simpa using h)
      · by_cases h2 : lim < 16
        · exact .inl (by simpa using h2)
        · exact .inr ⟨by simpa using h2, by simpa using h⟩
    clear hlim
    rcases t2 with t2 | ⟨t2, t3⟩
    all_goals (
      go_enter Tryz.func5, Tryz.ntmps5
      go_wp2
      go_quiet (fail)
      rename_i nq
      have hK0 : Kept w ((w.alloc (.cells #[.int .i64 lim, .slice Ax lx.length cx, .slice Ay lj.length cy, .slice Au lu.length cu] 67)).drewN nq) := ((Kept.refl w).alloc _).drewN nq
      generalize (w.alloc (.cells #[.int .i64 lim, .slice Ax lx.length cx, .slice Ay lj.length cy, .slice Au lu.length cu] 67)).drewN nq = w0 at *
      go_wp2_with fail
      refine (new_dk 1073741824 w w0 hK0 (by omega)).mono ?_
      rintro e w1 ⟨db, rfl, h1⟩
      have H1 := Lib.hid (show DK w w1 (.pointer (some ⟨db, 0, none⟩)) 1073741824 (dsk []) from h1)
      have hk1 := h1.2
      clear h1
      go_wp2_with fail
      refine (HOB.out _ w1 H1.out).mono ?_
      rintro e w2 ⟨rfl, k2⟩
      have hk2 := hk1.trans k2
      go_wp2_with fail
      refine (HAW.out w2 hk2).mono ?_
      rintro e w3 ⟨rfl, k3⟩
      have hk3 := hk2.trans k3
      go_wp2
      go_ret
      exact ⟨rfl, hk3⟩)
  · obtain ⟨lm, rfl⟩ := Int.eq_ofNat_of_zero_le (show 0 ≤ lim by omega)
    have HOP := Lib.hid (show ∀ (ns : Ns) d W, DK w W d 1073741824 (dsk ns) → NsOk ns → ns.length ≤ 1000000 → 2 * used (dsk ns) ≤ 1073741824 → _ from fun ns d W h h1 h2 h3 => open_st ns d lm 1073741824 w W h HT.out (by omega) (by omega) h1 h2 (.inl h3))
    have hl1 : 16 ≤ lm := by omega
    have hl2 : lm ≤ 1048576 := by omega
    clear hlim
    go_enter Tryz.func5, Tryz.ntmps5
    go_wp2
    go_quiet (fail)
    rename_i nq
    have hK0 : Kept w ((w.alloc (.cells #[.int .i64 (lm : Int), .slice Ax lx.length cx, .slice Ay lj.length cy, .slice Au lu.length cu] 67)).drewN nq) := ((Kept.refl w).alloc _).drewN nq
    generalize (w.alloc (.cells #[.int .i64 (lm : Int), .slice Ax lx.length cx, .slice Ay lj.length cy, .slice Au lu.length cu] 67)).drewN nq = w0 at *
    go_wp2_with fail
    refine (new_dk 1073741824 w w0 hK0 (by omega)).mono ?_
    rintro e w1 ⟨db, rfl, h1⟩
    have H1 := Lib.hid (show DK w w1 (.pointer (some ⟨db, 0, none⟩)) 1073741824 (dsk []) from h1)
    clear h1
    go_wp2_with fail
    refine (HOP.out [] _ w1 H1.out ⟨List.Pairwise.nil, fun p hp => by simp at hp⟩ (by simp) (by simp [dsk, used])).mono ?_
    rintro e w2 ⟨lb, rfl, h2, -⟩
    have H2 := Lib.hid (show LSt (mid w w2) w w2 lb (.pointer (some ⟨db, 0, none⟩)) 1073741824 lm 0 [] [] from h2)
    have hk2 := h2.inv.2.1
    clear h2
    rcases HTB.out with t1 | ⟨t1, h1000⟩
    · go_wp2_with fail
      refine (HAW.out w2 hk2).mono ?_
      rintro e w6 ⟨rfl, k6⟩
      have hk6 := hk2.trans k6
      go_wp2
      go_ret
      exact ⟨rfl, hk6⟩
    · go_wp2_with fail
      refine (HCX.out w2 hk2).mono ?_
      rintro e w6 ⟨v6, rfl, h6, k6⟩
      obtain ⟨A6, c6, hv6, -, -⟩ := h6.form
      subst hv6
      have HPX := Lib.hid (PartsK.of_recs (H := mid w w2) h6 (fun g hg x => by
        rcases hg with y | y
        · exact y
        · have := x.2
          have := y.1
          omega))
      clear h6
      go_wp2_with fail
      refine (append_st (mid w w2) w w6 lb _ _ 1073741824 lm 0 [] [] lx (H2.out.kept k6) HT.out HPX.out (by simp [lastNum]; omega) (by simp [nextS]; omega) (by simp [recsOf]; omega)).mono ?_
      rintro e w7 (⟨hns, rfl, k7⟩ | ⟨-, x7, j7, ss7, safe7, ns7, rfl, hwr, hst, hC7⟩)
      · have hk7 := (hk2.trans k6).trans k7
        go_wp2_with fail
        refine (HAW.out w7 hk7).mono ?_
        rintro e w8 ⟨rfl, k8⟩
        have hk8 := hk7.trans k8
        go_wp2
        go_ret
        exact ⟨rfl, hk8⟩
      have hk7 := hst.inv.2.1
      have hxx : x7 = 0 ∨ x7 = 32 := by
        rcases hwr.done with h | h
        · exact .inl h.1
        · exact .inr h.1
      have hus7 : used (dsk ns7) ≤ 30000000 := by
        have h1 := hwr.room
        have h2 := costs_all lx j7
        have h3 := HCO.out
        have h0 : used (dsk []) = 0 := rfl
        rw [h0] at h1
        omega
      have hnl7 : ns7.length ≤ 1000000 := by
        have h1 := hst.inv.1.small
        have h2 := congrArg List.length hst.inv.1.rep.nums
        simp at h1 h2
        omega
      have HN7 := Lib.hid (show NsOk ns7 ∧ used (dsk ns7) ≤ 30000000 ∧ ns7.length ≤ 1000000 from ⟨hst.inv.1.ok, hus7, hnl7⟩)
      have HDK7 := Lib.hid hst.dk
      clear hst hwr hC7 hus7
      rcases hxx with rfl | rfl
      rotate_left
      · go_wp2_with fail
        refine (HAW.out w7 hk7).mono ?_
        rintro e w8 ⟨rfl, k8⟩
        have hk8 := hk7.trans k8
        go_wp2
        go_ret
        exact ⟨rfl, hk8⟩
      · go_wp2_with fail
        refine (files_any 1073741824 _ _ _ w7 HDK7.out.1).mono ?_
        rintro e w8 ⟨v8, rfl, h8, k8⟩
        have hnl : (namesA (dsk ns7)).length = ns7.length := by rw [names_dsk, List.length_map]
        have H8 := Lib.hid h8
        obtain ⟨A8, c8, hv8, hc81, hc82⟩ := h8.form
        unfold maxLen at hc82
        rw [hnl] at hv8 hc81
        subst hv8
        clear h8
        go_wp2
        go_loopw [73] (fun i W => ∃ k : Nat, k ≤ ns7.length ∧ i = .int .i64 (k : Int) ∧ ∃ nsk, NsOk nsk ∧ nsk.length = ns7.length ∧ used (dsk nsk) ≤ 30000000 + lj.length ∧ DK w W (.pointer (some ⟨db, 0, none⟩)) 1073741824 (dsk nsk) ∧ (k < ns7.length → nsk = ns7 ∧ Kept w8 W)) (fun i _ => ns7.length - (intOf i).toNat)
        case atStart => exact ⟨0, Nat.zero_le _, rfl, ns7, HN7.out.1, rfl, by have := HN7.out.2.1; omega, HDK7.out.kept k8, fun _ => ⟨rfl, Kept.refl w8⟩⟩
        case round =>
          obtain ⟨k, hk, rfl, nsk, n1, n2, n3, n4, n5⟩ := hrel
          have HNK := Lib.hid (show NsOk nsk ∧ nsk.length = ns7.length ∧ used (dsk nsk) ≤ 30000000 + lj.length from ⟨n1, n2, n3⟩)
          have HDK := Lib.hid n4
          clear n1 n2 n3 n4
          by_cases hlt : k < ns7.length
          · obtain ⟨e5, hK⟩ := n5 hlt
            subst e5
            have hkn : k < (namesA (dsk nsk)).length := by rw [names_dsk, List.length_map]; exact hlt
            obtain ⟨b, o, hA, hcell⟩ := (H8.out.kept hK).at hkn
            subst hA
            have hnm : (namesA (dsk nsk))[k] = fileN nsk[k].1 := by simp [names_dsk]
            rw [hnm] at hcell
            have g1 : (k : Int) < (nsk.length : Int) := by omega
            have hkw : Kept w wr := HDK.out.2
            clear hnm hkn n5
            by_cases h1 : nsk.length = 1
            · have t2 : ((nsk.length : Int) == (1 : Int)) = true := by simp; omega
              have HK0 := Lib.hid (show k = 0 by omega)
              have HL1 := Lib.hid h1
              have HP := Lib.hid (show ∃ p, nsk = [p] ∧ nsk[k] = p from by
                have hk0 := HK0.out
                match nsk, h1, hlt with
                | [p], _, hlt => exact ⟨p, rfl, by subst hk0; rfl⟩)
              clear h1
              generalize hpp : nsk[k] = p0 at *
              clear hpp
              generalize hnn : fileN p0.1 = nm at *
              have HNM := Lib.hid hnn
              clear hnn
              go_wp2_with fail
              refine (files_any 1073741824 _ _ _ wr HDK.out.1).mono ?_
              rintro e w9 ⟨v9, rfl, h9, k9⟩
              obtain ⟨A9, c9, hv9, -, -⟩ := h9.form
              rw [names_dsk, List.length_map] at hv9
              subst hv9
              clear h9
              go_wp2_with fail
              refine (HCJ.out w9 (hkw.trans k9)).mono ?_
              rintro e w10 ⟨v10, rfl, h10, k10⟩
              have H10 := Lib.hid (Bts.of_own h10)
              clear h10
              go_wp2_with fail
              refine (append_dk nm lj v10 _ 1073741824 _ w w9 w10 (HDK.out.kept k9) k10 H10.out (by have := HDK.out.good.2.2.2; rw [dsk_len]; omega)).mono ?_
              rintro e w11 ⟨he, h11, -⟩
              have HR := Lib.hid (show ∃ ns2, NsOk ns2 ∧ ns2.length = 1 ∧ used (dsk ns2) ≤ 30000000 + lj.length ∧ DK w w11 (.pointer (some ⟨db, 0, none⟩)) 1073741824 (dsk ns2) from by
                obtain ⟨p, hp1, rfl⟩ := HP.out
                rw [← HNM.out, hp1] at h11
                have q1 := HNK.out.1
                rw [hp1] at q1
                obtain ⟨ns2, r1, r2, r3, r4⟩ := junk_dk q1 h11
                have q2 := HN7.out.2.1
                rw [hp1] at q2
                exact ⟨ns2, r1, r2, by omega, r4⟩)
              clear h11
              generalize okA 1073741824 nm lj (dsk nsk) = ok at he
              subst he
              go_wp2
              go_roundw
              case rel =>
                obtain ⟨ns2, r1, r2, r3, r4⟩ := HR.out
                have hk0 := HK0.out
                have hl1 := HL1.out
                exact ⟨k + 1, by omega, by go_num, ns2, r1, by omega, r3, r4, fun h => by omega⟩
              case measure => simp [intOf]; omega
            · have t2 : ((nsk.length : Int) == (1 : Int)) = false := by simp; omega
              have t3 : (nsk.length == 1) = false := by simp; omega
              generalize nsk[k] = p0 at *
              go_wp2_with fail
              refine (files_any 1073741824 _ _ _ wr HDK.out.1).mono ?_
              rintro e w9 ⟨v9, rfl, h9, k9⟩
              obtain ⟨A9, c9, hv9, -, -⟩ := h9.form
              rw [names_dsk, List.length_map] at hv9
              subst hv9
              clear h9
              go_wp2
              go_roundw
              case rel => exact ⟨k + 1, by omega, by go_num, nsk, HNK.out.1, rfl, HNK.out.2.2, HDK.out.kept k9, fun _ => ⟨rfl, hK.trans k9⟩⟩
              case measure => simp [intOf]; omega
          · obtain rfl : k = ns7.length := by omega
            have hkw : Kept w wr := HDK.out.2
            obtain ⟨ss, hss⟩ : ∃ ss, ss = takeF (crashN lu nsk) [] := ⟨_, rfl⟩
            have HQ := Lib.hid (show NsOk (crashN lu nsk) ∧ (crashN lu nsk).length ≤ 1000000 ∧ 2 * used (dsk (crashN lu nsk)) ≤ 1073741824 from by
              obtain ⟨q1, q2, q3⟩ := HNK.out
              obtain ⟨r1, r2⟩ := crashN_ok lu q1
              have r3 := crashN_used lu nsk
              have := HN7.out.2.2
              exact ⟨r1, by omega, by omega⟩)
            have HSS := Lib.hid hss
            clear hss n5
            go_wp2_with fail
            refine (HCU.out wr hkw).mono ?_
            rintro e w13 ⟨v13, rfl, h13, k13⟩
            have H13 := Lib.hid h13
            clear h13
            go_wp2_with fail
            refine (crash_dk lu _ _ 1073741824 _ w wr w13 HDK.out k13 (fun W c => Ints.ofOwn (own_chg H13.out c (fun g hg x => by
              have h1 := (H13.out.lt g hg).1
              have h2 := x.2
              omega)))).mono ?_
            rintro e w14 ⟨rfl, h14, -⟩
            rw [crash_dsk] at h14
            have H14 := Lib.hid h14
            clear h14
            go_wp2_with fail
            refine (HOP.out _ _ w14 H14.out HQ.out.1 HQ.out.2.1 HQ.out.2.2).mono ?_
            rintro e w15 ⟨ab, rfl, h15, -⟩
            rw [← HSS.out] at h15
            have HI := Lib.hid h15.inv.1
            have HTW := Lib.hid (TwoSt.of_lst h15)
            have HD15 := Lib.hid h15.dk
            clear h15
            go_wp2_with fail
            refine (files_any 1073741824 _ _ _ w15 HD15.out.1).mono ?_
            rintro e w16 ⟨v16, rfl, h16, k16⟩
            obtain ⟨A16, c16, hv16, -, -⟩ := h16.form
            rw [names_dsk, List.length_map, List.length_map] at hv16
            subst hv16
            clear h16
            go_wp2_with fail
            refine (used_dk _ 1073741824 _ w w16 (HD15.out.kept k16)).mono ?_
            rintro e w16' ⟨rfl, hw16⟩
            subst hw16
            generalize hud : used (dsk (ss.map fo)) = ud at *
            have HUD := Lib.hid hud
            clear hud
            go_wp2_with fail
            refine (crash_two (HTW.out.kept k16)).mono ?_
            rintro e w17 ⟨rfl, h17⟩
            rw [crashN_fo] at h17
            have hop := open_two lm h17 HT.out hl1 hl2 HI.out.ok HI.out.small (.inr (whole_fo HI.out.good))
            rw [take_all HI.out] at hop
            have HOP2 := Lib.hid hop
            clear h17 hop
            go_wp2_with fail
            refine HOP2.out.mono ?_
            rintro e w18 ⟨bb, rfl, ⟨Ga, ha⟩, ⟨Gb, hb⟩, hd18, hk18⟩
            have HLA := Lib.hid ha
            have HLB := Lib.hid hb
            have HD18 := Lib.hid hd18
            have hsm := ha.small
            have HNA := Lib.hid (show ∀ W, Kept w18 W → _ from fun W hW => next_lgo (ha.kept hW))
            have HNB := Lib.hid (show ∀ W, Kept w18 W → _ from fun W hW => next_lgo (hb.kept hW))
            have HFA := Lib.hid (show ∀ W, Kept w18 W → _ from fun W hW => first_lgo (ha.kept hW))
            have HFB := Lib.hid (show ∀ W, Kept w18 W → _ from fun W hW => first_lgo (hb.kept hW))
            clear ha hb hd18
            go_wp2_with fail
            refine (HNA.out w18 (Kept.refl w18)).mono ?_
            rintro e w19 ⟨rfl, k19⟩
            go_wp2_with fail
            refine (HNB.out w19 k19).mono ?_
            rintro e w20 ⟨rfl, k20⟩
            go_wp2_with fail
            refine (HFA.out w20 (k19.trans k20)).mono ?_
            rintro e w21 ⟨rfl, k21⟩
            go_wp2_with fail
            refine (HFB.out w21 ((k19.trans k20).trans k21)).mono ?_
            rintro e w22 ⟨rfl, k22⟩
            have hk22 := ((k19.trans k20).trans k21).trans k22
            clear k19 k20 k21 k22
            have hud2 := used_dk _ 1073741824 _ w w22 (HD18.out.kept hk22)
            rw [HUD.out] at hud2
            have HU2 := Lib.hid hud2
            clear hud2
            go_wp2_with fail
            refine HU2.out.mono ?_
            rintro e w22' ⟨rfl, hw22⟩
            subst hw22
            go_wp2_with fail
            refine (files_any 1073741824 _ _ _ w22 (HD18.out.kept hk22).1).mono ?_
            rintro e w23 ⟨v23, rfl, h23, k23⟩
            obtain ⟨A23, c23, hv23, -, -⟩ := h23.form
            rw [names_dsk, List.length_map, List.length_map] at hv23
            subst hv23
            clear h23
            have hk23 := hk22.trans k23
            go_wp2_with fail
            refine (HNB.out w23 hk23).mono ?_
            rintro e w24 ⟨rfl, k24⟩
            have hk24 := hk23.trans k24
            go_wp2
            go_loopw [153] (fun i W => ∃ k : Nat, k ≤ nextS ss ∧ i = .int .i64 (k : Int) ∧ Kept w18 W) (fun i _ => nextS ss - (intOf i).toNat)
            case atStart => exact ⟨0, Nat.zero_le _, rfl, hk24⟩
            case round =>
              obtain ⟨k, hk, rfl, hK⟩ := hrel
              by_cases hlt : k < nextS ss
              · have g1 : (k : Int) < (nextS ss : Int) := by omega
                by_cases hfi : firstS ss ≤ k
                · have hnn := HI.out.linked.next
                  have hb : k - firstS ss < (recsOf ss).length := by omega
                  have hrk : (recsOf ss)[k - firstS ss]? = some (recsOf ss)[k - firstS ss] := List.getElem?_eq_getElem hb
                  obtain ⟨r, hr⟩ : ∃ r, (recsOf ss)[k - firstS ss]? = some r := ⟨_, hrk⟩
                  have HGA := Lib.hid (get_lgo (HLA.out.kept hK) k r hfi hr)
                  have HGB := Lib.hid (show ∀ W, Kept w18 W → _ from fun W hW => get_lgo (HLB.out.kept hW) k r hfi hr)
                  clear hrk hr hnn hb
                  go_wp2_with fail
                  refine HGA.out.mono ?_
                  rintro e w25 ⟨v25, rfl, h25, k25⟩
                  obtain ⟨A25, c25, rfl⟩ := own_form h25
                  have HB25 := Lib.hid (Bts.of_own h25)
                  clear h25
                  go_wp2_with fail
                  refine (HGB.out w25 (hK.trans k25)).mono ?_
                  rintro e w26 ⟨v26, rfl, h26, k26⟩
                  obtain ⟨A26, c26, rfl⟩ := own_form h26
                  have HSM := Lib.hid (same_any r r _ _ w26 (HB25.out.kept k26) (Bts.of_own h26))
                  rw [show (r == r) = true by simp] at HSM
                  clear h26
                  go_wp2_with fail
                  refine HSM.out.mono ?_
                  rintro e w27 ⟨rfl, hw27⟩
                  subst hw27
                  have hK26 := (hK.trans k25).trans k26
                  go_wp2
                  go_roundw
                  case rel => exact ⟨k + 1, by omega, by go_num, hK26⟩
                  case measure => simp [intOf]; omega
                · have HGA := Lib.hid (getno_lgo (HLA.out.kept hK) k (.inl (by omega)))
                  have HGB := Lib.hid (show ∀ W, Kept w18 W → _ from fun W hW => getno_lgo (HLB.out.kept hW) k (.inl (by omega)))
                  go_wp2_with fail
                  refine HGA.out.mono ?_
                  rintro e w25 ⟨rfl, k25⟩
                  go_wp2_with fail
                  refine (HGB.out w25 (hK.trans k25)).mono ?_
                  rintro e w26 ⟨rfl, k26⟩
                  have HSM := Lib.hid (same_any [] [] _ _ w26 (bts_none w26) (bts_none w26))
                  rw [show (([] : List UInt8) == []) = true by rfl] at HSM
                  go_wp2_with fail
                  refine HSM.out.mono ?_
                  rintro e w27 ⟨rfl, hw27⟩
                  subst hw27
                  have hK26 := (hK.trans k25).trans k26
                  go_wp2
                  go_roundw
                  case rel => exact ⟨k + 1, by omega, by go_num, hK26⟩
                  case measure => simp [intOf]; omega
              · obtain rfl : k = nextS ss := by omega
                have hkr := hk18.trans hK
                go_wp2_with fail
                refine (HAW.out wr hkr).mono ?_
                rintro e w28 ⟨rfl, k28⟩
                have hk28 := hkr.trans k28
                go_wp2
                go_ret
                exact ⟨rfl, hk28⟩
end Go.Proofs.YtcdeagmoldbicaaGreatDoor
