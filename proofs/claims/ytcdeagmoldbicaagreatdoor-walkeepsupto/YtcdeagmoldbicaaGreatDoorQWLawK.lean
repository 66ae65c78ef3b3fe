/- The walk of WalKeeps. -/
import Derived.Test.YtcdeagmoldbicaaGreatDoorQWMny
import Derived.Test.YtcdeagmoldbicaaGreatDoorQWCrs
import Derived.BigQuiet
set_option linter.unusedSimpArgs false
set_option linter.unusedVariables false
namespace Go.Proofs.YtcdeagmoldbicaaGreatDoor
open Go.RowKit
theorem RecsAt.atB {w : World} {A : Option Addr} {n c : Nat} {ls : List (List UInt8)} {G : Nat → Prop} (h : RecsAt w (.slice A n c) ls G) {k : Nat} (hk : k < ls.length) : ∃ b o u, A = some ⟨b, o, none⟩ ∧ w.cell? ⟨b, o + k, none⟩ = some u ∧ Bts w u ls[k] := by
  have h1 : PartsK no w (.slice A n c) ls := PartsK.of_recs h (fun _ _ x => x)
  obtain ⟨b, o, u, e, hc⟩ := h1.at hk
  obtain ⟨c1, c2⟩ := hc w (Chg.of_kept (Kept.refl w))
  exact ⟨b, o, u, e, c1, c2⟩
theorem ints_own {w : World} {base : Nat} {e : TypeId} {v : Value} {n : Nat} {l : List Int} (h : w.ownsRow base e 1 v n (l.map (Value.int .i64))) : Ints w v l := by
  obtain ⟨h1, h2⟩ := h
  have hn : l.length = n := by simpa using h1
  subst hn
  rcases h2 with ⟨rfl, h0⟩ | ⟨g, cap, cur, rfl, -, hg, hc, hm, hs, ht⟩
  · exact ⟨none, 0, by rw [h0], by omega, by decide, fun h => absurd h (by omega)⟩
  · refine ⟨_, cap, rfl, hc, hm, fun _ => ⟨g, 0, rfl, fun k x hx => ?_⟩⟩
    rw [cell_at hg]
    have hk := (List.getElem?_eq_some_iff.1 hx).1
    have e : (cur.toList.take (l.length * 1))[k]? = some (.int .i64 x) := by rw [ht, List.getElem?_map, hx]; rfl
    rw [List.getElem?_take_of_lt (by omega)] at e
    simpa using e
theorem Inv.count {ss : List Sg} {safe : Nat} {ns : Ns} (h : Inv ss safe ns) : ns.length ≤ 1000000 := by
  have h1 := h.len
  have h2 : ns.length = ss.length := by
    have := congrArg List.length h.rep.nums
    simpa using this
  rcases List.eq_nil_or_concat ss with rfl | ⟨pa, q, rfl⟩
  · simp at h2
    simp [h2]
  · rw [List.concat_eq_append] at *
    have h3 := h1.2 q (by simp)
    rw [lastNum_snoc] at h1
    omega
theorem costs_le {ls : List (List UInt8)} (h : ∀ r ∈ ls, r.length ≤ 4096) : costs ls ≤ 4121 * ls.length := by
  induction ls with
  | nil => simp [costs]
  | cons a r ih =>
    have h1 := h a (by simp)
    have h2 := ih (fun x hx => h x (by simp [hx]))
    simp only [costs, List.map_cons, List.sum_cons, List.length_cons] at *
    omega
theorem costs_take {ls : List (List UInt8)} (h : ∀ r ∈ ls, r.length ≤ 4096) (j : Nat) : costs (ls.take j) ≤ 4121 * ls.length := by
  have h1 := costs_le (ls := ls.take j) (fun r hr => h r (List.mem_of_mem_take hr))
  have h2 : (ls.take j).length ≤ ls.length := by rw [List.length_take]; omega
  omega
set_option maxRecDepth 100000 in
set_option maxHeartbeats 8000000 in
theorem walKeeps_walk (lim : Int) (lx ly : List (List UInt8)) (lu : List Int) (vx vy vu : Value) (w : World) (hx : Parts w vx lx) (hy : Parts w vy ly) (hu : Ints w vu lu) (hT : Tb w) (hlx : ∀ l ∈ lx, l.length ≤ 1048576) (hly : ∀ l ∈ ly, l.length ≤ 1048576) (hnx : lx.length ≤ 1048576) (hny : ly.length ≤ 1048576) (hnu : lu.length ≤ 1048576) :
    Calls Tryz.prog 4 #[.agg #[.int .i64 lim, vx, vy, vu]] w fun e w' => e = .returned (.bool true) ∧ Kept w w' := by
  have HT := Lib.hid hT
  have HX := Lib.hid hx
  have HY := Lib.hid hy
  have HU := Lib.hid hu
  have HLX := Lib.hid hlx
  have HLY := Lib.hid hly
  obtain ⟨Ax, cx, hvx, hcx1, hcx2, -⟩ := hx
  obtain ⟨Ay, cy, hvy, hcy1, hcy2, -⟩ := hy
  obtain ⟨Au, cu, hvu, hcu1, hcu2, -⟩ := hu
  subst hvx hvy hvu
  unfold maxLen at hcx2 hcy2 hcu2
  have HAW := Lib.hid (show ∀ W, Kept w W → _ from fun W hW => awake_any W (hT.kept hW))
  have HCX := Lib.hid (show ∀ W, Kept w W → _ from fun W hW => copied_any lx _ W (HX.out.kept hW) (by omega) (fun l hl => by have := HLX.out l hl; omega))
  have HCY := Lib.hid (show ∀ W, Kept w W → _ from fun W hW => copied_any ly _ W (HY.out.kept hW) (by omega) (fun l hl => by have := HLY.out l hl; omega))
  have HCU := Lib.hid (show ∀ W, Kept w W → _ from fun W hW => copyInts_any lu _ W (HU.out.kept hW) (by omega))
  clear hT hlx hly
  obtain ⟨al, hal⟩ : ∃ al, al = lx ++ ly := ⟨_, rfl⟩
  have HAL := Lib.hid hal
  have hall : al.length = lx.length + ly.length := by rw [hal, List.length_append]
  clear hal
  have hbig : al.length ≤ 2097152 := by omega
  have HLEN := Lib.hid hall
  have tbig : (decide ((1000 : Int) < (lx.length : Int) + (ly.length : Int)) = true ∧ decide (1000 < lx.length + ly.length) = true) ∨ (decide ((1000 : Int) < (lx.length : Int) + (ly.length : Int)) = false ∧ decide (1000 < lx.length + ly.length) = false ∧ lx.length + ly.length ≤ 1000) := by
    by_cases h : 1000 < lx.length + ly.length
    · exact .inl ⟨by simp; omega, by simp; omega⟩
    · exact .inr ⟨by simp; omega, by simp; omega, by omega⟩
  have HTB := Lib.hid tbig
  clear hall tbig
  by_cases hlim : lim < 16 ∨ 1048576 < lim
  · have HOB := Lib.hid (show ∀ d W, DK w W d 1073741824 (dsk []) → _ from fun d W h => openbad_dk [] d lim 1073741824 w W h hlim)
    have t2 : decide (lim < 16) = true ∨ (decide (lim < 16) = false ∧ decide ((1048576 : Int) < lim) = true) := by
      rcases hlim with h | h
      · exact .inl (by simpa using h)
      · by_cases h2 : lim < 16
        · exact .inl (by simpa using h2)
        · exact .inr ⟨by simpa using h2, by simpa using h⟩
    clear hlim
    rcases t2 with t2 | ⟨t2, t3⟩
    all_goals (
      go_enter Tryz.func4, Tryz.ntmps4
      go_wp2
      go_quiet (fail)
      rename_i nq
      have hK0 : Kept w ((w.alloc (.cells #[.int .i64 lim, .slice Ax lx.length cx, .slice Ay ly.length cy, .slice Au lu.length cu] 60)).drewN nq) := ((Kept.refl w).alloc _).drewN nq
      generalize (w.alloc (.cells #[.int .i64 lim, .slice Ax lx.length cx, .slice Ay ly.length cy, .slice Au lu.length cu] 60)).drewN nq = w0 at *
      go_wp2_with fail
      refine (new_dk 1073741824 w w0 hK0 (by omega)).mono ?_
      rintro e w1 ⟨db, rfl, h1⟩
      have H1 := Lib.hid (show DK w w1 (.pointer (some ⟨db, 0, none⟩)) 1073741824 (dsk []) from h1)
      have hk1 := h1.2
      clear h1
      go_wp2_with fail
      refine (HOB.out _ w1 H1.out).mono ?_
      rintro e w2 ⟨rfl, k2⟩
      have hk2 := hk1.trans k2
      go_wp2_with fail
      refine (HAW.out w2 hk2).mono ?_
      rintro e w3 ⟨rfl, k3⟩
      have hk3 := hk2.trans k3
      go_wp2
      go_ret
      exact ⟨rfl, hk3⟩)
  · obtain ⟨lm, rfl⟩ := Int.eq_ofNat_of_zero_le (show 0 ≤ lim by omega)
    have HOP := Lib.hid (show ∀ (ns : Ns) d W, DK w W d 1073741824 (dsk ns) → NsOk ns → ns.length ≤ 1000000 → 2 * used (dsk ns) ≤ 1073741824 → _ from fun ns d W h h1 h2 h3 => open_st ns d lm 1073741824 w W h HT.out (by omega) (by omega) h1 h2 (.inl h3))
    clear hlim
    go_enter Tryz.func4, Tryz.ntmps4
    go_wp2
    go_quiet (fail)
    rename_i nq
    have hK0 : Kept w ((w.alloc (.cells #[.int .i64 (lm : Int), .slice Ax lx.length cx, .slice Ay ly.length cy, .slice Au lu.length cu] 60)).drewN nq) := ((Kept.refl w).alloc _).drewN nq
    generalize (w.alloc (.cells #[.int .i64 (lm : Int), .slice Ax lx.length cx, .slice Ay ly.length cy, .slice Au lu.length cu] 60)).drewN nq = w0 at *
    go_wp2_with fail
    refine (new_dk 1073741824 w w0 hK0 (by omega)).mono ?_
    rintro e w1 ⟨db, rfl, h1⟩
    have H1 := Lib.hid (show DK w w1 (.pointer (some ⟨db, 0, none⟩)) 1073741824 (dsk []) from h1)
    clear h1
    go_wp2_with fail
    refine (HOP.out [] _ w1 H1.out ⟨List.Pairwise.nil, fun p hp => by simp at hp⟩ (by simp) (by simp [dsk, used])).mono ?_
    rintro e w2 ⟨lb, rfl, h2, -⟩
    have H2 := Lib.hid (show LSt (mid w w2) w w2 lb (.pointer (some ⟨db, 0, none⟩)) 1073741824 lm 0 [] [] from h2)
    have hk2 := h2.inv.2.1
    clear h2
    go_wp2_with fail
    refine (HCX.out w2 hk2).mono ?_
    rintro e w3 ⟨v3, rfl, h3, k3⟩
    obtain ⟨A3, c3, hv3, -, -⟩ := h3.form
    subst hv3
    have H3 := Lib.hid h3
    have hk3 := hk2.trans k3
    clear h3
    go_wp2_with fail
    refine (HCY.out w3 hk3).mono ?_
    rintro e w4 ⟨v4, rfl, h4, k4⟩
    obtain ⟨A4, c4, hv4, -, -⟩ := h4.form
    subst hv4
    have hk4 := hk3.trans k4
    have s3 := k3.size
    have s4 := k4.size
    have HA3 := Lib.hid (show RecsAt w4 (.slice A3 lx.length c3) lx (mid w2 w4) from (H3.out.kept k4).mono (fun g hg => by
      rcases hg with x | x
      · exact x.elim
      · exact ⟨x.1, by have := x.2; omega⟩))
    have HA4 := Lib.hid (show RecsAt w4 (.slice A4 ly.length c4) ly (mid w2 w4) from h4.mono (fun g hg => by
      rcases hg with x | x
      · exact x.elim
      · exact ⟨by have := x.1; omega, x.2⟩))
    clear h4
    go_wp2_with (at_builtin; refine wpList_append_recs rfl _ _ rfl _ _ lx ly (mid w2 w4) rfl rfl HA3.out HA4.out (by omega) ?_; intro v5 w5 a1 a2; rw [← HAL.out] at a1; obtain ⟨A5, c5, hv5, hc51, hc52⟩ := a1.form; subst hv5; unfold maxLen at hc52)
    have s5 := a2.size
    have hk5 : Kept w2 w5 := a2.kept ((Kept.refl w2).trans (k3.trans k4)) (fun g x => x.1)
    have hkw5 := hk2.trans hk5
    have H5 := Lib.hid a1
    clear a1 a2
    go_loop [61] (fun i => ∃ k : Nat, k ≤ al.length ∧ i = .int .i64 (k : Int) ∧ ∀ j (hj : j < al.length), j < k → al[j].length ≤ 4096) (fun i => al.length - (intOf i).toNat)
    case atStart => exact ⟨0, Nat.zero_le _, rfl, fun j _ h => absurd h (by omega)⟩
    case round =>
      obtain ⟨k, hk, rfl, hall⟩ := hrel
      have HA := Lib.hid hall
      clear hall
      by_cases hlt : k < al.length
      · obtain ⟨b, o, u, hA, hcell, hbu⟩ := H5.out.atB hlt
        subst hA
        obtain ⟨Au', cu', hu, -, -, -⟩ := hbu
        subst hu
        have g1 : (k : Int) < (al.length : Int) := by omega
        by_cases hlong : 4096 < al[k].length
        · have t3 : decide ((4096 : Int) < (al[k].length : Int)) = true := by simp; omega
          clear hlong
          generalize al[k].length = rl at *
          go_wp2_with fail
          refine (HAW.out w5 hkw5).mono ?_
          rintro e w6 ⟨rfl, k6⟩
          have hk6 := hkw5.trans k6
          go_wp2
          go_ret
          exact ⟨rfl, hk6⟩
        · have t3 : decide ((4096 : Int) < (al[k].length : Int)) = false := by simp; omega
          have HRE := Lib.hid (show ∀ j (hj : j < al.length), j < k + 1 → al[j].length ≤ 4096 from fun j hj hjk => by
            by_cases e : j = k
            · subst e; omega
            · exact HA.out j hj (by omega))
          clear hlong
          generalize hrl : al[k].length = rl at *
          clear hrl
          go_wp2
          go_round
          case rel => exact ⟨k + 1, by omega, by go_num, HRE.out⟩
          case measure => simp [intOf]; omega
      · obtain rfl : k = al.length := by omega
        have hsh : ∀ r ∈ al, r.length ≤ 4096 := fun r hr => by
          obtain ⟨j, hj, rfl⟩ := List.getElem_of_mem hr
          exact HA.out j hj hj
        have HSX := Lib.hid (show ∀ r ∈ lx, r.length ≤ 4096 from fun r hr => hsh r (by rw [HAL.out]; simp [hr]))
        have HSY := Lib.hid (show ∀ r ∈ ly, r.length ≤ 4096 from fun r hr => hsh r (by rw [HAL.out]; simp [hr]))
        clear hsh HA
        rcases HTB.out with ⟨t1, t2⟩ | ⟨t1, t2, h1000⟩
        · go_wp2_with fail
          refine (HAW.out w5 hkw5).mono ?_
          rintro e w6 ⟨rfl, k6⟩
          have hk6 := hkw5.trans k6
          go_wp2
          go_ret
          exact ⟨rfl, hk6⟩
        · go_wp2_with fail
          refine (HCX.out w5 hkw5).mono ?_
          rintro e w6 ⟨v6, rfl, h6, k6⟩
          obtain ⟨A6, c6, hv6, -, -⟩ := h6.form
          subst hv6
          have HPX := Lib.hid (PartsK.of_recs (H := mid w w2) h6 (fun g hg x => by
            have := hk5.size
            rcases hg with y | y
            · exact y
            · have := x.2
              have := y.1
              omega))
          clear h6
          go_wp2_with fail
          refine (append_st (mid w w2) w w6 lb _ _ 1073741824 lm 0 [] [] lx (H2.out.kept (hk5.trans k6)) HT.out HPX.out (by simp [lastNum]; omega) (by simp [nextS]; omega) (by simp [recsOf]; omega)).mono ?_
          rintro e w7 (⟨hns, -⟩ | ⟨-, x7, j7, ss7, safe7, ns7, rfl, hwr, hst, hC7⟩)
          · exact absurd (fun r hr => by have := HSX.out r hr; omega) hns
          have h0 : used (dsk []) = 0 := rfl
          obtain ⟨rfl, rfl⟩ : x7 = 0 ∧ j7 = lx.length := by
            rcases hwr.done with h | ⟨-, -, h⟩
            · exact h
            · have := costs_take HSX.out (j7 + 1)
              rw [h0] at h
              omega
          have hrec7 : recsOf ss7 = lx := by have := hwr.recs; simpa [recsOf] using this
          have hfi7 : firstS ss7 = 0 := hwr.first
          have hnx7 : nextS ss7 = lx.length := by
            rw [hst.inv.1.linked.next, hfi7, hrec7, Nat.zero_add]
          have hla7 : lastNum ss7 ≤ 1000 := by have := hwr.last; simp [lastNum] at this ⊢; omega
          have hus7 : used (dsk ns7) ≤ 4121 * lx.length := by
            have h1 := hwr.room
            have h2 := costs_take HSX.out lx.length
            rw [h0] at h1
            omega
          have hup7 : used (dsk (ss7.map fo)) ≤ 4121 * lx.length := by rw [← hst.inv.1.rep.used]; exact hus7
          have HST7 := Lib.hid hst.now
          have HR7 := Lib.hid (show recsOf ss7 = lx ∧ firstS ss7 = 0 ∧ nextS ss7 = lx.length ∧ lastNum ss7 ≤ 1000 ∧ used (dsk (ss7.map fo)) ≤ 4121 * lx.length from ⟨hrec7, hfi7, hnx7, hla7, hup7⟩)
          clear hst hwr hC7 hrec7 hfi7 hnx7 hla7 hus7 hup7 h0
          go_wp2_with fail
          refine (sync_st HST7.out HT.out).mono ?_
          rintro e w8 ⟨rfl, h8, -⟩
          have H8 := Lib.hid h8.now
          have hk8 := h8.inv.2.1
          clear h8
          go_wp2_with fail
          refine (HCY.out w8 hk8).mono ?_
          rintro e w9 ⟨v9, rfl, h9, k9⟩
          obtain ⟨A9, c9, hv9, -, -⟩ := h9.form
          subst hv9
          have HPY := Lib.hid (PartsK.of_recs (H := mid w w8) h9 (fun g hg x => by
            rcases hg with y | y
            · exact y
            · have := x.2
              have := y.1
              omega))
          clear h9
          go_wp2_with fail
          refine (append_st (mid w w8) w w9 lb _ _ 1073741824 lm (nextS ss7) ss7 (ss7.map fo) ly (H8.out.kept k9) HT.out HPY.out (by have := HR7.out.2.2.2.1; omega) (by have := HR7.out.2.2.1; omega) (by rw [HR7.out.1]; omega)).mono ?_
          rintro e w10 (⟨hns, -⟩ | ⟨-, x10, j10, ss10, safe10, ns10, rfl, hwr, hst, hC10⟩)
          · exact absurd (fun r hr => by have := HSY.out r hr; omega) hns
          obtain ⟨hrec7, hfi7, hnx7, hla7, hup7⟩ := HR7.out
          obtain ⟨rfl, rfl⟩ : x10 = 0 ∧ j10 = ly.length := by
            rcases hwr.done with h | ⟨-, -, h⟩
            · exact h
            · have := costs_take HSY.out (j10 + 1)
              omega
          have hrec : recsOf ss10 = al := by have := hwr.recs; rw [List.take_length, hrec7] at this; rw [this, HAL.out]
          have hfi : firstS ss10 = 0 := hwr.first.trans hfi7
          have hnx : nextS ss10 = al.length := by rw [hst.inv.1.linked.next, hfi, hrec, Nat.zero_add]
          have hsafe : lx.length ≤ safe10 := by have := hwr.safeLe; omega
          have husd : used (dsk ns10) ≤ 4121 * 1000 := by
            have h1 := hwr.room
            have h2 := costs_take HSY.out ly.length
            omega
          have hinv := hst.inv.1
          have hnsl : ns10.length ≤ 1000000 := hinv.count
          obtain ⟨q1, q2, q3, q4, q5, q6, q7⟩ := crash_inv hinv hfi lu
          rw [hnx] at q5
          rw [hrec] at q7
          have HSA := Lib.hid (show ∀ W, Kept w10 W → _ from fun W hW => safe_st (hst.kept hW))
          have HDK := Lib.hid hst.dk
          have hk10 := hst.inv.2.1
          have t5 : decide ((safe10 : Int) < (lx.length : Int)) = false := by simp; omega
          have t6 : decide (safe10 < lx.length) = false := by simp; omega
          obtain ⟨n3, hn3⟩ : ∃ n3, n3 = nextS (takeF (crashN lu ns10) []) := ⟨_, rfl⟩
          rw [← hn3] at q4 q5 q7
          have t7 : decide ((n3 : Int) < (safe10 : Int)) = false := by simp; omega
          have t8 : decide (n3 < safe10) = false := by simp; omega
          have hlen := HLEN.out
          have t9 : decide ((lx.length : Int) + (ly.length : Int) < (n3 : Int)) = false := by simp; omega
          have t10 : decide (lx.length + ly.length < n3) = false := by simp; omega
          have HQ := Lib.hid (show NsOk (crashN lu ns10) ∧ (crashN lu ns10).length ≤ 1000000 ∧ 2 * used (dsk (crashN lu ns10)) ≤ 1073741824 from ⟨q1, by omega, by omega⟩)
          have HQ2 := Lib.hid (show firstS (takeF (crashN lu ns10) []) = 0 ∧ recsOf (takeF (crashN lu ns10) []) = al.take n3 ∧ nextS (takeF (crashN lu ns10) []) = n3 from ⟨q6, q7, hn3.symm⟩)
          clear hst hwr hC10 hrec7 hfi7 hnx7 hla7 hup7 hrec hfi hnx husd hinv hnsl q1 q2 q3 q6 q7 hn3 hlen hsafe
          go_wp2_with fail
          refine (HSA.out w10 (Kept.refl w10)).mono ?_
          rintro e w11 ⟨rfl, k11⟩
          go_wp2_with fail
          refine (HSA.out w11 k11).mono ?_
          rintro e w12 ⟨rfl, k12⟩
          have hk12 := hk10.trans (k11.trans k12)
          go_wp2_with fail
          refine (HCU.out w12 hk12).mono ?_
          rintro e w13 ⟨v13, rfl, h13, k13⟩
          have H13 := Lib.hid h13
          clear h13
          go_wp2_with fail
          refine (crash_dk lu _ _ 1073741824 _ w w12 w13 (HDK.out.kept (k11.trans k12)) k13 (fun W c => ints_own (own_chg H13.out c (fun g hg x => by
            have h1 := (H13.out.lt g hg).1
            have h2 := x.2
            omega)))).mono ?_
          rintro e w14 ⟨rfl, h14, -⟩
          rw [crash_dsk] at h14
          have H14 := Lib.hid h14
          clear h14
          go_wp2_with fail
          refine (HOP.out _ _ w14 H14.out HQ.out.1 HQ.out.2.1 HQ.out.2.2).mono ?_
          rintro e w15 ⟨mb, rfl, h15, -⟩
          have hn15 := fun W (hW : Kept w15 W) => next_st (h15.kept hW)
          rw [HQ2.out.2.2] at hn15
          have HN15 := Lib.hid hn15
          have hf15 := fun W (hW : Kept w15 W) => first_st (h15.kept hW)
          rw [HQ2.out.1] at hf15
          have HF15 := Lib.hid hf15
          have H15 := Lib.hid h15
          have hk15 := h15.inv.2.1
          clear h15 hn15 hf15
          go_wp2_with fail
          refine (HN15.out w15 (Kept.refl w15)).mono ?_
          rintro e w16 ⟨rfl, k16⟩
          go_wp2_with fail
          refine (HN15.out w16 k16).mono ?_
          rintro e w17 ⟨rfl, k17⟩
          go_wp2_with fail
          refine (HF15.out w17 (k16.trans k17)).mono ?_
          rintro e w18 ⟨rfl, k18⟩
          have hk18 : Kept w15 w18 := (k16.trans k17).trans k18
          clear k16 k17 k18
          go_wp2_with fail
          refine (HCX.out w18 (hk15.trans hk18)).mono ?_
          rintro e w19 ⟨v19, rfl, h19, k19⟩
          obtain ⟨A19, c19, hv19, -, -⟩ := h19.form
          subst hv19
          have H19 := Lib.hid h19
          clear h19
          go_wp2_with fail
          refine (HCY.out w19 ((hk15.trans hk18).trans k19)).mono ?_
          rintro e w20 ⟨v20, rfl, h20, k20⟩
          obtain ⟨A20, c20, hv20, -, -⟩ := h20.form
          subst hv20
          have s19 := k19.size
          have s20 := k20.size
          have HB3 := Lib.hid (show RecsAt w20 (.slice A19 lx.length c19) lx (mid w18 w20) from (H19.out.kept k20).mono (fun g hg => by
            rcases hg with x | x
            · exact x.elim
            · exact ⟨x.1, by have := x.2; omega⟩))
          have HB4 := Lib.hid (show RecsAt w20 (.slice A20 ly.length c20) ly (mid w18 w20) from h20.mono (fun g hg => by
            rcases hg with x | x
            · exact x.elim
            · exact ⟨by have := x.1; omega, x.2⟩))
          clear h20
          go_wp2_with (at_builtin; refine wpList_append_recs rfl _ _ rfl _ _ lx ly (mid w18 w20) rfl rfl HB3.out HB4.out (by omega) ?_; intro v21 w21 a1 a2; rw [← HAL.out] at a1; obtain ⟨A21, c21, hv21, hc211, hc212⟩ := a1.form; subst hv21; unfold maxLen at hc212)
          have hk21 : Kept w15 w21 := hk18.trans (a2.kept ((Kept.refl w18).trans (k19.trans k20)) (fun g x => x.1))
          have H21 := Lib.hid a1
          clear a1 a2
          go_loopw [156] (fun i W => ∃ k : Nat, k ≤ al.length ∧ i = .int .i64 (k : Int) ∧ Kept w21 W) (fun i _ => al.length - (intOf i).toNat)
          case atStart => exact ⟨0, Nat.zero_le _, rfl, Kept.refl w21⟩
          case round =>
            obtain ⟨k, hk, rfl, hK⟩ := hrel
            by_cases hlt : k < al.length
            · obtain ⟨b, o, u, hA, hcell, hbu⟩ := (H21.out.kept hK).atB hlt
              subst hA
              have HBU := Lib.hid hbu
              obtain ⟨Ab, cb, hb, -, -, -⟩ := hbu
              subst hb
              have g1 : (k : Int) < (al.length : Int) := by omega
              have hKr : Kept w15 wr := hk21.trans hK
              by_cases hkn : k < n3
              · have t11 : decide ((k : Int) < (n3 : Int)) = true := by simp; omega
                have t12 : decide (k < n3) = true := by simp; omega
                have t13 : decide ((n3 : Int) ≤ (k : Int)) = false := by simp; omega
                have t14 : decide (n3 ≤ k) = false := by simp; omega
                have hrk : (recsOf (takeF (crashN lu ns10) []))[k - firstS (takeF (crashN lu ns10) [])]? = some al[k] := by
                  rw [HQ2.out.1, HQ2.out.2.1, Nat.sub_zero, List.getElem?_take_of_lt hkn, List.getElem?_eq_getElem hlt]
                have HGE := Lib.hid (get_st (H15.out.kept hKr) k al[k] (by rw [HQ2.out.1]; exact Nat.zero_le _) hrk)
                clear hrk
                generalize hrr : al[k] = r at *
                clear hrr
                go_wp2_with fail
                refine HGE.out.mono ?_
                rintro e w22 ⟨v22, rfl, h22, k22⟩
                obtain ⟨A22, c22, rfl⟩ := own_form h22
                have HB22 := Lib.hid (Bts.of_own h22)
                clear h22
                go_wp2_with fail
                refine (HN15.out w22 (hKr.trans k22)).mono ?_
                rintro e w23 ⟨rfl, k23⟩
                have HSM := Lib.hid (same_any r r _ _ w23 (HBU.out.kept (k22.trans k23)) (HB22.out.kept k23))
                rw [show (r == r) = true by simp] at HSM
                go_wp2_with fail
                refine HSM.out.mono ?_
                rintro e w24 ⟨rfl, hw24⟩
                subst hw24
                go_wp2_with fail
                refine (HN15.out w23 ((hKr.trans k22).trans k23)).mono ?_
                rintro e w25 ⟨rfl, k25⟩
                have hK25 := ((hK.trans k22).trans k23).trans k25
                go_wp2
                go_roundw
                case rel => exact ⟨k + 1, by omega, by go_num, hK25⟩
                case measure => simp [intOf]; omega
              · have t11 : decide ((k : Int) < (n3 : Int)) = false := by simp; omega
                have t12 : decide (k < n3) = false := by simp; omega
                have t13 : decide ((n3 : Int) ≤ (k : Int)) = true := by simp; omega
                have t14 : decide (n3 ≤ k) = true := by simp; omega
                have HGE := Lib.hid (getno_st (H15.out.kept hKr) k (.inr (by rw [HQ2.out.2.2]; omega)))
                generalize al[k] = r at *
                go_wp2_with fail
                refine HGE.out.mono ?_
                rintro e w22 ⟨rfl, k22⟩
                go_wp2_with fail
                refine (HN15.out w22 (hKr.trans k22)).mono ?_
                rintro e w23 ⟨rfl, k23⟩
                go_wp2_with fail
                refine (HN15.out w23 ((hKr.trans k22).trans k23)).mono ?_
                rintro e w25 ⟨rfl, k25⟩
                have hK25 := ((hK.trans k22).trans k23).trans k25
                go_wp2
                go_roundw
                case rel => exact ⟨k + 1, by omega, by go_num, hK25⟩
                case measure => simp [intOf]; omega
            · obtain rfl : k = al.length := by omega
              have hkr := hk15.trans (hk21.trans hK)
              go_wp2_with fail
              refine (HAW.out wr hkr).mono ?_
              rintro e w26 ⟨rfl, k26⟩
              have hk26 := hkr.trans k26
              go_wp2
              go_ret
              exact ⟨rfl, hk26⟩
end Go.Proofs.YtcdeagmoldbicaaGreatDoor
