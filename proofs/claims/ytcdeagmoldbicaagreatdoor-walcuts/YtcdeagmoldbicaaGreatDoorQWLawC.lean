/- The walk of WalCuts. -/
import Derived.Test.YtcdeagmoldbicaaGreatDoorQWTwo
import Derived.Test.YtcdeagmoldbicaaGreatDoorQWTrc
import Derived.Test.YtcdeagmoldbicaaGreatDoorQWLawR
set_option linter.unusedSimpArgs false
set_option linter.unusedVariables false
namespace Go.Proofs.YtcdeagmoldbicaaGreatDoor
open Go.RowKit
theorem fst_le {ss : List Sg} (h : Linked ss) (h0 : firstS ss = 0) : ∀ s ∈ ss, s.fst ≤ nextS ss := by
  intro s hs
  obtain ⟨a, b, rfl⟩ := List.append_of_mem hs
  have hn := h.next
  have e : a ++ s :: b = (a ++ [s]) ++ b := by simp
  have h1 := h
  rw [e] at h1
  have h2 : firstS (a ++ [s]) = 0 := by
    cases a with
    | nil => exact h0
    | cons x r => exact h0
  have h3 := (h1.left.last h2).2.2
  rw [recsOf_app, List.length_append] at hn
  omega
theorem crashN_fo' (cuts : List Int) (ss : List Sg) : crashN cuts (ss.map fo) = ss.map fo := by
  have := crashN_safe cuts (ss.map fo) [] (fun p hp => by
    obtain ⟨s, -, rfl⟩ := List.mem_map.1 hp
    rfl)
  rw [List.append_nil] at this
  rw [this]
  simp [crashN]
theorem Lgo.smallF {w : World} {lb : Nat} {ss : List Sg} {G : Nat → Prop} (h : Lgo w lb ss G) : firstS ss < 9000000000000000000 := by
  have h1 := h.small
  obtain ⟨sv, ps, d, lim, safe, -, -, -, hL, -⟩ := h
  have := hL.next
  omega
set_option maxRecDepth 100000 in
set_option maxHeartbeats 8000000 in
theorem walCuts_walk (lim cut : Int) (lx : List (List UInt8)) (vx : Value) (w : World) (hx : Parts w vx lx) (hT : Tb w) (hlx : ∀ l ∈ lx, l.length ≤ 140737488355328) :
    Calls Tryz.prog 6 #[.int .i64 lim, vx, .int .i64 cut] w fun e w' => e = .returned (.bool true) ∧ Kept w w' := by
  have HT := Lib.hid hT
  have HX := Lib.hid hx
  have HLX := Lib.hid hlx
  obtain ⟨Ax, cx, hvx, hcx1, hcx2, -⟩ := hx
  subst hvx
  unfold maxLen at hcx2
  have HAW := Lib.hid (show ∀ W, Kept w W → _ from fun W hW => awake_any W (hT.kept hW))
  have HCX := Lib.hid (show ∀ W, lx.length ≤ 1000 → Kept w W → _ from fun W hn hW => copied_any lx _ W (HX.out.kept hW) (by omega) HLX.out)
  have HNW := Lib.hid (new_dk 1073741824 w w (Kept.refl w) (by omega))
  clear hT hlx
  by_cases hlim : lim < 16 ∨ 1048576 < lim
  · have HOB := Lib.hid (show ∀ d W, DK w W d 1073741824 (dsk []) → _ from fun d W h => openbad_dk [] d lim 1073741824 w W h hlim)
    have t2 : decide (lim < 16) = true ∨ (decide (lim < 16) = false ∧ decide ((1048576 : Int) < lim) = true) := by
      rcases hlim with h | h
      · exact .inl (by simpa using h)
      · by_cases h2 : lim < 16
        · exact .inl (by simpa using h2)
        · exact .inr ⟨by simpa using h2, by simpa using h⟩
    clear hlim
    rcases t2 with t2 | ⟨t2, t3⟩
    all_goals (
      go_enter Tryz.func6, Tryz.ntmps6
      go_wp2_with fail
      refine HNW.out.mono ?_
      rintro e w1 ⟨db, rfl, h1⟩
      have H1 := Lib.hid (show DK w w1 (.pointer (some ⟨db, 0, none⟩)) 1073741824 (dsk []) from h1)
      have hk1 := h1.2
      clear h1
      go_wp2_with fail
      refine (HOB.out _ w1 H1.out).mono ?_
      rintro e w2 ⟨rfl, k2⟩
      have hk2 := hk1.trans k2
      go_wp2_with fail
      refine (HAW.out w2 hk2).mono ?_
      rintro e w3 ⟨rfl, k3⟩
      have hk3 := hk2.trans k3
      go_wp2
      go_ret
      exact ⟨rfl, hk3⟩)
  · obtain ⟨lm, rfl⟩ := Int.eq_ofNat_of_zero_le (show 0 ≤ lim by omega)
    have HOP := Lib.hid (show ∀ (ns : Ns) d W, DK w W d 1073741824 (dsk ns) → NsOk ns → ns.length ≤ 1000000 → 2 * used (dsk ns) ≤ 1073741824 → _ from fun ns d W h h1 h2 h3 => open_st ns d lm 1073741824 w W h HT.out (by omega) (by omega) h1 h2 (.inl h3))
    have hl1 : 16 ≤ lm := by omega
    have hl2 : lm ≤ 1048576 := by omega
    clear hlim
    have tbig : decide ((1000 : Int) < (lx.length : Int)) = true ∨ (decide ((1000 : Int) < (lx.length : Int)) = false ∧ lx.length ≤ 1000) := by
      by_cases h : 1000 < lx.length
      · exact .inl (by simp; omega)
      · exact .inr ⟨by simp; omega, by omega⟩
    go_enter Tryz.func6, Tryz.ntmps6
    go_wp2_with fail
    refine HNW.out.mono ?_
    rintro e w1 ⟨db, rfl, h1⟩
    have H1 := Lib.hid (show DK w w1 (.pointer (some ⟨db, 0, none⟩)) 1073741824 (dsk []) from h1)
    clear h1
    go_wp2_with fail
    refine (HOP.out [] _ w1 H1.out ⟨List.Pairwise.nil, fun p hp => by simp at hp⟩ (by simp) (by simp [dsk, used])).mono ?_
    rintro e w2 ⟨lb, rfl, h2, -⟩
    have H2 := Lib.hid (show LSt (mid w w2) w w2 lb (.pointer (some ⟨db, 0, none⟩)) 1073741824 lm 0 [] [] from h2)
    have hk2 := h2.inv.2.1
    clear h2
    rcases tbig with t1 | ⟨t1, h1000⟩
    · go_wp2_with fail
      refine (HAW.out w2 hk2).mono ?_
      rintro e w6 ⟨rfl, k6⟩
      have hk6 := hk2.trans k6
      go_wp2
      go_ret
      exact ⟨rfl, hk6⟩
    · go_wp2_with fail
      refine (HCX.out w2 h1000 hk2).mono ?_
      rintro e w6 ⟨v6, rfl, h6, k6⟩
      obtain ⟨A6, c6, hv6, -, -⟩ := h6.form
      subst hv6
      have HPX := Lib.hid (PartsK.of_recs (H := mid w w2) h6 (fun g hg x => by
        rcases hg with y | y
        · exact y
        · have := x.2
          have := y.1
          omega))
      clear h6
      go_wp2_with fail
      refine (append_st (mid w w2) w w6 lb _ _ 1073741824 lm 0 [] [] lx (H2.out.kept k6) HT.out HPX.out (by simp [lastNum]; omega) (by simp [nextS]; omega) (by simp [recsOf]; omega)).mono ?_
      rintro e w7 (⟨hns, rfl, k7⟩ | ⟨-, x7, j7, ss7, safe7, ns7, rfl, hwr, hst, hC7⟩)
      · have hk7 := (hk2.trans k6).trans k7
        go_wp2_with fail
        refine (HAW.out w7 hk7).mono ?_
        rintro e w8 ⟨rfl, k8⟩
        have hk8 := hk7.trans k8
        go_wp2
        go_ret
        exact ⟨rfl, hk8⟩
      have hk7 := hst.inv.2.1
      rcases hwr.done with ⟨rfl, hj7⟩ | ⟨rfl, -⟩
      rotate_left
      · clear hst hwr hC7
        go_wp2_with fail
        refine (HAW.out w7 hk7).mono ?_
        rintro e w8 ⟨rfl, k8⟩
        have hk8 := hk7.trans k8
        go_wp2
        go_ret
        exact ⟨rfl, hk8⟩
      have hrec : recsOf ss7 = lx := by
        have := hwr.recs
        rw [hj7, List.take_length] at this
        simpa [recsOf] using this
      have hfi : firstS ss7 = 0 := hwr.first
      have hlk := hst.inv.1.linked
      have hnxt : nextS ss7 = lx.length := by rw [hlk.next, hfi, hrec, Nat.zero_add]
      have HST := Lib.hid hst
      have HREC := Lib.hid hrec
      have HFI := Lib.hid hfi
      have HLK := Lib.hid hlk
      have HNX := Lib.hid hnxt
      clear hst hwr hC7 hrec hfi hlk hnxt hj7
      by_cases hbad : cut < 0 ∨ (lx.length : Int) < cut
      · have HTR := Lib.hid (truncbad_st HST.out cut (by rw [HNX.out]; exact hbad))
        have t2 : decide (cut < 0) = true ∨ (decide (cut < 0) = false ∧ decide ((lx.length : Int) < cut) = true) := by
          rcases hbad with h | h
          · exact .inl (by simpa using h)
          · by_cases h2 : cut < 0
            · exact .inl (by simpa using h2)
            · exact .inr ⟨by simpa using h2, by simpa using h⟩
        clear hbad
        have HF7 := Lib.hid (show ∀ W, Kept w7 W → _ from fun W hW => first_st (HST.out.kept hW))
        rw [HFI.out] at HF7
        rcases t2 with t2 | ⟨t2, t3⟩
        all_goals (
          go_wp2_with fail
          refine HTR.out.mono ?_
          rintro e w8 ⟨rfl, k8⟩
          go_wp2_with fail
          refine (HF7.out w8 k8).mono ?_
          rintro e w9 ⟨rfl, k9⟩
          have hk9 := (hk7.trans k8).trans k9
          go_wp2_with fail
          refine (HAW.out w9 hk9).mono ?_
          rintro e w10 ⟨rfl, k10⟩
          have hk10 := hk9.trans k10
          go_wp2
          go_ret
          exact ⟨rfl, hk10⟩)
      · obtain ⟨i, rfl⟩ := Int.eq_ofNat_of_zero_le (show 0 ≤ cut by omega)
        have hil : i ≤ lx.length := by omega
        clear hbad
        have HTR := Lib.hid (trunc_st HST.out HT.out (fun s hs => by
          have h1 := fst_le HLK.out HFI.out s hs
          have h2 := HNX.out
          omega) i (by rw [HNX.out]; exact hil))
        have t2 : decide ((i : Int) < 0) = false := by simp
        have t3 : decide ((lx.length : Int) < (i : Int)) = false := by simp; omega
        have t4 : decide (lx.length < i) = false := by simp; omega
        go_wp2_with fail
        refine HTR.out.mono ?_
        rintro e w8 ⟨rfl, k, nb, hk, hlow, hst8⟩
        obtain ⟨ss, hss⟩ : ∃ ss, ss = ss7.drop k := ⟨_, rfl⟩
        rw [← hss] at hst8
        have hcf : firstS ss ≤ i ∧ nextS ss = lx.length ∧ firstS ss ≤ lx.length ∧ recsOf ss = lx.drop (firstS ss) := by
          have e1 : ss7.take k ++ ss = ss7 := by rw [hss, List.take_append_drop]
          have hb : ss ≠ [] ∨ ss7.take k = [] := by
            rcases hk with h | h
            · exact .inr (by rw [h]; rfl)
            · refine .inl (fun h2 => ?_)
              have := congrArg List.length (hss.symm.trans h2)
              rw [List.length_drop] at this
              simp at this
              omega
          have := cut_facts (a := ss7.take k) (b := ss) (i := i) (by rw [e1]; exact HLK.out) (by rw [e1]; exact HFI.out) hb hlow
          rw [e1, HREC.out, HNX.out] at this
          exact this
        obtain ⟨cf1, cf2, cf3, cf4⟩ := hcf
        have hk8 := hst8.inv.2.1
        have HI := Lib.hid hst8.inv.1
        have HF8 := Lib.hid (show ∀ W, Kept w8 W → _ from fun W hW => first_st (hst8.kept hW))
        have HN8 := Lib.hid (show ∀ W, Kept w8 W → _ from fun W hW => next_st (hst8.kept hW))
        rw [cf2] at HN8
        have HST8 := Lib.hid hst8
        have HRC := Lib.hid cf4
        have HNS := Lib.hid cf2
        have HTKA := Lib.hid (take_all hst8.inv.1)
        have HWH := Lib.hid (whole_fo hst8.inv.1.good)
        have HSMA := Lib.hid hst8.inv.1.small
        have HOKK := Lib.hid hst8.inv.1.synced.ok
        clear hst8 hlow hk hss cf2 cf4
        obtain ⟨fi, hfi⟩ : ∃ fi, fi = firstS ss := ⟨_, rfl⟩
        rw [← hfi] at cf1 cf3 HF8 HRC
        have HFF := Lib.hid hfi
        clear hfi
        have t5 : decide ((i : Int) < (fi : Int)) = false := by simp; omega
        have t6 : decide (i < fi) = false := by simp; omega
        go_wp2_with fail
        refine (HF8.out w8 (Kept.refl w8)).mono ?_
        rintro e w9 ⟨rfl, k9⟩
        go_wp2_with fail
        refine (HN8.out w9 k9).mono ?_
        rintro e w10 ⟨rfl, k10⟩
        have HSY := Lib.hid (sync_st (HST8.out.kept (k9.trans k10)) HT.out)
        go_wp2_with fail
        refine HSY.out.mono ?_
        rintro e w11 ⟨rfl, hst11, -⟩
        have HTW := Lib.hid (TwoSt.of_lst hst11)
        clear hst11
        go_wp2_with fail
        refine (crash_two HTW.out).mono ?_
        rintro e w12 ⟨rfl, h12⟩
        rw [crashN_fo'] at h12
        have hop := open_two lm h12 HT.out hl1 hl2 HOKK.out HSMA.out (.inr HWH.out)
        rw [HTKA.out] at hop
        have HOP2 := Lib.hid hop
        clear h12 hop
        go_wp2_with fail
        refine HOP2.out.mono ?_
        rintro e w13 ⟨mb, rfl, ⟨Ga, ha⟩, ⟨Gb, hb⟩, -, hk13⟩
        have HLA := Lib.hid ha
        have HLB := Lib.hid hb
        have HNA := Lib.hid (show ∀ W, Kept w13 W → _ from fun W hW => next_lgo (ha.kept hW))
        have HNB := Lib.hid (show ∀ W, Kept w13 W → _ from fun W hW => next_lgo (hb.kept hW))
        have HFA := Lib.hid (show ∀ W, Kept w13 W → _ from fun W hW => first_lgo (ha.kept hW))
        have HFB := Lib.hid (show ∀ W, Kept w13 W → _ from fun W hW => first_lgo (hb.kept hW))
        rw [HNS.out] at HNA HNB
        rw [← HFF.out] at HFA HFB
        clear ha hb
        go_wp2_with fail
        refine (HFB.out w13 (Kept.refl w13)).mono ?_
        rintro e w14 ⟨rfl, k14⟩
        go_wp2_with fail
        refine (HFA.out w14 k14).mono ?_
        rintro e w15 ⟨rfl, k15⟩
        go_wp2_with fail
        refine (HNB.out w15 (k14.trans k15)).mono ?_
        rintro e w16 ⟨rfl, k16⟩
        go_wp2_with fail
        refine (HNA.out w16 ((k14.trans k15).trans k16)).mono ?_
        rintro e w17 ⟨rfl, k17⟩
        have hk17 := ((k14.trans k15).trans k16).trans k17
        clear k14 k15 k16 k17
        go_wp2
        go_loopw [126] (fun v W => ∃ k : Nat, k ≤ lx.length ∧ v = .int .i64 (k : Int) ∧ Kept w13 W) (fun v _ => lx.length - (intOf v).toNat)
        case atStart => exact ⟨0, Nat.zero_le _, rfl, hk17⟩
        case round =>
          obtain ⟨k, hk, rfl, hK⟩ := hrel
          by_cases hlt : k < lx.length
          · obtain ⟨b, o, u, hA, hcell, hbu⟩ := (HX.out.kept (hk13.trans hK)).at hlt
            subst hA
            have HBU := Lib.hid hbu
            obtain ⟨Au, cu, hu, -, -, -⟩ := hbu
            subst hu
            have g1 : (k : Int) < (lx.length : Int) := by omega
            have HGT := Lib.hid (show fi ≤ k → (recsOf ss)[k - firstS ss]? = some lx[k] from fun h => by
              rw [HRC.out, ← HFF.out, List.getElem?_drop, show fi + (k - fi) = k by omega, List.getElem?_eq_getElem hlt])
            generalize lx[k] = r at *
            go_wp2
            have hb0 := heap_alloc_new wr (.cells #[.pointer (some ⟨lb, 0, none⟩), .pointer (some ⟨mb, 0, none⟩)] 34)
            have hkz := hK.alloc (.cells #[.pointer (some ⟨lb, 0, none⟩), .pointer (some ⟨mb, 0, none⟩)] 34)
            have hkb := (Kept.refl wr).alloc (.cells #[.pointer (some ⟨lb, 0, none⟩), .pointer (some ⟨mb, 0, none⟩)] 34)
            have HB0 := Lib.hid hb0
            clear hb0
            generalize hzb : wr.heap.size = zb at *
            generalize wr.alloc (.cells #[.pointer (some ⟨lb, 0, none⟩), .pointer (some ⟨mb, 0, none⟩)] 34) = wz at *
            clear hzb
            have HLL := Lib.hid (show ∀ (j : Nat) W, j < 2 → Kept wz W → ∃ xb, W.cell? ⟨zb, j, none⟩ = some (.pointer (some ⟨xb, 0, none⟩)) ∧ ∃ G, Lgo W xb ss G from fun j W hj hW => by
              have hc := cell_at (hW.block' HB0.out) j
              match j, hj with
              | 0, _ => exact ⟨lb, by rw [hc]; rfl, Ga, HLA.out.kept (hkz.trans hW)⟩
              | 1, _ => exact ⟨mb, by rw [hc]; rfl, Gb, HLB.out.kept (hkz.trans hW)⟩)
            go_loopw [135] (fun v W => ∃ j : Nat, j ≤ 2 ∧ v = .int .i64 (j : Int) ∧ Kept wz W) (fun v _ => 2 - (intOf v).toNat)
            case atStart => exact ⟨0, by omega, rfl, Kept.refl wz⟩
            case round =>
              obtain ⟨j, hj, rfl, hJ⟩ := hrel
              have hKJ := hkz.trans hJ
              have hBJ := hkb.trans hJ
              by_cases hj2 : j < 2
              · have g2 : decide ((j : Int) < 2) = true := by simp; omega
                have g3 : decide (j < 2) = true := by simp; omega
                have g4 : (j : Int) < 2 := by omega
                obtain ⟨xb, hxc, G, hxl⟩ := HLL.out j _ hj2 hJ
                by_cases hfk : fi ≤ k
                · have HG := Lib.hid (get_lgo hxl k r (by rw [← HFF.out]; exact hfk) (HGT.out hfk))
                  have u1 : decide ((fi : Int) ≤ (k : Int)) = true := by simp; omega
                  have u2 : decide (fi ≤ k) = true := by simp; omega
                  have u3 : decide ((k : Int) < (fi : Int)) = false := by simp; omega
                  have u4 : decide (k < fi) = false := by simp; omega
                  clear hxl
                  go_wp2_with fail
                  refine HG.out.mono ?_
                  rintro e w25 ⟨v25, rfl, h25, k25⟩
                  obtain ⟨A25, c25, rfl⟩ := own_form h25
                  have HB25 := Lib.hid (Bts.of_own h25)
                  clear h25
                  go_wp2_with fail
                  refine (HFA.out w25 (hKJ.trans k25)).mono ?_
                  rintro e w26 ⟨rfl, k26⟩
                  have HSM := Lib.hid (same_any r r _ _ w26 ((HBU.out.kept hBJ).kept (k25.trans k26)) (HB25.out.kept k26))
                  rw [show (r == r) = true by simp] at HSM
                  go_wp2_with fail
                  refine HSM.out.mono ?_
                  rintro e w27 ⟨rfl, hw27⟩
                  subst hw27
                  go_wp2_with fail
                  refine (HFA.out w26 ((hKJ.trans k25).trans k26)).mono ?_
                  rintro e w28 ⟨rfl, k28⟩
                  have hJ28 := ((hJ.trans k25).trans k26).trans k28
                  go_wp2
                  go_roundw
                  case rel => exact ⟨j + 1, by omega, by go_num, hJ28⟩
                  case measure => simp [intOf]; omega
                · have HG := Lib.hid (getno_lgo hxl k (.inl (by rw [← HFF.out]; omega)))
                  have u1 : decide ((fi : Int) ≤ (k : Int)) = false := by simp; omega
                  have u2 : decide (fi ≤ k) = false := by simp; omega
                  have u3 : decide ((k : Int) < (fi : Int)) = true := by simp; omega
                  have u4 : decide (k < fi) = true := by simp; omega
                  clear hxl
                  go_wp2_with fail
                  refine HG.out.mono ?_
                  rintro e w25 ⟨rfl, k25⟩
                  go_wp2_with fail
                  refine (HFA.out w25 (hKJ.trans k25)).mono ?_
                  rintro e w26 ⟨rfl, k26⟩
                  go_wp2_with fail
                  refine (HFA.out w26 ((hKJ.trans k25).trans k26)).mono ?_
                  rintro e w28 ⟨rfl, k28⟩
                  have hJ28 := ((hJ.trans k25).trans k26).trans k28
                  go_wp2
                  go_roundw
                  case rel => exact ⟨j + 1, by omega, by go_num, hJ28⟩
                  case measure => simp [intOf]; omega
              · have g2 : decide ((j : Int) < 2) = false := by simp; omega
                have g3 : decide (j < 2) = false := by simp; omega
                go_wp2
                go_roundw
                case rel => exact ⟨k + 1, by omega, by go_num, hKJ⟩
                case measure => simp [intOf]; omega
          · obtain rfl : k = lx.length := by omega
            have hkr := hk13.trans hK
            go_wp2_with fail
            refine (HAW.out _ hkr).mono ?_
            rintro e w28 ⟨rfl, k28⟩
            have hk28 := hkr.trans k28
            go_wp2
            go_ret
            exact ⟨rfl, hk28⟩
end Go.Proofs.YtcdeagmoldbicaaGreatDoor
