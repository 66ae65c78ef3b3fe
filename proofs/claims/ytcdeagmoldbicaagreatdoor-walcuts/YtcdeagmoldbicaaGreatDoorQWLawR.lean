/- The walk of WalRoom. -/
import Derived.Test.YtcdeagmoldbicaaGreatDoorGWCpd2
set_option linter.unusedSimpArgs false
set_option linter.unusedVariables false
namespace Go.Proofs.YtcdeagmoldbicaaGreatDoor
open Go.RowKit
theorem crash_fo (cuts : List Int) (ss : List Sg) : crashS cuts (dsk (ss.map fo)) = dsk (ss.map fo) := by
  rw [crash_dsk]
  have := crashN_safe cuts (ss.map fo) [] (fun p hp => by
    obtain ⟨s, -, rfl⟩ := List.mem_map.1 hp
    rfl)
  rw [List.append_nil] at this
  rw [this]
  simp [crashN]
theorem take_all {ss : List Sg} {safe : Nat} {ns : Ns} (h : Inv ss safe ns) : takeF (ss.map fo) [] = ss := by
  have := take_fo ss [] (by rw [List.nil_append]; exact h.linked) h.good
  simpa using this
theorem whole_fo {ss : List Sg} (h : ∀ s ∈ ss, goodS s) : ∀ p ∈ ss.map fo, ∀ s, parseS p.1 p.2.1 = some s → s.siz = p.2.1.length := by
  intro p hp s hs
  obtain ⟨x, hx, rfl⟩ := List.mem_map.1 hp
  rw [parse_fo (h x hx)] at hs
  obtain rfl : x = s := by simpa using hs
  rw [(h x hx).2.2]
  rfl
theorem used_dk (d : Value) (cap : Nat) (fs : Fls) (w0 w : World) (h : DK w0 w d cap fs) : Calls Tryz.prog 32 #[d] w fun e w' => e = .returned (.int .i64 (used fs : Int)) ∧ w = w' := used_any cap fs _ d w h.1
theorem Inv.small {ss : List Sg} {safe : Nat} {ns : Ns} (h : Inv ss safe ns) : (ss.map fo).length ≤ 1000000 := by
  have h1 := h.len
  rw [List.length_map]
  rcases List.eq_nil_or_concat ss with rfl | ⟨pa, q, rfl⟩
  · simp
  · rw [List.concat_eq_append] at *
    have h2 := h1.2 q (by simp)
    rw [lastNum_snoc] at h1
    omega
set_option maxRecDepth 100000 in
set_option maxHeartbeats 8000000 in
theorem walRoom_walk (cap lim : Int) (ls : List (List UInt8)) (v : Value) (w : World) (hv : Parts w v ls) (hT : Tb w) :
    Calls Tryz.prog 7 #[.int .i64 cap, .int .i64 lim, v] w fun e w' => e = .returned (.bool true) ∧ Kept w w' := by
  have HT := Lib.hid hT
  have HV := Lib.hid hv
  obtain ⟨A, c, hvv, hc1, hc2, -⟩ := hv
  subst hvv
  unfold maxLen at hc2
  have HAW := Lib.hid (show ∀ W, Kept w W → _ from fun W hW => awake_any W (hT.kept hW))
  clear hT
  by_cases hcap : cap < 0 ∨ 1073741824 < cap
  · have HN := Lib.hid (new_bad cap w hcap)
    clear hcap
    go_enter Tryz.func7, Tryz.ntmps7
    go_wp2_with fail
    refine HN.out.mono ?_
    rintro e w1 ⟨rfl, hw1⟩
    subst hw1
    go_wp2_with fail
    refine (HAW.out w (Kept.refl w)).mono ?_
    rintro e w2 ⟨rfl, k2⟩
    go_wp2
    go_ret
    exact ⟨rfl, k2⟩
  · obtain ⟨cp, rfl⟩ := Int.eq_ofNat_of_zero_le (show 0 ≤ cap by omega)
    have HN := Lib.hid (new_dk cp w w (Kept.refl w) (by omega))
    have hcp : cp ≤ 1073741824 := by omega
    clear hcap
    by_cases hlen : 1000 < ls.length
    · have t1 : decide ((1000 : Int) < (ls.length : Int)) = true := by simp; omega
      go_enter Tryz.func7, Tryz.ntmps7
      go_wp2_with fail
      refine HN.out.mono ?_
      rintro e w1 ⟨db, rfl, h1⟩
      have hk1 := h1.2
      clear h1
      go_wp2_with fail
      refine (HAW.out w1 hk1).mono ?_
      rintro e w2 ⟨rfl, k2⟩
      have hk2 := hk1.trans k2
      go_wp2
      go_ret
      exact ⟨rfl, hk2⟩
    · have t1 : decide ((1000 : Int) < (ls.length : Int)) = false := by simp; omega
      by_cases hlim : lim < 16 ∨ 1048576 < lim
      · have HOB := Lib.hid (show ∀ d W, DK w W d cp (dsk []) → _ from fun d W h => openbad_dk [] d lim cp w W h hlim)
        have t2 : decide (lim < 16) = true ∨ (decide (lim < 16) = false ∧ decide ((1048576 : Int) < lim) = true) := by
          rcases hlim with h | h
          · exact .inl (by simpa using h)
          · by_cases h2 : lim < 16
            · exact .inl (by simpa using h2)
            · exact .inr ⟨by simpa using h2, by simpa using h⟩
        clear hlim
        rcases t2 with t2 | ⟨t2, t3⟩
        all_goals (
          go_enter Tryz.func7, Tryz.ntmps7
          go_wp2_with fail
          refine HN.out.mono ?_
          rintro e w1 ⟨db, rfl, h1⟩
          have H1 := Lib.hid (show DK w w1 (.pointer (some ⟨db, 0, none⟩)) cp (dsk []) from h1)
          have hk1 := h1.2
          clear h1
          go_wp2_with fail
          refine (HOB.out _ w1 H1.out).mono ?_
          rintro e w2 ⟨rfl, k2⟩
          have hk2 := hk1.trans k2
          go_wp2_with fail
          refine (HAW.out w2 hk2).mono ?_
          rintro e w3 ⟨rfl, k3⟩
          have hk3 := hk2.trans k3
          go_wp2
          go_ret
          exact ⟨rfl, hk3⟩)
      · obtain ⟨lm, rfl⟩ := Int.eq_ofNat_of_zero_le (show 0 ≤ lim by omega)
        have HOP := Lib.hid (show ∀ (ns : Ns) d W, DK w W d cp (dsk ns) → NsOk ns → ns.length ≤ 1000000 → (∀ p ∈ ns, ∀ s, parseS p.1 p.2.1 = some s → s.siz = p.2.1.length) → _ from fun ns d W h h1 h2 h3 => open_st ns d lm cp w W h HT.out (by omega) (by omega) h1 h2 (.inr h3))
        have hln : ls.length ≤ 1000 := by omega
        clear hlim hlen
        go_enter Tryz.func7, Tryz.ntmps7
        go_wp2_with fail
        refine HN.out.mono ?_
        rintro e w1 ⟨db, rfl, h1⟩
        have H1 := Lib.hid (show DK w w1 (.pointer (some ⟨db, 0, none⟩)) cp (dsk []) from h1)
        have hk1 := h1.2
        clear h1
        go_wp2_with fail
        refine (HOP.out [] _ w1 H1.out ⟨List.Pairwise.nil, fun p hp => by simp at hp⟩ (by simp) (fun p hp => by simp at hp)).mono ?_
        rintro e w2 ⟨lb, rfl, h2, -⟩
        have H2 := Lib.hid (show LSt (mid w w2) w w2 lb (.pointer (some ⟨db, 0, none⟩)) cp lm 0 [] [] from h2)
        have hk2 := h2.inv.2.1
        clear h2
        go_wp2
        go_loop [60] (fun i => ∃ k : Nat, k ≤ ls.length ∧ i = .int .i64 (k : Int) ∧ ∀ j (hj : j < ls.length), j < k → ls[j].length ≤ 65536) (fun i => ls.length - (intOf i).toNat)
        case atStart => exact ⟨0, Nat.zero_le _, rfl, fun j _ h => absurd h (by omega)⟩
        case round =>
          obtain ⟨k, hk, rfl, hall⟩ := hrel
          have HA := Lib.hid hall
          clear hall
          by_cases hlt : k < ls.length
          · obtain ⟨b, o, u, hA, hcell, hbu⟩ := (HV.out.kept hk2).at hlt
            subst hA
            obtain ⟨Au, cu, hu, -, -, -⟩ := hbu
            subst hu
            have g1 : (k : Int) < (ls.length : Int) := by omega
            by_cases hlong : 65536 < ls[k].length
            · have t3 : decide ((65536 : Int) < (ls[k].length : Int)) = true := by simp; omega
              clear hlong
              generalize ls[k].length = rl at *
              go_wp2_with fail
              refine (HAW.out w2 hk2).mono ?_
              rintro e w3 ⟨rfl, k3⟩
              have hk3 := hk2.trans k3
              go_wp2
              go_ret
              exact ⟨rfl, hk3⟩
            · have t3 : decide ((65536 : Int) < (ls[k].length : Int)) = false := by simp; omega
              have HRE := Lib.hid (show ∀ j (hj : j < ls.length), j < k + 1 → ls[j].length ≤ 65536 from fun j hj hjk => by
                by_cases e : j = k
                · subst e; omega
                · exact HA.out j hj (by omega))
              clear hlong
              generalize hrl : ls[k].length = rl at *
              clear hrl
              go_wp2
              go_round
              case rel => exact ⟨k + 1, by omega, by go_num, HRE.out⟩
              case measure => simp [intOf]; omega
          · obtain rfl : k = ls.length := by omega
            have hsh : short ls := fun r hr => by
              obtain ⟨j, hj, rfl⟩ := List.getElem_of_mem hr
              exact HA.out j hj hj
            have HSH := Lib.hid hsh
            clear hsh HA
            go_wp2_with fail
            refine (copied_any ls _ w2 (HV.out.kept hk2) (by omega) (fun l hl => by have := HSH.out l hl; omega)).mono ?_
            rintro e w3 ⟨v3, rfl, h3, k3⟩
            obtain ⟨A3, c3, hv3, -, -⟩ := h3.form
            subst hv3
            have HPK := Lib.hid (PartsK.of_recs (H := mid w w2) h3 (fun g hg x => by
              rcases hg with y | y
              · exact y
              · have := x.2
                omega))
            clear h3
            go_wp2_with fail
            refine (append_st (mid w w2) w w3 lb _ _ cp lm 0 [] [] ls (H2.out.kept k3) HT.out HPK.out (by simp [lastNum]; omega) (by simp [nextS]; omega) (by simp [recsOf]; omega)).mono ?_
            rintro e w4 (⟨hns, -⟩ | ⟨-, x, j, ss', safe', ns', rfl, hwr, hst, hC⟩)
            · exact absurd HSH.out hns
            have hinv := hst.inv
            have hrec : recsOf ss' = ls.take j := by have := hwr.recs; simpa [recsOf] using this
            have hfi : firstS ss' = 0 := hwr.first
            have hnx : nextS ss' = j := by
              rw [hinv.1.linked.next, hfi, hrec, List.length_take]
              have := hwr.le
              omega
            have HST := Lib.hid hst.now
            have HDK := Lib.hid hst.dk
            have HREC := Lib.hid hrec
            have HFI := Lib.hid hfi
            have HNX := Lib.hid (show ∀ W, Kept w4 W → _ from fun W hW => next_st (hst.kept hW))
            rw [hnx] at HNX
            have HNE := Lib.hid hnx
            have hjl := hwr.le
            have hdone := hwr.done
            have HINV := Lib.hid hinv.1
            have hk4 := hinv.2.1
            have hus := hinv.2.2.1
            have t5 : decide ((cp : Int) < (used (dsk ns') : Int)) = false := by simp; omega
            have t6 : decide (cp < used (dsk ns')) = false := by simp; omega
            have hx : (x = 0 ∧ j = ls.length) ∨ (x = 32 ∧ j < ls.length) := by
              rcases hdone with h | h
              · exact .inl h
              · exact .inr ⟨h.1, h.2.1⟩
            clear hst hwr hC hinv hrec hfi hnx hdone
            rcases hx with ⟨rfl, rfl⟩ | ⟨rfl, hjlt⟩
            · clear hjl
              go_wp2_with fail
              refine (HNX.out w4 (Kept.refl w4)).mono ?_
              rintro e w5 ⟨rfl, k5⟩
              go_wp2_with fail
              refine (used_dk _ cp _ w w5 (HDK.out.kept k5)).mono ?_
              rintro e w5' ⟨rfl, hw5⟩
              subst hw5
              go_wp2_with fail
              refine (sync_st (HST.out.kept k5) HT.out).mono ?_
              rintro e w6 ⟨rfl, h6, -⟩
              have H6 := Lib.hid h6.now
              have HD6 := Lib.hid h6.dk
              have hn6 := next_st h6
              rw [HNE.out] at hn6
              have HN6 := Lib.hid hn6
              clear h6 hn6
              go_wp2_with fail
              refine HN6.out.mono ?_
              rintro e w7 ⟨rfl, k7⟩
              go_wp2_with fail
              refine (crash_dk [] _ _ cp _ w w7 w7 (HD6.out.kept k7) (Kept.refl w7) (fun W _ => ints_none W)).mono ?_
              rintro e w8 ⟨rfl, h8, -⟩
              rw [crash_fo] at h8
              have H8 := Lib.hid h8
              have hop := HOP.out (ss'.map fo) _ w8 h8 HINV.out.synced.ok HINV.out.small (whole_fo HINV.out.good)
              rw [take_all HINV.out] at hop
              have HOP2 := Lib.hid hop
              clear h8 hop
              go_wp2_with fail
              refine HOP2.out.mono ?_
              rintro e w9 ⟨mb, rfl, h9, -⟩
              have hn9 := next_st h9
              rw [HNE.out] at hn9
              have HN9 := Lib.hid hn9
              have H9 := Lib.hid h9
              have hk9 := h9.inv.2.1
              clear h9 hn9
              go_wp2_with fail
              refine HN9.out.mono ?_
              rintro e w10 ⟨rfl, k10⟩
              have hk10 := hk9.trans k10
              go_wp2
              go_loopw [123] (fun i W => ∃ k : Nat, k ≤ ls.length ∧ i = .int .i64 (k : Int) ∧ Kept w10 W) (fun i _ => ls.length - (intOf i).toNat)
              case atStart => exact ⟨0, Nat.zero_le _, rfl, Kept.refl w10⟩
              case round =>
                obtain ⟨k, hk, rfl, hK⟩ := hrel
                by_cases hlt : k < ls.length
                · have hkl : k < ls.length := by omega
                  have g1 : (k : Int) < ((ls.length : Nat) : Int) := by omega
                  have g2 : (k : Int) < (ls.length : Int) := by omega
                  have hrk : (recsOf ss')[k - firstS ss']? = some ls[k] := by
                    rw [HFI.out, HREC.out, Nat.sub_zero, List.getElem?_take_of_lt hlt, List.getElem?_eq_getElem hkl]
                  have HGE := Lib.hid (get_st ((H9.out.kept k10).kept hK) k ls[k] (by rw [HFI.out]; exact Nat.zero_le _) hrk)
                  obtain ⟨b, o, u, hA, hcell, hbu⟩ := (HV.out.kept (hk10.trans hK)).at hkl
                  subst hA
                  have HBU := Lib.hid hbu
                  obtain ⟨Au, cu, hu, -, -, -⟩ := hbu
                  subst hu
                  clear hrk
                  generalize hrr : ls[k] = r at *
                  clear hrr
                  go_wp2_with fail
                  refine HGE.out.mono ?_
                  rintro e w11 ⟨v11, rfl, h11, k11⟩
                  obtain ⟨A11, c11, rfl⟩ := own_form h11
                  have hcell' := k11.cell hcell
                  have HSM := Lib.hid (same_any r r _ _ w11 (Bts.of_own h11) (HBU.out.kept k11))
                  rw [show (r == r) = true by simp] at HSM
                  clear h11
                  go_wp2_with fail
                  refine HSM.out.mono ?_
                  rintro e w12 ⟨rfl, hw12⟩
                  subst hw12
                  have hK11 := hK.trans k11
                  go_wp2
                  go_roundw
                  case rel => exact ⟨k + 1, by omega, by go_num, hK11⟩
                  case measure => simp [intOf]; omega
                · obtain rfl : k = ls.length := by omega
                  go_wp2_with fail
                  refine (HAW.out wr (hk10.trans hK)).mono ?_
                  rintro e w13 ⟨rfl, k13⟩
                  go_wp2
                  go_ret
                  exact ⟨rfl, (hk10.trans hK).trans k13⟩
            · have t7 : ((j : Int) == (ls.length : Int)) = false := by simp; omega
              have t8 : (j == ls.length) = false := by simp; omega
              go_wp2_with fail
              refine (HNX.out w4 (Kept.refl w4)).mono ?_
              rintro e w5 ⟨rfl, k5⟩
              go_wp2_with fail
              refine (used_dk _ cp _ w w5 (HDK.out.kept k5)).mono ?_
              rintro e w5' ⟨rfl, hw5⟩
              subst hw5
              go_wp2_with fail
              refine (sync_st (HST.out.kept k5) HT.out).mono ?_
              rintro e w6 ⟨rfl, h6, -⟩
              have H6 := Lib.hid h6.now
              have HD6 := Lib.hid h6.dk
              have hn6 := next_st h6
              rw [HNE.out] at hn6
              have HN6 := Lib.hid hn6
              clear h6 hn6
              go_wp2_with fail
              refine HN6.out.mono ?_
              rintro e w7 ⟨rfl, k7⟩
              go_wp2_with fail
              refine (crash_dk [] _ _ cp _ w w7 w7 (HD6.out.kept k7) (Kept.refl w7) (fun W _ => ints_none W)).mono ?_
              rintro e w8 ⟨rfl, h8, -⟩
              rw [crash_fo] at h8
              have H8 := Lib.hid h8
              have hop := HOP.out (ss'.map fo) _ w8 h8 HINV.out.synced.ok HINV.out.small (whole_fo HINV.out.good)
              rw [take_all HINV.out] at hop
              have HOP2 := Lib.hid hop
              clear h8 hop
              go_wp2_with fail
              refine HOP2.out.mono ?_
              rintro e w9 ⟨mb, rfl, h9, -⟩
              have hn9 := next_st h9
              rw [HNE.out] at hn9
              have HN9 := Lib.hid hn9
              have H9 := Lib.hid h9
              have hk9 := h9.inv.2.1
              clear h9 hn9
              go_wp2_with fail
              refine HN9.out.mono ?_
              rintro e w10 ⟨rfl, k10⟩
              have hk10 := hk9.trans k10
              go_wp2
              go_loopw [123] (fun i W => ∃ k : Nat, k ≤ j ∧ i = .int .i64 (k : Int) ∧ Kept w10 W) (fun i _ => j - (intOf i).toNat)
              case atStart => exact ⟨0, Nat.zero_le _, rfl, Kept.refl w10⟩
              case round =>
                obtain ⟨k, hk, rfl, hK⟩ := hrel
                by_cases hlt : k < j
                · have hkl : k < ls.length := by omega
                  have g1 : (k : Int) < ((j : Nat) : Int) := by omega
                  have g2 : (k : Int) < (ls.length : Int) := by omega
                  have hrk : (recsOf ss')[k - firstS ss']? = some ls[k] := by
                    rw [HFI.out, HREC.out, Nat.sub_zero, List.getElem?_take_of_lt hlt, List.getElem?_eq_getElem hkl]
                  have HGE := Lib.hid (get_st ((H9.out.kept k10).kept hK) k ls[k] (by rw [HFI.out]; exact Nat.zero_le _) hrk)
                  obtain ⟨b, o, u, hA, hcell, hbu⟩ := (HV.out.kept (hk10.trans hK)).at hkl
                  subst hA
                  have HBU := Lib.hid hbu
                  obtain ⟨Au, cu, hu, -, -, -⟩ := hbu
                  subst hu
                  clear hrk
                  generalize hrr : ls[k] = r at *
                  clear hrr
                  go_wp2_with fail
                  refine HGE.out.mono ?_
                  rintro e w11 ⟨v11, rfl, h11, k11⟩
                  obtain ⟨A11, c11, rfl⟩ := own_form h11
                  have hcell' := k11.cell hcell
                  have HSM := Lib.hid (same_any r r _ _ w11 (Bts.of_own h11) (HBU.out.kept k11))
                  rw [show (r == r) = true by simp] at HSM
                  clear h11
                  go_wp2_with fail
                  refine HSM.out.mono ?_
                  rintro e w12 ⟨rfl, hw12⟩
                  subst hw12
                  have hK11 := hK.trans k11
                  go_wp2
                  go_roundw
                  case rel => exact ⟨k + 1, by omega, by go_num, hK11⟩
                  case measure => simp [intOf]; omega
                · obtain rfl : k = j := by omega
                  go_wp2_with fail
                  refine (HAW.out wr (hk10.trans hK)).mono ?_
                  rintro e w13 ⟨rfl, k13⟩
                  go_wp2
                  go_ret
                  exact ⟨rfl, (hk10.trans hK).trans k13⟩
end Go.Proofs.YtcdeagmoldbicaaGreatDoor
