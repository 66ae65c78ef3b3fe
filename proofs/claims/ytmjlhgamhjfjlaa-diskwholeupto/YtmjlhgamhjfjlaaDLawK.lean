/- The walk of DiskKeeps. -/
import Derived.Test.YtmjlhgamhjfjlaaDAwk
set_option linter.unusedSimpArgs false
set_option linter.unusedVariables false
namespace Go.Proofs.Ytmjlhgamhjfjlaa
open Go.RowKit
theorem take_both (s l : List UInt8) (m : Nat) : (s ++ l).take (s.length + m) = s ++ l.take m := List.take_length_add_append ..
theorem Ints.lit2 (w0 w w1 : World) (l : List Int) (t : TypeId) (hs : w.heap.size ≤ w1.heap.size) (hl : l.length ≤ maxLen) : ∀ W, Chg (mid w0 w) (w1.alloc (.cells (l.map (Value.int .i64)).toArray t)) W → Ints W (.slice (some ⟨w1.heap.size, 0, none⟩) l.length l.length) l := by
  intro W c
  refine ⟨_, l.length, rfl, Nat.le_refl _, hl, fun _ => ⟨_, 0, rfl, fun k x hx => ?_⟩⟩
  rw [cell_at (c.block' (heap_alloc_new w1 _) (fun x => by have := x.2; omega))]
  simp [hx]
set_option maxRecDepth 100000 in
set_option maxHeartbeats 4000000 in
theorem diskKeeps_walk (s l : List UInt8) (vs vl : Value) (cut : Int) (w : World) (hs : Bts w vs s) (hl : Bts w vl l) (hlen : s.length + l.length ≤ 1073741824) :
    Calls Try.prog 5 #[vs, vl, .int .i64 cut] w fun e w' => e = .returned (.bool true) ∧ Kept w w' := by
  have HS := Lib.hid hs
  have HL := Lib.hid hl
  obtain ⟨As, cs, rfl, hcs1, hcs2, -⟩ := hs
  obtain ⟨Al, cl, rfl, hcl1, hcl2, -⟩ := hl
  unfold maxLen at hcs2 hcl2
  have HN := Lib.hid (new_dk 1073741824 w w (Kept.refl w) (by omega))
  have hmx : ∃ m, m = min (max cut 0).toNat l.length := ⟨_, rfl⟩
  obtain ⟨m, hm⟩ := hmx
  have hml : m ≤ l.length := by omega
  have hkn : keptN (s ++ l, s.length) cut = s.length + m := by unfold keptN; rw [hm]; simp
  have hknx : ∃ kn, kn = s.length + m := ⟨_, rfl⟩
  obtain ⟨kn, hknm⟩ := hknx
  have t3 : (((kn : Int) - (s.length : Int)) != max 0 (min cut (l.length : Int))) = false := by
    have : ((kn : Int) - (s.length : Int)) = max 0 (min cut (l.length : Int)) := by omega
    simp [this]
  have t1 : decide ((kn : Int) - (s.length : Int) < 0) = false := by simp; omega
  have t2 : decide ((l.length : Int) < (kn : Int) - (s.length : Int)) = false := by simp; omega
  have hmt : ((kn : Int) - (s.length : Int)).toNat = m := by omega
  have g1 : (0 : Int) ≤ (kn : Int) - (s.length : Int) := by omega
  have g2 : (kn : Int) - (s.length : Int) ≤ (cl : Int) := by omega
  have g3 : (kn : Int) ≤ 1073741824 := by omega
  have HKN := Lib.hid hkn
  have HKM := Lib.hid hknm
  clear hm hkn hknm
  go_enter Try.func5, Try.ntmps5
  go_wp2_with fail
  refine HN.out.mono ?_
  rintro e w1 ⟨db, rfl, h1⟩
  have H1 := Lib.hid h1
  clear h1
  go_wp2_with fail
  refine (copy_any s _ w1 (HS.out.kept H1.out.2) (by omega)).mono ?_
  rintro e w2 ⟨v2, rfl, ho2, k2⟩
  have HO2 := Lib.hid (Bts.of_own ho2)
  clear ho2
  go_wp2_with fail
  refine (append_first [102] s v2 _ 1073741824 w w1 w2 H1.out k2 HO2.out (by decide) (by omega)).mono ?_
  rintro e w3 ⟨rfl, h3⟩
  have H3 := Lib.hid h3
  clear h3
  go_wp2_with fail
  refine (sync_one [102] _ _ _ _ 1073741824 w w3 H3.out (by decide)).mono ?_
  rintro e w4 ⟨rfl, h4⟩
  have H4 := Lib.hid h4
  clear h4
  go_wp2_with fail
  refine (copy_any l _ w4 (HL.out.kept H4.out.2) (by omega)).mono ?_
  rintro e w5 ⟨v5, rfl, ho5, k5⟩
  have HO5 := Lib.hid (Bts.of_own ho5)
  clear ho5
  go_wp2_with fail
  refine (append_next [102] s l _ v5 _ 1073741824 w w4 w5 H4.out k5 HO5.out (by decide) hlen).mono ?_
  rintro e w6 ⟨rfl, h6⟩
  have H6 := Lib.hid h6
  clear h6
  go_wp2_with fail
  refine (crash_first [102] _ _ cut _ _ 1073741824 w w6 H6.out).mono ?_
  rintro e w7 ⟨rfl, h7⟩
  rw [HKN.out, take_both] at h7
  have H7 := Lib.hid h7
  clear h7
  go_wp2_with fail
  refine (read_one [102] _ _ _ 1073741824 w w7 (by decide) H7.out).mono ?_
  rintro e w8 ⟨v8, rfl, h8, h8', k78⟩
  have hlk : (s ++ l.take m).length = kn := by rw [HKM.out]; simp; omega
  rw [hlk] at h8
  obtain ⟨A8, c8, rfl⟩ := own_form h8
  have H8 := Lib.hid h8
  have H8' := Lib.hid h8'
  have HLK := Lib.hid hlk
  clear h8 h8' hlk
  go_wp2_with fail
  refine (join_any [s, l.take m] _ _ (Parts.two (HS.out.kept H8'.out.2) ((HL.out.kept H8'.out.2).take m hml)) (by simp; omega)).mono ?_
  rintro e w9 ⟨v9, rfl, ho9, k9⟩
  rw [show [s, l.take m].flatten = s ++ l.take m by simp, HLK.out] at ho9
  obtain ⟨A9, c9, rfl⟩ := own_form ho9
  have HO9 := Lib.hid ho9
  have hk9 := ((Kept.refl w8).alloc (.cells #[.slice As s.length cs, .slice Al m cl] 32)).trans k9
  clear ho9
  go_wp2_with fail
  refine (same_any (s ++ l.take m) (s ++ l.take m) _ _ w9 ((Bts.of_own H8.out).kept hk9) (Bts.of_own HO9.out)).mono ?_
  rintro e w10 ⟨rfl, hw10⟩
  subst hw10
  rw [show ((s ++ l.take m) == (s ++ l.take m)) = true by simp]
  have H9' := Lib.hid (H8'.out.kept hk9)
  go_wp2_with fail
  refine (crash_dk [0, 0] _ _ 1073741824 _ w w7 _ H7.out ((k78.trans hk9).alloc _) (Ints.lit2 w w7 w9 [0, 0] _ (k78.trans hk9).size (by simp [maxLen]))).mono ?_
  rintro e w11 ⟨rfl, h11, hc11⟩
  rw [crashS_head] at h11
  have hfull : keptN (s ++ l.take m, s.length + m) 0 = (s ++ l.take m).length := by rw [HLK.out, HKM.out]; unfold keptN; simp
  rw [hfull, List.take_length] at h11
  have H11 := Lib.hid h11
  clear h11 hfull
  have HB11 := Lib.hid (Bts.of_own (own_chg (own_kept H8.out (hk9.alloc _)) hc11 (fun g hg x => by have := (H8.out.lt g hg).1; have := x.2; omega)))
  go_wp2_with fail
  refine (read_one [102] _ _ _ 1073741824 w w11 (by decide) H11.out).mono ?_
  rintro e w12 ⟨v12, rfl, h12, h12', k12⟩
  rw [HLK.out] at h12
  obtain ⟨A12, c12, rfl⟩ := own_form h12
  have H12 := Lib.hid h12
  have H12' := Lib.hid h12'
  clear h12 h12'
  go_wp2_with fail
  refine (same_any (s ++ l.take m) (s ++ l.take m) _ _ w12 (HB11.out.kept k12) (Bts.of_own H12.out)).mono ?_
  rintro e w13 ⟨rfl, hw13⟩
  subst hw13
  rw [show ((s ++ l.take m) == (s ++ l.take m)) = true by simp]
  go_wp2_with fail
  refine (awake_any w12).mono ?_
  rintro e w14 ⟨rfl, k14⟩
  go_wp2
  go_ret
  exact ⟨rfl, H12'.out.2.trans k14⟩
end Go.Proofs.Ytmjlhgamhjfjlaa
