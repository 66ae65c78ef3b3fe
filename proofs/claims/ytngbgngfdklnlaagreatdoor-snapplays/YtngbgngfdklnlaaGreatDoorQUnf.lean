/- The walk of the program's Unframe. -/
import Derived.Test.YtngbgngfdklnlaaGreatDoorGFrSpec7
import Derived.Test.YtngbgngfdklnlaaGreatDoorQFrm
import Derived.Test.YtngbgngfdklnlaaGreatDoorQNum
import Derived.Deep.RegionWith
namespace Go.Proofs.YtngbgngfdklnlaaGreatDoor
open Go.RowKit
/-- What Unframe has told: the payload lies in a new row. -/
def UnPost (w : World) (r : List UInt8 × Int × Int) (e : Ending) (w' : World) : Prop :=
  ∃ v', e = .returned (.tuple #[v', .int .i64 r.2.1, .int .i64 r.2.2]) ∧ w'.ownsRow w.heap.size 5 1 v' r.1.length (Lib.byteCells r.1) ∧ Kept w w'
theorem UnPost.good {w w' : World} {r : List UInt8 × Int × Int} {l : List UInt8} {n m : Int} {v : Value} (hr : r = (l, n, 0)) (hn : n = m) (ho : w'.ownsRow w.heap.size 5 1 v l.length (Lib.byteCells l)) (hk : Kept w w') : UnPost w r (.returned (.tuple #[v, .int .i64 m, .int .i64 0])) w' := by
  subst hr hn
  exact ⟨_, rfl, ho, hk⟩
theorem UnPost.fail {w w' : World} {r : List UInt8 × Int × Int} {k : Int} (hr : r = ([], 0, k)) (hk : Kept w w') : UnPost w r (.returned (.tuple #[.slice none 0 0, .int .i64 0, .int .i64 k])) w' := by
  subst hr
  exact ⟨_, rfl, World.ownsRow_nil _ _ _ _, hk⟩

set_option maxRecDepth 100000 in
set_option maxHeartbeats 400000 in
theorem unframe_place (l : List UInt8) (a : Int) (v : Value) (w : World) (hv : Bts w v l) (h : a < 0 ∨ (l.length : Int) < a) :
    Calls Tryz.prog 123 #[v, .int .i64 a] w (UnPost w (unAt l a)) := by
  have HU := Lib.hid (unAt_bad h)
  obtain ⟨A, c, rfl, hc1, hc2, hcs⟩ := hv
  unfold maxLen at hc2
  clear hcs
  rcases h with h | h
  · go_enter Tryz.func123, Tryz.ntmps123
    go_wp2
    go_ret3
    exact UnPost.fail HU.out (Kept.refl _)
  · have h0 : ¬ a < 0 := by omega
    go_enter Tryz.func123, Tryz.ntmps123
    go_wp2
    go_ret3
    exact UnPost.fail HU.out (Kept.refl _)
set_option maxRecDepth 100000 in
set_option maxHeartbeats 400000 in
theorem unframe_short (l : List UInt8) (a : Nat) (v : Value) (w : World) (hv : Bts w v l) (h : a ≤ l.length) (h8 : l.length < a + 8) :
    Calls Tryz.prog 123 #[v, .int .i64 (a : Int)] w (UnPost w (unAt l a)) := by
  have HU := Lib.hid ((unAt_good h).trans (unOf_short (by simp; omega)))
  obtain ⟨A, c, rfl, hc1, hc2, hcs⟩ := hv
  unfold maxLen at hc2
  clear hcs
  have h0 : decide ((a : Int) < 0) = false := by simp
  have h1 : decide (l.length < a) = false := by simp; omega
  cases A with
  | none =>
    go_enter Tryz.func123, Tryz.ntmps123
    go_wp2
    go_ret3
    exact UnPost.fail HU.out (Kept.refl _)
  | some ad =>
    by_cases hca : c = a
    · subst hca
      go_enter Tryz.func123, Tryz.ntmps123
      go_wp2
      go_ret3
      exact UnPost.fail HU.out (Kept.refl _)
    · go_enter Tryz.func123, Tryz.ntmps123
      go_wp2
      go_ret3
      exact UnPost.fail HU.out (Kept.refl _)
set_option maxRecDepth 100000 in
set_option maxHeartbeats 6000000 in
theorem unframe_there (l : List UInt8) (a : Nat) (v : Value) (w : World) (hv : Bts w v l) (h8 : a + 8 ≤ l.length) (hlim : l.length ≤ 140737488355328) :
    Calls Tryz.prog 123 #[v, .int .i64 (a : Int)] w (UnPost w (unAt l a)) := by
  obtain ⟨A, c, hv', hc1, hc2, -⟩ := id hv
  subst hv'
  unfold maxLen at hc2
  obtain ⟨b, o, rfl⟩ := hv.addr (by omega)
  have hu := unAt_good (l := l) (a := a) (by omega)
  have hs := hv.cut a (l.length - a) (by omega)
  rw [List.take_of_length_le (by simp)] at hs
  have hsl : (l.drop a).length = l.length - a := List.length_drop
  have HSL := Lib.hid hsl
  have HU := Lib.hid hu
  have HS := Lib.hid hs
  clear hu hs hsl
  have h0 : decide ((a : Int) < 0) = false := by simp
  have h1 : decide (l.length < a) = false := by simp; omega
  have hca : ¬ c = a := by omega
  go_enter Tryz.func123, Tryz.ntmps123
  go_wp2_with fail
  refine (fieldValue_any (l.drop a) _ _ HS.out (by rw [HSL.out]; omega)).mono ?_
  rintro e w1 ⟨rfl, q, rfl⟩
  have hvl := val4_lt (l.drop a)
  by_cases hbig : 65536 < val4 (l.drop a)
  · have hfin := HU.out.trans (unOf_long (by rw [HSL.out]; omega) hbig)
    have HFIN := Lib.hid hfin
    clear hfin
    generalize val4 (l.drop a) = n at *
    go_wp2
    go_ret3
    exact UnPost.fail HFIN.out ((Kept.refl w).drewN q)
  · by_cases hpart : l.length - a < 8 + val4 (l.drop a)
    · have hfin := HU.out.trans (unOf_part (by rw [HSL.out]; omega) hbig (by rw [HSL.out]; exact hpart))
      have HFIN := Lib.hid hfin
      clear hfin
      generalize val4 (l.drop a) = n at *
      go_wp2
      go_ret3
      exact UnPost.fail HFIN.out ((Kept.refl w).drewN q)
    · have c1 : ¬ crc ((l.drop a).take 4 ++ ((l.drop a).drop 8).take (val4 (l.drop a))) = val4 ((l.drop a).drop 4) → unAt l a = ([], 0, 15) := fun e => HU.out.trans (unOf_sum (by rw [HSL.out]; omega) hbig (by rw [HSL.out]; exact hpart) e)
      have c2 : crc ((l.drop a).take 4 ++ ((l.drop a).drop 8).take (val4 (l.drop a))) = val4 ((l.drop a).drop 4) → unAt l a = (((l.drop a).drop 8).take (val4 (l.drop a)), (a : Int) + 8 + (val4 (l.drop a) : Nat), 0) := fun e => HU.out.trans (unOf_ok (by rw [HSL.out]; omega) hbig (by rw [HSL.out]; exact hpart) e)
      have hs0 : Bts w (.slice (some ⟨b, o + a, none⟩) (l.drop a).length (c - a)) (l.drop a) := by rw [HSL.out]; exact HS.out
      have s4 := hs0.cut 0 4 (by rw [HSL.out]; omega)
      rw [List.drop_zero, Nat.add_zero, Nat.sub_zero] at s4
      have sb := hs0.cut 8 (val4 (l.drop a)) (by rw [HSL.out]; omega)
      have s48 := hs0.cut 4 (l.length - a - 4) (by rw [HSL.out]; omega)
      rw [List.take_of_length_le (by rw [List.length_drop, HSL.out]; omega)] at s48
      have hl4 : ((l.drop a).drop 4).length = l.length - a - 4 := by rw [List.length_drop, HSL.out]
      have HL4 := Lib.hid hl4
      have C1 := Lib.hid c1
      have C2 := Lib.hid c2
      have S4 := Lib.hid s4
      have SB := Lib.hid sb
      have S48 := Lib.hid s48
      clear c1 c2 s4 sb s48 hs0 hl4
      generalize val4 (l.drop a) = n at *
      generalize (l.drop a).take 4 = h4 at *
      have hbl0 : (((l.drop a).drop 8).take n).length = n := by rw [List.length_take, List.length_drop, HSL.out]; omega
      have BL := Lib.hid hbl0
      clear hbl0
      generalize ((l.drop a).drop 8).take n = body at *
      generalize (l.drop a).drop 4 = s4 at *
      have hn4 : ¬ c - a = 4 := by omega
      have hso : ∀ W v, Parts W v [h4, body] → Calls Tryz.prog 112 #[v] W fun e w' => e = .returned (.int .i64 (crc (h4 ++ body) : Nat)) ∧ W = w' := fun W v h => by
        have := sumOf_any [h4, body] v W h
        rwa [show [h4, body].flatten = h4 ++ body by simp] at this
      have hfv : ∀ W v, Bts W v s4 → Calls Tryz.prog 153 #[v] W fun e w' => e = .returned (.int .i64 (val4 s4 : Nat)) ∧ ∃ q, w' = W.drewN q := fun W v h => fieldValue_any s4 v W h (by rw [HL4.out]; omega)
      have hcl := crc_le (h4 ++ body)
      have hvl4 := val4_lt s4
      have hbl : body.length ≤ 140737488355328 := by have := BL.out; omega
      generalize hcr : crc (h4 ++ body) = cr at *
      generalize hvs : val4 s4 = vs at *
      have SO := Lib.hid hso
      have FV := Lib.hid hfv
      clear hcr hvs hso hfv
      by_cases hc8 : c = a + 8
      · obtain rfl : c = a + 8 := hc8
        obtain rfl : n = 0 := by omega
        have hb0 : body = [] := List.eq_nil_of_length_eq_zero BL.out
        clear SB
        have SB : Hid (Bts w (.slice (some ⟨b, o + a, none⟩) 0 0) body) := by rw [hb0]; exact Lib.hid (Bts.empty w (some ⟨b, o + a, none⟩) 0 (by decide))
        clear hb0
        rw [show a + 8 - a = 8 by omega] at *
        by_cases hcv : cr = vs
        · have hfin := C2.out hcv
          have HFIN := Lib.hid hfin
          clear hfin
          have t1 : ((cr : Int) != (vs : Int)) = false := by rw [hcv]; simp
          have t2 : (cr != vs) = false := by rw [hcv]; simp
          clear hcv
          go_wp2_with fail
          go_region_with (first
            | (go_at_call 112; refine (SO.out _ _ (Parts.two (S4.out.kept ?_) (SB.out.kept ?_))).mono ?_; exact ((Kept.refl w).drewN q).drew; exact ((Kept.refl w).drewN q).drew; rintro e w' ⟨rfl, rfl⟩)
            | (go_at_call 153; refine (FV.out _ _ (S48.out.kept ?_)).mono ?_; exact (((Kept.refl w).drewN q).drew.alloc _); rintro e w' ⟨rfl, q2, rfl⟩))
          all_goals (
            go_wp2_with fail
            refine (clone_any body _ _ (SB.out.kept ((((Kept.refl w).drewN q).drew.alloc _).drewN q2)) hbl).mono ?_
            rintro e w3 ⟨v3, rfl, ho3, hk3⟩
            have hK := ((((Kept.refl w).drewN q).drew.alloc _).drewN q2).trans hk3
            have HO3 := Lib.hid ho3
            clear ho3 hk3
            go_wp2
            go_ret3
            exact UnPost.good HFIN.out (by first | rfl | omega) (own_base' HO3.out (by simp)) hK)
        · have hfin := C1.out hcv
          have HFIN := Lib.hid hfin
          clear hfin
          have t1 : ((cr : Int) != (vs : Int)) = true := by rw [bne_iff_ne]; omega
          have t2 : (cr != vs) = true := by rw [bne_iff_ne]; exact hcv
          clear hcv
          go_wp2_with fail
          go_region_with (first
            | (go_at_call 112; refine (SO.out _ _ (Parts.two (S4.out.kept ?_) (SB.out.kept ?_))).mono ?_; exact ((Kept.refl w).drewN q).drew; exact ((Kept.refl w).drewN q).drew; rintro e w' ⟨rfl, rfl⟩)
            | (go_at_call 153; refine (FV.out _ _ (S48.out.kept ?_)).mono ?_; exact (((Kept.refl w).drewN q).drew.alloc _); rintro e w' ⟨rfl, q2, rfl⟩))
          all_goals (
            go_wp2
            go_ret3
            exact UnPost.fail HFIN.out ((((Kept.refl w).drewN q).drew.alloc _).drewN q2))
      · have hc8' : ¬ c - a = 8 := by omega
        by_cases hcv : cr = vs
        · have hfin := C2.out hcv
          have HFIN := Lib.hid hfin
          clear hfin
          have t1 : ((cr : Int) != (vs : Int)) = false := by rw [hcv]; simp
          have t2 : (cr != vs) = false := by rw [hcv]; simp
          clear hcv
          go_wp2_with fail
          go_region_with (first
            | (go_at_call 112; refine (SO.out _ _ (Parts.two (S4.out.kept ?_) (SB.out.kept ?_))).mono ?_; exact ((Kept.refl w).drewN q).drew; exact ((Kept.refl w).drewN q).drew; rintro e w' ⟨rfl, rfl⟩)
            | (go_at_call 153; refine (FV.out _ _ (S48.out.kept ?_)).mono ?_; exact (((Kept.refl w).drewN q).drew.alloc _); rintro e w' ⟨rfl, q2, rfl⟩))
          all_goals (
            go_wp2_with fail
            refine (clone_any body _ _ (SB.out.kept ((((Kept.refl w).drewN q).drew.alloc _).drewN q2)) hbl).mono ?_
            rintro e w3 ⟨v3, rfl, ho3, hk3⟩
            have hK := ((((Kept.refl w).drewN q).drew.alloc _).drewN q2).trans hk3
            have HO3 := Lib.hid ho3
            clear ho3 hk3
            go_wp2
            go_ret3
            exact UnPost.good HFIN.out (by first | rfl | omega) (own_base' HO3.out (by simp)) hK)
        · have hfin := C1.out hcv
          have HFIN := Lib.hid hfin
          clear hfin
          have t1 : ((cr : Int) != (vs : Int)) = true := by rw [bne_iff_ne]; omega
          have t2 : (cr != vs) = true := by rw [bne_iff_ne]; exact hcv
          clear hcv
          go_wp2_with fail
          go_region_with (first
            | (go_at_call 112; refine (SO.out _ _ (Parts.two (S4.out.kept ?_) (SB.out.kept ?_))).mono ?_; exact ((Kept.refl w).drewN q).drew; exact ((Kept.refl w).drewN q).drew; rintro e w' ⟨rfl, rfl⟩)
            | (go_at_call 153; refine (FV.out _ _ (S48.out.kept ?_)).mono ?_; exact (((Kept.refl w).drewN q).drew.alloc _); rintro e w' ⟨rfl, q2, rfl⟩))
          all_goals (
            go_wp2
            go_ret3
            exact UnPost.fail HFIN.out ((((Kept.refl w).drewN q).drew.alloc _).drewN q2))

/-- Unframe, at any place of any bytes. -/
theorem unframe_any (l : List UInt8) (a : Int) (v : Value) (w : World) (hv : Bts w v l) (hlim : l.length ≤ 140737488355328) :
    Calls Tryz.prog 123 #[v, .int .i64 a] w (UnPost w (unAt l a)) := by
  by_cases h : a < 0 ∨ (l.length : Int) < a
  · exact unframe_place l a v w hv h
  · obtain ⟨n, rfl⟩ := Int.eq_ofNat_of_zero_le (show 0 ≤ a by omega)
    by_cases h8 : n + 8 ≤ l.length
    · exact unframe_there l n v w hv h8 hlim
    · exact unframe_short l n v w hv (by omega) (by omega)
end Go.Proofs.YtngbgngfdklnlaaGreatDoor
