/- The walks of the document's Bad, Put, Numbers, CopyInts. The walk of the document's Number. -/
import Derived.Test.YteopgcbihekcjaaDoorQNum
import Derived.Test.YteopgcbihekcjaaDoorQApp
import Derived.Test.YteopgcbihekcjaaDoorGCrc3
import Derived.Test.YteopgcbihekcjaaDoorQNumWalk
namespace Go.Proofs.YteopgcbihekcjaaDoor
open Go.RowKit

/-- A row of the call's own stays as it is where all that was there is kept. -/
theorem own_keptR {w w' : World} {b : Nat} {e : TypeId} {s n : Nat} {v : Value} {xs : List Value} (h : w.ownsRow b e s v n xs) (k : Kept w w') : w'.ownsRow b e s v n xs := by
  obtain ⟨h1, h2⟩ := h
  refine ⟨h1, ?_⟩
  rcases h2 with h2 | ⟨g, cap, cur, a1, a2, a3, a4⟩
  · exact .inl h2
  · have hg : g < w.heap.size := (Array.getElem?_eq_some_iff.1 a3).1
    exact .inr ⟨g, cap, cur, a1, a2, (k.block g hg).trans a3, a4⟩

set_option maxRecDepth 100000 in
set_option maxHeartbeats 400000 in
theorem bad_any (n : Int) (w : World) : Calls Tryd.prog 21 #[.int .i64 n] w fun e w' => e = .returned (.bool (!okNum n)) ∧ w = w' := by
  by_cases h0 : n < 0
  · have hk : okNum n = false := by unfold okNum; simp; omega
    have HK := Lib.hid hk
    clear hk
    go_enter Tryd.func21, Tryd.ntmps21
    go_wp2
    go_ret
    exact ⟨by rw [HK.out]; rfl, rfl⟩
  · by_cases h1 : 4611686018427387903 < n
    · have hk : okNum n = false := by unfold okNum; simp; omega
      have HK := Lib.hid hk
      clear hk
      go_enter Tryd.func21, Tryd.ntmps21
      go_wp2
      go_ret
      exact ⟨by rw [HK.out]; rfl, rfl⟩
    · have hk : okNum n = true := by unfold okNum; simp; omega
      have HK := Lib.hid hk
      clear hk
      have t0 : decide (n < 0) = false := by simp; omega
      have t1 : decide ((4611686018427387903 : Int) < n) = false := by simp; omega
      go_enter Tryd.func21, Tryd.ntmps21
      go_wp2
      go_ret
      exact ⟨by rw [HK.out]; rfl, rfl⟩

theorem Bts.one (w : World) (x : Int) (h0 : 0 ≤ x) (h1 : x < 256) (t : TypeId) : Bts (w.alloc (.cells #[.int .u8 x] t)) (.slice (some ⟨w.heap.size, 0, none⟩) 1 1) [UInt8.ofNat x.toNat] := by
  refine ⟨_, 1, rfl, Nat.le_refl _, by decide, fun _ => ⟨_, 0, rfl, fun k y hy => ?_⟩⟩
  match k, hy with
  | 0, hy =>
    obtain rfl : UInt8.ofNat x.toNat = y := by simpa using hy
    have e : ((UInt8.ofNat x.toNat).toNat : Int) = x := by rw [UInt8.toNat_ofNat']; omega
    rw [e]
    simp [go_sem]

set_option maxRecDepth 100000 in
set_option maxHeartbeats 1000000 in
theorem refPut_any (n : Nat) (w : World) (hn : n < 9223372036854775808) :
    Calls Tryd.prog 28 #[.int .i64 (n : Int)] w fun e w' => ∃ v', e = .returned v' ∧ w'.ownsRow w.heap.size 5 1 v' (put n).length (Lib.byteCells (put n)) ∧ Kept w w' := by
  go_enter Tryd.func28, Tryd.ntmps28
  go_wp2
  go_loopw [0, 3] (fun t u W => ∃ k m : Nat, ∃ done : List UInt8, t = .int .i64 (m : Int) ∧ m < 128 ^ (k + 1) ∧ m ≤ n ∧ done.length + (k + 1) = 9 ∧ put n = done ++ putF (k + 1) m ∧ W.ownsRow w.heap.size 5 1 u done.length (Lib.byteCells done) ∧ Kept w W) (fun t _ _ => (intOf t).toNat)
  case atStart => exact ⟨8, n, [], rfl, by have : (128 : Nat) ^ (8 + 1) = 9223372036854775808 := by decide
                                           omega, Nat.le_refl _, rfl, rfl, World.ownsRow_lit w #[] 0 (Nat.le_refl _) (by decide) rfl, (Kept.refl w).alloc _⟩
  case round =>
    obtain ⟨k, m, done, rfl, hm, hmn, hd, hp, hO, hK⟩ := hrel
    have HP := Lib.hid hp
    have HM := Lib.hid hm
    have HD := Lib.hid hd
    have hd9 : done.length ≤ 8 := by omega
    have hsz := hK.size
    obtain ⟨A3, c3, hv3⟩ : ∃ A3 c3, u3 = .slice A3 done.length c3 := by
      rcases hO.2 with ⟨rfl, h0⟩ | ⟨g, cap, cur, rfl, -⟩
      · exact ⟨none, 0, by rw [h0]⟩
      · exact ⟨_, _, rfl⟩
    subst hv3
    have HO := Lib.hid hO
    have HK := Lib.hid hK
    clear hp hm hd hO hK
    by_cases hlt : m < 128
    · have hfin : done ++ [UInt8.ofNat m] = put n := by rw [HP.out, putF_short hlt]
      have HFIN := Lib.hid hfin
      clear hfin
      have hB := fun t => Bts.one wr (m : Int) (by omega) (by omega) t
      rw [Int.toNat_natCast] at hB
      have HB := Lib.hid hB
      clear hB
      go_wp2_with (at_builtin; refine wpList_append_bts rfl _ _ rfl w.heap.size _ _ done [UInt8.ofNat m] _ rfl rfl (HO.out.alloc _) (HB.out _) (by simp; omega) (by simp; omega) ?_; intro v' w' h1 h2 h3)
      go_ret
      rw [HFIN.out] at h1
      have hl : done.length + [UInt8.ofNat m].length = (put n).length := by rw [← HFIN.out, List.length_append]
      rw [hl] at h1
      exact ⟨v', rfl, h1, (HK.out.alloc _).grown h2 (own_ge HO.out)⟩
    · have hB := fun t => Bts.one wr (128 + (m : Int) % 128) (by omega) (by omega) t
      rw [show (128 + (m : Int) % 128).toNat = 128 + m % 128 by omega] at hB
      have HB := Lib.hid hB
      clear hB
      go_wp2_with (at_builtin; refine wpList_append_bts rfl _ _ rfl w.heap.size _ _ done [UInt8.ofNat (128 + m % 128)] _ rfl rfl (HO.out.alloc _) (HB.out _) (by simp; omega) (by simp; omega) ?_; intro v' w' h1 h2 h3)
      go_roundw
      case rel =>
        have hm := HM.out
        have hd := HD.out
        have hp := HP.out
        rw [putF_long hlt] at hp
        match k, hm, hd, hp with
        | 0, hm, _, _ => exact absurd hm (by simpa using hlt)
        | k + 1, hm, hd, hp => exact ⟨k, m / 128, done ++ [UInt8.ofNat (128 + m % 128)], by go_num, pow_step hm, by omega, by simp; omega, by rw [hp, List.append_assoc]; rfl, by rw [List.length_append]; exact h1, (HK.out.alloc _).grown h2 (own_ge HO.out)⟩
      case measure => simp [intOf]; omega

end Go.Proofs.YteopgcbihekcjaaDoor
namespace Go.Proofs.YteopgcbihekcjaaDoor
open Go.RowKit

set_option maxRecDepth 100000 in
set_option maxHeartbeats 400000 in
theorem refNumber_place (l : List UInt8) (a : Int) (v : Value) (w : World) (hv : Bts w v l) (h : a < 0 ∨ (l.length : Int) < a) :
    Calls Tryd.prog 36 #[v, .int .i64 a] w fun e w' => e = .returned (.tuple #[.int .i64 0, .int .i64 0, .int .i64 11]) ∧ w = w' := by
  obtain ⟨A, c, rfl, hc1, hc2, hcs⟩ := hv
  unfold maxLen at hc2
  clear hcs
  rcases h with h | h
  · go_enter Tryd.func36, Tryd.ntmps36
    go_wp2
    go_ret3
    exact ⟨rfl, rfl⟩
  · have h0 : ¬ a < 0 := by omega
    go_enter Tryd.func36, Tryd.ntmps36
    go_wp2
    go_ret3
    exact ⟨rfl, rfl⟩

/-- What is known of the bytes at the head of the first loop: none of the first k is low, or the last of them is the first low one. -/
def Scan (s : List UInt8) (k : Nat) (last : Int) : Prop :=
  (last = -1 ∧ ∀ j, j < k → 128 ≤ (s.getD j 0).toNat) ∨ (∃ j, k = j + 1 ∧ last = j ∧ j < s.length ∧ (∀ i, i < j → 128 ≤ (s.getD i 0).toNat) ∧ (s.getD j 0).toNat < 128)

theorem ret3 {a b c a' b' c' : Int} (h1 : a = a') (h2 : b = b') (h3 : c = c') : Ending.returned (.tuple #[.int .i64 a, .int .i64 b, .int .i64 c]) = .returned (.tuple #[.int .i64 a', .int .i64 b', .int .i64 c']) := by rw [h1, h2, h3]
theorem val_step (s : List UInt8) (r : Nat) (h : r < s.length) : valOf (s.drop r) = s[r].toNat % 128 + 128 * valOf (s.drop (r + 1)) := by
  rw [List.drop_eq_getElem_cons h, valOf]
theorem val_drop_lt (s : List UInt8) (r j : Nat) (h : s.length = j + 1) (hj : j < 9) : 128 * valOf (s.drop (r + 1)) + 127 < 9223372036854775808 := by
  have h1 := valOf_lt (s.drop (r + 1))
  rw [List.length_drop, h] at h1
  have h2 : (128 : Nat) ^ (j + 1 - (r + 1)) ≤ 128 ^ 8 := pow128_le (by omega)
  have h3 : (128 : Nat) ^ 8 = 72057594037927936 := by decide
  omega

set_option maxRecDepth 100000 in
set_option maxHeartbeats 4000000 in
theorem refNumber_there (l : List UInt8) (a : Nat) (v : Value) (w : World) (hv : Bts w v l) (h : a ≤ l.length) (hlim : l.length ≤ 140737488355328) :
    Calls Tryd.prog 36 #[v, .int .i64 (a : Int)] w fun e w' => e = .returned (.tuple #[.int .i64 (numAt l a).1, .int .i64 (numAt l a).2.1, .int .i64 (numAt l a).2.2]) ∧ w = w' := by
  obtain ⟨A, c, rfl, hc1, hc2, hcs⟩ := hv
  unfold maxLen at hc2
  have HCS := Lib.hid hcs
  clear hcs
  have h0 : decide ((a : Int) < 0) = false := by simp
  have h1 : decide (l.length < a) = false := by simp; omega
  go_enter Tryd.func36, Tryd.ntmps36
  go_wp2
  go_loop [7, 8] (fun t i => ∃ k : Nat, ∃ last : Int, k ≤ 9 ∧ a + k ≤ l.length ∧ i = .int .i64 (k : Int) ∧ t = .int .i64 last ∧ Scan (l.drop a) k last) (fun _ i => 9 - (intOf i).toNat)
  case atStart => exact ⟨0, -1, Nat.zero_le _, by omega, rfl, rfl, .inl ⟨rfl, fun j hj => absurd hj (by omega)⟩⟩
  case round =>
    obtain ⟨k, last, hk, hkl, rfl, rfl, hscan⟩ := hrel
    rcases hscan with ⟨rfl, hall⟩ | ⟨j, rfl, rfl, hjl, hall, hlow⟩
    · have HALL := Lib.hid hall
      clear hall
      by_cases hk9 : k < 9
      · by_cases hin : a + k < l.length
        · obtain ⟨b, o, rfl, hcell⟩ := HCS.out (by omega)
          have hlk : k < (l.drop a).length := by rw [List.length_drop]; omega
          have hc0 := hcell (a + k) (l.drop a)[k] (by rw [List.getElem_drop]; exact List.getElem?_eq_getElem _)
          have eg : (l.drop a).getD k 0 = (l.drop a)[k] := by rw [List.getD_eq_getElem?_getD, List.getElem?_eq_getElem hlk, Option.getD_some]
          have c1 : (l.drop a)[k].toNat < 128 → Scan (l.drop a) (k + 1) k := fun e => .inr ⟨k, rfl, rfl, hlk, HALL.out, by rw [eg]; exact e⟩
          have c2 : 128 ≤ (l.drop a)[k].toNat → Scan (l.drop a) (k + 1) (-1) := fun e => .inl ⟨rfl, getD_all_succ hlk HALL.out e⟩
          have C1 := Lib.hid c1
          have C2 := Lib.hid c2
          have hx8 := (l.drop a)[k].toNat_lt
          clear c1 c2 hcell eg
          generalize (l.drop a)[k].toNat = x at *
          have t1 : decide (a + k < l.length) = true := by simp; omega
          by_cases hx : x < 128
          · have hfin := C1.out hx
            have HFIN := Lib.hid hfin
            clear hfin
            go_wp2
            go_round
            case rel => exact ⟨k + 1, k, by omega, by omega, by go_num, rfl, HFIN.out⟩
            case measure => simp [intOf]; omega
          · have hfin := C2.out (by omega)
            have HFIN := Lib.hid hfin
            clear hfin
            go_wp2
            go_round
            case rel => exact ⟨k + 1, -1, by omega, by omega, by go_num, rfl, HFIN.out⟩
            case measure => simp [intOf]; omega
        · have hfin : numAt l a = (0, 0, 12) := numAt_short h (by omega) (fun j hj => HALL.out j (by omega))
          have HFIN := Lib.hid hfin
          clear hfin
          have t1 : decide (a + k < l.length) = false := by simp; omega
          go_wp2
          go_ret3
          exact ⟨by rw [HFIN.out]; rfl, rfl⟩
      · obtain rfl : k = 9 := by omega
        have hfin : numAt l a = (0, 0, 13) := numAt_long hkl HALL.out
        have HFIN := Lib.hid hfin
        clear hfin
        go_wp2
        go_ret3
        exact ⟨by rw [HFIN.out]; rfl, rfl⟩
    · -- the first low byte is at j
      obtain ⟨b, o, rfl, hcell⟩ := HCS.out (by omega)
      have HCELL := Lib.hid hcell
      have HALL := Lib.hid hall
      have eg : (l.drop a).getD j 0 = (l.drop a)[j] := by rw [List.getD_eq_getElem?_getD, List.getElem?_eq_getElem hjl, Option.getD_some]
      rw [eg] at hlow
      have hc0 := hcell (a + j) (l.drop a)[j] (by rw [List.getElem_drop]; exact List.getElem?_eq_getElem _)
      have hgreat := too_great (l.drop a) j hjl (by omega) hlow
      have c1 : (0 < j ∧ (l.drop a)[j].toNat = 0) ∨ (j = 8 ∧ 63 < (l.drop a)[j].toNat) → numAt l a = (0, 0, 13) := fun e => numAt_low_bad h hjl (by omega) HALL.out hlow (e.elim (fun e => .inl ⟨e.1, UInt8.toNat_inj.1 e.2⟩) (fun e => .inr (hgreat.2 e)))
      have c2 : ¬ ((0 < j ∧ (l.drop a)[j].toNat = 0) ∨ (j = 8 ∧ 63 < (l.drop a)[j].toNat)) → numAt l a = (((valOf ((l.drop a).take (j + 1)) : Nat) : Int), (a : Int) + j + 1, 0) := fun e =>
        numAt_low_good h hjl (by omega) HALL.out hlow (fun f => e (f.elim (fun f => .inl ⟨f.1, by rw [f.2]; rfl⟩) (fun f => .inr (hgreat.1 f))))
      have C1 := Lib.hid c1
      have C2 := Lib.hid c2
      have hx8 := (l.drop a)[j].toNat_lt
      generalize hg : (l.drop a).take (j + 1) = g at *
      have hglen : g.length = j + 1 := by rw [← hg, List.length_take]; omega
      have hcg : ∀ r (hr : r < j + 1), w.cell? ⟨b, o + (a + r), none⟩ = some (.int .u8 ((g[r]'(by omega)).toNat : Int)) := fun r hr => by
        subst hg
        rw [List.getElem_take]
        exact HCELL.out (a + r) _ (by rw [List.getElem_drop]; exact List.getElem?_eq_getElem _)
      have HG := Lib.hid hglen
      have HCG := Lib.hid hcg
      clear c1 c2 hcell eg hall hgreat hcg hg
      generalize hxx : (l.drop a)[j].toNat = x at *
      clear hxx
      have tn : decide ((j : Int) < 0) = false := by simp
      by_cases hj8 : j + 1 < 9
      · by_cases hin : a + (j + 1) < l.length
        · have t1 : decide (a + (j + 1) < l.length) = true := by simp; omega
          by_cases hj0 : j = 0
          · subst hj0
            have hfin := C2.out (by omega)
            have HFIN := Lib.hid hfin
            clear hfin
            go_wp2
            go_loop [9, 10] (fun n i => ∃ r : Nat, r ≤ 0 + 1 ∧ i = .int .i64 ((r : Int) - 1) ∧ n = .int .i64 (valOf (g.drop r) : Nat)) (fun _ i => (intOf i + 1).toNat)
            case atStart => exact ⟨0 + 1, Nat.le_refl _, congrArg (Value.int .i64) (by omega), by rw [List.drop_eq_nil_of_le (by have := HG.out; omega)]; rfl⟩
            case round =>
              obtain ⟨r, hr, rfl, rfl⟩ := hrel
              match r, hr with
              | 0, hr =>
                have hn1 : decide ((0 : Int) ≤ ((0 : Nat) : Int) - 1) = false := by decide
                go_wp2
                go_ret3
                exact ⟨by rw [HFIN.out]; exact ret3 rfl (by first | rfl | (dsimp only; omega)) rfl, rfl⟩
              | r + 1, hr =>
                have hv := val_step g r (by have := HG.out; omega)
                have hb := val_drop_lt g r 0 HG.out (by omega)
                have hcr := HCG.out r (by omega)
                have HV := Lib.hid hv
                clear hv
                rw [show (((r + 1 : Nat) : Int) - 1) = (r : Int) by omega]
                generalize valOf (g.drop (r + 1)) = n at *
                have hx8' := (g[r]'(by have := HG.out; omega)).toNat_lt
                generalize (g[r]'(by have := HG.out; omega)).toNat = y at *
                have hn56 : n ≤ 72057594037927935 := by omega
                go_wp2
                go_round
                case rel => exact ⟨r, by omega, rfl, congrArg (Value.int .i64) (by rw [HV.out]; omega)⟩
                case measure => simp [intOf]
          · have tj : decide (0 < j) = true := by simp; omega
            have tj' : decide ((0 : Int) < (j : Int)) = true := by simp; omega
            have t8 : ((j : Int) == 8) = false := beq_eq_false_iff_ne.2 (by omega)
            by_cases hx0 : x = 0
            · have tx : ((x : Int) == 0) = true := beq_iff_eq.2 (by omega)
              have hfin := C1.out (.inl ⟨by omega, hx0⟩)
              have HFIN := Lib.hid hfin
              clear hfin
              clear hx0
              go_wp2
              go_ret3
              exact ⟨by rw [HFIN.out]; rfl, rfl⟩
            · have tx : ((x : Int) == 0) = false := beq_eq_false_iff_ne.2 (by omega)
              have hfin := C2.out (by omega)
              have HFIN := Lib.hid hfin
              clear hfin
              go_wp2
              go_loop [9, 10] (fun n i => ∃ r : Nat, r ≤ j + 1 ∧ i = .int .i64 ((r : Int) - 1) ∧ n = .int .i64 (valOf (g.drop r) : Nat)) (fun _ i => (intOf i + 1).toNat)
              case atStart => exact ⟨j + 1, Nat.le_refl _, congrArg (Value.int .i64) (by omega), by rw [List.drop_eq_nil_of_le (by have := HG.out; omega)]; rfl⟩
              case round =>
                obtain ⟨r, hr, rfl, rfl⟩ := hrel
                match r, hr with
                | 0, hr =>
                  have hn1 : decide ((0 : Int) ≤ ((0 : Nat) : Int) - 1) = false := by decide
                  go_wp2
                  go_ret3
                  exact ⟨by rw [HFIN.out]; exact ret3 rfl (by first | rfl | (dsimp only; omega)) rfl, rfl⟩
                | r + 1, hr =>
                  have hv := val_step g r (by have := HG.out; omega)
                  have hb := val_drop_lt g r j HG.out (by omega)
                  have hcr := HCG.out r (by omega)
                  have HV := Lib.hid hv
                  clear hv
                  rw [show (((r + 1 : Nat) : Int) - 1) = (r : Int) by omega]
                  generalize valOf (g.drop (r + 1)) = n at *
                  have hx8' := (g[r]'(by have := HG.out; omega)).toNat_lt
                  generalize (g[r]'(by have := HG.out; omega)).toNat = y at *
                  have hn56 : n ≤ 72057594037927935 := by omega
                  go_wp2
                  go_round
                  case rel => exact ⟨r, by omega, rfl, congrArg (Value.int .i64) (by rw [HV.out]; omega)⟩
                  case measure => simp [intOf]
        · have t1 : decide (a + (j + 1) < l.length) = false := by simp; omega
          by_cases hj0 : j = 0
          · subst hj0
            have hfin := C2.out (by omega)
            have HFIN := Lib.hid hfin
            clear hfin
            go_wp2
            go_loop [9, 10] (fun n i => ∃ r : Nat, r ≤ 0 + 1 ∧ i = .int .i64 ((r : Int) - 1) ∧ n = .int .i64 (valOf (g.drop r) : Nat)) (fun _ i => (intOf i + 1).toNat)
            case atStart => exact ⟨0 + 1, Nat.le_refl _, congrArg (Value.int .i64) (by omega), by rw [List.drop_eq_nil_of_le (by have := HG.out; omega)]; rfl⟩
            case round =>
              obtain ⟨r, hr, rfl, rfl⟩ := hrel
              match r, hr with
              | 0, hr =>
                have hn1 : decide ((0 : Int) ≤ ((0 : Nat) : Int) - 1) = false := by decide
                go_wp2
                go_ret3
                exact ⟨by rw [HFIN.out]; exact ret3 rfl (by first | rfl | (dsimp only; omega)) rfl, rfl⟩
              | r + 1, hr =>
                have hv := val_step g r (by have := HG.out; omega)
                have hb := val_drop_lt g r 0 HG.out (by omega)
                have hcr := HCG.out r (by omega)
                have HV := Lib.hid hv
                clear hv
                rw [show (((r + 1 : Nat) : Int) - 1) = (r : Int) by omega]
                generalize valOf (g.drop (r + 1)) = n at *
                have hx8' := (g[r]'(by have := HG.out; omega)).toNat_lt
                generalize (g[r]'(by have := HG.out; omega)).toNat = y at *
                have hn56 : n ≤ 72057594037927935 := by omega
                go_wp2
                go_round
                case rel => exact ⟨r, by omega, rfl, congrArg (Value.int .i64) (by rw [HV.out]; omega)⟩
                case measure => simp [intOf]
          · have tj : decide (0 < j) = true := by simp; omega
            have tj' : decide ((0 : Int) < (j : Int)) = true := by simp; omega
            have t8 : ((j : Int) == 8) = false := beq_eq_false_iff_ne.2 (by omega)
            by_cases hx0 : x = 0
            · have tx : ((x : Int) == 0) = true := beq_iff_eq.2 (by omega)
              have hfin := C1.out (.inl ⟨by omega, hx0⟩)
              have HFIN := Lib.hid hfin
              clear hfin
              clear hx0
              go_wp2
              go_ret3
              exact ⟨by rw [HFIN.out]; rfl, rfl⟩
            · have tx : ((x : Int) == 0) = false := beq_eq_false_iff_ne.2 (by omega)
              have hfin := C2.out (by omega)
              have HFIN := Lib.hid hfin
              clear hfin
              go_wp2
              go_loop [9, 10] (fun n i => ∃ r : Nat, r ≤ j + 1 ∧ i = .int .i64 ((r : Int) - 1) ∧ n = .int .i64 (valOf (g.drop r) : Nat)) (fun _ i => (intOf i + 1).toNat)
              case atStart => exact ⟨j + 1, Nat.le_refl _, congrArg (Value.int .i64) (by omega), by rw [List.drop_eq_nil_of_le (by have := HG.out; omega)]; rfl⟩
              case round =>
                obtain ⟨r, hr, rfl, rfl⟩ := hrel
                match r, hr with
                | 0, hr =>
                  have hn1 : decide ((0 : Int) ≤ ((0 : Nat) : Int) - 1) = false := by decide
                  go_wp2
                  go_ret3
                  exact ⟨by rw [HFIN.out]; exact ret3 rfl (by first | rfl | (dsimp only; omega)) rfl, rfl⟩
                | r + 1, hr =>
                  have hv := val_step g r (by have := HG.out; omega)
                  have hb := val_drop_lt g r j HG.out (by omega)
                  have hcr := HCG.out r (by omega)
                  have HV := Lib.hid hv
                  clear hv
                  rw [show (((r + 1 : Nat) : Int) - 1) = (r : Int) by omega]
                  generalize valOf (g.drop (r + 1)) = n at *
                  have hx8' := (g[r]'(by have := HG.out; omega)).toNat_lt
                  generalize (g[r]'(by have := HG.out; omega)).toNat = y at *
                  have hn56 : n ≤ 72057594037927935 := by omega
                  go_wp2
                  go_round
                  case rel => exact ⟨r, by omega, rfl, congrArg (Value.int .i64) (by rw [HV.out]; omega)⟩
                  case measure => simp [intOf]
      · obtain rfl : j = 8 := by omega
        by_cases hx0 : x = 0
        · have tx : ((x : Int) == 0) = true := beq_iff_eq.2 (by omega)
          have hfin := C1.out (.inl ⟨by omega, hx0⟩)
          have HFIN := Lib.hid hfin
          clear hfin
          clear hx0
          go_wp2
          go_ret3
          exact ⟨by rw [HFIN.out]; rfl, rfl⟩
        · have tx : ((x : Int) == 0) = false := beq_eq_false_iff_ne.2 (by omega)
          by_cases hx63 : 63 < x
          · have t63 : decide (63 < x) = true := by simp; omega
            have t63' : decide ((63 : Int) < (x : Int)) = true := by simp; omega
            have hfin := C1.out (.inr ⟨rfl, hx63⟩)
            have HFIN := Lib.hid hfin
            clear hfin
            go_wp2
            go_ret3
            exact ⟨by rw [HFIN.out]; rfl, rfl⟩
          · have t63 : decide (63 < x) = false := by simp; omega
            have t63' : decide ((63 : Int) < (x : Int)) = false := by simp; omega
            have hfin := C2.out (by omega)
            have HFIN := Lib.hid hfin
            clear hfin
            go_wp2
            go_loop [9, 10] (fun n i => ∃ r : Nat, r ≤ 8 + 1 ∧ i = .int .i64 ((r : Int) - 1) ∧ n = .int .i64 (valOf (g.drop r) : Nat)) (fun _ i => (intOf i + 1).toNat)
            case atStart => exact ⟨8 + 1, Nat.le_refl _, congrArg (Value.int .i64) (by omega), by rw [List.drop_eq_nil_of_le (by have := HG.out; omega)]; rfl⟩
            case round =>
              obtain ⟨r, hr, rfl, rfl⟩ := hrel
              match r, hr with
              | 0, hr =>
                have hn1 : decide ((0 : Int) ≤ ((0 : Nat) : Int) - 1) = false := by decide
                go_wp2
                go_ret3
                exact ⟨by rw [HFIN.out]; exact ret3 rfl (by first | rfl | (dsimp only; omega)) rfl, rfl⟩
              | r + 1, hr =>
                have hv := val_step g r (by have := HG.out; omega)
                have hb := val_drop_lt g r 8 HG.out (by omega)
                have hcr := HCG.out r (by omega)
                have HV := Lib.hid hv
                clear hv
                rw [show (((r + 1 : Nat) : Int) - 1) = (r : Int) by omega]
                generalize valOf (g.drop (r + 1)) = n at *
                have hx8' := (g[r]'(by have := HG.out; omega)).toNat_lt
                generalize (g[r]'(by have := HG.out; omega)).toNat = y at *
                have hn56 : n ≤ 72057594037927935 := by omega
                go_wp2
                go_round
                case rel => exact ⟨r, by omega, rfl, congrArg (Value.int .i64) (by rw [HV.out]; omega)⟩
                case measure => simp [intOf]

/-- The document's Number, at any place of any bytes. -/
theorem refNumber_any (l : List UInt8) (a : Int) (v : Value) (w : World) (hv : Bts w v l) (hlim : l.length ≤ 140737488355328) :
    Calls Tryd.prog 36 #[v, .int .i64 a] w fun e w' => e = .returned (.tuple #[.int .i64 (numAt l a).1, .int .i64 (numAt l a).2.1, .int .i64 (numAt l a).2.2]) ∧ w = w' := by
  by_cases h : a < 0 ∨ (l.length : Int) < a
  · rw [numAt_bad h]; exact refNumber_place l a v w hv h
  · obtain ⟨n, rfl⟩ := Int.eq_ofNat_of_zero_le (show 0 ≤ a by omega)
    exact refNumber_there l n v w hv (by omega) hlim
end Go.Proofs.YteopgcbihekcjaaDoor
