/- The walk of the program's Number. -/
import Derived.Test.YteopgcbihekcjaaDoorGFrSpec4
import Derived.Test.YteopgcbihekcjaaDoorGCrc3
import Derived.Test.YteopgcbihekcjaaDoorProg
namespace Go.Proofs.YteopgcbihekcjaaDoor
open Go.RowKit
set_option maxRecDepth 100000 in
set_option maxHeartbeats 400000 in
theorem number_place (l : List UInt8) (a : Int) (v : Value) (w : World) (hv : Bts w v l) (h : a < 0 ∨ (l.length : Int) < a) :
    Calls Tryd.prog 39 #[v, .int .i64 a] w fun e w' => e = .returned (.tuple #[.int .i64 0, .int .i64 0, .int .i64 11]) ∧ w = w' := by
  obtain ⟨A, c, rfl, hc1, hc2, hcs⟩ := hv
  unfold maxLen at hc2
  clear hcs
  rcases h with h | h
  · go_enter Tryd.func39, Tryd.ntmps39
    go_wp2
    go_ret3
    exact ⟨rfl, rfl⟩
  · have h0 : ¬ a < 0 := by omega
    go_enter Tryd.func39, Tryd.ntmps39
    go_wp2
    go_ret3
    exact ⟨rfl, rfl⟩
theorem andNot_more (x : Nat) (h : x < 256) : bits BinOp.andNot IntKind.u8 (x : Int) 128 = ((x % 128 : Nat) : Int) := by
  have := u8_andNot_nat x 128 h (by decide)
  rw [show (255 - 128 : Nat) = 127 by decide, nat_mask7] at this
  exact this
theorem and_more (x : Nat) (h : x < 256) : bits BinOp.and IntKind.u8 (x : Int) 128 = ((x / 128 * 128 : Nat) : Int) := by
  have := u8_and_nat x 128 h (by decide)
  have e := nat_bit 7 x
  rw [show (2 : Nat) ^ 7 = 128 by decide] at e
  rw [e, show x / 128 % 2 = x / 128 by omega] at this
  exact this
theorem or_walk (m y k : Nat) (hm : m < 128 ^ k) (hy : y < 128) (hk : k < 9) : bits BinOp.or IntKind.i64 (m : Int) (wrap64 ((y : Int) * 2 ^ (7 * k))) = ((m + 128 ^ k * y : Nat) : Int) := by
  have h8 : (128 : Nat) ^ k ≤ 128 ^ 8 := pow128_le (by omega)
  have e8 : (128 : Nat) ^ 8 = 72057594037927936 := by decide
  have hle : y * 2 ^ (7 * k) ≤ 127 * 72057594037927936 := by rw [← pow128]; exact Nat.mul_le_mul (by omega) (by omega)
  have e : ((y : Int) * 2 ^ (7 * k)) = ((y * 2 ^ (7 * k) : Nat) : Int) := by rw [Int.natCast_mul, Int.natCast_pow]; rfl
  have hw : wrap64 ((y * 2 ^ (7 * k) : Nat) : Int) = ((y * 2 ^ (7 * k) : Nat) : Int) := by unfold wrap64; omega
  rw [e, hw, i64_or_nat _ _ (by omega) (by omega), or_shift m y k hm]
theorem or_bound (m y k : Nat) (hm : m < 128 ^ k) (hy : y < 128) (hk : k < 9) : m + 128 ^ k * y < 9223372036854775808 := by
  have h1 : 128 ^ k * y ≤ 128 ^ k * 127 := Nat.mul_le_mul_left _ (by omega)
  have h2 : (128 : Nat) ^ (k + 1) ≤ 128 ^ 9 := pow128_le (by omega)
  have h3 : (128 : Nat) ^ 9 = 9223372036854775808 := by decide
  rw [Nat.pow_succ] at h2
  omega
set_option maxRecDepth 100000 in
set_option maxHeartbeats 400000 in
theorem number_there (l : List UInt8) (a : Nat) (v : Value) (w : World) (hv : Bts w v l) (h : a < l.length) (hlim : l.length ≤ 140737488355328) :
    Calls Tryd.prog 39 #[v, .int .i64 (a : Int)] w fun e w' => e = .returned (.tuple #[.int .i64 (numAt l a).1, .int .i64 (numAt l a).2.1, .int .i64 (numAt l a).2.2]) ∧ w = w' := by
  obtain ⟨A, c, rfl, hc1, hc2, hcs⟩ := hv
  unfold maxLen at hc2
  obtain ⟨b, o, rfl, hcell⟩ := hcs (by omega)
  clear hcs
  have HC := Lib.hid hcell
  clear hcell
  have h0 : decide ((a : Int) < 0) = false := by simp
  have h1 : decide (l.length < a) = false := by simp; omega
  by_cases h9 : a + 9 ≤ l.length
  · go_enter Tryd.func39, Tryd.ntmps39
    go_wp2
    go_loop [4, 28] (fun n i => ∃ k : Nat, k ≤ 9 ∧ i = .int .i64 (k : Int) ∧ n = .int .i64 (valOf ((l.drop a).take k) : Nat) ∧ ∀ j, j < k → 128 ≤ ((l.drop a).getD j 0).toNat) (fun _ i => 9 - (intOf i).toNat)
    case atStart => exact ⟨0, Nat.zero_le _, rfl, rfl, fun j hj => absurd hj (by omega)⟩
    case round =>
      obtain ⟨k, hk, rfl, rfl, hall⟩ := hrel
      have HALL := Lib.hid hall
      clear hall
      by_cases hlt : k < 9
      · have hlk : k < (l.drop a).length := by rw [List.length_drop]; omega
        have hk9 : k < 9 := by omega
        have hcell := HC.out (a + k) (l.drop a)[k] (by rw [List.getElem_drop]; exact List.getElem?_eq_getElem _)
        rw [← Nat.add_assoc] at hcell
        have hvl := valOf_take_lt (l.drop a) k (by omega)
        have hvs := valOf_take_succ (l.drop a) k hlk
        have b1 := andNot_more (l.drop a)[k].toNat (by have := (l.drop a)[k].toNat_lt; omega)
        have b2 := and_more (l.drop a)[k].toNat (by have := (l.drop a)[k].toNat_lt; omega)
        have hy : (l.drop a)[k].toNat % 128 < 128 := Nat.mod_lt _ (by decide)
        have b3 := or_walk _ _ k hvl hy hk9
        have hb := or_bound _ _ k hvl hy hk9
        rw [← hvs] at b3 hb
        have c1 : (l.drop a)[k].toNat < 128 → 0 < k → (l.drop a)[k].toNat = 0 → numAt l a = (0, 0, 13) := fun e1 e2 e3 => numAt_low_bad (by omega) hlk hk9 HALL.out e1 (.inl ⟨e2, UInt8.toNat_inj.1 e3⟩)
        have c2 : (l.drop a)[k].toNat < 128 → 4611686018427387903 < valOf ((l.drop a).take (k + 1)) → numAt l a = (0, 0, 13) := fun e1 e2 => numAt_low_bad (by omega) hlk hk9 HALL.out e1 (.inr e2)
        have c3 : (l.drop a)[k].toNat < 128 → (0 < k → (l.drop a)[k].toNat ≠ 0) → valOf ((l.drop a).take (k + 1)) ≤ 4611686018427387903 → numAt l a = (((valOf ((l.drop a).take (k + 1)) : Nat) : Int), (a : Int) + k + 1, 0) := fun e1 e2 e3 =>
          numAt_low_good (by omega) hlk hk9 HALL.out e1 (fun e => e.elim (fun e => e2 e.1 (by rw [e.2]; rfl)) (fun e => by omega))
        have c4 : 128 ≤ (l.drop a)[k].toNat → ∀ j, j < k + 1 → 128 ≤ ((l.drop a).getD j 0).toNat := fun e => getD_all_succ hlk HALL.out e
        have C1 := Lib.hid c1
        have C2 := Lib.hid c2
        have C3 := Lib.hid c3
        have C4 := Lib.hid c4
        have HVS := Lib.hid hvs
        have hx8 := (l.drop a)[k].toNat_lt
        clear hvs c1 c2 c3 c4
        generalize (l.drop a)[k].toNat % 128 = y at *
        generalize hn' : valOf ((l.drop a).take (k + 1)) = n' at *
        have HN' := Lib.hid hn'
        clear hn'
        generalize (l.drop a)[k].toNat = x at *
        generalize valOf ((l.drop a).take k) = m at *
        clear hvl
        by_cases hx : x < 128
        · rw [show x / 128 * 128 = 0 by omega] at b2
          by_cases hx0 : x = 0
          · by_cases hk0 : 0 < k
            · have hfin := C1.out hx hk0 hx0
              have HFIN := Lib.hid hfin
              clear hfin
              have t1 : ((x : Int) == 0) = true := beq_iff_eq.2 (by omega)
              have t2 : decide (0 < k) = true := by simp; omega
              have t3 : decide ((0 : Int) < (k : Int)) = true := by simp; omega
              clear hx0
              go_wp2
              go_ret3
              exact ⟨by rw [HFIN.out]; rfl, rfl⟩
            · by_cases hgr : n' ≤ 4611686018427387903
              · have hfin := C3.out hx (fun e => absurd e hk0) hgr
                have HFIN := Lib.hid hfin
                clear hfin
                have t1 : ((x : Int) == 0) = true := beq_iff_eq.2 (by omega)
                have t2 : decide (0 < k) = false := by simp; omega
                have t3 : decide ((0 : Int) < (k : Int)) = false := by simp; omega
                have t4 : decide ((4611686018427387903 : Int) < (n' : Int)) = false := by simp; omega
                clear hx0
                go_wp2
                go_ret3
                exact ⟨by rw [HFIN.out]; rfl, rfl⟩
              · have hfin := C2.out hx (by omega)
                have HFIN := Lib.hid hfin
                clear hfin
                have t1 : ((x : Int) == 0) = true := beq_iff_eq.2 (by omega)
                have t2 : decide (0 < k) = false := by simp; omega
                have t3 : decide ((0 : Int) < (k : Int)) = false := by simp; omega
                have t4 : decide ((4611686018427387903 : Int) < (n' : Int)) = true := by simp; omega
                clear hx0
                go_wp2
                go_ret3
                exact ⟨by rw [HFIN.out]; rfl, rfl⟩
          · by_cases hgr : n' ≤ 4611686018427387903
            · have hfin := C3.out hx (fun _ => hx0) hgr
              have HFIN := Lib.hid hfin
              clear hfin
              have t1 : ((x : Int) == 0) = false := beq_eq_false_iff_ne.2 (by omega)
              have t4 : decide ((4611686018427387903 : Int) < (n' : Int)) = false := by simp; omega
              go_wp2
              go_ret3
              exact ⟨by rw [HFIN.out]; rfl, rfl⟩
            · have hfin := C2.out hx (by omega)
              have HFIN := Lib.hid hfin
              clear hfin
              have t1 : ((x : Int) == 0) = false := beq_eq_false_iff_ne.2 (by omega)
              have t4 : decide ((4611686018427387903 : Int) < (n' : Int)) = true := by simp; omega
              go_wp2
              go_ret3
              exact ⟨by rw [HFIN.out]; rfl, rfl⟩
        · rw [show x / 128 * 128 = 128 by omega] at b2
          have hfin := C4.out (by omega)
          have HFIN := Lib.hid hfin
          clear hfin
          go_wp2
          go_round
          case rel => exact ⟨k + 1, by omega, by go_num, by rw [HN'.out], HFIN.out⟩
          case measure => simp [intOf]; omega
      · obtain rfl : k = 9 := by omega
        have hfin := numAt_long h9 HALL.out
        have HFIN := Lib.hid hfin
        clear hfin
        go_wp2
        go_ret3
        exact ⟨by rw [HFIN.out]; rfl, rfl⟩
  · go_enter Tryd.func39, Tryd.ntmps39
    go_wp2
    go_loop [4, 28] (fun n i => ∃ k : Nat, k ≤ (l.length - a) ∧ i = .int .i64 (k : Int) ∧ n = .int .i64 (valOf ((l.drop a).take k) : Nat) ∧ ∀ j, j < k → 128 ≤ ((l.drop a).getD j 0).toNat) (fun _ i => (l.length - a) - (intOf i).toNat)
    case atStart => exact ⟨0, Nat.zero_le _, rfl, rfl, fun j hj => absurd hj (by omega)⟩
    case round =>
      obtain ⟨k, hk, rfl, rfl, hall⟩ := hrel
      have HALL := Lib.hid hall
      clear hall
      by_cases hlt : k < (l.length - a)
      · have hlk : k < (l.drop a).length := by rw [List.length_drop]; omega
        have hk9 : k < 9 := by omega
        have hcell := HC.out (a + k) (l.drop a)[k] (by rw [List.getElem_drop]; exact List.getElem?_eq_getElem _)
        rw [← Nat.add_assoc] at hcell
        have hvl := valOf_take_lt (l.drop a) k (by omega)
        have hvs := valOf_take_succ (l.drop a) k hlk
        have b1 := andNot_more (l.drop a)[k].toNat (by have := (l.drop a)[k].toNat_lt; omega)
        have b2 := and_more (l.drop a)[k].toNat (by have := (l.drop a)[k].toNat_lt; omega)
        have hy : (l.drop a)[k].toNat % 128 < 128 := Nat.mod_lt _ (by decide)
        have b3 := or_walk _ _ k hvl hy hk9
        have hb := or_bound _ _ k hvl hy hk9
        rw [← hvs] at b3 hb
        have c1 : (l.drop a)[k].toNat < 128 → 0 < k → (l.drop a)[k].toNat = 0 → numAt l a = (0, 0, 13) := fun e1 e2 e3 => numAt_low_bad (by omega) hlk hk9 HALL.out e1 (.inl ⟨e2, UInt8.toNat_inj.1 e3⟩)
        have c2 : (l.drop a)[k].toNat < 128 → 4611686018427387903 < valOf ((l.drop a).take (k + 1)) → numAt l a = (0, 0, 13) := fun e1 e2 => numAt_low_bad (by omega) hlk hk9 HALL.out e1 (.inr e2)
        have c3 : (l.drop a)[k].toNat < 128 → (0 < k → (l.drop a)[k].toNat ≠ 0) → valOf ((l.drop a).take (k + 1)) ≤ 4611686018427387903 → numAt l a = (((valOf ((l.drop a).take (k + 1)) : Nat) : Int), (a : Int) + k + 1, 0) := fun e1 e2 e3 =>
          numAt_low_good (by omega) hlk hk9 HALL.out e1 (fun e => e.elim (fun e => e2 e.1 (by rw [e.2]; rfl)) (fun e => by omega))
        have c4 : 128 ≤ (l.drop a)[k].toNat → ∀ j, j < k + 1 → 128 ≤ ((l.drop a).getD j 0).toNat := fun e => getD_all_succ hlk HALL.out e
        have C1 := Lib.hid c1
        have C2 := Lib.hid c2
        have C3 := Lib.hid c3
        have C4 := Lib.hid c4
        have HVS := Lib.hid hvs
        have hx8 := (l.drop a)[k].toNat_lt
        clear hvs c1 c2 c3 c4
        generalize (l.drop a)[k].toNat % 128 = y at *
        generalize hn' : valOf ((l.drop a).take (k + 1)) = n' at *
        have HN' := Lib.hid hn'
        clear hn'
        generalize (l.drop a)[k].toNat = x at *
        generalize valOf ((l.drop a).take k) = m at *
        clear hvl
        by_cases hx : x < 128
        · rw [show x / 128 * 128 = 0 by omega] at b2
          by_cases hx0 : x = 0
          · by_cases hk0 : 0 < k
            · have hfin := C1.out hx hk0 hx0
              have HFIN := Lib.hid hfin
              clear hfin
              have t1 : ((x : Int) == 0) = true := beq_iff_eq.2 (by omega)
              have t2 : decide (0 < k) = true := by simp; omega
              have t3 : decide ((0 : Int) < (k : Int)) = true := by simp; omega
              clear hx0
              go_wp2
              go_ret3
              exact ⟨by rw [HFIN.out]; rfl, rfl⟩
            · by_cases hgr : n' ≤ 4611686018427387903
              · have hfin := C3.out hx (fun e => absurd e hk0) hgr
                have HFIN := Lib.hid hfin
                clear hfin
                have t1 : ((x : Int) == 0) = true := beq_iff_eq.2 (by omega)
                have t2 : decide (0 < k) = false := by simp; omega
                have t3 : decide ((0 : Int) < (k : Int)) = false := by simp; omega
                have t4 : decide ((4611686018427387903 : Int) < (n' : Int)) = false := by simp; omega
                clear hx0
                go_wp2
                go_ret3
                exact ⟨by rw [HFIN.out]; rfl, rfl⟩
              · have hfin := C2.out hx (by omega)
                have HFIN := Lib.hid hfin
                clear hfin
                have t1 : ((x : Int) == 0) = true := beq_iff_eq.2 (by omega)
                have t2 : decide (0 < k) = false := by simp; omega
                have t3 : decide ((0 : Int) < (k : Int)) = false := by simp; omega
                have t4 : decide ((4611686018427387903 : Int) < (n' : Int)) = true := by simp; omega
                clear hx0
                go_wp2
                go_ret3
                exact ⟨by rw [HFIN.out]; rfl, rfl⟩
          · by_cases hgr : n' ≤ 4611686018427387903
            · have hfin := C3.out hx (fun _ => hx0) hgr
              have HFIN := Lib.hid hfin
              clear hfin
              have t1 : ((x : Int) == 0) = false := beq_eq_false_iff_ne.2 (by omega)
              have t4 : decide ((4611686018427387903 : Int) < (n' : Int)) = false := by simp; omega
              go_wp2
              go_ret3
              exact ⟨by rw [HFIN.out]; rfl, rfl⟩
            · have hfin := C2.out hx (by omega)
              have HFIN := Lib.hid hfin
              clear hfin
              have t1 : ((x : Int) == 0) = false := beq_eq_false_iff_ne.2 (by omega)
              have t4 : decide ((4611686018427387903 : Int) < (n' : Int)) = true := by simp; omega
              go_wp2
              go_ret3
              exact ⟨by rw [HFIN.out]; rfl, rfl⟩
        · rw [show x / 128 * 128 = 128 by omega] at b2
          have hfin := C4.out (by omega)
          have HFIN := Lib.hid hfin
          clear hfin
          go_wp2
          go_round
          case rel => exact ⟨k + 1, by omega, by go_num, by rw [HN'.out], HFIN.out⟩
          case measure => simp [intOf]; omega
      · obtain rfl : k = (l.length - a) := by omega
        have hfin := numAt_short (by omega) (by omega) HALL.out
        have HFIN := Lib.hid hfin
        clear hfin
        go_wp2
        go_ret3
        exact ⟨by rw [HFIN.out]; rfl, rfl⟩
set_option maxRecDepth 100000 in
set_option maxHeartbeats 400000 in
theorem number_end (l : List UInt8) (v : Value) (w : World) (hv : Bts w v l) (hlim : l.length ≤ 140737488355328) :
    Calls Tryd.prog 39 #[v, .int .i64 (l.length : Int)] w fun e w' => e = .returned (.tuple #[.int .i64 0, .int .i64 0, .int .i64 12]) ∧ w = w' := by
  obtain ⟨A, c, rfl, hc1, hc2, hcs⟩ := hv
  unfold maxLen at hc2
  clear hcs
  have h0 : decide ((l.length : Int) < 0) = false := by simp
  have h1 : decide (l.length < l.length) = false := by simp
  cases A with
  | none =>
    go_enter Tryd.func39, Tryd.ntmps39
    go_wp2
    go_loop [4, 28] (fun n i => n = .int .i64 0 ∧ i = .int .i64 0) (fun _ _ => 0)
    case atStart => exact ⟨rfl, rfl⟩
    case round =>
      obtain ⟨rfl, rfl⟩ := hrel
      go_wp2
      go_ret3
      exact ⟨rfl, rfl⟩
  | some ad =>
    by_cases hcl : c = l.length
    · subst hcl
      go_enter Tryd.func39, Tryd.ntmps39
      go_wp2
      go_loop [4, 28] (fun n i => n = .int .i64 0 ∧ i = .int .i64 0) (fun _ _ => 0)
      case atStart => exact ⟨rfl, rfl⟩
      case round =>
        obtain ⟨rfl, rfl⟩ := hrel
        go_wp2
        go_ret3
        exact ⟨rfl, rfl⟩
    · go_enter Tryd.func39, Tryd.ntmps39
      go_wp2
      go_loop [4, 28] (fun n i => n = .int .i64 0 ∧ i = .int .i64 0) (fun _ _ => 0)
      case atStart => exact ⟨rfl, rfl⟩
      case round =>
        obtain ⟨rfl, rfl⟩ := hrel
        go_wp2
        go_ret3
        exact ⟨rfl, rfl⟩

/-- Number, at any place of any bytes. -/
theorem number_read (l : List UInt8) (a : Int) (v : Value) (w : World) (hv : Bts w v l) (hlim : l.length ≤ 140737488355328) :
    Calls Tryd.prog 39 #[v, .int .i64 a] w fun e w' => e = .returned (.tuple #[.int .i64 (numAt l a).1, .int .i64 (numAt l a).2.1, .int .i64 (numAt l a).2.2]) ∧ w = w' := by
  by_cases h : a < 0 ∨ (l.length : Int) < a
  · rw [numAt_bad h]; exact number_place l a v w hv h
  · obtain ⟨n, rfl⟩ := Int.eq_ofNat_of_zero_le (show 0 ≤ a by omega)
    by_cases e : n = l.length
    · subst e
      rw [numAt_short (Nat.le_refl _) (by omega) (fun j hj => absurd hj (by omega))]
      exact number_end l v w hv hlim
    · exact number_there l n v w hv (by omega) hlim
end Go.Proofs.YteopgcbihekcjaaDoor
