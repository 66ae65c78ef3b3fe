/- The walks of Nums, NewWriter, Bytes, Clone, Out, Numbers. The walk of the program's Number. -/
import Derived.Test.YtennlckfmgfjbaaGreatDoorGBufW2
import Derived.Test.YtennlckfmgfjbaaGreatDoorGFrSpec4
import Derived.Test.YtennlckfmgfjbaaGreatDoorGCrc3
import Derived.Test.YtennlckfmgfjbaaGreatDoorProg
namespace Go.Proofs.YtennlckfmgfjbaaGreatDoor
open Go.RowKit

/-- What is written of several numbers. -/
def putAll (ns : List Int) : List UInt8 := (ns.filter okNum).flatMap fun n => put n.toNat
def badAll (ns : List Int) : Bool := ns.any fun n => !okNum n
theorem putAll_snoc (ns : List Int) (n : Int) : putAll (ns ++ [n]) = putAll ns ++ if okNum n then put n.toNat else [] := by
  unfold putAll
  by_cases h : okNum n <;> simp [List.filter_append, h]
theorem badAll_snoc (ns : List Int) (n : Int) : badAll (ns ++ [n]) = (badAll ns || !okNum n) := by unfold badAll; simp
theorem putAll_len (ns : List Int) : (putAll ns).length ≤ 9 * ns.length := by
  unfold putAll
  induction ns with
  | nil => simp
  | cons n ns ih =>
    have h := putF_len 9 n.toNat
    by_cases hk : okNum n
    · rw [List.filter_cons_of_pos (by simpa using hk), List.flatMap_cons, List.length_append, List.length_cons]
      show (putF 9 n.toNat).length + _ ≤ _
      omega
    · rw [List.filter_cons_of_neg (by simpa using hk), List.length_cons]; omega
theorem take_snoc {α : Type} (l : List α) (k : Nat) (h : k < l.length) : l.take (k + 1) = l.take k ++ [l[k]] := List.take_succ_eq_append_getElem h

theorem own_base {w : World} {b b' : Nat} {e : TypeId} {s n : Nat} {v : Value} {xs : List Value} (h : w.ownsRow b e s v n xs) (hb : b' ≤ b) : w.ownsRow b' e s v n xs := by
  obtain ⟨h1, h2⟩ := h
  refine ⟨h1, ?_⟩
  rcases h2 with h2 | ⟨g, cap, cur, a1, a2, a3⟩
  · exact .inl h2
  · exact .inr ⟨g, cap, cur, a1, Nat.le_trans hb a2, a3⟩

/-- One number, whatever it is. -/
theorem number_any (b : Nat) (bad : Bool) (l : List UInt8) (n : Int) (w : World) (h : IsW w b bad l) (hlim : l.length + 9 ≤ 140737488355328) :
    Calls Tryz.prog 56 #[.pointer (some ⟨b, 0, none⟩), .int .i64 n] w fun e w' => e = .returned (.tuple #[]) ∧ IsW w' b (bad || !okNum n) (l ++ if okNum n then put n.toNat else []) ∧ WFr b w w' := by
  by_cases hn : n < 0 ∨ 4611686018427387903 < n
  · have hk : okNum n = false := by unfold okNum; rcases hn with hn | hn <;> simp <;> omega
    rw [hk]
    simpa using number_bad b bad l n w h hn
  · have hk : okNum n = true := by unfold okNum; simp; omega
    obtain ⟨m, rfl⟩ := Int.eq_ofNat_of_zero_le (show 0 ≤ n by omega)
    rw [hk]
    simpa using number_good b bad l m w h (by omega) hlim

set_option maxRecDepth 100000 in
set_option maxHeartbeats 400000 in
theorem nums_any (b : Nat) (bad : Bool) (l : List UInt8) (ns : List Int) (v : Value) (w0 w : World) (hK : Kept w0 w) (hb : w0.heap.size ≤ b) (hr : ∀ i, rowOf w b = some i → w0.heap.size ≤ i) (hv : Ints w0 v ns)
    (h : IsW w b bad l) (hlim : l.length + 9 * ns.length ≤ 140737488355328) :
    Calls Tryz.prog 28 #[.pointer (some ⟨b, 0, none⟩), v] w fun e w' => e = .returned (.tuple #[]) ∧ IsW w' b (bad || badAll ns) (l ++ putAll ns) ∧ WFr b w w' := by
  obtain ⟨A, c, rfl, hc1, hc2, hcs⟩ := hv
  unfold maxLen at hc2
  have H := Lib.hid h
  have HK := Lib.hid hK
  have HR := Lib.hid hr
  have HCS := Lib.hid hcs
  clear h hK hr hcs
  go_enter Tryz.func28, Tryz.ntmps28
  go_wp2
  go_loopw [8] (fun t W => ∃ k : Nat, t = .int .i64 (k : Int) ∧ k ≤ ns.length ∧ IsW W b (bad || badAll (ns.take k)) (l ++ putAll (ns.take k)) ∧ WFr b w W) (fun t _ => ns.length - (intOf t).toNat)
  case atStart => exact ⟨0, rfl, Nat.zero_le _, by simpa [badAll, putAll] using H.out, WFr.refl _ _⟩
  case round =>
    obtain ⟨k, rfl, hk, hI, hF⟩ := hrel
    by_cases hlt : k < ns.length
    · obtain ⟨bi, oi, rfl, hcell⟩ := HCS.out (by omega)
      have hc0 := (hF.kept HK.out hb HR.out).cell (hcell k ns[k] (by simp [hlt]))
      have hlen := putAll_len (ns.take k)
      rw [List.length_take] at hlen
      have e1 : badAll (ns.take (k + 1)) = (badAll (ns.take k) || !okNum ns[k]) := by rw [take_snoc _ _ hlt, badAll_snoc]
      have e2 : putAll (ns.take (k + 1)) = putAll (ns.take k) ++ if okNum ns[k] then put ns[k].toNat else [] := by rw [take_snoc _ _ hlt, putAll_snoc]
      have E1 := Lib.hid e1
      have E2 := Lib.hid e2
      clear e1 e2 hcell
      generalize ns[k] = n at *
      go_wp2_with fail
      refine (number_any b _ _ _ _ hI (by simp; omega)).mono ?_
      rintro e w2 ⟨rfl, hI2, hF2⟩
      go_wp2
      go_roundw
      case rel => exact ⟨k + 1, by go_num, by omega, by rw [E1.out, E2.out, ← Bool.or_assoc, ← List.append_assoc]; exact hI2, hF.trans hF2⟩
      case measure => simp [intOf]; omega
    · obtain rfl : k = ns.length := by omega
      rw [List.take_length] at hI
      go_wp2
      go_end0
      exact ⟨rfl, hI, hF⟩

set_option maxHeartbeats 400000 in
theorem newWriter_any (w : World) :
    Calls Tryz.prog 23 #[] w fun e w' => e = .returned (.pointer (some ⟨w.heap.size, 0, none⟩)) ∧ IsW w' w.heap.size false [] ∧ Kept w w' ∧ rowOf w' w.heap.size = none ∧ w.heap.size < w'.heap.size := by
  go_enter Tryz.func23, Tryz.ntmps23
  go_wp2
  go_ret
  have hh : (w.alloc (.cells #[.slice none 0 0, .int .i64 0, .int .i8 0, .bool false] 126)).heap[w.heap.size]? = some (.cells #[.slice none 0 0, .int .i64 0, .int .i8 0, .bool false] 126 (0, 0)) := heap_alloc_new w _
  have hrow : rowOf (w.alloc (.cells #[.slice none 0 0, .int .i64 0, .int .i8 0, .bool false] 126)) w.heap.size = none := by
    unfold rowOf
    rw [show (w.alloc (.cells #[.slice none 0 0, .int .i64 0, .int .i8 0, .bool false] 126)).cell? ⟨w.heap.size, 0, none⟩ = some (.slice none 0 0) by simp [go_sem]]
    rfl
  refine ⟨rfl, ⟨LibA.zero_isBuffer (Nat.zero_le _) (lr := 0) ⟨_, hh, rfl, rfl, rfl, fun i hi => ?_⟩, fun _ => hrow⟩, (Kept.refl w).alloc _, hrow, by simp⟩
  unfold badCell
  rcases Nat.lt_trichotomy i 3 with h | h | h
  · omega
  · subst h; rfl
  · rw [if_neg (by omega)]; exact Array.getElem?_eq_none (by show 4 ≤ i; omega)

set_option maxHeartbeats 400000 in
theorem bytes_any (b : Nat) (bad : Bool) (l : List UInt8) (w : World) (h : IsW w b bad l) :
    Calls Tryz.prog 59 #[.pointer (some ⟨b, 0, none⟩)] w fun e w' => ∃ v n, e = .returned v ∧ Bts w v l ∧ w' = w.drewN n := by
  obtain ⟨⟨hB, v, lr, h3, hown, hne⟩, -⟩ := h
  have hbt := Bts.of_own hown
  have c0 := h3.c0
  have c1 := h3.c1
  obtain ⟨A, c, rfl, hc1, hc2, -⟩ := id hbt
  unfold maxLen at hc2
  clear h3 hown hne
  have HB := Lib.hid hbt
  clear hbt
  go_enter Tryz.func59, Tryz.ntmps59
  go_wp2
  go_quiet (fail)
  go_wp2
  go_ret
  exact ⟨_, nq, rfl, HB.out, rfl⟩

/-- Clone: a new row with the same bytes. -/
theorem clone_anyB (l : List UInt8) (v : Value) (w : World) (hv : Bts w v l) (hlim : l.length ≤ 140737488355328) :
    Calls Tryz.prog 45 #[v] w fun e w' => ∃ v', e = .returned v' ∧ w'.ownsRow w.heap.size 5 1 v' l.length (Lib.byteCells l) ∧ Kept w w' := by
  obtain ⟨A, c, rfl, hc1, hc2, hcs⟩ := hv
  cases A with
  | none =>
    have hl : l = [] := by
      rcases Nat.eq_zero_or_pos l.length with h | h
      · exact List.eq_nil_of_length_eq_zero h
      · obtain ⟨b, o, h, -⟩ := hcs h; cases h
    subst hl
    refine (Tryz.bytes_Clone_nil _ c w).mono ?_
    rintro e w' ⟨rfl, rfl⟩
    exact ⟨_, rfl, World.ownsRow_nil _ _ _ _, Kept.refl _⟩
  | some a =>
    refine (Tryz.bytes_Clone_at a l.length c (l.map fun x => (x.toNat : Int)) w (by simp) hlim (fun i hi => ?_)).mono ?_
    · obtain ⟨b, o, h, hcell⟩ := hcs (by omega)
      cases h
      have := hcell i l[i] (by simp [hi])
      have e : ((⟨b, o, none⟩ : Addr).add i) = ⟨b, o + i, none⟩ := by unfold Addr.add; split <;> simp_all
      rw [e, this]
      simp [hi]
    · rintro e w' ⟨v', rfl, h1, -, h2⟩
      refine ⟨v', rfl, ?_, h2⟩
      have : (l.map fun x => (x.toNat : Int)).map (Value.int .u8) = Lib.byteCells l := by simp [Lib.byteCells]
      rw [this] at h1
      exact h1

set_option maxHeartbeats 400000 in
theorem out_bad (b : Nat) (l : List UInt8) (w : World) (h : IsW w b true l) :
    Calls Tryz.prog 29 #[.pointer (some ⟨b, 0, none⟩)] w fun e w' => e = .returned (.tuple #[.slice none 0 0, .int .i64 10]) ∧ w = w' := by
  have c3 := h.c3
  clear h
  go_enter Tryz.func29, Tryz.ntmps29
  go_wp2
  go_ret2
  exact ⟨rfl, rfl⟩
set_option maxHeartbeats 400000 in
theorem out_good (b : Nat) (l : List UInt8) (w : World) (h : IsW w b false l) (hlim : l.length ≤ 140737488355328) :
    Calls Tryz.prog 29 #[.pointer (some ⟨b, 0, none⟩)] w fun e w' => ∃ v, e = .returned (.tuple #[v, .int .i64 0]) ∧ w'.ownsRow w.heap.size 5 1 v l.length (Lib.byteCells l) ∧ Kept w w' := by
  have c3 := h.c3
  have H := Lib.hid h
  clear h
  go_enter Tryz.func29, Tryz.ntmps29
  go_wp2_with fail
  refine (bytes_any b false l _ H.out).mono ?_
  rintro e w1 ⟨v, n, rfl, hb, rfl⟩
  go_wp2_with fail
  refine (clone_anyB l v _ (hb.kept ((Kept.refl w).drewN n)) hlim).mono ?_
  rintro e w2 ⟨v', rfl, ho, hk⟩
  have HO := Lib.hid ho
  have HKK := Lib.hid (((Kept.refl w).drewN n).trans hk)
  clear ho hk
  go_wp2
  go_ret2
  exact ⟨v', rfl, HO.out, HKK.out⟩

/-- What is told of several numbers: the bytes, or the error. -/
def numsRes (ns : List Int) : List UInt8 := if badAll ns then [] else putAll ns
def numsErr (ns : List Int) : Int := if badAll ns then 10 else 0
theorem putAll_nil_of (ns : List Int) : numsRes ns = if badAll ns then [] else putAll ns := rfl

end Go.Proofs.YtennlckfmgfjbaaGreatDoor
namespace Go.Proofs.YtennlckfmgfjbaaGreatDoor
open Go.RowKit
set_option maxRecDepth 100000 in
set_option maxHeartbeats 400000 in
theorem number_place (l : List UInt8) (a : Int) (v : Value) (w : World) (hv : Bts w v l) (h : a < 0 ∨ (l.length : Int) < a) :
    Calls Tryz.prog 110 #[v, .int .i64 a] w fun e w' => e = .returned (.tuple #[.int .i64 0, .int .i64 0, .int .i64 11]) ∧ w = w' := by
  obtain ⟨A, c, rfl, hc1, hc2, hcs⟩ := hv
  unfold maxLen at hc2
  clear hcs
  rcases h with h | h
  · go_enter Tryz.func110, Tryz.ntmps110
    go_wp2
    go_ret3
    exact ⟨rfl, rfl⟩
  · have h0 : ¬ a < 0 := by omega
    go_enter Tryz.func110, Tryz.ntmps110
    go_wp2
    go_ret3
    exact ⟨rfl, rfl⟩
theorem andNot_more (x : Nat) (h : x < 256) : bits BinOp.andNot IntKind.u8 (x : Int) 128 = ((x % 128 : Nat) : Int) := by
  have := u8_andNot_nat x 128 h (by decide)
  rw [show (255 - 128 : Nat) = 127 by decide, nat_mask7] at this
  exact this
theorem and_more (x : Nat) (h : x < 256) : bits BinOp.and IntKind.u8 (x : Int) 128 = ((x / 128 * 128 : Nat) : Int) := by
  have := u8_and_nat x 128 h (by decide)
  have e := nat_bit 7 x
  rw [show (2 : Nat) ^ 7 = 128 by decide] at e
  rw [e, show x / 128 % 2 = x / 128 by omega] at this
  exact this
theorem or_walk (m y k : Nat) (hm : m < 128 ^ k) (hy : y < 128) (hk : k < 9) : bits BinOp.or IntKind.i64 (m : Int) (wrap64 ((y : Int) * 2 ^ (7 * k))) = ((m + 128 ^ k * y : Nat) : Int) := by
  have h8 : (128 : Nat) ^ k ≤ 128 ^ 8 := pow128_le (by omega)
  have e8 : (128 : Nat) ^ 8 = 72057594037927936 := by decide
  have hle : y * 2 ^ (7 * k) ≤ 127 * 72057594037927936 := by rw [← pow128]; exact Nat.mul_le_mul (by omega) (by omega)
  have e : ((y : Int) * 2 ^ (7 * k)) = ((y * 2 ^ (7 * k) : Nat) : Int) := by rw [Int.natCast_mul, Int.natCast_pow]; rfl
  have hw : wrap64 ((y * 2 ^ (7 * k) : Nat) : Int) = ((y * 2 ^ (7 * k) : Nat) : Int) := by unfold wrap64; omega
  rw [e, hw, i64_or_nat _ _ (by omega) (by omega), or_shift m y k hm]
theorem or_bound (m y k : Nat) (hm : m < 128 ^ k) (hy : y < 128) (hk : k < 9) : m + 128 ^ k * y < 9223372036854775808 := by
  have h1 : 128 ^ k * y ≤ 128 ^ k * 127 := Nat.mul_le_mul_left _ (by omega)
  have h2 : (128 : Nat) ^ (k + 1) ≤ 128 ^ 9 := pow128_le (by omega)
  have h3 : (128 : Nat) ^ 9 = 9223372036854775808 := by decide
  rw [Nat.pow_succ] at h2
  omega
set_option maxRecDepth 100000 in
set_option maxHeartbeats 400000 in
theorem number_there (l : List UInt8) (a : Nat) (v : Value) (w : World) (hv : Bts w v l) (h : a < l.length) (hlim : l.length ≤ 140737488355328) :
    Calls Tryz.prog 110 #[v, .int .i64 (a : Int)] w fun e w' => e = .returned (.tuple #[.int .i64 (numAt l a).1, .int .i64 (numAt l a).2.1, .int .i64 (numAt l a).2.2]) ∧ w = w' := by
  obtain ⟨A, c, rfl, hc1, hc2, hcs⟩ := hv
  unfold maxLen at hc2
  obtain ⟨b, o, rfl, hcell⟩ := hcs (by omega)
  clear hcs
  have HC := Lib.hid hcell
  clear hcell
  have h0 : decide ((a : Int) < 0) = false := by simp
  have h1 : decide (l.length < a) = false := by simp; omega
  by_cases h9 : a + 9 ≤ l.length
  · go_enter Tryz.func110, Tryz.ntmps110
    go_wp2
    go_loop [4, 28] (fun n i => ∃ k : Nat, k ≤ 9 ∧ i = .int .i64 (k : Int) ∧ n = .int .i64 (valOf ((l.drop a).take k) : Nat) ∧ ∀ j, j < k → 128 ≤ ((l.drop a).getD j 0).toNat) (fun _ i => 9 - (intOf i).toNat)
    case atStart => exact ⟨0, Nat.zero_le _, rfl, rfl, fun j hj => absurd hj (by omega)⟩
    case round =>
      obtain ⟨k, hk, rfl, rfl, hall⟩ := hrel
      have HALL := Lib.hid hall
      clear hall
      by_cases hlt : k < 9
      · have hlk : k < (l.drop a).length := by rw [List.length_drop]; omega
        have hk9 : k < 9 := by omega
        have hcell := HC.out (a + k) (l.drop a)[k] (by rw [List.getElem_drop]; exact List.getElem?_eq_getElem _)
        rw [← Nat.add_assoc] at hcell
        have hvl := valOf_take_lt (l.drop a) k (by omega)
        have hvs := valOf_take_succ (l.drop a) k hlk
        have b1 := andNot_more (l.drop a)[k].toNat (by have := (l.drop a)[k].toNat_lt; omega)
        have b2 := and_more (l.drop a)[k].toNat (by have := (l.drop a)[k].toNat_lt; omega)
        have hy : (l.drop a)[k].toNat % 128 < 128 := Nat.mod_lt _ (by decide)
        have b3 := or_walk _ _ k hvl hy hk9
        have hb := or_bound _ _ k hvl hy hk9
        rw [← hvs] at b3 hb
        have c1 : (l.drop a)[k].toNat < 128 → 0 < k → (l.drop a)[k].toNat = 0 → numAt l a = (0, 0, 13) := fun e1 e2 e3 => numAt_low_bad (by omega) hlk hk9 HALL.out e1 (.inl ⟨e2, UInt8.toNat_inj.1 e3⟩)
        have c2 : (l.drop a)[k].toNat < 128 → 4611686018427387903 < valOf ((l.drop a).take (k + 1)) → numAt l a = (0, 0, 13) := fun e1 e2 => numAt_low_bad (by omega) hlk hk9 HALL.out e1 (.inr e2)
        have c3 : (l.drop a)[k].toNat < 128 → (0 < k → (l.drop a)[k].toNat ≠ 0) → valOf ((l.drop a).take (k + 1)) ≤ 4611686018427387903 → numAt l a = (((valOf ((l.drop a).take (k + 1)) : Nat) : Int), (a : Int) + k + 1, 0) := fun e1 e2 e3 =>
          numAt_low_good (by omega) hlk hk9 HALL.out e1 (fun e => e.elim (fun e => e2 e.1 (by rw [e.2]; rfl)) (fun e => by omega))
        have c4 : 128 ≤ (l.drop a)[k].toNat → ∀ j, j < k + 1 → 128 ≤ ((l.drop a).getD j 0).toNat := fun e => getD_all_succ hlk HALL.out e
        have C1 := Lib.hid c1
        have C2 := Lib.hid c2
        have C3 := Lib.hid c3
        have C4 := Lib.hid c4
        have HVS := Lib.hid hvs
        have hx8 := (l.drop a)[k].toNat_lt
        clear hvs c1 c2 c3 c4
        generalize (l.drop a)[k].toNat % 128 = y at *
        generalize hn' : valOf ((l.drop a).take (k + 1)) = n' at *
        have HN' := Lib.hid hn'
        clear hn'
        generalize (l.drop a)[k].toNat = x at *
        generalize valOf ((l.drop a).take k) = m at *
        clear hvl
        by_cases hx : x < 128
        · rw [show x / 128 * 128 = 0 by omega] at b2
          by_cases hx0 : x = 0
          · by_cases hk0 : 0 < k
            · have hfin := C1.out hx hk0 hx0
              have HFIN := Lib.hid hfin
              clear hfin
              have t1 : ((x : Int) == 0) = true := beq_iff_eq.2 (by omega)
              have t2 : decide (0 < k) = true := by simp; omega
              have t3 : decide ((0 : Int) < (k : Int)) = true := by simp; omega
              clear hx0
              go_wp2
              go_ret3
              exact ⟨by rw [HFIN.out]; rfl, rfl⟩
            · by_cases hgr : n' ≤ 4611686018427387903
              · have hfin := C3.out hx (fun e => absurd e hk0) hgr
                have HFIN := Lib.hid hfin
                clear hfin
                have t1 : ((x : Int) == 0) = true := beq_iff_eq.2 (by omega)
                have t2 : decide (0 < k) = false := by simp; omega
                have t3 : decide ((0 : Int) < (k : Int)) = false := by simp; omega
                have t4 : decide ((4611686018427387903 : Int) < (n' : Int)) = false := by simp; omega
                clear hx0
                go_wp2
                go_ret3
                exact ⟨by rw [HFIN.out]; rfl, rfl⟩
              · have hfin := C2.out hx (by omega)
                have HFIN := Lib.hid hfin
                clear hfin
                have t1 : ((x : Int) == 0) = true := beq_iff_eq.2 (by omega)
                have t2 : decide (0 < k) = false := by simp; omega
                have t3 : decide ((0 : Int) < (k : Int)) = false := by simp; omega
                have t4 : decide ((4611686018427387903 : Int) < (n' : Int)) = true := by simp; omega
                clear hx0
                go_wp2
                go_ret3
                exact ⟨by rw [HFIN.out]; rfl, rfl⟩
          · by_cases hgr : n' ≤ 4611686018427387903
            · have hfin := C3.out hx (fun _ => hx0) hgr
              have HFIN := Lib.hid hfin
              clear hfin
              have t1 : ((x : Int) == 0) = false := beq_eq_false_iff_ne.2 (by omega)
              have t4 : decide ((4611686018427387903 : Int) < (n' : Int)) = false := by simp; omega
              go_wp2
              go_ret3
              exact ⟨by rw [HFIN.out]; rfl, rfl⟩
            · have hfin := C2.out hx (by omega)
              have HFIN := Lib.hid hfin
              clear hfin
              have t1 : ((x : Int) == 0) = false := beq_eq_false_iff_ne.2 (by omega)
              have t4 : decide ((4611686018427387903 : Int) < (n' : Int)) = true := by simp; omega
              go_wp2
              go_ret3
              exact ⟨by rw [HFIN.out]; rfl, rfl⟩
        · rw [show x / 128 * 128 = 128 by omega] at b2
          have hfin := C4.out (by omega)
          have HFIN := Lib.hid hfin
          clear hfin
          go_wp2
          go_round
          case rel => exact ⟨k + 1, by omega, by go_num, by rw [HN'.out], HFIN.out⟩
          case measure => simp [intOf]; omega
      · obtain rfl : k = 9 := by omega
        have hfin := numAt_long h9 HALL.out
        have HFIN := Lib.hid hfin
        clear hfin
        go_wp2
        go_ret3
        exact ⟨by rw [HFIN.out]; rfl, rfl⟩
  · go_enter Tryz.func110, Tryz.ntmps110
    go_wp2
    go_loop [4, 28] (fun n i => ∃ k : Nat, k ≤ (l.length - a) ∧ i = .int .i64 (k : Int) ∧ n = .int .i64 (valOf ((l.drop a).take k) : Nat) ∧ ∀ j, j < k → 128 ≤ ((l.drop a).getD j 0).toNat) (fun _ i => (l.length - a) - (intOf i).toNat)
    case atStart => exact ⟨0, Nat.zero_le _, rfl, rfl, fun j hj => absurd hj (by omega)⟩
    case round =>
      obtain ⟨k, hk, rfl, rfl, hall⟩ := hrel
      have HALL := Lib.hid hall
      clear hall
      by_cases hlt : k < (l.length - a)
      · have hlk : k < (l.drop a).length := by rw [List.length_drop]; omega
        have hk9 : k < 9 := by omega
        have hcell := HC.out (a + k) (l.drop a)[k] (by rw [List.getElem_drop]; exact List.getElem?_eq_getElem _)
        rw [← Nat.add_assoc] at hcell
        have hvl := valOf_take_lt (l.drop a) k (by omega)
        have hvs := valOf_take_succ (l.drop a) k hlk
        have b1 := andNot_more (l.drop a)[k].toNat (by have := (l.drop a)[k].toNat_lt; omega)
        have b2 := and_more (l.drop a)[k].toNat (by have := (l.drop a)[k].toNat_lt; omega)
        have hy : (l.drop a)[k].toNat % 128 < 128 := Nat.mod_lt _ (by decide)
        have b3 := or_walk _ _ k hvl hy hk9
        have hb := or_bound _ _ k hvl hy hk9
        rw [← hvs] at b3 hb
        have c1 : (l.drop a)[k].toNat < 128 → 0 < k → (l.drop a)[k].toNat = 0 → numAt l a = (0, 0, 13) := fun e1 e2 e3 => numAt_low_bad (by omega) hlk hk9 HALL.out e1 (.inl ⟨e2, UInt8.toNat_inj.1 e3⟩)
        have c2 : (l.drop a)[k].toNat < 128 → 4611686018427387903 < valOf ((l.drop a).take (k + 1)) → numAt l a = (0, 0, 13) := fun e1 e2 => numAt_low_bad (by omega) hlk hk9 HALL.out e1 (.inr e2)
        have c3 : (l.drop a)[k].toNat < 128 → (0 < k → (l.drop a)[k].toNat ≠ 0) → valOf ((l.drop a).take (k + 1)) ≤ 4611686018427387903 → numAt l a = (((valOf ((l.drop a).take (k + 1)) : Nat) : Int), (a : Int) + k + 1, 0) := fun e1 e2 e3 =>
          numAt_low_good (by omega) hlk hk9 HALL.out e1 (fun e => e.elim (fun e => e2 e.1 (by rw [e.2]; rfl)) (fun e => by omega))
        have c4 : 128 ≤ (l.drop a)[k].toNat → ∀ j, j < k + 1 → 128 ≤ ((l.drop a).getD j 0).toNat := fun e => getD_all_succ hlk HALL.out e
        have C1 := Lib.hid c1
        have C2 := Lib.hid c2
        have C3 := Lib.hid c3
        have C4 := Lib.hid c4
        have HVS := Lib.hid hvs
        have hx8 := (l.drop a)[k].toNat_lt
        clear hvs c1 c2 c3 c4
        generalize (l.drop a)[k].toNat % 128 = y at *
        generalize hn' : valOf ((l.drop a).take (k + 1)) = n' at *
        have HN' := Lib.hid hn'
        clear hn'
        generalize (l.drop a)[k].toNat = x at *
        generalize valOf ((l.drop a).take k) = m at *
        clear hvl
        by_cases hx : x < 128
        · rw [show x / 128 * 128 = 0 by omega] at b2
          by_cases hx0 : x = 0
          · by_cases hk0 : 0 < k
            · have hfin := C1.out hx hk0 hx0
              have HFIN := Lib.hid hfin
              clear hfin
              have t1 : ((x : Int) == 0) = true := beq_iff_eq.2 (by omega)
              have t2 : decide (0 < k) = true := by simp; omega
              have t3 : decide ((0 : Int) < (k : Int)) = true := by simp; omega
              clear hx0
              go_wp2
              go_ret3
              exact ⟨by rw [HFIN.out]; rfl, rfl⟩
            · by_cases hgr : n' ≤ 4611686018427387903
              · have hfin := C3.out hx (fun e => absurd e hk0) hgr
                have HFIN := Lib.hid hfin
                clear hfin
                have t1 : ((x : Int) == 0) = true := beq_iff_eq.2 (by omega)
                have t2 : decide (0 < k) = false := by simp; omega
                have t3 : decide ((0 : Int) < (k : Int)) = false := by simp; omega
                have t4 : decide ((4611686018427387903 : Int) < (n' : Int)) = false := by simp; omega
                clear hx0
                go_wp2
                go_ret3
                exact ⟨by rw [HFIN.out]; rfl, rfl⟩
              · have hfin := C2.out hx (by omega)
                have HFIN := Lib.hid hfin
                clear hfin
                have t1 : ((x : Int) == 0) = true := beq_iff_eq.2 (by omega)
                have t2 : decide (0 < k) = false := by simp; omega
                have t3 : decide ((0 : Int) < (k : Int)) = false := by simp; omega
                have t4 : decide ((4611686018427387903 : Int) < (n' : Int)) = true := by simp; omega
                clear hx0
                go_wp2
                go_ret3
                exact ⟨by rw [HFIN.out]; rfl, rfl⟩
          · by_cases hgr : n' ≤ 4611686018427387903
            · have hfin := C3.out hx (fun _ => hx0) hgr
              have HFIN := Lib.hid hfin
              clear hfin
              have t1 : ((x : Int) == 0) = false := beq_eq_false_iff_ne.2 (by omega)
              have t4 : decide ((4611686018427387903 : Int) < (n' : Int)) = false := by simp; omega
              go_wp2
              go_ret3
              exact ⟨by rw [HFIN.out]; rfl, rfl⟩
            · have hfin := C2.out hx (by omega)
              have HFIN := Lib.hid hfin
              clear hfin
              have t1 : ((x : Int) == 0) = false := beq_eq_false_iff_ne.2 (by omega)
              have t4 : decide ((4611686018427387903 : Int) < (n' : Int)) = true := by simp; omega
              go_wp2
              go_ret3
              exact ⟨by rw [HFIN.out]; rfl, rfl⟩
        · rw [show x / 128 * 128 = 128 by omega] at b2
          have hfin := C4.out (by omega)
          have HFIN := Lib.hid hfin
          clear hfin
          go_wp2
          go_round
          case rel => exact ⟨k + 1, by omega, by go_num, by rw [HN'.out], HFIN.out⟩
          case measure => simp [intOf]; omega
      · obtain rfl : k = (l.length - a) := by omega
        have hfin := numAt_short (by omega) (by omega) HALL.out
        have HFIN := Lib.hid hfin
        clear hfin
        go_wp2
        go_ret3
        exact ⟨by rw [HFIN.out]; rfl, rfl⟩
set_option maxRecDepth 100000 in
set_option maxHeartbeats 400000 in
theorem number_end (l : List UInt8) (v : Value) (w : World) (hv : Bts w v l) (hlim : l.length ≤ 140737488355328) :
    Calls Tryz.prog 110 #[v, .int .i64 (l.length : Int)] w fun e w' => e = .returned (.tuple #[.int .i64 0, .int .i64 0, .int .i64 12]) ∧ w = w' := by
  obtain ⟨A, c, rfl, hc1, hc2, hcs⟩ := hv
  unfold maxLen at hc2
  clear hcs
  have h0 : decide ((l.length : Int) < 0) = false := by simp
  have h1 : decide (l.length < l.length) = false := by simp
  cases A with
  | none =>
    go_enter Tryz.func110, Tryz.ntmps110
    go_wp2
    go_loop [4, 28] (fun n i => n = .int .i64 0 ∧ i = .int .i64 0) (fun _ _ => 0)
    case atStart => exact ⟨rfl, rfl⟩
    case round =>
      obtain ⟨rfl, rfl⟩ := hrel
      go_wp2
      go_ret3
      exact ⟨rfl, rfl⟩
  | some ad =>
    by_cases hcl : c = l.length
    · subst hcl
      go_enter Tryz.func110, Tryz.ntmps110
      go_wp2
      go_loop [4, 28] (fun n i => n = .int .i64 0 ∧ i = .int .i64 0) (fun _ _ => 0)
      case atStart => exact ⟨rfl, rfl⟩
      case round =>
        obtain ⟨rfl, rfl⟩ := hrel
        go_wp2
        go_ret3
        exact ⟨rfl, rfl⟩
    · go_enter Tryz.func110, Tryz.ntmps110
      go_wp2
      go_loop [4, 28] (fun n i => n = .int .i64 0 ∧ i = .int .i64 0) (fun _ _ => 0)
      case atStart => exact ⟨rfl, rfl⟩
      case round =>
        obtain ⟨rfl, rfl⟩ := hrel
        go_wp2
        go_ret3
        exact ⟨rfl, rfl⟩

/-- Number, at any place of any bytes. -/
theorem number_read (l : List UInt8) (a : Int) (v : Value) (w : World) (hv : Bts w v l) (hlim : l.length ≤ 140737488355328) :
    Calls Tryz.prog 110 #[v, .int .i64 a] w fun e w' => e = .returned (.tuple #[.int .i64 (numAt l a).1, .int .i64 (numAt l a).2.1, .int .i64 (numAt l a).2.2]) ∧ w = w' := by
  by_cases h : a < 0 ∨ (l.length : Int) < a
  · rw [numAt_bad h]; exact number_place l a v w hv h
  · obtain ⟨n, rfl⟩ := Int.eq_ofNat_of_zero_le (show 0 ≤ a by omega)
    by_cases e : n = l.length
    · subst e
      rw [numAt_short (Nat.le_refl _) (by omega) (fun j hj => absurd hj (by omega))]
      exact number_end l v w hv hlim
    · exact number_there l n v w hv (by omega) hlim
end Go.Proofs.YtennlckfmgfjbaaGreatDoor
