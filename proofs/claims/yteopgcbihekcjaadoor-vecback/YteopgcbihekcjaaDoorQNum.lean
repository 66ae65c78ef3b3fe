/- The walks of Nums, NewWriter, Bytes, Clone, Out, Numbers. -/
import Derived.Test.YteopgcbihekcjaaDoorGBufW2
namespace Go.Proofs.YteopgcbihekcjaaDoor
open Go.RowKit

/-- What is written of several numbers. -/
def putAll (ns : List Int) : List UInt8 := (ns.filter okNum).flatMap fun n => put n.toNat
def badAll (ns : List Int) : Bool := ns.any fun n => !okNum n
theorem putAll_snoc (ns : List Int) (n : Int) : putAll (ns ++ [n]) = putAll ns ++ if okNum n then put n.toNat else [] := by
  unfold putAll
  by_cases h : okNum n <;> simp [List.filter_append, h]
theorem badAll_snoc (ns : List Int) (n : Int) : badAll (ns ++ [n]) = (badAll ns || !okNum n) := by unfold badAll; simp
theorem putAll_len (ns : List Int) : (putAll ns).length ≤ 9 * ns.length := by
  unfold putAll
  induction ns with
  | nil => simp
  | cons n ns ih =>
    have h := putF_len 9 n.toNat
    by_cases hk : okNum n
    · rw [List.filter_cons_of_pos (by simpa using hk), List.flatMap_cons, List.length_append, List.length_cons]
      show (putF 9 n.toNat).length + _ ≤ _
      omega
    · rw [List.filter_cons_of_neg (by simpa using hk), List.length_cons]; omega
theorem take_snoc {α : Type} (l : List α) (k : Nat) (h : k < l.length) : l.take (k + 1) = l.take k ++ [l[k]] := List.take_succ_eq_append_getElem h

theorem own_base {w : World} {b b' : Nat} {e : TypeId} {s n : Nat} {v : Value} {xs : List Value} (h : w.ownsRow b e s v n xs) (hb : b' ≤ b) : w.ownsRow b' e s v n xs := by
  obtain ⟨h1, h2⟩ := h
  refine ⟨h1, ?_⟩
  rcases h2 with h2 | ⟨g, cap, cur, a1, a2, a3⟩
  · exact .inl h2
  · exact .inr ⟨g, cap, cur, a1, Nat.le_trans hb a2, a3⟩

/-- One number, whatever it is. -/
theorem number_any (b : Nat) (bad : Bool) (l : List UInt8) (n : Int) (w : World) (h : IsW w b bad l) (hlim : l.length + 9 ≤ 140737488355328) :
    Calls Tryd.prog 32 #[.pointer (some ⟨b, 0, none⟩), .int .i64 n] w fun e w' => e = .returned (.tuple #[]) ∧ IsW w' b (bad || !okNum n) (l ++ if okNum n then put n.toNat else []) ∧ WFr b w w' := by
  by_cases hn : n < 0 ∨ 4611686018427387903 < n
  · have hk : okNum n = false := by unfold okNum; rcases hn with hn | hn <;> simp <;> omega
    rw [hk]
    simpa using number_bad b bad l n w h hn
  · have hk : okNum n = true := by unfold okNum; simp; omega
    obtain ⟨m, rfl⟩ := Int.eq_ofNat_of_zero_le (show 0 ≤ n by omega)
    rw [hk]
    simpa using number_good b bad l m w h (by omega) hlim

set_option maxRecDepth 100000 in
set_option maxHeartbeats 400000 in
theorem nums_any (b : Nat) (bad : Bool) (l : List UInt8) (ns : List Int) (v : Value) (w0 w : World) (hK : Kept w0 w) (hb : w0.heap.size ≤ b) (hr : ∀ i, rowOf w b = some i → w0.heap.size ≤ i) (hv : Ints w0 v ns)
    (h : IsW w b bad l) (hlim : l.length + 9 * ns.length ≤ 140737488355328) :
    Calls Tryd.prog 19 #[.pointer (some ⟨b, 0, none⟩), v] w fun e w' => e = .returned (.tuple #[]) ∧ IsW w' b (bad || badAll ns) (l ++ putAll ns) ∧ WFr b w w' := by
  obtain ⟨A, c, rfl, hc1, hc2, hcs⟩ := hv
  unfold maxLen at hc2
  have H := Lib.hid h
  have HK := Lib.hid hK
  have HR := Lib.hid hr
  have HCS := Lib.hid hcs
  clear h hK hr hcs
  go_enter Tryd.func19, Tryd.ntmps19
  go_wp2
  go_loopw [8] (fun t W => ∃ k : Nat, t = .int .i64 (k : Int) ∧ k ≤ ns.length ∧ IsW W b (bad || badAll (ns.take k)) (l ++ putAll (ns.take k)) ∧ WFr b w W) (fun t _ => ns.length - (intOf t).toNat)
  case atStart => exact ⟨0, rfl, Nat.zero_le _, by simpa [badAll, putAll] using H.out, WFr.refl _ _⟩
  case round =>
    obtain ⟨k, rfl, hk, hI, hF⟩ := hrel
    by_cases hlt : k < ns.length
    · obtain ⟨bi, oi, rfl, hcell⟩ := HCS.out (by omega)
      have hc0 := (hF.kept HK.out hb HR.out).cell (hcell k ns[k] (by simp [hlt]))
      have hlen := putAll_len (ns.take k)
      rw [List.length_take] at hlen
      have e1 : badAll (ns.take (k + 1)) = (badAll (ns.take k) || !okNum ns[k]) := by rw [take_snoc _ _ hlt, badAll_snoc]
      have e2 : putAll (ns.take (k + 1)) = putAll (ns.take k) ++ if okNum ns[k] then put ns[k].toNat else [] := by rw [take_snoc _ _ hlt, putAll_snoc]
      have E1 := Lib.hid e1
      have E2 := Lib.hid e2
      clear e1 e2 hcell
      generalize ns[k] = n at *
      go_wp2_with fail
      refine (number_any b _ _ _ _ hI (by simp; omega)).mono ?_
      rintro e w2 ⟨rfl, hI2, hF2⟩
      go_wp2
      go_roundw
      case rel => exact ⟨k + 1, by go_num, by omega, by rw [E1.out, E2.out, ← Bool.or_assoc, ← List.append_assoc]; exact hI2, hF.trans hF2⟩
      case measure => simp [intOf]; omega
    · obtain rfl : k = ns.length := by omega
      rw [List.take_length] at hI
      go_wp2
      go_end0
      exact ⟨rfl, hI, hF⟩

set_option maxHeartbeats 400000 in
theorem newWriter_any (w : World) :
    Calls Tryd.prog 18 #[] w fun e w' => e = .returned (.pointer (some ⟨w.heap.size, 0, none⟩)) ∧ IsW w' w.heap.size false [] ∧ Kept w w' ∧ rowOf w' w.heap.size = none ∧ w.heap.size < w'.heap.size := by
  go_enter Tryd.func18, Tryd.ntmps18
  go_wp2
  go_ret
  have hh : (w.alloc (.cells #[.slice none 0 0, .int .i64 0, .int .i8 0, .bool false] 69)).heap[w.heap.size]? = some (.cells #[.slice none 0 0, .int .i64 0, .int .i8 0, .bool false] 69 (0, 0)) := heap_alloc_new w _
  have hrow : rowOf (w.alloc (.cells #[.slice none 0 0, .int .i64 0, .int .i8 0, .bool false] 69)) w.heap.size = none := by
    unfold rowOf
    rw [show (w.alloc (.cells #[.slice none 0 0, .int .i64 0, .int .i8 0, .bool false] 69)).cell? ⟨w.heap.size, 0, none⟩ = some (.slice none 0 0) by simp [go_sem]]
    rfl
  refine ⟨rfl, ⟨LibA.zero_isBuffer (Nat.zero_le _) (lr := 0) ⟨_, hh, rfl, rfl, rfl, fun i hi => ?_⟩, fun _ => hrow⟩, (Kept.refl w).alloc _, hrow, by simp⟩
  unfold badCell
  rcases Nat.lt_trichotomy i 3 with h | h | h
  · omega
  · subst h; rfl
  · rw [if_neg (by omega)]; exact Array.getElem?_eq_none (by show 4 ≤ i; omega)

set_option maxHeartbeats 400000 in
theorem bytes_any (b : Nat) (bad : Bool) (l : List UInt8) (w : World) (h : IsW w b bad l) :
    Calls Tryd.prog 34 #[.pointer (some ⟨b, 0, none⟩)] w fun e w' => ∃ v n, e = .returned v ∧ Bts w v l ∧ w' = w.drewN n := by
  obtain ⟨⟨hB, v, lr, h3, hown, hne⟩, -⟩ := h
  have hbt := Bts.of_own hown
  have c0 := h3.c0
  have c1 := h3.c1
  obtain ⟨A, c, rfl, hc1, hc2, -⟩ := id hbt
  unfold maxLen at hc2
  clear h3 hown hne
  have HB := Lib.hid hbt
  clear hbt
  go_enter Tryd.func34, Tryd.ntmps34
  go_wp2
  go_quiet (fail)
  go_wp2
  go_ret
  exact ⟨_, nq, rfl, HB.out, rfl⟩

/-- Clone: a new row with the same bytes. -/
theorem clone_anyB (l : List UInt8) (v : Value) (w : World) (hv : Bts w v l) (hlim : l.length ≤ 140737488355328) :
    Calls Tryd.prog 33 #[v] w fun e w' => ∃ v', e = .returned v' ∧ w'.ownsRow w.heap.size 5 1 v' l.length (Lib.byteCells l) ∧ Kept w w' := by
  obtain ⟨A, c, rfl, hc1, hc2, hcs⟩ := hv
  cases A with
  | none =>
    have hl : l = [] := by
      rcases Nat.eq_zero_or_pos l.length with h | h
      · exact List.eq_nil_of_length_eq_zero h
      · obtain ⟨b, o, h, -⟩ := hcs h; cases h
    subst hl
    refine (Tryd.bytes_Clone_nil _ c w).mono ?_
    rintro e w' ⟨rfl, rfl⟩
    exact ⟨_, rfl, World.ownsRow_nil _ _ _ _, Kept.refl _⟩
  | some a =>
    refine (Tryd.bytes_Clone_at a l.length c (l.map fun x => (x.toNat : Int)) w (by simp) hlim (fun i hi => ?_)).mono ?_
    · obtain ⟨b, o, h, hcell⟩ := hcs (by omega)
      cases h
      have := hcell i l[i] (by simp [hi])
      have e : ((⟨b, o, none⟩ : Addr).add i) = ⟨b, o + i, none⟩ := by unfold Addr.add; split <;> simp_all
      rw [e, this]
      simp [hi]
    · rintro e w' ⟨v', rfl, h1, -, h2⟩
      refine ⟨v', rfl, ?_, h2⟩
      have : (l.map fun x => (x.toNat : Int)).map (Value.int .u8) = Lib.byteCells l := by simp [Lib.byteCells]
      rw [this] at h1
      exact h1

set_option maxHeartbeats 400000 in
theorem out_bad (b : Nat) (l : List UInt8) (w : World) (h : IsW w b true l) :
    Calls Tryd.prog 20 #[.pointer (some ⟨b, 0, none⟩)] w fun e w' => e = .returned (.tuple #[.slice none 0 0, .int .i64 10]) ∧ w = w' := by
  have c3 := h.c3
  clear h
  go_enter Tryd.func20, Tryd.ntmps20
  go_wp2
  go_ret2
  exact ⟨rfl, rfl⟩
set_option maxHeartbeats 400000 in
theorem out_good (b : Nat) (l : List UInt8) (w : World) (h : IsW w b false l) (hlim : l.length ≤ 140737488355328) :
    Calls Tryd.prog 20 #[.pointer (some ⟨b, 0, none⟩)] w fun e w' => ∃ v, e = .returned (.tuple #[v, .int .i64 0]) ∧ w'.ownsRow w.heap.size 5 1 v l.length (Lib.byteCells l) ∧ Kept w w' := by
  have c3 := h.c3
  have H := Lib.hid h
  clear h
  go_enter Tryd.func20, Tryd.ntmps20
  go_wp2_with fail
  refine (bytes_any b false l _ H.out).mono ?_
  rintro e w1 ⟨v, n, rfl, hb, rfl⟩
  go_wp2_with fail
  refine (clone_anyB l v _ (hb.kept ((Kept.refl w).drewN n)) hlim).mono ?_
  rintro e w2 ⟨v', rfl, ho, hk⟩
  have HO := Lib.hid ho
  have HKK := Lib.hid (((Kept.refl w).drewN n).trans hk)
  clear ho hk
  go_wp2
  go_ret2
  exact ⟨v', rfl, HO.out, HKK.out⟩

/-- What is told of several numbers: the bytes, or the error. -/
def numsRes (ns : List Int) : List UInt8 := if badAll ns then [] else putAll ns
def numsErr (ns : List Int) : Int := if badAll ns then 10 else 0
theorem putAll_nil_of (ns : List Int) : numsRes ns = if badAll ns then [] else putAll ns := rfl

end Go.Proofs.YteopgcbihekcjaaDoor
