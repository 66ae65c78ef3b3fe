/- The library's copies and Delete, in these words. -/
import Derived.Test.YtnpenabkmpoafaaQNNet
import Derived.Test.YtnpenabkmpoafaaQDShelf
import Derived.Test.YtnpenabkmpoafaaQShelf2
import Derived.Lib.RowBridge
set_option linter.unusedSimpArgs false
set_option linter.unusedVariables false
namespace Go.Proofs.Ytnpenabkmpoafaa
open Go.RowKit
/-- bytes.Clone: a row of its own. -/
theorem bclone_any (l : List UInt8) (v : Value) (w : World) (hv : Bts w v l) (hl : l.length ≤ 140737488355328) :
    Calls Try.prog 33 #[v] w fun e w' => ∃ v', e = .returned v' ∧ w'.ownsRow w.heap.size 5 1 v' l.length (Lib.byteCells l) ∧ Kept w w' := by
  obtain ⟨A, c, rfl, h1, h2, h3⟩ := hv
  cases A with
  | none =>
    have hm : l = [] := by
      rcases Nat.eq_zero_or_pos l.length with h | h
      · exact List.eq_nil_of_length_eq_zero h
      · obtain ⟨b, o, h, -⟩ := h3 h; cases h
    subst hm
    refine (Try.bytes_Clone_nil _ c w).mono ?_
    rintro e w' ⟨rfl, rfl⟩
    exact ⟨_, rfl, World.ownsRow_nil _ _ _ _, Kept.refl _⟩
  | some a =>
    have e : (l.map fun b : UInt8 => (b.toNat : Int)).map (Value.int .u8) = Lib.byteCells l := by simp [Lib.byteCells]
    refine (Try.bytes_Clone_at a l.length c (l.map fun b => (b.toNat : Int)) w (by simp) hl (fun i hi => ?_)).mono ?_
    · obtain ⟨b, o, h, hc⟩ := h3 (by omega)
      cases h
      have e : ((⟨b, o, none⟩ : Addr).add i) = ⟨b, o + i, none⟩ := by unfold Addr.add; split <;> simp_all
      rw [e, hc i l[i] (by simp [hi])]
      simp [List.getD, hi]
    · rintro e' w' ⟨v', rfl, h4, -, h5⟩
      rw [e] at h4
      exact ⟨v', rfl, h4, h5⟩
def setL : List Value → Nat → List Value → List Value
  | xs, _, [] => xs
  | xs, j, u :: us => setL (xs.set j u) (j + 1) us
theorem setL_len (us : List Value) : ∀ xs j, (setL xs j us).length = xs.length := by
  induction us with
  | nil => intro xs j; rfl
  | cons u us ih =>
    intro xs j
    show (setL (xs.set j u) (j + 1) us).length = _
    rw [ih, List.length_set]
theorem setL_take (us : List Value) : ∀ xs j k, k ≤ j → (setL xs j us).take k = xs.take k := by
  induction us with
  | nil => intro xs j k h; rfl
  | cons u us ih =>
    intro xs j k h
    show (setL (xs.set j u) (j + 1) us).take k = _
    rw [ih _ _ _ (by omega), List.take_set, List.set_eq_of_length_le (by rw [List.length_take]; omega)]
theorem setL_here (us : List Value) : ∀ xs j, j + us.length ≤ xs.length → (setL xs j us).take (j + us.length) = xs.take j ++ us := by
  induction us with
  | nil => intro xs j h; simp [setL]
  | cons u us ih =>
    intro xs j h
    rw [List.length_cons] at h
    have := ih (xs.set j u) (j + 1) (by rw [List.length_set]; omega)
    show (setL (xs.set j u) (j + 1) us).take _ = _
    rw [List.length_cons, show j + (us.length + 1) = j + 1 + us.length by omega, this, List.take_succ_eq_append_getElem (by rw [List.length_set]; omega), List.take_set, List.set_eq_of_length_le (by rw [List.length_take]; omega)]
    simp
theorem own_setCells {b : Nat} {e : TypeId} {s n : Nat} {v : Value} {g : Nat} (hv : v.ownBlock = some g) (us : List Value) : ∀ (j : Nat) (w : World) (xs : List Value), w.ownsRow b e s v n xs → (w.setCells g j us).ownsRow b e s v n (setL xs j us) := by
  induction us with
  | nil => intro j w xs h; exact h
  | cons u us ih =>
    intro j w xs h
    exact ih (j + 1) _ _ (own_set h hv j u)
theorem chg_setCells {F : Nat → Prop} {w : World} {b : Nat} (hb : b < w.heap.size → F b) (us : List Value) : ∀ (o : Nat) (w' : World), Chg F w w' → Chg F w (w'.setCells b o us) := by
  induction us with
  | nil => intro o w' h; exact h
  | cons u us ih =>
    intro o w' h
    exact ih (o + 1) _ (h.setCell u hb)
/-- The front of a row. -/
theorem own_front {w : World} {b : Nat} {e : TypeId} {s n c : Nat} {A : Option Addr} {xs : List Value} (h : w.ownsRow b e s (.slice A n c) n xs) {k : Nat} (hk : k ≤ n) : w.ownsRow b e s (.slice A k c) k (xs.take (k * s)) := by
  obtain ⟨h1, h2⟩ := h
  have hks : k * s ≤ n * s := Nat.mul_le_mul_right s hk
  refine ⟨by rw [List.length_take]; omega, ?_⟩
  rcases h2 with ⟨e1, e2⟩ | ⟨g, cap, cur, e1, a1, a2, a3, a4, a5, a6⟩
  · obtain ⟨rfl, -, rfl⟩ : A = none ∧ n = 0 ∧ c = 0 := by simpa using e1
    obtain rfl : k = 0 := by omega
    exact .inl ⟨rfl, rfl⟩
  · obtain ⟨rfl, -, rfl⟩ : A = some ⟨g, 0, none⟩ ∧ n = n ∧ c = cap := by simpa using e1
    refine .inr ⟨g, c, cur, rfl, a1, a2, by omega, a4, a5, ?_⟩
    rw [← a6, List.take_take, Nat.min_eq_left hks]
/-- A slice, as its three parts. -/
abbrev Sp := Option Addr × Nat × Nat
def encS (x : Sp) : Value := .slice x.1 x.2.1 x.2.2
theorem enc_list {xs : List Value} (h : ∀ x ∈ xs, ∃ A n c, x = Value.slice A n c) : ∃ d : List Sp, d.map encS = xs := by
  induction xs with
  | nil => exact ⟨[], rfl⟩
  | cons x r ih =>
    obtain ⟨A, n, c, rfl⟩ := h x (by simp)
    obtain ⟨d, rfl⟩ := ih (fun y hy => h y (by simp [hy]))
    exact ⟨(A, n, c) :: d, rfl⟩
theorem info_bytes : ∃ i, Try.prog.info? 54 = some i ∧ i.size = 1 := by
  obtain ⟨i, z, h1, -, h2, -⟩ := elemB.info
  exact ⟨i, h1, h2⟩
theorem delete_any (v : Value) (xs : List Value) (i : Nat) (w : World) (h : w.ownsRow 0 54 1 v xs.length xs) (hx : ∀ x ∈ xs, ∃ A n c, x = Value.slice A n c) (hi : i < xs.length) :
    Calls Try.prog 35 #[v, .int .i64 (i : Int), .int .i64 ((i + 1 : Nat) : Int)] w fun e w' => ∃ v', e = .returned v' ∧ w'.ownsRow 0 54 1 v' (xs.eraseIdx i).length (xs.eraseIdx i) ∧ v'.ownBlock = v.ownBlock ∧ Chg (fun g => v.ownBlock = some g) w w' := by
  obtain ⟨d, rfl⟩ := enc_list hx
  rw [List.length_map] at hi h
  obtain ⟨inf, h1, h2⟩ := info_bytes
  have hrow := h
  rcases h.2 with ⟨rfl, h0⟩ | ⟨g, cap, cur, rfl, a1, a2, a3, a4, a5, a6⟩
  · omega
  · have ha : ∀ j, ((⟨g, 0, none⟩ : Addr).add j) = ⟨g, j, none⟩ := fun j => by unfold Addr.add; split <;> simp_all
    have hH : Go.Sort.Holds encS w g 0 d.toArray := by
      intro j hj
      have hj : j < d.length := by simpa using hj
      have c1 := hrow.cells (g := g) rfl j (encS d[j]) (by simp [hj])
      rw [ha] at c1
      refine ⟨?_, frozen_at a2 _⟩
      rw [Nat.zero_add, c1]
      simp [hj]
    refine (AnyE.slices_Delete Try.laysDel encS (fun _ => rfl) (none, 0, 0) Try.zeroValue54 inf h1 h2 g 0 cap i (i + 1) d.toArray w hH (by simpa using a3) (by unfold maxLen at a4; exact a4) (by omega) (by simp; omega)).mono ?_
    rintro e w' ⟨rfl, q, rfl⟩
    have hy : (d.take i ++ d.drop (i + 1) ++ List.replicate (i + 1 - i) ((none, 0, 0) : Sp)).length = d.length := by
      simp; omega
    have hw : Go.Sort.putRow encS (Go.Sort.ahead w q) g 0 (d.toArray.toList.take i ++ d.toArray.toList.drop (i + 1) ++ List.replicate (i + 1 - i) ((none, 0, 0) : Sp)).toArray = (w.drewN q).setCells g 0 ((d.take i ++ d.drop (i + 1) ++ List.replicate (i + 1 - i) ((none, 0, 0) : Sp)).map encS) :=
      Go.Lib.putRow_eq_setCells encS w g 0 d.toArray _ q hH (by simpa using hy)
    rw [hw]
    have he : (d.map encS).eraseIdx i = (d.eraseIdx i).map encS := by rw [List.eraseIdx_eq_take_drop_succ, List.eraseIdx_eq_take_drop_succ, List.map_append, List.map_take, List.map_drop]
    have hel : (d.eraseIdx i).length = d.length - 1 := List.length_eraseIdx_of_lt hi
    have hC : Chg (fun k => k = g) w ((w.drewN q).setCells g 0 ((d.take i ++ d.drop (i + 1) ++ List.replicate (i + 1 - i) ((none, 0, 0) : Sp)).map encS)) := chg_setCells (F := fun k => k = g) (fun _ => rfl) _ _ _ ((Chg.refl _ w).drewN q)
    have hr := own_setCells (g := g) rfl ((d.take i ++ d.drop (i + 1) ++ List.replicate (i + 1 - i) ((none, 0, 0) : Sp)).map encS) 0 _ _ (own_kept hrow ((Kept.refl w).drewN q))
    have hs : setL (d.map encS) 0 ((d.take i ++ d.drop (i + 1) ++ List.replicate (i + 1 - i) ((none, 0, 0) : Sp)).map encS) = (d.take i ++ d.drop (i + 1) ++ List.replicate (i + 1 - i) ((none, 0, 0) : Sp)).map encS := by
      have h1 := setL_here ((d.take i ++ d.drop (i + 1) ++ List.replicate (i + 1 - i) ((none, 0, 0) : Sp)).map encS) (d.map encS) 0 (by rw [List.length_map, List.length_map]; omega)
      rw [Nat.zero_add, List.take_zero, List.nil_append] at h1
      rw [List.take_of_length_le (by rw [setL_len, List.length_map, List.length_map]; omega)] at h1
      exact h1
    rw [hs] at hr
    have hfr := own_front hr (k := d.length - 1) (by omega)
    have ht : ((d.take i ++ d.drop (i + 1) ++ List.replicate (i + 1 - i) ((none, 0, 0) : Sp)).map encS).take ((d.length - 1) * 1) = (d.eraseIdx i).map encS := by
      rw [← List.map_take, Nat.mul_one, List.take_left' (by simp; omega), List.eraseIdx_eq_take_drop_succ]
    rw [ht] at hfr
    refine ⟨_, rfl, ?_, rfl, hC.mono (fun k _ e => by rw [e]; rfl)⟩
    rw [he, List.length_map, hel]
    have e1 : d.toArray.size - (i + 1 - i) = d.length - 1 := by simp
    rw [e1]
    exact hfr
end Go.Proofs.Ytnpenabkmpoafaa
