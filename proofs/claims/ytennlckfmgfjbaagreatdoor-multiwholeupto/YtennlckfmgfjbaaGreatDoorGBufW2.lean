/- WriteByte, WriteString and Write over a writer: what they write, and just what they change. The walks of the program's writer: number, Nums, NewWriter, Out, Numbers. -/
import Derived.Test.YtennlckfmgfjbaaGreatDoorGBuf3
import Derived.Test.YtennlckfmgfjbaaGreatDoorGFrSpec4
import Derived.Deep.QuietTactic
import Derived.BigQuiet
namespace Go.Proofs.YtennlckfmgfjbaaGreatDoor
open Go.RowKit

/-- A writer that holds bytes has a row; one that holds none has none. -/
theorem IsW.cases {w : World} {b : Nat} {bad : Bool} {l : List UInt8} (h : IsW w b bad l) :
    (l = [] ∧ ∃ lr, LibA.Three w b 0 126 (badCell bad) (.slice none 0 0) (.int .i64 0) (.int .i8 lr)) ∨
    (0 < l.length ∧ ∃ g cap cur lr, LibA.Three w b 0 126 (badCell bad) (.slice (some ⟨g, 0, none⟩) l.length cap) (.int .i64 0) (.int .i8 lr) ∧ w.heap[g]? = some (.cells cur 5 (0, 0)) ∧
      l.length ≤ cap ∧ cap ≤ maxLen ∧ cur.size = cap ∧ cur.toList.take l.length = Lib.byteCells l ∧ g ≠ b) := by
  obtain ⟨h, hrow⟩ := h
  obtain ⟨-, lr, hc⟩ := h.cases
  rcases hc with ⟨h0, h3⟩ | ⟨g, cap, cur, h3, -, hg, h1, h2, h4, h5, h6⟩
  · have : l = [] := List.eq_nil_of_length_eq_zero (by have := congrArg List.length h0; simpa [byteCells_length] using this)
    exact .inl ⟨this, lr, h3⟩
  · rw [byteCells_length] at h3 h1 h5
    refine .inr ⟨?_, g, cap, cur, lr, h3, hg, h1, h2, h4, h5, h6⟩
    rcases Nat.eq_zero_or_pos l.length with e | e
    · have := hrow (List.eq_nil_of_length_eq_zero e)
      rw [rowOf_three h3] at this
      cases this
    · exact e
theorem IsW.of_three {w : World} {b g cap : Nat} {bad : Bool} {l : List UInt8} {lr : Int} {cur : Array Value} (h3 : LibA.Three w b 0 126 (badCell bad) (.slice (some ⟨g, 0, none⟩) l.length cap) (.int .i64 0) (.int .i8 lr)) (hg : w.heap[g]? = some (.cells cur 5 (0, 0)))
    (h1 : l.length ≤ cap) (h2 : cap ≤ maxLen) (h4 : cur.size = cap) (h5 : cur.toList.take l.length = Lib.byteCells l) (h6 : g ≠ b) (h7 : l ≠ []) : IsW w b bad l := by
  have := LibA.isBuffer_mk (B := 0) (Nat.zero_le _) h3 (Nat.zero_le _) hg h1 h2 h4 h6
  rw [h5] at this
  exact ⟨this, fun e => absurd e h7⟩

/-- The field that says what was read last is set: nothing else. -/
theorem IsW.last {w : World} {b : Nat} {bad : Bool} {l : List UInt8} (h : IsW w b bad l) (x : Int) : IsW (w.setCell ⟨b, 2, none⟩ (.int .i8 x)) b bad l ∧ WFr b w (w.setCell ⟨b, 2, none⟩ (.int .i8 x)) := by
  have hsame : rowOf (w.setCell ⟨b, 2, none⟩ (.int .i8 x)) b = rowOf w b := by
    unfold rowOf; rw [World.cell?_setCell_other w _ _ _ (by intro e; cases e)]
  exact ⟨⟨h.1.setLast x, fun e => hsame.trans (h.2 e)⟩, WFr.of_grown (Lib.grownBy_setCell w b 2 _) (fun k hk => .inl (hsame.symm.trans hk))⟩
theorem IsW.c2 {w : World} {b : Nat} {bad : Bool} {l : List UInt8} (h : IsW w b bad l) : (∃ lr, w.cell? ⟨b, 2, none⟩ = some (.int .i8 lr)) ∧ w.frozen? ⟨b, 2, none⟩ = false := by
  obtain ⟨⟨hB, v, lr, h3, hown, hne⟩, -⟩ := h
  exact ⟨⟨lr, h3.c2⟩, h3.f 2⟩

/-- The writer has room: the header is moved on. -/
theorem room_set {w : World} {b g cap n : Nat} {bad : Bool} {l : List UInt8} {lr : Int} {cur : Array Value} (h3 : LibA.Three w b 0 126 (badCell bad) (.slice (some ⟨g, 0, none⟩) l.length cap) (.int .i64 0) (.int .i8 lr)) (hg : w.heap[g]? = some (.cells cur 5 (0, 0)))
    (h2 : cap ≤ maxLen) (h4 : cur.size = cap) (h5 : cur.toList.take l.length = Lib.byteCells l) (h6 : g ≠ b) (hr : l.length + n ≤ cap) : Roomy (w.setCell ⟨b, 0, none⟩ (.slice (some ⟨g, 0, none⟩) (l.length + n) cap)) b bad l n g :=
  ⟨cap, cur, lr, h3.set0 _, by rw [Below.heap_setCell _ _ _ _ h6]; exact hg, hr, h2, h4, h5, h6⟩

/-- grow, whatever the writer holds. -/
theorem grow_any (b n : Nat) (bad : Bool) (l : List UInt8) (w : World) (h : IsW w b bad l) (hn : 1 ≤ n) (hroom : LibA.NoRoom b 0 n w) (hlim : l.length + n ≤ 140737488355328) :
    Calls Tryz.prog 83 #[.pointer (some ⟨b, 0, none⟩), .int .i64 (n : Int)] w fun e w' => e = .returned (.int .i64 (l.length : Int)) ∧ ∃ N, Roomy w' b bad l n N ∧ w.grownBy w' (some b) ∧ w.heap.size ≤ N := by
  rcases h.cases with ⟨rfl, lr, h3⟩ | ⟨hpos, g, cap, cur, lr, h3, hg, h1, h2, h4, h5, h6⟩
  · by_cases h64 : n ≤ 64
    · exact grow_small b n bad lr w h3 hn h64
    · exact grow_big b n bad lr w h3 (by omega) (by simpa using hlim)
  · obtain ⟨ao, l', cap', hc, hlt⟩ := hroom
    rw [h3.c0] at hc
    obtain ⟨-, rfl, rfl⟩ : some (⟨g, 0, none⟩ : Addr) = ao ∧ l.length = l' ∧ cap = cap' := by simpa using hc
    exact grow_row b g cap n bad l lr cur w h3 hg h1 h2 h4 h5 h6 hn hlt hlim hpos

/-- From the writer to a row with room, and what may be changed behind it: the row. -/
theorem WFr.of_room {b N : Nat} {bad : Bool} {l : List UInt8} {n : Nat} {w w' w'' : World} (hg : w.grownBy w' (some b)) (hN : rowOf w b = some N ∨ w.heap.size ≤ N) (hr : Roomy w' b bad l n N) (hk : w'.grownBy w'' (some N)) : WFr b w w'' := by
  obtain ⟨cap, cur, lr, h3, -, -, -, -, -, hNb⟩ := hr
  have hrow : rowOf w'' b = some N := by
    have : w''.cell? ⟨b, 0, none⟩ = w'.cell? ⟨b, 0, none⟩ := World.cell?_of_block (hk.block b h3.lt (fun e => hNb (Option.some.inj e).symm))
    unfold rowOf; rw [this, h3.c0]; rfl
  refine ⟨hk.os.trans hg.os, hk.tape.trans hg.tape, hk.output.trans hg.output, Nat.le_trans hg.size hk.size, fun k hk' hb hnr => ?_, fun k hk' => ?_⟩
  · have hkN : k ≠ N := by
      rintro rfl
      rcases hN with e | e
      · exact hnr e
      · omega
    rw [hk.block k (Nat.lt_of_lt_of_le hk' hg.size) (fun e => hkN (Option.some.inj e)), hg.block k hk' (fun e => hb (Option.some.inj e))]
  · rw [hrow] at hk'
    obtain rfl : N = k := Option.some.inj hk'
    exact hN

theorem poke_fin {b N : Nat} {bad : Bool} {l : List UInt8} {w' : World} (c : UInt8) (hr : Roomy w' b bad l 1 N) : IsW (w'.setCell ⟨N, l.length, none⟩ (.int .u8 (c.toNat : Int))) b bad (l ++ [c]) := by
  obtain ⟨cap, cur, lr, h3, hg, h1, h2, h4, h5, h6⟩ := hr
  have := (LibA.poke_end (B := 0) (v := .int .u8 (c.toNat : Int)) (Nat.zero_le _) h3 (Nat.zero_le _) hg h2 h4 h6 h1).1
  rw [h5, byteCells_snoc] at this
  exact ⟨this, fun e => by simp at e⟩

set_option maxRecDepth 100000 in
set_option maxHeartbeats 1000000 in
theorem wByte (b : Nat) (bad : Bool) (l : List UInt8) (c : UInt8) (w : World) (h : IsW w b bad l) (hlim : l.length + 1 ≤ 140737488355328) :
    Calls Tryz.prog 81 #[.pointer (some ⟨b, 0, none⟩), .int .u8 (c.toNat : Int)] w fun e w' => e = .returned .nilIface ∧ IsW w' b bad (l ++ [c]) ∧ WFr b w w' := by
  obtain ⟨⟨lr, c2⟩, f2⟩ := h.c2
  obtain ⟨hI, hF⟩ := h.last 0
  have HI := Lib.hid hI
  have HF := Lib.hid hF
  generalize hW1 : w.setCell ⟨b, 2, none⟩ (.int .i8 0) = w1 at *
  have HW1 := Lib.hid hW1
  clear hW1
  have key : ∀ w' N, w1.grownBy w' (some b) → (rowOf w1 b = some N ∨ w1.heap.size ≤ N) → Roomy w' b bad l 1 N →
      IsW (w'.setCell ⟨N, l.length, none⟩ (.int .u8 (c.toNat : Int))) b bad (l ++ [c]) ∧ WFr b w (w'.setCell ⟨N, l.length, none⟩ (.int .u8 (c.toNat : Int))) := fun w' N hg hN hr =>
    ⟨poke_fin c hr, HF.out.trans (WFr.of_room hg hN hr (Lib.grownBy_setCell w' N l.length _))⟩
  have KEY := Lib.hid key
  clear key hI hF
  by_cases hroom : LibA.NoRoom b 0 1 w1
  · obtain ⟨ao, l', cap', hc, hlt⟩ := hroom
    have hnr : LibA.NoRoom b 0 1 w1 := ⟨ao, l', cap', hc, hlt⟩
    have hlc : l' ≤ cap' ∧ cap' ≤ maxLen := by
      rcases HI.out.cases with ⟨-, lr, h3⟩ | ⟨-, g, cap, cur, lr, h3, hg, h1, h2, -⟩
      · rw [h3.c0] at hc
        obtain ⟨-, rfl, rfl⟩ : none = ao ∧ 0 = l' ∧ 0 = cap' := by simpa using hc
        exact ⟨Nat.le_refl _, Nat.zero_le _⟩
      · rw [h3.c0] at hc
        obtain ⟨-, rfl, rfl⟩ : some (⟨g, 0, none⟩ : Addr) = ao ∧ l.length = l' ∧ cap = cap' := by simpa using hc
        exact ⟨h1, h2⟩
    have HC := Lib.hid hc
    clear hc
    go_enter Tryz.func81, Tryz.ntmps81
    go_wp2_with fail
    rw [HW1.out]
    refine (Tryz.Buffer_tryGrow_none_at b 0 ao l' cap' 1 _ HC.out hlc.1 hlc.2 hlt).mono ?_
    rintro e w2 ⟨rfl, rfl⟩
    go_wp2_with fail
    refine (grow_any b 1 bad l _ HI.out (Nat.le_refl _) hnr hlim).mono ?_
    rintro e w3 ⟨rfl, N, hR, hg, hN⟩
    have hfin := KEY.out w3 N hg (.inr hN) hR
    have HFIN := Lib.hid hfin
    clear hfin hg
    obtain ⟨cap, cur, lr2, h3, hg, h1, h2, h4, h5, h6⟩ := hR
    have d0 : w3.cell? ⟨b, 0, none⟩ = some (.slice (some ⟨N, 0, none⟩) (l.length + 1) cap) := h3.c0
    have hlt2 : l.length < cur.size := by omega
    have dg : w3.cell? ⟨N, l.length, none⟩ = some cur[l.length] := by rw [Lib.cell_of_heap hg, Array.getElem?_eq_getElem hlt2]
    have fg : w3.frozen? ⟨N, l.length, none⟩ = false := Lib.frozen_of_heap hg _
    unfold maxLen at h2
    clear h3 hg h5
    go_wp2
    go_ret
    exact ⟨rfl, HFIN.out⟩
  · rcases HI.out.cases with ⟨-, lr, h3⟩ | ⟨-, g, cap, cur, lr, h3, hg, h1, h2, h4, h5, h6⟩
    · exact absurd ⟨none, 0, 0, h3.c0, by decide⟩ hroom
    · have hrm : 1 ≤ cap - l.length := by
        rcases Nat.lt_or_ge (cap - l.length) 1 with e | e
        · exact absurd ⟨_, _, _, h3.c0, e⟩ hroom
        · exact e
      have hR := room_set (n := 1) h3 hg h2 h4 h5 h6 (by omega)
      have hfin := KEY.out _ g (Lib.grownBy_setCell w1 b 0 _) (.inl (by rw [rowOf_three h3]; rfl)) hR
      have HFIN := Lib.hid hfin
      have HC := Lib.hid h3.c0
      have HFZ := Lib.hid (h3.f 0)
      clear hfin hroom
      obtain ⟨_, _, lr2, h3', hg', -, -, -, -, -⟩ := hR
      go_enter Tryz.func81, Tryz.ntmps81
      go_wp2_with fail
      rw [HW1.out]
      refine (Tryz.Buffer_tryGrow_room_at b 0 (some ⟨g, 0, none⟩) l.length cap 1 _ HC.out HFZ.out h1 h2 hrm).mono ?_
      rintro e w3 ⟨rfl, hw3⟩
      rw [← hw3] at HFIN hg'
      clear h3 h3'
      have hgg : w3.heap[g]? = some (.cells cur 5 (0, 0)) := by rw [hw3, Below.heap_setCell _ _ _ _ h6]; exact hg
      have d0 : w3.cell? ⟨b, 0, none⟩ = some (.slice (some ⟨g, 0, none⟩) (l.length + 1) cap) := by rw [hw3]; exact World.cell?_setCell_same w1 _ _ HC.out
      have hlt2 : l.length < cur.size := by omega
      have dg : w3.cell? ⟨g, l.length, none⟩ = some cur[l.length] := by rw [Lib.cell_of_heap hgg, Array.getElem?_eq_getElem hlt2]
      have fg : w3.frozen? ⟨g, l.length, none⟩ = false := Lib.frozen_of_heap hgg _
      unfold maxLen at h2
      clear hw3 hg hg' h5 hgg
      go_wp2
      go_ret
      exact ⟨rfl, HFIN.out⟩
theorem wByteI (b : Nat) (bad : Bool) (l : List UInt8) (c : Int) (w : World) (h0 : 0 ≤ c) (h1 : c < 256) (h : IsW w b bad l) (hlim : l.length + 1 ≤ 140737488355328) :
    Calls Tryz.prog 81 #[.pointer (some ⟨b, 0, none⟩), .int .u8 c] w fun e w' => e = .returned .nilIface ∧ IsW w' b bad (l ++ [UInt8.ofNat c.toNat]) ∧ WFr b w w' := by
  have e : c = (((UInt8.ofNat c.toNat).toNat : Nat) : Int) := by rw [UInt8.toNat_ofNat']; omega
  have := wByte b bad l (UInt8.ofNat c.toNat) w h hlim
  rw [← e] at this
  exact this
end Go.Proofs.YtennlckfmgfjbaaGreatDoor
namespace Go.Proofs.YtennlckfmgfjbaaGreatDoor
open Go.RowKit

/-- Marking the writer as bad. -/
theorem IsW.mark {w : World} {b : Nat} {bad : Bool} {l : List UInt8} (h : IsW w b bad l) : IsW (w.setCell ⟨b, 3, none⟩ (.bool true)) b true l ∧ WFr b w (w.setCell ⟨b, 3, none⟩ (.bool true)) := by
  obtain ⟨⟨hB, v, lr, ⟨cs, hb, h0, h1, h2, hr⟩, hown, hne⟩, hrow⟩ := h
  have hc : ∀ w2 : World, w2.cell? ⟨b, 0, none⟩ = w.cell? ⟨b, 0, none⟩ → rowOf w2 b = rowOf w b := fun w2 e => by unfold rowOf; rw [e]
  have hsame := hc (w.setCell ⟨b, 3, none⟩ (.bool true)) (World.cell?_setCell_other w _ _ _ (by intro e; cases e))
  have hs : cs.size = 4 := by
    have a := hr 3 (by omega); have c := hr 4 (by omega)
    simp [badCell] at a c
    obtain ⟨a, -⟩ := Array.getElem?_eq_some_iff.1 a
    omega
  refine ⟨⟨⟨hB, v, lr, ⟨_, Lib.heap_setCell_same (i := 3) hb _, ?_, ?_, ?_, ?_⟩, hown.kept (Lib.grownBy_setCell w b 3 _) (Or.inr hne), hne⟩, fun e => hsame.trans (hrow e)⟩, ?_⟩
  · rw [Array.getElem?_setIfInBounds_ne (by omega)]; exact h0
  · rw [Array.getElem?_setIfInBounds_ne (by omega)]; exact h1
  · rw [Array.getElem?_setIfInBounds_ne (by omega)]; exact h2
  · intro i hi
    by_cases e : i = 3
    · subst e; simp [badCell, hs]
    · rw [Array.getElem?_setIfInBounds_ne (by omega), hr i hi]; simp [badCell, e]
  · exact WFr.of_grown (Lib.grownBy_setCell w b 3 _) (fun k hk => .inl (hsame.symm.trans hk))
theorem IsW.c3 {w : World} {b : Nat} {bad : Bool} {l : List UInt8} (h : IsW w b bad l) : w.cell? ⟨b, 3, none⟩ = some (.bool bad) := by
  obtain ⟨⟨hB, v, lr, h3, hown, hne⟩, -⟩ := h
  rw [h3.rest 3 (by omega)]; rfl
theorem IsW.frozen {w : World} {b : Nat} {bad : Bool} {l : List UInt8} (h : IsW w b bad l) (i : Nat) : w.frozen? ⟨b, i, none⟩ = false := by
  obtain ⟨⟨hB, v, lr, h3, hown, hne⟩, -⟩ := h
  exact h3.f i

set_option maxRecDepth 100000 in
set_option maxHeartbeats 400000 in
theorem number_bad (b : Nat) (bad : Bool) (l : List UInt8) (n : Int) (w : World) (h : IsW w b bad l) (hn : n < 0 ∨ 4611686018427387903 < n) :
    Calls Tryz.prog 56 #[.pointer (some ⟨b, 0, none⟩), .int .i64 n] w fun e w' => e = .returned (.tuple #[]) ∧ IsW w' b true l ∧ WFr b w w' := by
  have c3 := h.c3
  have f3 := h.frozen 3
  obtain ⟨r1, r2⟩ := h.mark
  have R1 := Lib.hid r1
  have R2 := Lib.hid r2
  clear r1 r2 h
  rcases hn with hn | hn
  · go_enter Tryz.func56, Tryz.ntmps56
    go_wp2
    exact bodyPost_ret (v := .tuple #[]) (by simp [results, Tryz.results56, go_sem]) rfl ⟨rfl, R1.out, R2.out⟩
  · have hn' : ¬ n < 0 := by omega
    go_enter Tryz.func56, Tryz.ntmps56
    go_wp2
    exact bodyPost_ret (v := .tuple #[]) (by simp [results, Tryz.results56, go_sem]) rfl ⟨rfl, R1.out, R2.out⟩

set_option maxRecDepth 100000 in
set_option maxHeartbeats 400000 in
theorem number_good (b : Nat) (bad : Bool) (l : List UInt8) (n : Nat) (w : World) (h : IsW w b bad l) (hn : n ≤ 4611686018427387903) (hlim : l.length + 9 ≤ 140737488355328) :
    Calls Tryz.prog 56 #[.pointer (some ⟨b, 0, none⟩), .int .i64 (n : Int)] w fun e w' => e = .returned (.tuple #[]) ∧ IsW w' b bad (l ++ put n) ∧ WFr b w w' := by
  have hn0 : ¬ (n : Int) < 0 := by omega
  have hn1 : ¬ 4611686018427387903 < (n : Int) := by omega
  have H := Lib.hid h
  clear h
  go_enter Tryz.func56, Tryz.ntmps56
  go_wp2
  go_loopw [1] (fun t W => ∃ k m : Nat, ∃ done : List UInt8, t = .int .i64 (m : Int) ∧ m < 128 ^ (k + 1) ∧ m ≤ n ∧ done.length + (k + 1) = 9 ∧ put n = done ++ putF (k + 1) m ∧ IsW W b bad (l ++ done) ∧ WFr b w W) (fun t _ => (intOf t).toNat)
  case atStart => exact ⟨8, n, [], rfl, by have : (128 : Nat) ^ (8 + 1) = 9223372036854775808 := by decide
                                           omega, Nat.le_refl _, rfl, rfl, by simpa using H.out, WFr.refl _ _⟩
  case round =>
    obtain ⟨k, m, done, rfl, hm, hmn, hd, hp, hI, hF⟩ := hrel
    have HP := Lib.hid hp
    have HM := Lib.hid hm
    have HD := Lib.hid hd
    have hd9 : done.length ≤ 8 := by omega
    clear hp hm hd
    by_cases hlt : m < 128
    · have hfin : l ++ done ++ [UInt8.ofNat m] = l ++ put n := by rw [HP.out, putF_short hlt, List.append_assoc]
      have HFIN := Lib.hid hfin
      clear hfin
      go_wp2_with fail
      refine (wByteI b bad (l ++ done) _ _ (by omega) (by omega) hI (by simp; omega)).mono ?_
      rintro e w2 ⟨rfl, hI2, hF2⟩
      rw [Int.toNat_natCast, HFIN.out] at hI2
      go_wp2
      go_end0
      exact ⟨rfl, hI2, hF.trans hF2⟩
    · have hb := or_more m
      go_wp2_with fail
      refine (wByteI b bad (l ++ done) _ _ (by omega) (by omega) hI (by simp; omega)).mono ?_
      rintro e w2 ⟨rfl, hI2, hF2⟩
      rw [show (128 + (m : Int) % 128).toNat = 128 + m % 128 by omega] at hI2
      go_wp2
      go_roundw
      case rel =>
        have hm := HM.out
        have hd := HD.out
        have hp := HP.out
        rw [putF_long hlt] at hp
        match k, hm, hd, hp with
        | 0, hm, _, _ => exact absurd hm (by simpa using hlt)
        | k + 1, hm, hd, hp => exact ⟨k, m / 128, done ++ [UInt8.ofNat (128 + m % 128)], by go_num, pow_step hm, by omega, by simp; omega, by rw [hp, List.append_assoc]; rfl, by rw [← List.append_assoc]; exact hI2, hF.trans hF2⟩
      case measure => simp [intOf]; omega
end Go.Proofs.YtennlckfmgfjbaaGreatDoor
