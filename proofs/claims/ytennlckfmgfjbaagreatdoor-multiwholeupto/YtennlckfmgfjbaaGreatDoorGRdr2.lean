/- The program's reader: its block, what a read may change, and the walks of its methods. The walks of the reader's Num, take, Blob, Text, Err, Left, and of NewReader. -/
import Derived.Test.YtennlckfmgfjbaaGreatDoorGNum2
import Derived.Test.YtennlckfmgfjbaaGreatDoorGFrSpec4
import Derived.Test.YtennlckfmgfjbaaGreatDoorGCat2
import Derived.Test.YtennlckfmgfjbaaGreatDoorGCrc3
import Derived.Test.YtennlckfmgfjbaaGreatDoorGApp3
import Derived.Deep.RegionWith
namespace Go.Proofs.YtennlckfmgfjbaaGreatDoor
open Go.RowKit

/-- Block b is a reader at the bytes s, with the error er. -/
def IsR (w : World) (b : Nat) (s : List UInt8) (er : Int) : Prop :=
  ∃ v, w.heap[b]? = some (.cells #[v, .int .i64 er] 136 (0, 0)) ∧ Bts w v s
/-- Only the reader's block and new blocks have changed. -/
structure RFr (b : Nat) (w w' : World) : Prop where
  os : w'.os = w.os
  tape : w'.tape = w.tape
  output : w'.output = w.output
  size : w.heap.size ≤ w'.heap.size
  block : ∀ k, k < w.heap.size → k ≠ b → w'.heap[k]? = w.heap[k]?
theorem RFr.refl (b : Nat) (w : World) : RFr b w w := ⟨rfl, rfl, rfl, Nat.le_refl _, fun _ _ _ => rfl⟩
theorem RFr.trans {b : Nat} {w w1 w2 : World} (h : RFr b w w1) (k : RFr b w1 w2) : RFr b w w2 :=
  ⟨k.os.trans h.os, k.tape.trans h.tape, k.output.trans h.output, Nat.le_trans h.size k.size, fun i hi hb => (k.block i (Nat.lt_of_lt_of_le hi h.size) hb).trans (h.block i hi hb)⟩
theorem RFr.of_kept {b : Nat} {w w' : World} (h : Kept w w') : RFr b w w' := ⟨h.os, h.tape, h.output, h.size, fun k hk _ => h.block k hk⟩
theorem RFr.of_grown {b : Nat} {w w' : World} (h : w.grownBy w' (some b)) : RFr b w w' := ⟨h.os, h.tape, h.output, h.size, fun k hk hb => h.block k hk (fun e => hb (Option.some.inj e))⟩
/-- A reader that this call has made: all that was there ahead of it is kept. -/
theorem RFr.kept {b : Nat} {w0 w w' : World} (h : RFr b w w') (k : Kept w0 w) (hb : w0.heap.size ≤ b) : Kept w0 w' :=
  ⟨h.os.trans k.os, h.tape.trans k.tape, h.output.trans k.output, Nat.le_trans k.size h.size, fun i hi => (h.block i (Nat.lt_of_lt_of_le hi k.size) (by omega)).trans (k.block i hi)⟩
theorem IsR.lt {w : World} {b : Nat} {s : List UInt8} {er : Int} (h : IsR w b s er) : b < w.heap.size := by
  obtain ⟨v, h, -⟩ := h
  exact (Array.getElem?_eq_some_iff.1 h).1
theorem IsR.kept {w w' : World} {b : Nat} {s : List UInt8} {er : Int} (h : IsR w b s er) (k : Kept w w') : IsR w' b s er := by
  have hl := h.lt
  obtain ⟨v, h, hb⟩ := h
  exact ⟨v, (k.block b hl).trans h, hb.kept k⟩
/-- A write to the reader's block leaves bytes that lie elsewhere. -/
theorem Bts.set {w : World} {b i : Nat} {x v : Value} {s : List UInt8} (h : Bts w v s) (hb : ∀ o y, w.cell? ⟨b, o, none⟩ ≠ some (.int .u8 y)) : Bts (w.setCell ⟨b, i, none⟩ x) v s := by
  obtain ⟨A, c, rfl, h1, h2, h3⟩ := h
  refine ⟨A, c, rfl, h1, h2, fun hl => ?_⟩
  obtain ⟨b', o, rfl, hc⟩ := h3 hl
  refine ⟨b', o, rfl, fun k y hy => ?_⟩
  have hcell := hc k y hy
  rw [World.cell?_setCell_other w _ _ _ (fun e => ?_)]
  · exact hcell
  · have e' : b = b' := congrArg Addr.block e
    subst e'
    exact hb _ _ hcell
theorem IsR.not8 {w : World} {b : Nat} {s : List UInt8} {er : Int} (h : IsR w b s er) (o : Nat) (y : Int) : w.cell? ⟨b, o, none⟩ ≠ some (.int .u8 y) := by
  obtain ⟨v, h, A, c, rfl, -⟩ := h
  have := cell_of_row w b o #[.slice A s.length c, .int .i64 er] _ _ h
  rw [this]
  match o with
  | 0 => simp
  | 1 => simp
  | o + 2 => simp
theorem IsR.setErr {w : World} {b : Nat} {s : List UInt8} {er : Int} (h : IsR w b s er) (er' : Int) : IsR (w.setCell ⟨b, 1, none⟩ (.int .i64 er')) b s er' ∧ RFr b w (w.setCell ⟨b, 1, none⟩ (.int .i64 er')) := by
  have h8 := h.not8
  obtain ⟨v, h, hb⟩ := h
  exact ⟨⟨v, Lib.heap_setCell_same (i := 1) h _, hb.set h8⟩, RFr.of_grown (Lib.grownBy_setCell w b 1 _)⟩
theorem IsR.setRest {w : World} {b : Nat} {s s' : List UInt8} {er : Int} {v' : Value} (h : IsR w b s er) (h' : Bts w v' s') : IsR (w.setCell ⟨b, 0, none⟩ v') b s' er ∧ RFr b w (w.setCell ⟨b, 0, none⟩ v') := by
  have h8 := h.not8
  obtain ⟨v, h, hb⟩ := h
  exact ⟨⟨v', Lib.heap_setCell_same (i := 0) h _, h'.set h8⟩, RFr.of_grown (Lib.grownBy_setCell w b 0 _)⟩
theorem IsR.cells {w : World} {b : Nat} {s : List UInt8} {er : Int} (h : IsR w b s er) : ∃ v, w.cell? ⟨b, 0, none⟩ = some v ∧ Bts w v s ∧ w.cell? ⟨b, 1, none⟩ = some (.int .i64 er) ∧ w.frozen? ⟨b, 0, none⟩ = false ∧ w.frozen? ⟨b, 1, none⟩ = false := by
  obtain ⟨v, h, hb⟩ := h
  refine ⟨v, ?_, hb, ?_, ?_, ?_⟩
  · rw [cell_of_row w b 0 _ _ _ h]; rfl
  · rw [cell_of_row w b 1 _ _ _ h]; rfl
  · simp [World.frozen?, h]
  · simp [World.frozen?, h]

/-- What number tells: the number, where it ends, the error. -/
def rn (s : List UInt8) (er : Int) : Nat × Nat × Int := if er = 0 then ((numOf s).1, (numOf s).2.1, (((numOf s).2.2 : Nat) : Int)) else (0, 0, er)
theorem numOf_cases (s : List UInt8) : (∃ e, numOf s = (0, 0, e) ∧ e ≠ 0 ∧ e ≤ 13) ∨ ∃ n c, numOf s = (n, c, 0) ∧ c ≤ s.length ∧ put n = s.take c ∧ n ≤ 4611686018427387903 := by
  cases hn : numOf s with
  | mk n r =>
    obtain ⟨c, e⟩ := r
    match e, hn with
    | 0, hn => exact .inr ⟨n, c, rfl, numOf_ok hn⟩
    | e + 1, hn =>
      refine .inl ⟨e + 1, ?_, by omega, ?_⟩ <;> (unfold numOf at hn; split at hn <;> split at hn <;> simp only [Prod.mk.injEq] at hn <;> first | omega | (obtain ⟨rfl, rfl, -⟩ := hn; rfl))
theorem numAt_zero (s : List UInt8) : numAt s 0 = ((((numOf s).1 : Nat) : Int), (((numOf s).2.1 : Nat) : Int), (((numOf s).2.2 : Nat) : Int)) := by
  have h := numAt_good (l := s) (a := 0) (Nat.zero_le _)
  rw [List.drop_zero] at h
  rw [show (0 : Int) = ((0 : Nat) : Int) from rfl, h]
  rcases numOf_cases s with ⟨e, h, he, -⟩ | ⟨n, c, h, -⟩
  · rw [h]
    match e, he with
    | e + 1, _ => rfl
  · rw [h]; simp
theorem rn_cases (s : List UInt8) (er : Int) : (∃ e, rn s er = (0, 0, e) ∧ e ≠ 0) ∨ (er = 0 ∧ ∃ n c, rn s er = (n, c, 0) ∧ c ≤ s.length ∧ put n = s.take c ∧ n ≤ 4611686018427387903) := by
  unfold rn
  by_cases h : er = 0
  · rw [if_pos h]
    rcases numOf_cases s with ⟨e, h1, he, -⟩ | ⟨n, c, h1, h2⟩
    · rw [h1]; exact .inl ⟨_, rfl, by simpa using he⟩
    · rw [h1]; exact .inr ⟨h, n, c, rfl, h2⟩
  · rw [if_neg h]; exact .inl ⟨er, rfl, h⟩

set_option maxRecDepth 100000 in
set_option maxHeartbeats 400000 in
theorem rnumber (b : Nat) (s : List UInt8) (er : Int) (w : World) (h : IsR w b s er) (hlim : s.length ≤ 140737488355328) :
    Calls Tryz.prog 85 #[.pointer (some ⟨b, 0, none⟩)] w fun e w' => e = .returned (.tuple #[.int .i64 ((rn s er).1 : Nat), .int .i64 ((rn s er).2.1 : Nat)]) ∧ IsR w' b s (rn s er).2.2 ∧ RFr b w w' := by
  have H := Lib.hid h
  obtain ⟨v, c0, hb, c1, f0, f1⟩ := h.cells
  clear h
  have HB := Lib.hid hb
  clear hb
  by_cases he : er = 0
  · subst he
    have hr : rn s 0 = ((numOf s).1, (numOf s).2.1, (((numOf s).2.2 : Nat) : Int)) := by unfold rn; rw [if_pos rfl]
    rw [hr]
    have HS := Lib.hid (H.out.setErr ((numOf s).2.2 : Nat))
    go_enter Tryz.func85, Tryz.ntmps85
    go_wp2_with fail
    refine (number_read s 0 v _ HB.out hlim).mono ?_
    rintro e w1 ⟨rfl, rfl⟩
    rw [numAt_zero]
    go_wp2
    go_ret2
    exact ⟨rfl, HS.out⟩
  · have hr : rn s er = (0, 0, er) := by unfold rn; rw [if_neg he]
    rw [hr]
    have t : (er == 0) = false := beq_eq_false_iff_ne.2 he
    go_enter Tryz.func85, Tryz.ntmps85
    go_wp2
    go_ret2
    exact ⟨rfl, H.out, RFr.refl _ _⟩
end Go.Proofs.YtennlckfmgfjbaaGreatDoor
namespace Go.Proofs.YtennlckfmgfjbaaGreatDoor
open Go.RowKit
theorem Bts.tail {w : World} {s : List UInt8} {b o c : Nat} (h : Bts w (.slice (some ⟨b, o, none⟩) s.length c) s) (m : Nat) (hm : m ≤ s.length) : Bts w (.slice (some ⟨b, o + m, none⟩) (s.length - m) (c - m)) (s.drop m) := by
  have := h.cut m (s.length - m) (by omega)
  rwa [List.take_of_length_le (by simp)] at this
theorem Bts.cut2 {w : World} {l : List UInt8} {b o c : Nat} (h : Bts w (.slice (some ⟨b, o, none⟩) l.length c) l) (m n : Nat) (hn : m + n ≤ l.length) : Bts w (.slice (some ⟨b, o + m, none⟩) (m + n - m) (c - m)) ((l.drop m).take n) := by
  rw [Nat.add_sub_cancel_left]; exact h.cut m n hn
theorem Bts.cut3 {w : World} {l : List UInt8} {b o m n : Nat} (h : Bts w (.slice (some ⟨b, o, none⟩) l.length (m + n)) l) (hn : m + n ≤ l.length) : Bts w (.slice (some ⟨b, o + m, none⟩) (m + n - m) n) ((l.drop m).take n) := by
  have := h.cut m n hn
  rw [Nat.add_sub_cancel_left] at this ⊢; exact this
theorem Bts.gone {w : World} {s : List UInt8} (A : Option Addr) (n c : Nat) (m : Nat) (hm : m = s.length) (hc : c ≤ maxLen) (hn : n = 0) : Bts w (.slice A n c) (s.drop m) := by
  subst hm hn
  rw [List.drop_length]
  exact Bts.empty w A c hc
theorem rn_le (s : List UInt8) (er : Int) : (rn s er).2.1 ≤ s.length ∧ (rn s er).1 ≤ 4611686018427387903 := by
  rcases rn_cases s er with ⟨e, h, -⟩ | ⟨-, n, c, h, h1, -, h2⟩
  · rw [h]; exact ⟨Nat.zero_le _, Nat.zero_le _⟩
  · rw [h]; exact ⟨h1, h2⟩

theorem IsR.step {w w1 : World} {b : Nat} {s s' t : List UInt8} {e2 : Int} {v' u : Value} (h : IsR w1 b s e2) (h' : Bts w1 v' s') (hu : Bts w1 u t) (hF : RFr b w w1) : Bts (w1.setCell ⟨b, 0, none⟩ v') u t ∧ IsR (w1.setCell ⟨b, 0, none⟩ v') b s' e2 ∧ RFr b w (w1.setCell ⟨b, 0, none⟩ v') :=
  ⟨hu.set h.not8, (h.setRest h').1, hF.trans (h.setRest h').2⟩

set_option maxRecDepth 100000 in
set_option maxHeartbeats 400000 in
theorem rNum (b : Nat) (s : List UInt8) (er : Int) (w : World) (h : IsR w b s er) (hlim : s.length ≤ 140737488355328) :
    Calls Tryz.prog 62 #[.pointer (some ⟨b, 0, none⟩)] w fun e w' => e = .returned (.int .i64 ((rn s er).1 : Nat)) ∧ IsR w' b (s.drop (rn s er).2.1) (rn s er).2.2 ∧ RFr b w w' := by
  have hle := (rn_le s er).1
  have hcall := rnumber b s er w h hlim
  cases hR : rn s er with
  | mk n r =>
  obtain ⟨m, e2⟩ := r
  rw [hR] at hle hcall
  simp only at hle hcall ⊢
  clear hR
  go_enter Tryz.func62, Tryz.ntmps62
  go_wp2_with fail
  refine hcall.mono ?_
  rintro e w1 ⟨rfl, hI, hF⟩
  clear hcall
  have HI := Lib.hid hI
  have HF := Lib.hid hF
  obtain ⟨v, c0, hb, c1, f0, f1⟩ := hI.cells
  clear hI hF h
  obtain ⟨A, c, hv, hc1, hc2, -⟩ := id hb
  subst hv
  have hc3 := hc2
  have HC := Lib.hid hc3
  clear hc3
  unfold maxLen at hc2
  have HB := Lib.hid hb
  clear hb
  by_cases hs : s.length = 0
  · have hm : m = 0 := by omega
    subst hm
    obtain rfl : s = [] := List.eq_nil_of_length_eq_zero hs
    cases A with
    | none =>
      go_wp2
      go_ret
      exact ⟨rfl, (HI.out.step (Bts.empty w1 _ _ (by unfold maxLen; omega)) (Bts.nil w1) HF.out).2⟩
    | some ad =>
      by_cases hc0 : c = 0
      · subst hc0
        go_wp2
        go_ret
        exact ⟨rfl, (HI.out.step (Bts.empty w1 _ _ (by unfold maxLen; omega)) (Bts.nil w1) HF.out).2⟩
      · go_wp2
        go_ret
        exact ⟨rfl, (HI.out.step (Bts.empty w1 _ _ (by unfold maxLen; omega)) (Bts.nil w1) HF.out).2⟩
  · obtain ⟨b', o, rfl⟩ := HB.out.addr (by omega)
    by_cases hcm : c = m
    · subst hcm
      go_wp2
      go_ret
      exact ⟨rfl, (HI.out.step (Bts.gone _ _ _ _ (by omega) (by unfold maxLen; omega) (by omega)) (Bts.nil w1) HF.out).2⟩
    · go_wp2
      go_ret
      exact ⟨rfl, (HI.out.step (HB.out.tail m hle) (Bts.nil w1) HF.out).2⟩

/-- What take tells: the bytes, what is left, the error. -/
def rd (s : List UInt8) (er : Int) : List UInt8 × List UInt8 × Int :=
  if (rn s er).1 ≤ s.length - (rn s er).2.1 then ((s.drop (rn s er).2.1).take (rn s er).1, s.drop ((rn s er).2.1 + (rn s er).1), (rn s er).2.2) else ([], s, 12)
set_option maxRecDepth 100000 in
set_option maxHeartbeats 400000 in
theorem rTake (b : Nat) (s : List UInt8) (er : Int) (w : World) (h : IsR w b s er) (hlim : s.length ≤ 140737488355328) :
    Calls Tryz.prog 84 #[.pointer (some ⟨b, 0, none⟩)] w fun e w' => ∃ u, e = .returned u ∧ Bts w' u (rd s er).1 ∧ IsR w' b (rd s er).2.1 (rd s er).2.2 ∧ RFr b w w' := by
  have hle := (rn_le s er).1
  have hln := (rn_le s er).2
  have hcall := rnumber b s er w h hlim
  unfold rd
  cases hR : rn s er with
  | mk n r =>
  obtain ⟨m, e2⟩ := r
  rw [hR] at hle hcall hln
  simp only at hle hcall hln ⊢
  clear hR
  by_cases hn : n ≤ s.length - m
  · rw [if_pos hn]
    simp only
    have t1 : decide ((s.length : Int) - (m : Int) < (n : Int)) = false := by simp; omega
    go_enter Tryz.func84, Tryz.ntmps84
    go_wp2_with fail
    refine hcall.mono ?_
    rintro e w1 ⟨rfl, hI, hF⟩
    clear hcall
    have HI := Lib.hid hI
    have HF := Lib.hid hF
    obtain ⟨v, c0, hb, c1, f0, f1⟩ := hI.cells
    clear hI hF h
    obtain ⟨A, c, hv, hc1, hc2, -⟩ := id hb
    subst hv
    unfold maxLen at hc2
    have HB := Lib.hid hb
    clear hb
    by_cases hs : s.length = 0
    · have hm : m = 0 := by omega
      have hn0 : n = 0 := by omega
      subst hm hn0
      obtain rfl : s = [] := List.eq_nil_of_length_eq_zero hs
      cases A with
      | none =>
        go_wp2
        go_ret
        exact ⟨_, rfl, HI.out.step (Bts.empty w1 _ _ (by unfold maxLen; omega)) (Bts.empty w1 _ _ (by unfold maxLen; omega)) HF.out⟩
      | some ad =>
        by_cases hc0 : c = 0
        · subst hc0
          go_wp2
          go_ret
          exact ⟨_, rfl, HI.out.step (Bts.empty w1 _ _ (by unfold maxLen; omega)) (Bts.empty w1 _ _ (by unfold maxLen; omega)) HF.out⟩
        · go_wp2
          go_ret
          exact ⟨_, rfl, HI.out.step (Bts.empty w1 _ _ (by unfold maxLen; omega)) (Bts.empty w1 _ _ (by unfold maxLen; omega)) HF.out⟩
    · obtain ⟨b', o, rfl⟩ := HB.out.addr (by omega)
      by_cases hcm : c = m
      · obtain rfl : n = 0 := by omega
        subst hcm
        go_wp2
        go_ret
        exact ⟨_, rfl, HI.out.step (Bts.gone _ _ _ _ (by omega) (by unfold maxLen; omega) rfl) (Bts.empty w1 _ _ (by unfold maxLen; omega)) HF.out⟩
      · by_cases hcn : c = m + n
        · subst hcn
          go_wp2
          go_ret
          exact ⟨_, rfl, HI.out.step (Bts.gone _ _ _ _ (by omega) (by unfold maxLen; omega) (by omega)) (HB.out.cut3 (by omega)) HF.out⟩
        · go_wp2
          go_ret
          exact ⟨_, rfl, HI.out.step (HB.out.tail (m + n) (by omega)) (HB.out.cut2 m n (by omega)) HF.out⟩
  · rw [if_neg hn]
    simp only
    have t1 : decide ((s.length : Int) - (m : Int) < (n : Int)) = true := by simp; omega
    go_enter Tryz.func84, Tryz.ntmps84
    go_wp2_with fail
    refine hcall.mono ?_
    rintro e w1 ⟨rfl, hI, hF⟩
    clear hcall
    have HI := Lib.hid hI
    have HF := Lib.hid hF
    obtain ⟨v, c0, hb, c1, f0, f1⟩ := hI.cells
    clear hI hF h
    obtain ⟨A, c, hv, hc1, hc2, -⟩ := id hb
    subst hv
    unfold maxLen at hc2
    clear hb
    go_wp2
    go_ret
    exact ⟨_, rfl, Bts.nil _, (HI.out.setErr 12).1, HF.out.trans (HI.out.setErr 12).2⟩

set_option maxHeartbeats 400000 in
theorem rBlob (b : Nat) (s : List UInt8) (er : Int) (w : World) (h : IsR w b s er) (hlim : s.length ≤ 140737488355328) :
    Calls Tryz.prog 61 #[.pointer (some ⟨b, 0, none⟩)] w fun e w' => ∃ u, e = .returned u ∧ Bts w' u (rd s er).1 ∧ IsR w' b (rd s er).2.1 (rd s er).2.2 ∧ RFr b w w' := by
  have hl : (rd s er).1.length ≤ s.length := by
    unfold rd; split
    · simp only [List.length_take, List.length_drop]; omega
    · exact Nat.zero_le _
  go_enter Tryz.func61, Tryz.ntmps61
  go_wp2_with fail
  refine (rTake b s er _ h hlim).mono ?_
  rintro e w1 ⟨u, rfl, hu, hI, hF⟩
  go_wp2_with fail
  refine (clone_anyB _ u _ hu (by omega)).mono ?_
  rintro e w2 ⟨v', rfl, ho, hk⟩
  have HO := Lib.hid ho
  have HK := Lib.hid hk
  have HI := Lib.hid hI
  have HF := Lib.hid hF
  clear ho hk hI hF hu h
  go_wp2
  go_ret
  exact ⟨_, rfl, Bts.of_own HO.out, HI.out.kept HK.out, HF.out.trans (RFr.of_kept HK.out)⟩
set_option maxHeartbeats 400000 in
theorem rText (b : Nat) (s : List UInt8) (er : Int) (w : World) (h : IsR w b s er) (hlim : s.length ≤ 140737488355328) :
    Calls Tryz.prog 60 #[.pointer (some ⟨b, 0, none⟩)] w fun e w' => e = .returned (.string ⟨(rd s er).1.toArray⟩) ∧ IsR w' b (rd s er).2.1 (rd s er).2.2 ∧ RFr b w w' := by
  go_enter Tryz.func60, Tryz.ntmps60
  go_wp2_with fail
  refine (rTake b s er _ h hlim).mono ?_
  rintro e w1 ⟨u, rfl, hu, hI, hF⟩
  have hcv := conv_run hu
  have HI := Lib.hid hI
  have HF := Lib.hid hF
  obtain ⟨A, c, rfl⟩ := hu.form
  clear hI hF hu h
  go_wp2
  go_ret
  exact ⟨rfl, HI.out, HF.out⟩
set_option maxHeartbeats 400000 in
theorem rErr (b : Nat) (s : List UInt8) (er : Int) (w : World) (h : IsR w b s er) :
    Calls Tryz.prog 33 #[.pointer (some ⟨b, 0, none⟩)] w fun e w' => e = .returned (.int .i64 er) ∧ w = w' := by
  obtain ⟨v, c0, hb, c1, f0, f1⟩ := h.cells
  clear h hb
  go_enter Tryz.func33, Tryz.ntmps33
  go_wp2
  go_ret
  exact ⟨rfl, rfl⟩
set_option maxHeartbeats 400000 in
theorem rLeft (b : Nat) (s : List UInt8) (er : Int) (w : World) (h : IsR w b s er) :
    Calls Tryz.prog 31 #[.pointer (some ⟨b, 0, none⟩)] w fun e w' => e = .returned (.int .i64 (s.length : Nat)) ∧ w = w' := by
  obtain ⟨v, c0, hb, c1, f0, f1⟩ := h.cells
  obtain ⟨A, c, rfl⟩ := hb.form
  clear h hb
  go_enter Tryz.func31, Tryz.ntmps31
  go_wp2
  go_ret
  exact ⟨rfl, rfl⟩
set_option maxHeartbeats 400000 in
theorem newReader_any (l : List UInt8) (v : Value) (w : World) (hv : Bts w v l) (hlim : l.length ≤ 140737488355328) :
    Calls Tryz.prog 30 #[v] w fun e w' => ∃ b, e = .returned (.pointer (some ⟨b, 0, none⟩)) ∧ w.heap.size ≤ b ∧ IsR w' b l 0 ∧ Kept w w' := by
  go_enter Tryz.func30, Tryz.ntmps30
  go_wp2_with fail
  refine (clone_anyB _ v _ hv hlim).mono ?_
  rintro e w2 ⟨v', rfl, ho, hk⟩
  have HB := Lib.hid (Bts.of_own ho)
  have HK := Lib.hid hk
  have hsz := hk.size
  obtain ⟨A, c, rfl⟩ := (Bts.of_own ho).form
  clear ho hk
  go_wp2
  go_ret
  exact ⟨_, rfl, hsz, ⟨_, heap_alloc_new w2 _, HB.out.kept ((Kept.refl w2).alloc _)⟩, HK.out.alloc _⟩
end Go.Proofs.YtennlckfmgfjbaaGreatDoor
