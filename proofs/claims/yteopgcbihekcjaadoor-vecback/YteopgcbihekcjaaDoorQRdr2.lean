/- The walks of the reader's Num, take, Blob, Text, Err, Left, and of NewReader. -/
import Derived.Test.YteopgcbihekcjaaDoorQRdr
import Derived.Deep.RegionWith
namespace Go.Proofs.YteopgcbihekcjaaDoor
open Go.RowKit
theorem Bts.tail {w : World} {s : List UInt8} {b o c : Nat} (h : Bts w (.slice (some ⟨b, o, none⟩) s.length c) s) (m : Nat) (hm : m ≤ s.length) : Bts w (.slice (some ⟨b, o + m, none⟩) (s.length - m) (c - m)) (s.drop m) := by
  have := h.cut m (s.length - m) (by omega)
  rwa [List.take_of_length_le (by simp)] at this
theorem Bts.cut2 {w : World} {l : List UInt8} {b o c : Nat} (h : Bts w (.slice (some ⟨b, o, none⟩) l.length c) l) (m n : Nat) (hn : m + n ≤ l.length) : Bts w (.slice (some ⟨b, o + m, none⟩) (m + n - m) (c - m)) ((l.drop m).take n) := by
  rw [Nat.add_sub_cancel_left]; exact h.cut m n hn
theorem Bts.cut3 {w : World} {l : List UInt8} {b o m n : Nat} (h : Bts w (.slice (some ⟨b, o, none⟩) l.length (m + n)) l) (hn : m + n ≤ l.length) : Bts w (.slice (some ⟨b, o + m, none⟩) (m + n - m) n) ((l.drop m).take n) := by
  have := h.cut m n hn
  rw [Nat.add_sub_cancel_left] at this ⊢; exact this
theorem Bts.gone {w : World} {s : List UInt8} (A : Option Addr) (n c : Nat) (m : Nat) (hm : m = s.length) (hc : c ≤ maxLen) (hn : n = 0) : Bts w (.slice A n c) (s.drop m) := by
  subst hm hn
  rw [List.drop_length]
  exact Bts.empty w A c hc
theorem rn_le (s : List UInt8) (er : Int) : (rn s er).2.1 ≤ s.length ∧ (rn s er).1 ≤ 4611686018427387903 := by
  rcases rn_cases s er with ⟨e, h, -⟩ | ⟨-, n, c, h, h1, -, h2⟩
  · rw [h]; exact ⟨Nat.zero_le _, Nat.zero_le _⟩
  · rw [h]; exact ⟨h1, h2⟩

theorem IsR.step {w w1 : World} {b : Nat} {s s' t : List UInt8} {e2 : Int} {v' u : Value} (h : IsR w1 b s e2) (h' : Bts w1 v' s') (hu : Bts w1 u t) (hF : RFr b w w1) : Bts (w1.setCell ⟨b, 0, none⟩ v') u t ∧ IsR (w1.setCell ⟨b, 0, none⟩ v') b s' e2 ∧ RFr b w (w1.setCell ⟨b, 0, none⟩ v') :=
  ⟨hu.set h.not8, (h.setRest h').1, hF.trans (h.setRest h').2⟩

set_option maxRecDepth 100000 in
set_option maxHeartbeats 400000 in
theorem rNum (b : Nat) (s : List UInt8) (er : Int) (w : World) (h : IsR w b s er) (hlim : s.length ≤ 140737488355328) :
    Calls Tryd.prog 23 #[.pointer (some ⟨b, 0, none⟩)] w fun e w' => e = .returned (.int .i64 ((rn s er).1 : Nat)) ∧ IsR w' b (s.drop (rn s er).2.1) (rn s er).2.2 ∧ RFr b w w' := by
  have hle := (rn_le s er).1
  have hcall := rnumber b s er w h hlim
  cases hR : rn s er with
  | mk n r =>
  obtain ⟨m, e2⟩ := r
  rw [hR] at hle hcall
  simp only at hle hcall ⊢
  clear hR
  go_enter Tryd.func23, Tryd.ntmps23
  go_wp2_with fail
  refine hcall.mono ?_
  rintro e w1 ⟨rfl, hI, hF⟩
  clear hcall
  have HI := Lib.hid hI
  have HF := Lib.hid hF
  obtain ⟨v, c0, hb, c1, f0, f1⟩ := hI.cells
  clear hI hF h
  obtain ⟨A, c, hv, hc1, hc2, -⟩ := id hb
  subst hv
  have hc3 := hc2
  have HC := Lib.hid hc3
  clear hc3
  unfold maxLen at hc2
  have HB := Lib.hid hb
  clear hb
  by_cases hs : s.length = 0
  · have hm : m = 0 := by omega
    subst hm
    obtain rfl : s = [] := List.eq_nil_of_length_eq_zero hs
    cases A with
    | none =>
      go_wp2
      go_ret
      exact ⟨rfl, (HI.out.step (Bts.empty w1 _ _ (by unfold maxLen; omega)) (Bts.nil w1) HF.out).2⟩
    | some ad =>
      by_cases hc0 : c = 0
      · subst hc0
        go_wp2
        go_ret
        exact ⟨rfl, (HI.out.step (Bts.empty w1 _ _ (by unfold maxLen; omega)) (Bts.nil w1) HF.out).2⟩
      · go_wp2
        go_ret
        exact ⟨rfl, (HI.out.step (Bts.empty w1 _ _ (by unfold maxLen; omega)) (Bts.nil w1) HF.out).2⟩
  · obtain ⟨b', o, rfl⟩ := HB.out.addr (by omega)
    by_cases hcm : c = m
    · subst hcm
      go_wp2
      go_ret
      exact ⟨rfl, (HI.out.step (Bts.gone _ _ _ _ (by omega) (by unfold maxLen; omega) (by omega)) (Bts.nil w1) HF.out).2⟩
    · go_wp2
      go_ret
      exact ⟨rfl, (HI.out.step (HB.out.tail m hle) (Bts.nil w1) HF.out).2⟩

/-- What take tells: the bytes, what is left, the error. -/
def rd (s : List UInt8) (er : Int) : List UInt8 × List UInt8 × Int :=
  if (rn s er).1 ≤ s.length - (rn s er).2.1 then ((s.drop (rn s er).2.1).take (rn s er).1, s.drop ((rn s er).2.1 + (rn s er).1), (rn s er).2.2) else ([], s, 12)
set_option maxHeartbeats 400000 in
theorem rErr (b : Nat) (s : List UInt8) (er : Int) (w : World) (h : IsR w b s er) :
    Calls Tryd.prog 25 #[.pointer (some ⟨b, 0, none⟩)] w fun e w' => e = .returned (.int .i64 er) ∧ w = w' := by
  obtain ⟨v, c0, hb, c1, f0, f1⟩ := h.cells
  clear h hb
  go_enter Tryd.func25, Tryd.ntmps25
  go_wp2
  go_ret
  exact ⟨rfl, rfl⟩
set_option maxHeartbeats 400000 in
theorem rLeft (b : Nat) (s : List UInt8) (er : Int) (w : World) (h : IsR w b s er) :
    Calls Tryd.prog 26 #[.pointer (some ⟨b, 0, none⟩)] w fun e w' => e = .returned (.int .i64 (s.length : Nat)) ∧ w = w' := by
  obtain ⟨v, c0, hb, c1, f0, f1⟩ := h.cells
  obtain ⟨A, c, rfl⟩ := hb.form
  clear h hb
  go_enter Tryd.func26, Tryd.ntmps26
  go_wp2
  go_ret
  exact ⟨rfl, rfl⟩
set_option maxHeartbeats 400000 in
theorem newReader_any (l : List UInt8) (v : Value) (w : World) (hv : Bts w v l) (hlim : l.length ≤ 140737488355328) :
    Calls Tryd.prog 22 #[v] w fun e w' => ∃ b, e = .returned (.pointer (some ⟨b, 0, none⟩)) ∧ w.heap.size ≤ b ∧ IsR w' b l 0 ∧ Kept w w' := by
  go_enter Tryd.func22, Tryd.ntmps22
  go_wp2_with fail
  refine (clone_anyB _ v _ hv hlim).mono ?_
  rintro e w2 ⟨v', rfl, ho, hk⟩
  have HB := Lib.hid (Bts.of_own ho)
  have HK := Lib.hid hk
  have hsz := hk.size
  obtain ⟨A, c, rfl⟩ := (Bts.of_own ho).form
  clear ho hk
  go_wp2
  go_ret
  exact ⟨_, rfl, hsz, ⟨_, heap_alloc_new w2 _, HB.out.kept ((Kept.refl w2).alloc _)⟩, HK.out.alloc _⟩
end Go.Proofs.YteopgcbihekcjaaDoor
