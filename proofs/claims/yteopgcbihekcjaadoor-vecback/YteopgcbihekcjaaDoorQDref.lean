/- The document's reader: its block, and the walks of its methods. -/
import Derived.Test.YteopgcbihekcjaaDoorQRdr2
import Derived.Test.YteopgcbihekcjaaDoorGRefNum2
namespace Go.Proofs.YteopgcbihekcjaaDoor
open Go.RowKit
/-- Block b is the document's reader of the bytes l, at a place, with the error er. -/
def IsD (w : World) (b : Nat) (v : Value) (l : List UInt8) (p : Nat) (er : Int) : Prop :=
  w.heap[b]? = some (.cells #[v, .int .i64 (p : Int), .int .i64 er] 42 (0, 0)) ∧ Bts w v l ∧ p ≤ l.length
theorem IsD.lt {w : World} {b : Nat} {v : Value} {l : List UInt8} {p : Nat} {er : Int} (h : IsD w b v l p er) : b < w.heap.size := (Array.getElem?_eq_some_iff.1 h.1).1
theorem IsD.kept {w w' : World} {b : Nat} {v : Value} {l : List UInt8} {p : Nat} {er : Int} (h : IsD w b v l p er) (k : Kept w w') : IsD w' b v l p er :=
  ⟨(k.block b h.lt).trans h.1, h.2.1.kept k, h.2.2⟩
theorem IsD.not8 {w : World} {b : Nat} {v : Value} {l : List UInt8} {p : Nat} {er : Int} (h : IsD w b v l p er) (o : Nat) (y : Int) : w.cell? ⟨b, o, none⟩ ≠ some (.int .u8 y) := by
  obtain ⟨h, ⟨A, c, rfl, -⟩, -⟩ := h
  rw [cell_of_row w b o _ _ _ h]
  match o with
  | 0 => simp
  | 1 => simp
  | 2 => simp
  | o + 3 => simp
theorem IsD.setAt {w : World} {b : Nat} {v : Value} {l : List UInt8} {p : Nat} {er : Int} (h : IsD w b v l p er) (q : Nat) (hq : q ≤ l.length) : IsD (w.setCell ⟨b, 1, none⟩ (.int .i64 (q : Int))) b v l q er ∧ RFr b w (w.setCell ⟨b, 1, none⟩ (.int .i64 (q : Int))) :=
  ⟨⟨Lib.heap_setCell_same (i := 1) h.1 _, h.2.1.set h.not8, hq⟩, RFr.of_grown (Lib.grownBy_setCell w b 1 _)⟩
theorem IsD.setErr {w : World} {b : Nat} {v : Value} {l : List UInt8} {p : Nat} {er : Int} (h : IsD w b v l p er) (e : Int) : IsD (w.setCell ⟨b, 2, none⟩ (.int .i64 e)) b v l p e ∧ RFr b w (w.setCell ⟨b, 2, none⟩ (.int .i64 e)) :=
  ⟨⟨Lib.heap_setCell_same (i := 2) h.1 _, h.2.1.set h.not8, h.2.2⟩, RFr.of_grown (Lib.grownBy_setCell w b 2 _)⟩
theorem IsD.cells {w : World} {b : Nat} {v : Value} {l : List UInt8} {p : Nat} {er : Int} (h : IsD w b v l p er) : w.cell? ⟨b, 0, none⟩ = some v ∧ w.cell? ⟨b, 1, none⟩ = some (.int .i64 (p : Int)) ∧ w.cell? ⟨b, 2, none⟩ = some (.int .i64 er) ∧ w.frozen? ⟨b, 1, none⟩ = false ∧ w.frozen? ⟨b, 2, none⟩ = false := by
  obtain ⟨h, -, -⟩ := h
  refine ⟨?_, ?_, ?_, ?_, ?_⟩
  · rw [cell_of_row w b 0 _ _ _ h]; rfl
  · rw [cell_of_row w b 1 _ _ _ h]; rfl
  · rw [cell_of_row w b 2 _ _ _ h]; rfl
  · simp [World.frozen?, h]
  · simp [World.frozen?, h]
theorem numAt_rn (l : List UInt8) (p : Nat) (hp : p ≤ l.length) : numAt l (p : Int) = ((((rn (l.drop p) 0).1 : Nat) : Int), (if (rn (l.drop p) 0).2.2 = 0 then ((p + (rn (l.drop p) 0).2.1 : Nat) : Int) else 0), (rn (l.drop p) 0).2.2) := by
  rw [numAt_good hp]
  unfold rn
  rw [if_pos rfl]
  rcases numOf_cases (l.drop p) with ⟨e, h, he, -⟩ | ⟨n, c, h, -⟩
  · rw [h]
    match e, he with
    | e + 1, _ => simp; omega
  · rw [h]; simp

set_option maxRecDepth 100000 in
set_option maxHeartbeats 400000 in
theorem dLeft (b : Nat) (v : Value) (l : List UInt8) (p : Nat) (er : Int) (w : World) (h : IsD w b v l p er) (hlim : l.length ≤ 140737488355328) :
    Calls Tryd.prog 14 #[.pointer (some ⟨b, 0, none⟩)] w fun e w' => e = .returned (.int .i64 ((l.drop p).length : Nat)) ∧ Kept w w' := by
  have hp := h.2.2
  obtain ⟨c0, c1, c2, -, -⟩ := h.cells
  obtain ⟨A, c, rfl⟩ := h.2.1.form
  have hl : (l.drop p).length = l.length - p := List.length_drop
  rw [hl]
  clear h
  go_enter Tryd.func14, Tryd.ntmps14
  go_wp2
  go_quiet (fail)
  go_wp2
  go_ret
  exact ⟨by simp; omega, (Kept.refl _).drewN _⟩

set_option maxRecDepth 100000 in
set_option maxHeartbeats 1000000 in
theorem dNum (b : Nat) (v : Value) (l : List UInt8) (p : Nat) (er : Int) (w : World) (h : IsD w b v l p er) (hlim : l.length ≤ 140737488355328) :
    Calls Tryd.prog 29 #[.pointer (some ⟨b, 0, none⟩)] w fun e w' => e = .returned (.int .i64 ((rn (l.drop p) er).1 : Nat)) ∧ IsD w' b v l (p + (rn (l.drop p) er).2.1) (rn (l.drop p) er).2.2 ∧ RFr b w w' := by
  have hp := h.2.2
  obtain ⟨c0, c1, c2, f1, f2⟩ := h.cells
  obtain ⟨A, c, rfl⟩ := h.2.1.form
  have HD := Lib.hid h
  clear h
  by_cases he : er = 0
  · subst he
    have hN := numAt_rn l p hp
    have hk := (Kept.refl w).drew
    have hI := HD.out.kept hk
    rcases rn_cases (l.drop p) 0 with ⟨e, hR, he⟩ | ⟨-, n, k, hR, hc, -, hn⟩
    · rw [hR] at hN ⊢
      simp only [if_neg he] at hN ⊢
      have t : (e != 0) = true := by simpa using he
      have HF := Lib.hid (hI.setErr e)
      have HN := Lib.hid hN
      have HI := Lib.hid hI
      clear hN hI hR
      go_enter Tryd.func29, Tryd.ntmps29
      go_wp2_with fail
      go_region_with (go_at_call 36; refine (refNumber_any l p _ _ HI.out.2.1 hlim).mono ?_; rintro e w1 ⟨rfl, rfl⟩; rw [HN.out])
      all_goals (
        go_wp2
        go_ret
        exact ⟨rfl, HF.out.1, (RFr.of_kept hk).trans HF.out.2⟩)
    · rw [List.length_drop] at hc
      rw [hR] at hN ⊢
      simp only [if_true] at hN ⊢
      have HF := Lib.hid (hI.setAt (p + k) (by omega))
      have HN := Lib.hid hN
      have HI := Lib.hid hI
      clear hN hI hR
      go_enter Tryd.func29, Tryd.ntmps29
      go_wp2_with fail
      go_region_with (go_at_call 36; refine (refNumber_any l p _ _ HI.out.2.1 hlim).mono ?_; rintro e w1 ⟨rfl, rfl⟩; rw [HN.out])
      all_goals (
        go_wp2
        go_ret
        exact ⟨rfl, HF.out.1, (RFr.of_kept hk).trans HF.out.2⟩)
  · have hR : rn (l.drop p) er = (0, 0, er) := by unfold rn; rw [if_neg he]
    rw [hR]
    have t : (er != 0) = true := by simpa using he
    go_enter Tryd.func29, Tryd.ntmps29
    go_wp2
    go_ret
    exact ⟨rfl, HD.out, RFr.refl _ _⟩
end Go.Proofs.YteopgcbihekcjaaDoor
