/- What Get tells of any bytes, as plain data; the walk of Get. -/
import Derived.Test.YteopgcbihekcjaaDoorQVBk2
import Derived.Test.YteopgcbihekcjaaDoorQRdr2
import Derived.Test.YteopgcbihekcjaaDoorQVJoin
set_option linter.unusedSimpArgs false
set_option linter.unusedVariables false
namespace Go.Proofs.YteopgcbihekcjaaDoor
open Go.RowKit
/-- A reader's state: what is left, the error. What it reads next, and its state behind it. -/
abbrev RSt := List UInt8 × Int
def nv (s : RSt) : Nat := (rn s.1 s.2).1
def nx (s : RSt) : RSt := (s.1.drop (rn s.1 s.2).2.1, (rn s.1 s.2).2.2)
/-- Several numbers. -/
def rdN : Nat → RSt → List Int × RSt
  | 0, s => ([], s)
  | k + 1, s => ((rdN k s).1 ++ [((nv (rdN k s).2 : Nat) : Int)], nx (rdN k s).2)
def gs1 (p : List UInt8) : RSt := nx (p, 0)
def gs2 (p : List UInt8) : RSt := nx (gs1 p)
def gs3 (p : List UInt8) : RSt := nx (gs2 p)
/-- The ballot, how many numbers, the numbers. -/
def gN (p : List UInt8) : Nat := nv (p, 0)
def gR (p : List UInt8) : Nat := nv (gs1 p)
def gM (p : List UInt8) : Nat := nv (gs2 p)
def gmOk (p : List UInt8) : Bool := decide (1 ≤ gM p) && decide (gM p ≤ 7)
def gAll (p : List UInt8) : List Int × RSt := if gmOk p then rdN (gM p) (gs3 p) else ([], gs3 p)
def getOk (p : List UInt8) : Bool := gmOk p && (bOk (gN p) (gR p) && ((gAll p).2.2 == 0 && (gAll p).2.1.length == 0))
def getN (p : List UInt8) : Int := if getOk p then (gN p : Int) else 0
def getR (p : List UInt8) : Int := if getOk p then (gR p : Int) else 0
def getV (p : List UInt8) : List Int := if getOk p then (gAll p).1 else []
def getE (p : List UInt8) : Int := if getOk p then 0 else 13
theorem nx_len (s : RSt) : (nx s).1.length ≤ s.1.length := by unfold nx; simp
theorem rdN_len (k : Nat) (s : RSt) : (rdN k s).1.length = k := by
  induction k with
  | zero => rfl
  | succ k ih => simp [rdN, ih]
theorem rdN_left (k : Nat) (s : RSt) : (rdN k s).2.1.length ≤ s.1.length := by
  induction k with
  | zero => exact Nat.le_refl _
  | succ k ih => exact Nat.le_trans (nx_len _) ih
theorem nv_le (s : RSt) : nv s ≤ 4611686018427387903 := (rn_le s.1 s.2).2
/-- The numbers read so far, noughts behind them. -/
def part (k m : Nat) (s : RSt) : List Int := (rdN k s).1 ++ zeros (m - k)
theorem part_len {k m : Nat} (s : RSt) (h : k ≤ m) : (part k m s).length = m := by unfold part; rw [List.length_append, rdN_len, zeros_len]; omega
theorem part_zero (m : Nat) (s : RSt) : part 0 m s = zeros m := by simp [part, rdN]
theorem part_all (m : Nat) (s : RSt) : part m m s = (rdN m s).1 := by simp [part, zeros]
theorem part_set {k m : Nat} (s : RSt) (h : k < m) : (part k m s).set k ((nv (rdN k s).2 : Nat) : Int) = part (k + 1) m s := by
  unfold part
  have hl := rdN_len k s
  rw [List.set_append_right _ _ (by omega), hl, Nat.sub_self, show zeros (m - k) = 0 :: zeros (m - (k + 1)) by unfold zeros; rw [show m - k = (m - (k + 1)) + 1 by omega, List.replicate_succ]]
  simp [rdN, List.append_assoc]
theorem rNumS (b : Nat) (s : RSt) (w : World) (h : IsR w b s.1 s.2) (hlim : s.1.length ≤ 140737488355328) :
    Calls Tryd.prog 23 #[.pointer (some ⟨b, 0, none⟩)] w fun e w' => e = .returned (.int .i64 ((nv s : Nat) : Int)) ∧ IsR w' b (nx s).1 (nx s).2 ∧ RFr b w w' := rNum b s.1 s.2 w h hlim
theorem RFr.block' {b : Nat} {w w' : World} (h : RFr b w w') {k : Nat} {o : Obj} (hk : w.heap[k]? = some o) (hne : k ≠ b) : w'.heap[k]? = some o := (h.block k (Array.getElem?_eq_some_iff.1 hk).1 hne).trans hk
theorem RFr.chg {b : Nat} {w w' : World} (h : RFr b w w') : Chg (fun g => g = b) w w' := ⟨h.os, h.tape, h.output, h.size, fun k hk hF => h.block k hk hF⟩
/-- What Get leaves. -/
def GetTo (w : World) (p : List UInt8) (e : Ending) (w' : World) : Prop := ∃ v, e = .returned (.tuple #[bal (getN p) (getR p), v, .int .i64 (getE p)]) ∧ Ints w' v (getV p) ∧ Kept w w'
theorem GetTo.bad {w w' : World} {p : List UInt8} (h : getOk p = false) (k : Kept w w') : GetTo w p (.returned (.tuple #[bal 0 0, .slice none 0 0, .int .i64 13])) w' := by
  refine ⟨.slice none 0 0, by unfold getN getR getE; rw [h]; rfl, ?_, k⟩
  rw [show getV p = [] by unfold getV; rw [h]; rfl]
  exact ints_none _
theorem GetTo.good {w w' : World} {p : List UInt8} {v : Value} (h : getOk p = true) (hv : Ints w' v (gAll p).1) (k : Kept w w') : GetTo w p (.returned (.tuple #[bal (gN p) (gR p), v, .int .i64 0])) w' := by
  refine ⟨v, by unfold getN getR getE; rw [h]; rfl, ?_, k⟩
  rw [show getV p = (gAll p).1 by unfold getV; rw [h]; rfl]
  exact hv
theorem row_no8 {w : World} {base g n : Nat} {l : List Int} (h : w.ownsRow base 3 1 (.slice (some ⟨g, 0, none⟩) n n) n (iv l)) (o : Nat) (y : Int) : w.cell? ⟨g, o, none⟩ ≠ some (.int .u8 y) := by
  rcases h.2 with ⟨e, -⟩ | ⟨g', cap, cur, e, -, h3, -, -, h5, h6⟩
  · cases e
  · obtain ⟨rfl, rfl⟩ : g = g' ∧ n = cap := by simpa using e
    rw [cell_at h3]
    rw [List.take_of_length_le (by rw [Array.length_toList, h5]; exact Nat.le_refl _)] at h6
    intro hc
    have hm : (.int .u8 y : Value) ∈ cur.toList := by
      rw [Array.mem_toList_iff]
      exact Array.mem_of_getElem? hc
    rw [h6] at hm
    obtain ⟨x, -, hx⟩ := List.mem_map.1 hm
    cases hx
/-- A store to a row of ints leaves a reader as it is. -/
theorem IsR.poke {w : World} {b g i : Nat} {s : List UInt8} {er : Int} {base n : Nat} {l : List Int} {x : Int} (h : IsR w b s er) (hrow : w.ownsRow base 3 1 (.slice (some ⟨g, 0, none⟩) n n) n (iv l)) (hne : b ≠ g) : IsR (w.setCell ⟨g, i, none⟩ (.int .i64 x)) b s er := by
  obtain ⟨v, h1, h2⟩ := h
  exact ⟨v, (heap_other w (b := g) (i := i) (.int .i64 x) hne).trans h1, h2.set (row_no8 hrow)⟩
set_option maxHeartbeats 400000 in
theorem zero_full (n : Nat) (w : World) (h1 : 1 ≤ n) (h7 : n ≤ 7) : Calls Tryd.prog 24 #[.int .i64 (n : Int)] w fun e w' => e = .returned (.tuple #[.slice (some ⟨w.heap.size, 0, none⟩) n n, .int .i64 0]) ∧ w'.ownsRow w.heap.size 3 1 (.slice (some ⟨w.heap.size, 0, none⟩) n n) n (iv (zeros n)) ∧ Kept w w' := by
  obtain ⟨i, hi, hz, hs, hb⟩ := info_int
  obtain ⟨w1, hmk, hrow, hgr⟩ := run_make_full (P := Tryd.prog) w w.heap.size 29 3 i (.int .i64 0) 1 Tryd.underlying29 hi hz hs .i64 .i64 n (by rw [hb]; omega) (by unfold maxLen; omega) (Nat.le_refl _)
  have hk1 : Kept w w1 := (Chg.of_grown (F := no) hgr (fun g hg => by cases hg)).to_kept
  have t1 : decide ((n : Int) < 1) = false := decide_eq_false (by omega)
  have t2 : decide (7 < (n : Int)) = false := decide_eq_false (by omega)
  have HR := Lib.hid hrow
  have HK := Lib.hid hk1
  clear hrow hgr hi hz hs hb hk1
  go_enter Tryd.func24, Tryd.ntmps24
  go_wp2
  go_ret2
  refine ⟨rfl, ?_, HK.out⟩
  have := HR.out
  have e : (madeCells (Value.int .i64 0).cells (n * 1)).toList = iv (zeros n) := by
    show (madeCells #[.int .i64 0] (n * 1)).toList = _
    rw [toList_madeCells_one]
    simp [iv, zeros]
  rw [e] at this
  exact this
end Go.Proofs.YteopgcbihekcjaaDoor
