/- A log in memory: the row of its segments, the rows of their records; what keeps them. The walks of file, cutFile, next, isBelow, last, First, Next, Safe, isFull, firstFrame. -/
import Derived.Test.YtcdeagmoldbicaaGreatDoorGFrSpec8
import Derived.Test.YtcdeagmoldbicaaGreatDoorQWKit
import Derived.Test.YtcdeagmoldbicaaGreatDoorQUnf
import Derived.Test.YtcdeagmoldbicaaGreatDoorQNumWalk
import Derived.Lib.AppendIntMem
import Derived.Lib.ItoaMem
import Derived.Laws.IdiomStrings
import Derived.BigQuiet
set_option linter.unusedSimpArgs false
set_option linter.unusedVariables false
namespace Go.Proofs.YtcdeagmoldbicaaGreatDoor
open Go.RowKit
/-- Segments, each with the slice of its records. -/
abbrev Ps := List (Sg × Value)
/-- A segment's four cells. -/
def sc (s : Sg) (rv : Value) : List Value := [.int .i64 (s.num : Int), .int .i64 (s.fst : Int), .int .i64 (s.siz : Int), rv]
def scs (ps : Ps) : List Value := ps.flatMap fun p => sc p.1 p.2
theorem scs_nil : scs [] = [] := rfl
theorem scs_cons (p : Sg × Value) (r : Ps) : scs (p :: r) = sc p.1 p.2 ++ scs r := rfl
theorem scs_app (a b : Ps) : scs (a ++ b) = scs a ++ scs b := by unfold scs; rw [List.flatMap_append]
theorem scs_len (ps : Ps) : (scs ps).length = ps.length * 4 := by
  induction ps with
  | nil => rfl
  | cons p r ih => rw [scs_cons, List.length_append, ih]; simp [sc]; omega
theorem scs_at {ps : Ps} {i : Nat} (h : i < ps.length) : (scs ps)[i * 4]? = some (.int .i64 (ps[i].1.num : Int)) ∧ (scs ps)[i * 4 + 1]? = some (.int .i64 (ps[i].1.fst : Int)) ∧ (scs ps)[i * 4 + 2]? = some (.int .i64 (ps[i].1.siz : Int)) ∧ (scs ps)[i * 4 + 3]? = some ps[i].2 := by
  induction ps generalizing i with
  | nil => simp at h
  | cons p r ih =>
    rw [scs_cons]
    cases i with
    | zero => simp [sc]
    | succ j =>
      have := ih (i := j) (by simpa using h)
      have e : (j + 1) * 4 = j * 4 + 4 := by omega
      rw [e]
      simp only [sc, List.cons_append, List.nil_append, List.getElem?_cons_succ, List.getElem_cons_succ]
      exact this
/-- The last segment's size and records are others. -/
theorem scs_turn (a : Ps) (s : Sg) (rv rv' : Value) (siz : Nat) (rs : List (List UInt8)) : ((scs (a ++ [(s, rv)])).set (a.length * 4 + 3) rv').set (a.length * 4 + 2) (.int .i64 (siz : Int)) = scs (a ++ [(⟨s.num, s.fst, siz, rs⟩, rv')]) := by
  rw [scs_app, scs_app, ← scs_len, List.set_append_right _ _ (by omega), List.set_append_right _ _ (by omega)]
  congr 1
  simp only [Nat.add_sub_cancel_left]
  rfl
theorem own_type {w : World} {b : Nat} {e : TypeId} {s n : Nat} {v : Value} {xs : List Value} (h : w.ownsRow b e s v n xs) {g : Nat} (hg : v.ownBlock = some g) : ∃ cur, w.heap[g]? = some (.cells cur e (0, 0)) := by
  rcases h.2 with ⟨rfl, -⟩ | ⟨g', cap, cur, rfl, -, h3, -⟩
  · cases hg
  · obtain rfl : g' = g := by simpa [Value.ownBlock] using hg
    exact ⟨cur, h3⟩
theorem own_set {w : World} {b : Nat} {e : TypeId} {s n : Nat} {v : Value} {xs : List Value} {g : Nat} (h : w.ownsRow b e s v n xs) (hv : v.ownBlock = some g) (j : Nat) (u : Value) : (w.setCell ⟨g, j, none⟩ u).ownsRow b e s v n (xs.set j u) := by
  refine ⟨by rw [List.length_set]; exact h.1, ?_⟩
  rcases h.2 with ⟨rfl, -⟩ | ⟨g', cap, cur, rfl, hb, hc, h1, h2, h3, h4⟩
  · cases hv
  · obtain rfl : g' = g := by simpa [Value.ownBlock] using hv
    refine .inr ⟨g', cap, cur.setIfInBounds j u, rfl, hb, Lib.heap_setCell_same hc u, h1, h2, by simpa using h3, ?_⟩
    rw [Array.toList_setIfInBounds, List.take_set, h4]
/-! ### records -/
/-- The value is a row of records, each a row of bytes of its own; G names their blocks. -/
def RecsAt (w : World) (rv : Value) (rs : List (List UInt8)) (G : Nat → Prop) : Prop :=
  ∃ us : List Value, w.ownsRow 0 40 1 rv rs.length us ∧ (∀ g, rv.ownBlock = some g → G g) ∧
    ∀ k (hk : k < rs.length), ∃ u, us[k]? = some u ∧ w.ownsRow 0 5 1 u rs[k].length (Lib.byteCells rs[k]) ∧ ∀ g, u.ownBlock = some g → G g
theorem RecsAt.mono {w : World} {rv : Value} {rs : List (List UInt8)} {G G' : Nat → Prop} (h : RecsAt w rv rs G) (hg : ∀ g, G g → G' g) : RecsAt w rv rs G' := by
  obtain ⟨us, h1, h2, h3⟩ := h
  refine ⟨us, h1, fun g x => hg _ (h2 g x), fun k hk => ?_⟩
  obtain ⟨u, a, b, c⟩ := h3 k hk
  exact ⟨u, a, b, fun g x => hg _ (c g x)⟩
theorem RecsAt.chg {w w' : World} {rv : Value} {rs : List (List UInt8)} {F G : Nat → Prop} (h : RecsAt w rv rs G) (c : Chg F w w') (hF : ∀ g, G g → ¬ F g) : RecsAt w' rv rs G := by
  obtain ⟨us, h1, h2, h3⟩ := h
  refine ⟨us, own_chg h1 c (fun g x => hF _ (h2 g x)), h2, fun k hk => ?_⟩
  obtain ⟨u, a, b, d⟩ := h3 k hk
  exact ⟨u, a, own_chg b c (fun g x => hF _ (d g x)), d⟩
theorem RecsAt.kept {w w' : World} {rv : Value} {rs : List (List UInt8)} {G : Nat → Prop} (h : RecsAt w rv rs G) (k : Kept w w') : RecsAt w' rv rs G := h.chg (Chg.of_kept (F := no) k) (fun _ _ x => x)
/-- What has changed is no row of bytes, and not the records' own row. -/
theorem RecsAt.other {w w' : World} {rv : Value} {rs : List (List UInt8)} {F G : Nat → Prop} (h : RecsAt w rv rs G) (c : Chg F w w') (h1 : ∀ g, rv.ownBlock = some g → ¬ F g) (h2 : ∀ g, F g → ∀ cur, w.heap[g]? ≠ some (.cells cur 5 (0, 0))) : RecsAt w' rv rs G := by
  obtain ⟨us, a1, a2, a3⟩ := h
  refine ⟨us, own_chg a1 c h1, a2, fun k hk => ?_⟩
  obtain ⟨u, b1, b2, b3⟩ := a3 k hk
  refine ⟨u, b1, own_chg b2 c (fun g x y => ?_), b3⟩
  obtain ⟨cur, hc⟩ := own_type b2 x
  exact h2 g y cur hc
theorem RecsAt.nil (w : World) (G : Nat → Prop) : RecsAt w (.slice none 0 0) [] G := ⟨[], World.ownsRow_nil _ _ _ _, fun g x => (by cases x), fun k hk => by simp at hk⟩
theorem RecsAt.form {w : World} {rv : Value} {rs : List (List UInt8)} {G : Nat → Prop} (h : RecsAt w rv rs G) : ∃ A c, rv = .slice A rs.length c ∧ rs.length ≤ c ∧ c ≤ maxLen := by
  obtain ⟨us, h1, -⟩ := h
  rcases h1.2 with ⟨rfl, h0⟩ | ⟨g, cap, cur, rfl, -, -, h1, h2, -⟩
  · exact ⟨none, 0, by rw [h0], by omega, by decide⟩
  · exact ⟨_, _, rfl, h1, h2⟩
theorem RecsAt.ok {w : World} {rv : Value} {rs : List (List UInt8)} {G : Nat → Prop} (h : RecsAt w rv rs G) {g : Nat} (hg : rv.ownBlock = some g) : G g ∧ (∃ cur, w.heap[g]? = some (.cells cur 40 (0, 0))) := by
  obtain ⟨us, h1, h2, -⟩ := h
  exact ⟨h2 g hg, own_type h1 hg⟩
/-- One record of the row. -/
theorem RecsAt.at {w : World} {A : Option Addr} {n c : Nat} {rs : List (List UInt8)} {G : Nat → Prop} (h : RecsAt w (.slice A n c) rs G) {k : Nat} (hk : k < rs.length) : ∃ g u, A = some ⟨g, 0, none⟩ ∧ w.cell? ⟨g, k, none⟩ = some u ∧ Bts w u rs[k] := by
  obtain ⟨us, h1, -, h3⟩ := h
  obtain ⟨u, a, b, -⟩ := h3 k hk
  rcases h1.2 with ⟨e, h0⟩ | ⟨g, cap', cur, e, -⟩
  · omega
  · obtain ⟨rfl, -, rfl⟩ : A = some ⟨g, 0, none⟩ ∧ n = rs.length ∧ c = cap' := by simpa using e
    have hrow := h1
    rw [e] at hrow
    have ha : ∀ j, ((⟨g, 0, none⟩ : Addr).add j) = ⟨g, j, none⟩ := fun j => by unfold Addr.add; split <;> simp_all
    have c1 := hrow.cells (g := g) rfl _ _ a
    rw [ha] at c1
    exact ⟨g, u, rfl, c1, Bts.of_own b⟩
/-! ### segments -/
structure Segs (w : World) (sv : Value) (ps : Ps) (G : Nat → Prop) : Prop where
  row : w.ownsRow 0 104 4 sv ps.length (scs ps)
  recs : ∀ p ∈ ps, RecsAt w p.2 p.1.recs G
  apart : ps.Pairwise fun p q => ∀ g, p.2.ownBlock = some g → q.2.ownBlock ≠ some g
  rowG : ∀ g, sv.ownBlock = some g → G g
theorem Segs.mono {w : World} {sv : Value} {ps : Ps} {G G' : Nat → Prop} (h : Segs w sv ps G) (hg : ∀ g, G g → G' g) : Segs w sv ps G' := ⟨h.row, fun p hp => (h.recs p hp).mono hg, h.apart, fun g x => hg _ (h.rowG g x)⟩
theorem Segs.chg {w w' : World} {sv : Value} {ps : Ps} {F G : Nat → Prop} (h : Segs w sv ps G) (c : Chg F w w') (hF : ∀ g, G g → ¬ F g) : Segs w' sv ps G := ⟨own_chg h.row c (fun g x => hF _ (h.rowG g x)), fun p hp => (h.recs p hp).chg c hF, h.apart, h.rowG⟩
theorem Segs.kept {w w' : World} {sv : Value} {ps : Ps} {G : Nat → Prop} (h : Segs w sv ps G) (k : Kept w w') : Segs w' sv ps G := h.chg (Chg.of_kept (F := no) k) (fun _ _ x => x)
theorem Segs.nil (w : World) (G : Nat → Prop) : Segs w (.slice none 0 0) [] G := ⟨World.ownsRow_nil _ _ _ _, fun p hp => (by simp at hp), List.Pairwise.nil, fun g x => (by cases x)⟩
theorem Segs.form {w : World} {sv : Value} {ps : Ps} {G : Nat → Prop} (h : Segs w sv ps G) : ∃ A c, sv = .slice A ps.length c ∧ ps.length ≤ c ∧ c ≤ maxLen := by
  rcases h.row.2 with ⟨rfl, h0⟩ | ⟨g, cap, cur, rfl, -, -, h1, h2, -⟩
  · exact ⟨none, 0, by rw [h0], by omega, by decide⟩
  · exact ⟨_, _, rfl, h1, h2⟩
theorem Segs.at {w : World} {A : Option Addr} {n c : Nat} {ps : Ps} {G : Nat → Prop} (h : Segs w (.slice A n c) ps G) {i : Nat} (hi : i < ps.length) : ∃ g, A = some ⟨g, 0, none⟩ ∧
    w.cell? ⟨g, i * 4, none⟩ = some (.int .i64 (ps[i].1.num : Int)) ∧ w.cell? ⟨g, i * 4 + 1, none⟩ = some (.int .i64 (ps[i].1.fst : Int)) ∧ w.cell? ⟨g, i * 4 + 2, none⟩ = some (.int .i64 (ps[i].1.siz : Int)) ∧ w.cell? ⟨g, i * 4 + 3, none⟩ = some ps[i].2 ∧
    ∃ cur, w.heap[g]? = some (.cells cur 104 (0, 0)) := by
  rcases h.row.2 with ⟨e, h0⟩ | ⟨g, cap', cur, e, -, hb, -, -, -, -⟩
  · omega
  · obtain ⟨rfl, -, rfl⟩ : A = some ⟨g, 0, none⟩ ∧ n = ps.length ∧ c = cap' := by simpa using e
    have hrow := h.row
    rw [e] at hrow
    obtain ⟨h1, h2, h3, h4⟩ := scs_at hi
    have ha : ∀ j, ((⟨g, 0, none⟩ : Addr).add j) = ⟨g, j, none⟩ := fun j => by unfold Addr.add; split <;> simp_all
    have c1 := hrow.cells (g := g) rfl _ _ h1
    have c2 := hrow.cells (g := g) rfl _ _ h2
    have c3 := hrow.cells (g := g) rfl _ _ h3
    have c4 := hrow.cells (g := g) rfl _ _ h4
    rw [ha] at c1 c2 c3 c4
    exact ⟨g, rfl, c1, c2, c3, c4, cur, hb⟩
/-! ### the log -/
structure Lgm (w : World) (lb : Nat) (sv : Value) (ps : Ps) (d : Value) (lim safe : Nat) (G : Nat → Prop) : Prop where
  cells : w.heap[lb]? = some (.cells #[d, .string ⟨lg.toArray⟩, .int .i64 (lim : Int), .int .i64 (safe : Int), sv] 84 (0, 0))
  segs : Segs w sv ps G
  inG : G lb
theorem Lgm.mono {w : World} {lb : Nat} {sv : Value} {ps : Ps} {d : Value} {lim safe : Nat} {G G' : Nat → Prop} (h : Lgm w lb sv ps d lim safe G) (hg : ∀ g, G g → G' g) : Lgm w lb sv ps d lim safe G' := ⟨h.cells, h.segs.mono hg, hg _ h.inG⟩
theorem Lgm.chg {w w' : World} {lb : Nat} {sv : Value} {ps : Ps} {d : Value} {lim safe : Nat} {F G : Nat → Prop} (h : Lgm w lb sv ps d lim safe G) (c : Chg F w w') (hF : ∀ g, G g → ¬ F g) : Lgm w' lb sv ps d lim safe G := ⟨c.block' h.cells (hF _ h.inG), h.segs.chg c hF, h.inG⟩
theorem Lgm.kept {w w' : World} {lb : Nat} {sv : Value} {ps : Ps} {d : Value} {lim safe : Nat} {G : Nat → Prop} (h : Lgm w lb sv ps d lim safe G) (k : Kept w w') : Lgm w' lb sv ps d lim safe G := h.chg (Chg.of_kept (F := no) k) (fun _ _ x => x)
theorem Lgm.c0 {w : World} {lb : Nat} {sv : Value} {ps : Ps} {d : Value} {lim safe : Nat} {G : Nat → Prop} (h : Lgm w lb sv ps d lim safe G) : w.cell? ⟨lb, 0, none⟩ = some d := by simp [World.cell?, h.cells]
theorem Lgm.c1 {w : World} {lb : Nat} {sv : Value} {ps : Ps} {d : Value} {lim safe : Nat} {G : Nat → Prop} (h : Lgm w lb sv ps d lim safe G) : w.cell? ⟨lb, 1, none⟩ = some (.string ⟨lg.toArray⟩) := by simp [World.cell?, h.cells]
theorem Lgm.c2 {w : World} {lb : Nat} {sv : Value} {ps : Ps} {d : Value} {lim safe : Nat} {G : Nat → Prop} (h : Lgm w lb sv ps d lim safe G) : w.cell? ⟨lb, 2, none⟩ = some (.int .i64 (lim : Int)) := by simp [World.cell?, h.cells]
theorem Lgm.c3 {w : World} {lb : Nat} {sv : Value} {ps : Ps} {d : Value} {lim safe : Nat} {G : Nat → Prop} (h : Lgm w lb sv ps d lim safe G) : w.cell? ⟨lb, 3, none⟩ = some (.int .i64 (safe : Int)) := by simp [World.cell?, h.cells]
theorem Lgm.c4 {w : World} {lb : Nat} {sv : Value} {ps : Ps} {d : Value} {lim safe : Nat} {G : Nat → Prop} (h : Lgm w lb sv ps d lim safe G) : w.cell? ⟨lb, 4, none⟩ = some sv := by simp [World.cell?, h.cells]
theorem Lgm.fz {w : World} {lb : Nat} {sv : Value} {ps : Ps} {d : Value} {lim safe : Nat} {G : Nat → Prop} (h : Lgm w lb sv ps d lim safe G) (i : Nat) : w.frozen? ⟨lb, i, none⟩ = false := frozen_at h.cells i
theorem Lgm.lt {w : World} {lb : Nat} {sv : Value} {ps : Ps} {d : Value} {lim safe : Nat} {G : Nat → Prop} (h : Lgm w lb sv ps d lim safe G) : lb < w.heap.size := (Array.getElem?_eq_some_iff.1 h.cells).1
/-! ### the table of the library's Itoa -/
def Tb (w : World) : Prop := Lib.TabIs Tryz.prog w "internal/strconv.uint64pow10" .u64 Lib.pow10Tab
end Go.Proofs.YtcdeagmoldbicaaGreatDoor
set_option linter.unusedSimpArgs false
set_option linter.unusedVariables false
namespace Go.Proofs.YtcdeagmoldbicaaGreatDoor
open Go.RowKit
theorem str_append (l m : List UInt8) : (⟨l.toArray⟩ : ByteArray) ++ ⟨m.toArray⟩ = ⟨(l ++ m).toArray⟩ := by
  apply ByteArray.ext
  simp
theorem str_extract (l : List UInt8) (a b : Nat) : (⟨l.toArray⟩ : ByteArray).extract a b = ⟨((l.drop a).take (b - a)).toArray⟩ := by
  rw [Lib.extract_eq]
theorem kept_grow (w : World) (k : Nat) (os : Array Obj) : Kept w (Sort.grow (w.drewN k) os) := by
  refine ⟨rfl, rfl, rfl, ?_, fun i hi => ?_⟩
  · show w.heap.size ≤ (w.heap ++ os).size
    simp
  · show (w.heap ++ os)[i]? = w.heap[i]?
    rw [Array.getElem?_append_left hi]
theorem Tb.kept {w w' : World} (h : Tb w) (k : Kept w w') : Tb w' := Lib.tabBelow_of_tabIs h w' k
theorem itoa_any (n : Nat) (w : World) (hn : n ≤ 9999999999) (htab : Tb w) :
    Calls Tryz.prog 87 #[.int .i64 (n : Int)] w fun e w' => e = .returned (.string ⟨(Lib.decDigits n).toArray⟩) ∧ Kept w w' := by
  refine (Tryz.strconv_Itoa (n : Int) (by omega) (by omega) w htab).mono ?_
  rintro e w' ⟨rfl, k, os, rfl⟩
  rw [Lib.itoa_nonneg]
  exact ⟨rfl, kept_grow w k os⟩
set_option maxRecDepth 100000 in
set_option maxHeartbeats 1000000 in
theorem file_any (d : Value) (n : Nat) (w : World) (hT : Tb w) (hn : n < 1000000) :
    Calls Tryz.prog 48 #[.agg #[d, .string ⟨lg.toArray⟩], .int .i64 (n : Int)] w fun e w' => e = .returned (.string ⟨(fileN n).toArray⟩) ∧ Kept w w' := by
  have hk0 := (Kept.refl w).alloc (.cells #[d, .string ⟨lg.toArray⟩] 81)
  have HI := Lib.hid (itoa_any (1000000 + n) _ (by omega) (hT.kept hk0))
  rw [million n hn] at HI
  have hc : ((1000000 + n : Nat) : Int) = 1000000 + (n : Int) := by omega
  rw [hc] at HI
  have hl : (dk 6 n).length = 6 := dk_len 6 n
  have HF := Lib.hid (show (⟨lg.toArray⟩ : ByteArray) ++ ⟨#[46]⟩ ++ ⟨(dk 6 n).toArray⟩ = ⟨(fileN n).toArray⟩ by
    rw [show (⟨#[46]⟩ : ByteArray) = ⟨dot.toArray⟩ from rfl, str_append, str_append, List.append_assoc]; rfl)
  generalize dk 6 n = ds at *
  clear hc hT
  have hlen : ((49 :: ds).length) = 7 := by simp [hl]
  have hsl : (⟨(49 :: ds).toArray⟩ : ByteArray).extract 1 7 = ⟨ds.toArray⟩ := by
    rw [str_extract]
    simp only [List.drop_succ_cons, List.drop_zero]
    rw [List.take_of_length_le (by omega)]
  have hsz : (⟨(49 :: ds).toArray⟩ : ByteArray).size = 7 := by rw [str_size]; exact hlen
  generalize hsb : (⟨(49 :: ds).toArray⟩ : ByteArray) = sb at *
  clear hsb hlen
  go_enter Tryz.func48, Tryz.ntmps48
  go_wp2_with fail
  refine HI.out.mono ?_
  rintro e w1 ⟨rfl, hk1⟩
  have hb := hk1.block' (heap_alloc_new w (.cells #[d, .string ⟨lg.toArray⟩] 81))
  have q1 := cell_at hb 1
  simp only [List.getElem?_toArray, List.getElem?_cons_zero, List.getElem?_cons_succ] at q1
  have hk := hk0.trans hk1
  clear hb
  go_wp2
  go_ret
  exact ⟨congrArg (fun s => Ending.returned (.string s)) HF.out, hk⟩
set_option maxRecDepth 100000 in
set_option maxHeartbeats 1000000 in
theorem cutFile_any (d : Value) (w : World) :
    Calls Tryz.prog 96 #[.agg #[d, .string ⟨lg.toArray⟩]] w fun e w' => e = .returned (.string ⟨cutN.toArray⟩) ∧ Kept w w' := by
  have HF := Lib.hid (show (⟨lg.toArray⟩ : ByteArray) ++ ⟨#[46, 99, 117, 116]⟩ = ⟨cutN.toArray⟩ from str_append lg [46, 99, 117, 116])
  go_enter Tryz.func96, Tryz.ntmps96
  go_wp2
  go_ret
  exact ⟨congrArg (fun s => Ending.returned (.string s)) HF.out, (Kept.refl w).alloc _⟩
set_option maxRecDepth 100000 in
set_option maxHeartbeats 1000000 in
theorem next_any (a b c : Int) (A : Option Addr) (n k : Nat) (w : World) (hb : 0 ≤ b) (hn : b + n < 9223372036854775808) :
    Calls Tryz.prog 66 #[.agg #[.int .i64 a, .int .i64 b, .int .i64 c, .slice A n k]] w fun e w' => e = .returned (.int .i64 (b + n)) ∧ Kept w w' := by
  go_enter Tryz.func66, Tryz.ntmps66
  go_wp2
  go_ret
  exact ⟨rfl, (Kept.refl w).alloc _⟩
def segV (s : Sg) (rv : Value) : Value := .agg #[.int .i64 (s.num : Int), .int .i64 (s.fst : Int), .int .i64 (s.siz : Int), rv]
def noSeg : Value := .agg #[.int .i64 0, .int .i64 0, .int .i64 0, .slice none 0 0]
def lastV (ps : Ps) : Value := match ps.getLast? with
  | some p => segV p.1 p.2
  | none => noSeg
theorem lastV_snoc (a : Ps) (p : Sg × Value) : lastV (a ++ [p]) = segV p.1 p.2 := by unfold lastV; rw [List.getLast?_append]; simp
set_option maxRecDepth 100000 in
set_option maxHeartbeats 1000000 in
theorem last_any (lb : Nat) (sv : Value) (ps : Ps) (d : Value) (lim safe : Nat) (G : Nat → Prop) (w : World) (h : Lgm w lb sv ps d lim safe G) :
    Calls Tryz.prog 49 #[.pointer (some ⟨lb, 0, none⟩)] w fun e w' => e = .returned (lastV ps) ∧ Kept w w' := by
  have H := Lib.hid h
  obtain ⟨A, c, rfl, hc1, hc2⟩ := h.segs.form
  unfold maxLen at hc2
  have hlb := h.lt
  have hk0 := (Kept.refl w).alloc (.cells #[.int .i64 0, .int .i64 0, .int .i64 0, .slice none 0 0] 104)
  have c4 := (h.kept hk0).c4
  rcases List.eq_nil_or_concat ps with rfl | ⟨a, p, rfl⟩
  · clear h
    go_enter Tryz.func49, Tryz.ntmps49
    go_wp2
    exact bodyPost_ret (v := noSeg) (by simp [results, Tryz.results49, go_sem, noSeg]) rfl ⟨rfl, by
      refine Chg.kept (F := fun g => g = w.heap.size) (Kept.refl w) ?_ (fun g e => by omega)
      repeat (first | exact Chg.of_kept hk0 | refine Chg.setCell ?_ _ (fun _ => rfl))⟩
  · rw [List.concat_eq_append] at *
    obtain ⟨g, rfl, q0, q1, q2, q3, cur, hcur⟩ := (h.segs.kept hk0).at (i := a.length) (by simp)
    have hp : (a ++ [p])[a.length]'(by simp) = p := by simp
    rw [hp] at q0 q1 q2 q3
    have hl : (a ++ [p]).length = a.length + 1 := by simp
    have HL := Lib.hid (lastV_snoc a p)
    rw [hl] at c4 hc1
    have hgl : g < w.heap.size := (h.segs.row.lt g rfl).2
    obtain ⟨rA, rc, hrv, -, -⟩ := (h.segs.recs p (by simp)).form
    rw [hrv] at q3
    have HRV := Lib.hid hrv
    clear h hp hl hrv
    go_enter Tryz.func49, Tryz.ntmps49
    go_wp2
    go_region
    all_goals (
      go_wp2
      refine bodyPost_ret (v := .agg #[.int .i64 (p.1.num : Int), .int .i64 (p.1.fst : Int), .int .i64 (p.1.siz : Int), .slice rA p.1.recs.length rc]) (by simp [results, Tryz.results49, go_sem]) rfl ⟨?_, ((Kept.refl w).alloc _).drew⟩
      rw [HL.out]
      unfold segV
      rw [HRV.out])
set_option maxRecDepth 100000 in
set_option maxHeartbeats 1000000 in
theorem safeL_any (lb : Nat) (sv : Value) (ps : Ps) (d : Value) (lim safe : Nat) (G : Nat → Prop) (w : World) (h : Lgm w lb sv ps d lim safe G) :
    Calls Tryz.prog 26 #[.pointer (some ⟨lb, 0, none⟩)] w fun e w' => e = .returned (.int .i64 (safe : Int)) ∧ Kept w w' := by
  have c3 := h.c3
  clear h
  go_enter Tryz.func26, Tryz.ntmps26
  go_wp2
  go_ret
  exact ⟨rfl, Kept.refl w⟩
/-- The index of the first record, and the one behind the last. -/
def firstS (ss : List Sg) : Nat := match ss.head? with
  | some s => s.fst
  | none => 0
def nextS (ss : List Sg) : Nat := match ss.getLast? with
  | some s => s.next
  | none => 0
def sgs (ps : Ps) : List Sg := ps.map Prod.fst
theorem nextS_snoc (a : List Sg) (s : Sg) : nextS (a ++ [s]) = s.next := by unfold nextS; rw [List.getLast?_append]; simp
theorem sgs_snoc (a : Ps) (p : Sg × Value) : sgs (a ++ [p]) = sgs a ++ [p.1] := by simp [sgs]
theorem sgs_len (a : Ps) : (sgs a).length = a.length := by simp [sgs]
set_option maxRecDepth 100000 in
set_option maxHeartbeats 1000000 in
theorem first_any (lb : Nat) (sv : Value) (ps : Ps) (d : Value) (lim safe : Nat) (G : Nat → Prop) (w : World) (h : Lgm w lb sv ps d lim safe G) :
    Calls Tryz.prog 28 #[.pointer (some ⟨lb, 0, none⟩)] w fun e w' => e = .returned (.int .i64 (firstS (sgs ps) : Int)) ∧ Kept w w' := by
  obtain ⟨A, c, rfl, hc1, hc2⟩ := h.segs.form
  unfold maxLen at hc2
  have c4 := h.c4
  cases ps with
  | nil =>
    clear h
    go_enter Tryz.func28, Tryz.ntmps28
    go_wp2
    go_ret
    exact ⟨rfl, Kept.refl w⟩
  | cons p r =>
    obtain ⟨g, rfl, q0, q1, q2, q3, cur, hcur⟩ := h.segs.at (i := 0) (by simp)
    have hp : (p :: r)[0]'(by simp) = p := rfl
    rw [hp] at q1
    simp only [Nat.zero_mul, Nat.zero_add] at q1
    rw [List.length_cons] at c4 hc1
    have t0 : (((r.length + 1 : Nat) : Int) == 0) = false := by simp; omega
    have t1 : (((r.length : Int) + 1) == 0) = false := by simp; omega
    have g0 : (0 : Int) < (r.length : Int) + 1 := by omega
    clear h hp
    go_enter Tryz.func28, Tryz.ntmps28
    go_wp2
    go_ret
    exact ⟨rfl, Kept.refl w⟩
set_option maxRecDepth 100000 in
set_option maxHeartbeats 1000000 in
theorem nextL_any (lb : Nat) (sv : Value) (ps : Ps) (d : Value) (lim safe : Nat) (G : Nat → Prop) (w : World) (h : Lgm w lb sv ps d lim safe G) (hn : nextS (sgs ps) < 9223372036854775808) :
    Calls Tryz.prog 27 #[.pointer (some ⟨lb, 0, none⟩)] w fun e w' => e = .returned (.int .i64 (nextS (sgs ps) : Int)) ∧ Kept w w' := by
  have HLA := Lib.hid (last_any lb sv ps d lim safe G w h)
  rcases List.eq_nil_or_concat ps with rfl | ⟨a, p, rfl⟩
  · rw [show lastV [] = .agg #[.int .i64 0, .int .i64 0, .int .i64 0, .slice none 0 0] from rfl] at HLA
    clear h
    go_enter Tryz.func27, Tryz.ntmps27
    go_wp2_with fail
    refine HLA.out.mono ?_
    rintro e w1 ⟨rfl, k1⟩
    go_wp2_with fail
    refine (next_any 0 0 0 none 0 0 w1 (by omega) (by omega)).mono ?_
    rintro e w2 ⟨rfl, k2⟩
    have k3 := k1.trans k2
    go_wp2
    go_ret
    exact ⟨rfl, k3⟩
  · rw [List.concat_eq_append] at *
    obtain ⟨rA, rc, hrv, -, -⟩ := (h.segs.recs p (by simp)).form
    rw [lastV_snoc] at HLA
    rw [sgs_snoc, nextS_snoc] at *
    unfold segV at HLA
    rw [hrv] at HLA
    unfold Sg.next at *
    have HC := Lib.hid (show (p.1.fst : Int) + (p.1.recs.length : Int) = ((p.1.fst + p.1.recs.length : Nat) : Int) by push_cast; rfl)
    clear h hrv
    go_enter Tryz.func27, Tryz.ntmps27
    go_wp2_with fail
    refine HLA.out.mono ?_
    rintro e w1 ⟨rfl, k1⟩
    go_wp2_with fail
    refine (next_any _ _ _ _ _ _ w1 (by omega) (by omega)).mono ?_
    rintro e w2 ⟨rfl, k2⟩
    have k3 := k1.trans k2
    go_wp2
    go_ret
    exact ⟨ret_int HC.out, k3⟩
set_option maxRecDepth 100000 in
set_option maxHeartbeats 1000000 in
theorem isBelow_any (s : Sg) (A : Option Addr) (k : Nat) (i : Int) (w : World) (hn : s.next < 9223372036854775808) :
    Calls Tryz.prog 50 #[.agg #[.int .i64 (s.num : Int), .int .i64 (s.fst : Int), .int .i64 (s.siz : Int), .slice A s.recs.length k], .int .i64 i] w fun e w' => e = .returned (.bool (decide (s.recs.length = 0) || decide ((s.next : Int) ≤ i))) ∧ Kept w w' := by
  have hk0 := (Kept.refl w).alloc (.cells #[.int .i64 (s.num : Int), .int .i64 (s.fst : Int), .int .i64 (s.siz : Int), .slice A s.recs.length k] 104)
  unfold Sg.next at *
  generalize s.recs.length = n at *
  by_cases h0 : n = 0
  · subst h0
    go_enter Tryz.func50, Tryz.ntmps50
    go_wp2
    go_ret
    exact ⟨rfl, hk0⟩
  · have t0 : ((n : Int) == 0) = false := by simpa using h0
    have HR := Lib.hid (show (decide ((s.fst : Int) + (n : Int) ≤ i)) = (decide (n = 0) || decide (((s.fst + n : Nat) : Int) ≤ i)) by simp [h0])
    go_enter Tryz.func50, Tryz.ntmps50
    go_wp2_with fail
    refine (next_any _ _ _ _ _ _ _ (by omega) (by omega)).mono ?_
    rintro e w2 ⟨rfl, k2⟩
    have k3 := hk0.trans k2
    go_wp2
    go_ret
    exact ⟨ret_bool HR.out, k3⟩
set_option maxRecDepth 100000 in
set_option maxHeartbeats 1000000 in
theorem firstFrame_any (n : Nat) (w : World) (hn : n ≤ 4611686018427387903) :
    Calls Tryz.prog 103 #[.int .i64 (n : Int)] w fun e w' => ∃ v, e = .returned (.tuple #[v, .int .i64 0]) ∧ w'.ownsRow w.heap.size 5 1 v (frameOf (put n)).length (Lib.byteCells (frameOf (put n))) ∧ Kept w w' := by
  have hk0 := (Kept.refl w).alloc (.cells #[.int .i64 (n : Int)] 3)
  have hints : Ints (w.alloc (.cells #[.int .i64 (n : Int)] 3)) (.slice (some ⟨w.heap.size, 0, none⟩) 1 1) [(n : Int)] := by
    refine ⟨_, 1, rfl, Nat.le_refl _, by decide, fun _ => ⟨_, 0, rfl, fun k x hx => ?_⟩⟩
    rw [cell_at (heap_alloc_new w _)]
    match k, hx with
    | 0, hx => simpa using hx
  have HN := Lib.hid (numbers_any [(n : Int)] _ _ hints (by simp))
  have hok : okNum (n : Int) = true := by unfold okNum; simp; omega
  have hbad : badAll [(n : Int)] = false := by simp [badAll, hok]
  rw [show numsErr [(n : Int)] = 0 by unfold numsErr; rw [hbad]; rfl, show numsRes [(n : Int)] = put n by unfold numsRes; rw [hbad]; simp [putAll, hok]] at HN
  have hpl := put_len n
  clear hok hbad hints hn
  go_enter Tryz.func103, Tryz.ntmps103
  go_wp2_with fail
  refine HN.out.mono ?_
  rintro e w1 ⟨v1, rfl, ho1, k1⟩
  have HB1 := Lib.hid (Bts.of_own ho1)
  obtain ⟨A1, c1, rfl⟩ := own_form ho1
  clear ho1
  go_wp2_with fail
  refine (frame_any (put n) _ w1 HB1.out).mono ?_
  rintro e w2 ⟨v2, rfl, ho2, k2⟩
  rw [show frRes (put n) = frameOf (put n) by unfold frRes; rw [if_neg (by omega)], show frErr (put n) = 0 by unfold frErr; rw [if_neg (by omega)]] at *
  obtain ⟨A2, c2, rfl⟩ := own_form ho2
  have kk := (hk0.trans k1)
  have HO2 := Lib.hid (own_base' ho2 kk.size)
  have k3 := kk.trans k2
  clear ho2
  go_wp2
  go_ret2
  exact ⟨_, rfl, HO2.out, k3⟩
end Go.Proofs.YtcdeagmoldbicaaGreatDoor
