/- The document's network in memory. -/
import Derived.Test.YtnpenabkmpoafaaQNTold
set_option linter.unusedSimpArgs false
set_option linter.unusedVariables false
namespace Go.Proofs.Ytnpenabkmpoafaa
open Go.RowKit
/-- The document's network: all messages stand in one list. -/
structure RS where
  n : Nat
  room : Nat
  list : List (Int × Int × List UInt8)
  cut : Nat → Nat → Bool
  t : Nat → Nat
def bare (y : Sent) : Int × Int × List UInt8 := (y.1, y.2.1, y.2.2.2)
/-- The cells of its struct. -/
structure RefZ (Z : Array Value) (d : RS) (lv : Value) : Prop where
  size : Z.size = 1059
  z0 : Z[0]? = some (.int .i64 (d.n : Int))
  z1 : Z[1]? = some (.int .i64 (d.room : Int))
  z2 : Z[2]? = some lv
  zc : ∀ i j, i < 32 → j < 32 → Z[3 + i * 32 + j]? = some (.bool (d.cut i j))
  zt : ∀ i, i < 32 → Z[1027 + i]? = some (.int .i64 (d.t i : Int))
theorem RefZ.setList {Z : Array Value} {d : RS} {lv : Value} (h : RefZ Z d lv) (lv' : Value) (l : List (Int × Int × List UInt8)) : RefZ (Z.setIfInBounds 2 lv') { d with list := l } lv' := by
  have hs := h.size
  refine ⟨by simpa using hs, ?_, ?_, ?_, fun i j hi hj => ?_, fun i hi => ?_⟩
  · rw [Array.getElem?_setIfInBounds, if_neg (by omega)]; exact h.z0
  · rw [Array.getElem?_setIfInBounds, if_neg (by omega)]; exact h.z1
  · rw [Array.getElem?_setIfInBounds, if_pos rfl, if_pos (by omega)]
  · rw [Array.getElem?_setIfInBounds, if_neg (by omega)]; exact h.zc i j hi hj
  · rw [Array.getElem?_setIfInBounds, if_neg (by omega)]; exact h.zt i hi
theorem RefZ.setCut {Z : Array Value} {d : RS} {lv : Value} (h : RefZ Z d lv) {a b : Nat} (ha : a < 32) (hb : b < 32) : RefZ (Z.setIfInBounds (3 + a * 32 + b) (.bool true)) { d with cut := upd d.cut a b true } lv := by
  have hs := h.size
  refine ⟨by simpa using hs, ?_, ?_, ?_, fun i j hi hj => ?_, fun i hi => ?_⟩
  · rw [Array.getElem?_setIfInBounds, if_neg (by omega)]; exact h.z0
  · rw [Array.getElem?_setIfInBounds, if_neg (by omega)]; exact h.z1
  · rw [Array.getElem?_setIfInBounds, if_neg (by omega)]; exact h.z2
  · show _ = some (Value.bool (upd d.cut a b true i j))
    by_cases e : i = a ∧ j = b
    · obtain ⟨rfl, rfl⟩ := e
      rw [upd_same, Array.getElem?_setIfInBounds, if_pos rfl, if_pos (by omega)]
    · rw [upd_other _ _ e, Array.getElem?_setIfInBounds, if_neg (by omega)]; exact h.zc i j hi hj
  · rw [Array.getElem?_setIfInBounds, if_neg (by omega)]; exact h.zt i hi
structure RefAt (w : World) (db : Nat) (Z : Array Value) (lv : Value) (vs : List Sent) (d : RS) (G : Nat → Prop) : Prop where
  net : w.heap[db]? = some (.cells Z 35 (0, 0))
  cells : RefZ Z d lv
  row : w.ownsRow 0 81 3 lv vs.length (cells3 vs)
  vals : ∀ y ∈ vs, w.ownsRow 0 5 1 y.2.2.1 y.2.2.2.length (Lib.byteCells y.2.2.2)
  same : vs.map bare = d.list
  small : d.n ≤ 32
  roomy : d.room ≤ 4096
  few : vs.length ≤ 5000000
  inN : G db
  inL : ∀ g, lv.ownBlock = some g → G g
  inV : ∀ y ∈ vs, ∀ g, y.2.2.1.ownBlock = some g → G g
section
variable {w w' : World} {db : Nat} {Z : Array Value} {lv : Value} {vs : List Sent} {d : RS} {F G : Nat → Prop}
theorem RefAt.chg (h : RefAt w db Z lv vs d G) (c : Chg F w w') (hF : ∀ g, G g → ¬ F g) : RefAt w' db Z lv vs d G :=
  ⟨c.block' h.net (hF _ h.inN), h.cells, own_chg h.row c (fun g hg => hF _ (h.inL g hg)), fun y hy => own_chg (h.vals y hy) c (fun g hg => hF _ (h.inV y hy g hg)), h.same, h.small, h.roomy, h.few, h.inN, h.inL, h.inV⟩
theorem RefAt.kept (h : RefAt w db Z lv vs d G) (c : Kept w w') : RefAt w' db Z lv vs d G := h.chg (Chg.of_kept (F := no) c) (fun _ _ x => x)
theorem RefAt.mono (h : RefAt w db Z lv vs d F) (hg : ∀ g, F g → G g) : RefAt w db Z lv vs d G := ⟨h.net, h.cells, h.row, h.vals, h.same, h.small, h.roomy, h.few, hg _ h.inN, fun g x => hg _ (h.inL g x), fun y hy g x => hg _ (h.inV y hy g x)⟩
theorem RefAt.c0 (h : RefAt w db Z lv vs d G) : w.cell? ⟨db, 0, none⟩ = some (.int .i64 (d.n : Int)) := by rw [cell_at h.net]; exact h.cells.z0
theorem RefAt.c1 (h : RefAt w db Z lv vs d G) : w.cell? ⟨db, 1, none⟩ = some (.int .i64 (d.room : Int)) := by rw [cell_at h.net]; exact h.cells.z1
theorem RefAt.c2 (h : RefAt w db Z lv vs d G) : w.cell? ⟨db, 2, none⟩ = some lv := by rw [cell_at h.net]; exact h.cells.z2
theorem RefAt.cc (h : RefAt w db Z lv vs d G) {i j : Nat} (hi : i < 32) (hj : j < 32) : w.cell? ⟨db, 3 + i * 32 + j, none⟩ = some (.bool (d.cut i j)) := by rw [cell_at h.net]; exact h.cells.zc i j hi hj
theorem RefAt.ct (h : RefAt w db Z lv vs d G) {i : Nat} (hi : i < 32) : w.cell? ⟨db, 1027 + i, none⟩ = some (.int .i64 (d.t i : Int)) := by rw [cell_at h.net]; exact h.cells.zt i hi
theorem RefAt.apart (h : RefAt w db Z lv vs d G) : ¬ lv.ownBlock = some db := fun e => by
  obtain ⟨cur, h1⟩ := own_type h.row e
  have h2 := h.net
  rw [h1] at h2
  simp only [Option.some.injEq, Obj.cells.injEq] at h2
  exact absurd h2.2.1 (by decide)
theorem RefAt.len (h : RefAt w db Z lv vs d G) : vs.length = d.list.length := by rw [← h.same, List.length_map]
theorem RefAt.at {A : Option Addr} {n c : Nat} (h : RefAt w db Z (.slice A n c) vs d G) {i : Nat} (hi : i < vs.length) : ∃ g, A = some ⟨g, 0, none⟩ ∧ w.cell? ⟨g, i * 3, none⟩ = some (.int .i64 vs[i].1) ∧ w.cell? ⟨g, i * 3 + 1, none⟩ = some (.int .i64 vs[i].2.1) ∧ w.cell? ⟨g, i * 3 + 2, none⟩ = some vs[i].2.2.1 := by
  obtain ⟨A', c', e⟩ := own_form h.row
  obtain ⟨-, rfl, -⟩ : A = A' ∧ n = vs.length ∧ c = c' := by simpa using e
  exact SentAt.at (w0 := w) ⟨h.row, fun y hy => Bts.of_own (h.vals y hy)⟩ hi
end
def badR (d : RS) (a b : Int) : Bool := !(okI d.n a && okI d.n b)
set_option maxRecDepth 100000 in
set_option maxHeartbeats 1000000 in
theorem bad_any (a b : Int) (w : World) (db : Nat) (d : RS) (hn : d.n ≤ 32) (h0 : w.cell? ⟨db, 0, none⟩ = some (.int .i64 (d.n : Int))) :
    Calls Try.prog 31 #[.pointer (some ⟨db, 0, none⟩), .int .i64 a, .int .i64 b] w fun e w' => e = .returned (.bool (badR d a b)) ∧ w' = w := by
  have hb : badR d a b = (decide (a < 0) || decide ((d.n : Int) ≤ a) || decide (b < 0) || decide ((d.n : Int) ≤ b)) := by
    unfold badR okI
    rw [Bool.eq_iff_iff]
    simp
    omega
  rw [hb]
  by_cases h1 : a < 0
  · have t1 : decide (a < 0) = true := by simpa using h1
    go_enter Try.func31, Try.ntmps31
    go_wp2
    go_ret
    exact ⟨by simp [t1], rfl⟩
  have t1 : decide (a < 0) = false := by simpa using h1
  by_cases h2 : (d.n : Int) ≤ a
  · have t2 : decide ((d.n : Int) ≤ a) = true := by simpa using h2
    go_enter Try.func31, Try.ntmps31
    go_wp2
    go_ret
    exact ⟨by simp [t2], rfl⟩
  have t2 : decide ((d.n : Int) ≤ a) = false := by simpa using h2
  by_cases h3 : b < 0
  · have t3 : decide (b < 0) = true := by simpa using h3
    go_enter Try.func31, Try.ntmps31
    go_wp2
    go_ret
    exact ⟨by simp [t3], rfl⟩
  have t3 : decide (b < 0) = false := by simpa using h3
  by_cases h4 : (d.n : Int) ≤ b
  · have t4 : decide ((d.n : Int) ≤ b) = true := by simpa using h4
    go_enter Try.func31, Try.ntmps31
    go_wp2
    go_ret
    exact ⟨by simp [t4], rfl⟩
  have t4 : decide ((d.n : Int) ≤ b) = false := by simpa using h4
  go_enter Try.func31, Try.ntmps31
  go_wp2
  go_ret
  exact ⟨by simp [t1, t2, t3, t4], rfl⟩
end Go.Proofs.Ytnpenabkmpoafaa
