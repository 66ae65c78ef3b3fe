/- Reading the statements' arguments; the library's table and its two errors. -/
import Derived.Test.YtngbgngfdklnlaaGreatDoorQDRow
import Derived.Test.YtngbgngfdklnlaaGreatDoorGSTb4
import Derived.LaidSub
import Derived.MakeChecks
import Derived.LaidMore
import Derived.LaidLaws
set_option linter.unusedSimpArgs false
set_option linter.unusedVariables false
namespace Go.Proofs.YtngbgngfdklnlaaGreatDoor
open Go.ChangeShapes Go.WideShapes Go.ChangeAt Go.RowKit Go.Joins
theorem tab_one {W : World} {laid : List (String × DataW Unit)} (h : laidMetH Tryz.prog laid W)
    (hf : (laid.filter fun x => x.1 == "internal/strconv.uint64pow10") = [("internal/strconv.uint64pow10", Lib.tabData .u64 Lib.pow10Tab)]) : Lib.TabIs Tryz.prog W "internal/strconv.uint64pow10" .u64 Lib.pow10Tab := by
  have h1 := h.filter (fun x => x.1 == "internal/strconv.uint64pow10")
  rw [hf, MakeChecks.laidMetH_plain _ _ _ (by kernel_rfl)] at h1
  exact Lib.tabIs_of_head (g := 2) (t := 239) (e := 208) (n := 20) (by kernel_rfl) (by kernel_rfl) (by kernel_rfl) (by kernel_rfl) (by kernel_rfl) (by kernel_rfl) h1
theorem syn_one {W : World} {laid : List (String × DataW Unit)} {nm : String} {d : DataW Unit} (h : laidMetH Tryz.prog laid W)
    (hf : (laid.filter fun x => x.1 == "strconv.ErrSyntax") = [("strconv.ErrSyntax", .iface nm d)]) (hp : ∀ W : World, laidMetH Tryz.prog [("strconv.ErrSyntax", .iface nm d)] W = laidMet Tryz.prog [("strconv.ErrSyntax", .iface nm d)] W) : ∃ tp p, W.cell? ⟨3, 0, none⟩ = some (.iface tp p) := by
  have h1 := h.filter (fun x => x.1 == "strconv.ErrSyntax")
  rw [hf, hp] at h1
  obtain ⟨ps, ⟨g0, t0, cs0, f0, p0, q0, hg0, ht0, hv0, hd0, _, e0⟩, _, hrows⟩ := h1
  obtain rfl := Option.some.inj ((show Tryz.prog.globalNamed "strconv.ErrSyntax" = some 3 by kernel_rfl).symm.trans hg0)
  obtain rfl := Option.some.inj ((show (Tryz.prog.globals[3]?).map (·.type) = some 169 by kernel_rfl).symm.trans ht0)
  obtain ⟨f1, u, v, hl, -⟩ := iface_of_trod Tryz.underlying169 hd0
  refine ⟨u, v, ?_⟩
  rw [World.var?_cell hg0 hv0 0]
  have : cs0 = #[.iface u v] := by
    apply Array.ext'
    exact hl
  rw [this]
  rfl
theorem rng_one {W : World} {laid : List (String × DataW Unit)} {nm : String} {d : DataW Unit} (h : laidMetH Tryz.prog laid W)
    (hf : (laid.filter fun x => x.1 == "strconv.ErrRange") = [("strconv.ErrRange", .iface nm d)]) (hp : ∀ W : World, laidMetH Tryz.prog [("strconv.ErrRange", .iface nm d)] W = laidMet Tryz.prog [("strconv.ErrRange", .iface nm d)] W) : ∃ tp p, W.cell? ⟨4, 0, none⟩ = some (.iface tp p) := by
  have h1 := h.filter (fun x => x.1 == "strconv.ErrRange")
  rw [hf, hp] at h1
  obtain ⟨ps, ⟨g0, t0, cs0, f0, p0, q0, hg0, ht0, hv0, hd0, _, e0⟩, _, hrows⟩ := h1
  obtain rfl := Option.some.inj ((show Tryz.prog.globalNamed "strconv.ErrRange" = some 4 by kernel_rfl).symm.trans hg0)
  obtain rfl := Option.some.inj ((show (Tryz.prog.globals[4]?).map (·.type) = some 169 by kernel_rfl).symm.trans ht0)
  obtain ⟨f1, u, v, hl, -⟩ := iface_of_trod Tryz.underlying169 hd0
  refine ⟨u, v, ?_⟩
  rw [World.var?_cell hg0 hv0 0]
  have : cs0 = #[.iface u v] := by
    apply Array.ext'
    exact hl
  rw [this]
  rfl
theorem Long.w {H : Type} {d : DataW H} {n : Nat} {t e : TypeId} (hl : Long d n) (hu : Tryz.prog.underlying t = some (.slice e)) (hw : ∀ m ∈ d.weights Tryz.prog t, m ≤ reachBytes) : n * Tryz.prog.bytesOf e ≤ reachBytes := by
  rcases hl with rfl | ⟨elems, spare, rfl, hn⟩
  · simp
  · have h1 := hw ((elems.length + spare.length) * Tryz.prog.bytesOf e) (by simp [DataW.weights, hu])
    exact Nat.le_trans (Nat.mul_le_mul_right _ hn) h1
/-- An argument's weights are within reach. -/
theorem weights_arg {H : Type} {ts : List TypeId} {ds : List (DataW H)} (h : (DataW.weightsEach Tryz.prog ts ds).all (· ≤ reachBytes) = true) {j : Nat} {t : TypeId} {d : DataW H} (ht : ts[j]? = some t) (hd : ds[j]? = some d) : ∀ n ∈ d.weights Tryz.prog t, n ≤ reachBytes := fun n hn => by
  have := List.all_eq_true.1 h _ (DataW.weights_mem_each ht hd n hn)
  simpa using this
theorem reach_le : reachBytes ≤ 140737488355328 := by decide
def errS {H : Type} : DataW H := .iface "*errors.errorString" (.ptr (.agg [.lit (.string [105, 110, 118, 97, 108, 105, 100, 32, 115, 121, 110, 116, 97, 120])]))
def errR {H : Type} : DataW H := .iface "*errors.errorString" (.ptr (.agg [.lit (.string [118, 97, 108, 117, 101, 32, 111, 117, 116, 32, 111, 102, 32, 114, 97, 110, 103, 101])]))
theorem env_of {W : World} {laid : List (String × DataW Unit)} (h : laidMetH Tryz.prog laid W)
    (h0 : (laid.filter fun x => x.1 == "internal/strconv.uint64pow10") = [("internal/strconv.uint64pow10", Lib.tabData .u64 Lib.pow10Tab)])
    (h1 : (laid.filter fun x => x.1 == "strconv.ErrSyntax") = [("strconv.ErrSyntax", errS)]) (h2 : (laid.filter fun x => x.1 == "strconv.ErrRange") = [("strconv.ErrRange", errR)]) : Env W :=
  ⟨tab_one h h0, syn_one h h1 (fun _ => MakeChecks.laidMetH_plain _ _ _ (by kernel_rfl)), rng_one h h2 (fun _ => MakeChecks.laidMetH_plain _ _ _ (by kernel_rfl))⟩
theorem cellsSKept : Tryz.prog.cellsOf 55 = 4 := by kernel_rfl
set_option maxRecDepth 100000 in
theorem openSKept {H : Type} {enc : TypeId × Value → H} {W : World} {base : Nat} {v : Value} {d : DataW H} {p : List MemPlace} (hv : Value.okWide Tryz.prog W .any base 55 v) (h : DataW.Trod enc Tryz.prog W 0 (fun _ => true) true 55 v d p) :
    ∃ (i0 : Int) (x1 : Value) (l1 : List UInt8) (x2 : Value) (l2 : List UInt8) (x3 : Value) (l3 : List Int), v = .agg #[.int .i64 i0, x1, x2, x3] ∧ Bts W x1 l1 ∧ Bts W x2 l2 ∧ Ints W x3 l3 ∧ ((∀ n ∈ d.weights Tryz.prog 55, n ≤ reachBytes) → l1.length ≤ 140737488355328 ∧ l2.length ≤ 140737488355328 ∧ l3.length ≤ 17592186044416) := by
  obtain ⟨v0, v1, v2, v3, y0, y1, y2, y3, n, rfl, rfl, rfl, h0, h1, h2, h3⟩ := open_agg4 Tryz.underlying55 (by kernel_rfl) cellsSKept hv h
  obtain ⟨i0, e0, -, -⟩ := DataW.trod_int Tryz.underlying3 h0
  obtain rfl : v0 = .int .i64 i0 := by simpa using e0
  obtain ⟨l1, b1, g1⟩ := openBtsAt h1
  obtain ⟨l2, b2, g2⟩ := openBtsAt h2
  obtain ⟨l3, b3, g3⟩ := openIntsAt h3
  refine ⟨i0, v1, l1, v2, l2, v3, l3, rfl, b1, b2, b3, fun hw => ?_⟩
  simp only [DataW.weights, Tryz.underlying55] at hw
  have hr := reach_le
  have k1 := g1.w Tryz.underlying32 (fun m hm => hw m (DataW.weights_mem_each (j := 1) (t := 32) (by rfl) (by rfl) m hm))
  rw [bytesByte] at k1
  have k2 := g2.w Tryz.underlying32 (fun m hm => hw m (DataW.weights_mem_each (j := 2) (t := 32) (by rfl) (by rfl) m hm))
  rw [bytesByte] at k2
  have k3 := g3.w Tryz.underlying33 (fun m hm => hw m (DataW.weights_mem_each (j := 3) (t := 33) (by rfl) (by rfl) m hm))
  rw [bytesInt] at k3
  exact ⟨by omega, by omega, by omega⟩
end Go.Proofs.YtngbgngfdklnlaaGreatDoor
