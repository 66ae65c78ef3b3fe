/- How arguments are opened in the row proofs of this seat: bytes, ints, texts, slices of texts; the bounds. Reading the statements' arguments: slices of records; the library's table. -/
import Derived.Test.YtcdeagmoldbicaaGreatDoorRows
import Derived.Test.YtcdeagmoldbicaaGreatDoorGCrc3
import Derived.Test.YtcdeagmoldbicaaGreatDoorGPStrs2
import Derived.ProofKit
import Derived.OpenShut
import Derived.ShutString
import Derived.ChangeOld
import Derived.Below
import Derived.SizedLaws
import Derived.Deep.CondSized
import Derived.SliceStrings
import Derived.Deep.Slices
import Derived.Lib.SmallJoins
import Derived.Test.YtcdeagmoldbicaaGreatDoorGWMem2
import Derived.LaidSub
import Derived.MakeChecks
import Derived.LaidMore
set_option linter.unusedSimpArgs false
set_option linter.unusedVariables false
namespace Go.Proofs.YtcdeagmoldbicaaGreatDoor
open Go.ChangeShapes Go.WideShapes Go.ChangeAt Go.RowKit Go.Joins

theorem own : ownKnob Tryz.prog.godebug = none := by kernel_rfl
theorem laidOut : laidOutB Tryz.prog = true := by kernel_rfl
theorem cellsByte : Tryz.prog.cellsOf 5 = 1 := by kernel_rfl
theorem cellsInt : Tryz.prog.cellsOf 3 = 1 := by kernel_rfl
theorem cellsStr : Tryz.prog.cellsOf 9 = 1 := by kernel_rfl
theorem cellsBts : Tryz.prog.cellsOf 40 = 1 := by kernel_rfl
theorem cellsTxts : Tryz.prog.cellsOf 68 = 1 := by kernel_rfl
theorem cellsInts : Tryz.prog.cellsOf 42 = 1 := by kernel_rfl
theorem bytesByte : Tryz.prog.bytesOf 5 = 1 := by kernel_rfl
theorem bytesInt : Tryz.prog.bytesOf 3 = 8 := by kernel_rfl
theorem arr_of {args : Array Value} {l : List Value} (h : args.toList = l) : args = l.toArray := by rw [← h]
theorem byte_wf {x : Int} (h : (Lit.int .u8 x).wf = true) : 0 ≤ x ∧ x < 256 := by
  have h1 : IntKind.u8.min = 0 := rfl
  have h2 : IntKind.u8.max = 255 := rfl
  simp only [Lit.wf, Bool.and_eq_true, decide_eq_true_eq] at h
  omega
/-- How long a datum says that a slice is: its elements and its spare room. -/
def Long {H : Type} (d : DataW H) (n : Nat) : Prop := n = 0 ∨ ∃ elems spare, d = .slice elems spare ∧ n ≤ elems.length + spare.length
theorem Long.sized {H : Type} {ts : List TypeId} {ds : List (DataW H)} (h : (DataW.weightsEach Tryz.prog ts ds).all (· ≤ reachBytes) = true) {j : Nat} {t e : TypeId} {d : DataW H} {n : Nat} (ht : ts[j]? = some t) (hd : ds[j]? = some d) (hu : Tryz.prog.underlying t = some (.slice e)) (hl : Long d n) :
    n * Tryz.prog.bytesOf e ≤ 140737488355328 := by
  rcases hl with rfl | ⟨elems, spare, rfl, hn⟩
  · simp
  · have h1 := sized_slice h ht hd hu
    have h2 := reachBytes_lt
    have h3 := Nat.mul_le_mul_right (Tryz.prog.bytesOf e) hn
    omega

/-- An argument of bytes, opened. -/
theorem openBts {H : Type} {enc : TypeId × Value → H} {W : World} {a0 : Option Addr} {len cap : Nat} {d0 : DataW H} {p : List MemPlace} (h0 : DataW.Trod enc Tryz.prog W 0 (fun _ => true) true 40 (.slice a0 len cap) d0 p) :
    ∃ l : List UInt8, Bts W (.slice a0 len cap) l ∧ Long d0 l.length := by
  obtain ⟨fuel, hf⟩ := h0
  rcases open_ints Tryz.underlying40 Tryz.underlying5 cellsByte hf with ⟨hcs, hx⟩ | ⟨a, len', cap', zs, hcs, _, hl, hm, hz, hx, hcell, hwz⟩
  · simp [Value.cells] at hcs
    obtain ⟨rfl, rfl, rfl⟩ := hcs
    exact ⟨[], Bts.nil W, .inl rfl⟩
  · simp [Value.cells] at hcs
    obtain ⟨rfl, rfl, rfl⟩ := hcs
    simp only [Prod.mk.injEq] at hx
    obtain ⟨rfl, rfl⟩ := hx
    simp only [if_true] at hz
    have hlen : ((zs.take len).map fun n => UInt8.ofNat n.toNat).length = len := by simp; omega
    refine ⟨(zs.take len).map fun n => UInt8.ofNat n.toNat, ⟨some a, cap, by rw [hlen], by omega, hm, fun hpos => ?_⟩, .inr ⟨_, _, rfl, by simp [lits]⟩⟩
    rw [hlen] at hpos
    obtain ⟨b, off, rfl, hc⟩ := ints_at hcell (by omega)
    refine ⟨b, off, rfl, fun k x hx => ?_⟩
    have hk : k < len := by
      have := (List.getElem?_eq_some_iff.1 hx).1
      omega
    have hkz : k < zs.length := by omega
    rw [hc k hkz]
    have hw := byte_wf (hwz zs[k] (List.getElem_mem hkz))
    simp [hk, hkz] at hx
    subst hx
    simp only [Option.some.injEq, Value.int.injEq, true_and]
    rw [List.getD_eq_getElem?_getD, List.getElem?_eq_getElem hkz, Option.getD_some, UInt8.toNat_ofNat']
    omega
/-- An argument of ints, opened. -/
theorem openInts {H : Type} {enc : TypeId × Value → H} {W : World} {a0 : Option Addr} {len cap : Nat} {d0 : DataW H} {p : List MemPlace} (h0 : DataW.Trod enc Tryz.prog W 0 (fun _ => true) true 42 (.slice a0 len cap) d0 p) :
    ∃ l : List Int, Ints W (.slice a0 len cap) l ∧ Long d0 l.length ∧ ∀ n ∈ l, -9223372036854775808 ≤ n ∧ n ≤ 9223372036854775807 := by
  obtain ⟨fuel, hf⟩ := h0
  rcases open_ints Tryz.underlying42 Tryz.underlying3 cellsInt hf with ⟨hcs, hx⟩ | ⟨a, len', cap', zs, hcs, _, hl, hm, hz, hx, hcell, hwz⟩
  · simp [Value.cells] at hcs
    obtain ⟨rfl, rfl, rfl⟩ := hcs
    exact ⟨[], ⟨none, 0, rfl, Nat.le_refl _, by decide, fun h => absurd h (by simp)⟩, .inl rfl, fun _ h => by cases h⟩
  · simp [Value.cells] at hcs
    obtain ⟨rfl, rfl, rfl⟩ := hcs
    simp only [Prod.mk.injEq] at hx
    obtain ⟨rfl, rfl⟩ := hx
    simp only [if_true] at hz
    have hlen : (zs.take len).length = len := by simp; omega
    refine ⟨zs.take len, ⟨some a, cap, by rw [hlen], by omega, hm, fun hpos => ?_⟩, .inr ⟨_, _, rfl, by simp [lits]⟩, fun n hn => ?_⟩
    · rw [hlen] at hpos
      obtain ⟨b, off, rfl, hc⟩ := ints_at hcell (by omega)
      refine ⟨b, off, rfl, fun k x hx => ?_⟩
      have hk : k < len := by
        have := (List.getElem?_eq_some_iff.1 hx).1
        omega
      have hkz : k < zs.length := by omega
      rw [hc k hkz]
      simp [hk, hkz] at hx
      subst hx
      simp [hkz]
    · have hw := hwz n (List.mem_of_mem_take hn)
      have h1 : IntKind.i64.min = -9223372036854775808 := rfl
      have h2 : IntKind.i64.max = 9223372036854775807 := rfl
      simp only [Lit.wf, Bool.and_eq_true, decide_eq_true_eq] at hw
      omega
theorem bulk_pos {H : Type} (d : DataW H) : 1 ≤ Rows.uptoBulk d := by
  cases d with
  | lit v => cases v <;> simp [Rows.uptoBulk]
  | _ => simp [Rows.uptoBulk]
theorem bulk_len {H : Type} (l : List (DataW H)) : l.length ≤ Rows.uptoBulkAll l := by
  induction l with
  | nil => simp
  | cons d l ih => have := bulk_pos d; simp only [Rows.uptoBulkAll, List.length_cons]; omega
theorem bulk_mem {H : Type} {l : List (DataW H)} {d : DataW H} (h : d ∈ l) : Rows.uptoBulk d ≤ Rows.uptoBulkAll l := by
  induction l with
  | nil => cases h
  | cons e l ih =>
    simp only [Rows.uptoBulkAll]
    rcases List.mem_cons.1 h with rfl | h
    · omega
    · have := ih h; omega
theorem Long.upto {H : Type} {ds : List (DataW H)} {d : DataW H} {n : Nat} (hup : Rows.uptoBulkAll ds ≤ 1048576) (hl : Long d n) (hm : d ∈ ds) : n ≤ 1048576 := by
  have h1 := bulk_mem hm
  rcases hl with rfl | ⟨elems, spare, rfl, hn⟩
  · exact Nat.zero_le _
  · have h2 := bulk_len elems
    have h3 := bulk_len spare
    simp only [Rows.uptoBulk] at h1
    omega
theorem Long.bulk {H : Type} {d : DataW H} {n : Nat} (hl : Long d n) : n ≤ Rows.uptoBulk d := by
  rcases hl with rfl | ⟨elems, spare, rfl, hn⟩
  · exact Nat.zero_le _
  · have h2 := bulk_len elems
    have h3 := bulk_len spare
    simp only [Rows.uptoBulk]
    omega
theorem openBtsAt {H : Type} {enc : TypeId × Value → H} {W : World} {fuel : Nat} {v : Value} {y : DataW H × List MemPlace} (h : DataW.trod enc Tryz.prog W 0 (fun _ => true) true fuel 40 [v] = some y) :
    ∃ l : List UInt8, Bts W v l ∧ Long y.1 l.length := by
  obtain ⟨a, len, cap, hv⟩ := slice_form Tryz.underlying40 h
  obtain rfl : v = .slice a len cap := by simpa using hv
  exact openBts (p := y.2) ⟨fuel, h⟩
theorem addr_plain {W : World} {a : Addr} {v : Value} (h : W.cell? (a.add 0) = some v) : ∃ b o, a = ⟨b, o, none⟩ := by
  obtain ⟨b, off, spot⟩ := a
  have hspot : spot = none := by simpa [Addr.add] using World.cell?_spot h
  subst hspot
  exact ⟨b, off, rfl⟩
/-- An argument that is a slice of texts, opened. -/
theorem openTxts {H : Type} {enc : TypeId × Value → H} {W : World} {a0 : Option Addr} {len cap : Nat} {d0 : DataW H} {p : List MemPlace} (h0 : DataW.Trod enc Tryz.prog W 0 (fun _ => true) true 68 (.slice a0 len cap) d0 p) :
    ∃ (ls : List (List UInt8)), Txts W (.slice a0 len cap) ls := by
  obtain ⟨fuel, hf⟩ := h0
  rcases open_strings Tryz.underlying68 Tryz.underlying9 cellsStr hf with ⟨hcs, hx⟩ | ⟨a, len', cap', ss, hcs, -, hl, hm, hz, hx, hcell, hsz⟩
  · simp [Value.cells] at hcs
    obtain ⟨rfl, rfl, rfl⟩ := hcs
    exact ⟨[], ⟨none, 0, rfl, Nat.le_refl _, by decide, fun h => absurd h (by simp)⟩⟩
  · simp [Value.cells] at hcs
    obtain ⟨rfl, rfl, rfl⟩ := hcs
    simp only [if_true] at hz
    have hlen : (ss.take len).length = len := by simp; omega
    refine ⟨(ss.take len).map fun s => s.data.toList, ⟨some a, cap, by rw [List.length_map, hlen], by rw [List.length_map, hlen]; exact hl, hm, fun hpos => ?_⟩⟩
    rw [List.length_map, hlen] at hpos
    obtain ⟨b, o, rfl⟩ := addr_plain (hcell 0 (by omega))
    refine ⟨b, o, rfl, fun k l hx => ?_⟩
    have hk : k < len := by
      have := (List.getElem?_eq_some_iff.1 hx).1
      rw [List.length_map] at this
      omega
    have hks : k < ss.length := by omega
    rw [List.getElem?_map, List.getElem?_take_of_lt hk, List.getElem?_eq_getElem hks] at hx
    simp only [Option.map_some, Option.some.injEq] at hx
    subst hx
    have := hcell k hks
    rw [Go.WideShapes.add_plain, List.getD_eq_getElem?_getD, List.getElem?_eq_getElem hks, Option.getD_some] at this
    rw [this]
theorem openTxtsAt {H : Type} {enc : TypeId × Value → H} {W : World} {fuel : Nat} {v : Value} {y : DataW H × List MemPlace} (h : DataW.trod enc Tryz.prog W 0 (fun _ => true) true fuel 68 [v] = some y) :
    ∃ ls : List (List UInt8), Txts W v ls := by
  obtain ⟨a, len, cap, hv⟩ := slice_form Tryz.underlying68 h
  obtain rfl : v = .slice a len cap := by simpa using hv
  exact openTxts (p := y.2) ⟨fuel, h⟩
theorem openIntsAt {H : Type} {enc : TypeId × Value → H} {W : World} {fuel : Nat} {v : Value} {y : DataW H × List MemPlace} (h : DataW.trod enc Tryz.prog W 0 (fun _ => true) true fuel 42 [v] = some y) :
    ∃ l : List Int, Ints W v l ∧ Long y.1 l.length := by
  obtain ⟨a, len, cap, hv⟩ := slice_form Tryz.underlying42 h
  obtain rfl : v = .slice a len cap := by simpa using hv
  obtain ⟨l, h1, h2, -⟩ := openInts (p := y.2) ⟨fuel, h⟩
  exact ⟨l, h1, h2⟩
end Go.Proofs.YtcdeagmoldbicaaGreatDoor
set_option linter.unusedSimpArgs false
set_option linter.unusedVariables false
namespace Go.Proofs.YtcdeagmoldbicaaGreatDoor
open Go.ChangeShapes Go.WideShapes Go.ChangeAt Go.RowKit
theorem tab_one {W : World} {laid : List (String × DataW Unit)} (h : laidMetH Tryz.prog laid W)
    (hf : (laid.filter fun x => x.1 == "internal/strconv.uint64pow10") = [("internal/strconv.uint64pow10", Lib.tabData .u64 Lib.pow10Tab)]) : Lib.TabIs Tryz.prog W "internal/strconv.uint64pow10" .u64 Lib.pow10Tab := by
  have h1 := h.filter (fun x => x.1 == "internal/strconv.uint64pow10")
  rw [hf, MakeChecks.laidMetH_plain _ _ _ (by kernel_rfl)] at h1
  exact Lib.tabIs_of_head (g := 3) (t := 216) (e := 178) (n := 20) (by kernel_rfl) (by kernel_rfl) (by kernel_rfl) (by kernel_rfl) (by kernel_rfl) (by kernel_rfl) h1

def sizes (ls : List (List UInt8)) : Nat := (ls.map fun l => l.length + 1).sum
theorem sizes_len (ls : List (List UInt8)) : ls.length ≤ sizes ls := by
  induction ls with
  | nil => simp [sizes]
  | cons a r ih => simp only [sizes, List.map_cons, List.sum_cons, List.length_cons] at *; omega
theorem sizes_mem {ls : List (List UInt8)} {l : List UInt8} (h : l ∈ ls) : l.length ≤ sizes ls := by
  induction ls with
  | nil => simp at h
  | cons a r ih =>
    simp only [sizes, List.map_cons, List.sum_cons] at *
    rcases List.mem_cons.1 h with rfl | h
    · omega
    · have := ih h; omega
theorem sizes_range {H : Type} (n : Nat) (F : Nat → List UInt8) (D : Nat → DataW H) (h : ∀ i, i < n → (F i).length + 1 ≤ Rows.uptoBulk (D i)) : sizes ((List.range n).map F) ≤ Rows.uptoBulkAll ((List.range n).map D) := by
  have key : ∀ (l : List Nat), (∀ i ∈ l, i < n) → sizes (l.map F) ≤ Rows.uptoBulkAll (l.map D) := by
    intro l
    induction l with
    | nil => intro _; simp [sizes, Rows.uptoBulkAll]
    | cons i r ih =>
      intro hl
      have h1 := h i (hl i (by simp))
      have h2 := ih (fun j hj => hl j (by simp [hj]))
      simp only [sizes, List.map_cons, List.sum_cons, Rows.uptoBulkAll] at *
      omega
  exact key _ (fun i hi => by simpa using hi)
theorem Long.bulk1 {H : Type} {d : DataW H} {n : Nat} (hl : Long d n) : n + 1 ≤ Rows.uptoBulk d := by
  rcases hl with rfl | ⟨elems, spare, rfl, h⟩
  · have := bulk_pos d; omega
  · have h1 := bulk_len elems
    have h2 := bulk_len spare
    simp only [Rows.uptoBulk]
    omega
theorem openRecs {H : Type} {enc : TypeId × Value → H} {W : World} {fuel : Nat} {a0 : Option Addr} {len cap : Nat} {d0 : DataW H} {p : List MemPlace} (hf : DataW.trod enc Tryz.prog W 0 (fun _ => true) true fuel 41 [.slice a0 len cap] = some (d0, p)) :
    ∃ ls : List (List UInt8), Parts W (.slice a0 len cap) ls ∧ sizes ls ≤ Rows.uptoBulk d0 := by
  rcases Go.Deep.open_slice1 Tryz.underlying41 cellsBts hf with ⟨hcs, hx⟩ | ⟨a, len', cap', m, n, V, D, Pl, hcs, -, hl, hm, hmm, hx, hat⟩
  · simp [Value.cells] at hcs
    obtain ⟨rfl, rfl, rfl⟩ := hcs
    exact ⟨[], ⟨none, 0, rfl, Nat.le_refl _, by decide, fun h => absurd h (by simp)⟩, Nat.zero_le _⟩
  · simp [Value.cells] at hcs
    obtain ⟨rfl, rfl, rfl⟩ := hcs
    simp only [Prod.mk.injEq] at hx
    obtain ⟨rfl, rfl⟩ := hx
    simp only [if_true] at hmm
    subst hmm
    obtain ⟨F, hF⟩ := Go.Deep.choose_lt (α := List UInt8) (n := len) (p := fun i l => Bts W (V i) l ∧ l.length + 1 ≤ Rows.uptoBulk (D i)) (fun i hi => by
      obtain ⟨-, h2⟩ := hat i (by omega)
      obtain ⟨l, b, g⟩ := openBtsAt h2
      exact ⟨l, b, g.bulk1⟩)
    refine ⟨(List.range len).map F, ⟨some a, m, by simp, by simpa using hl, hm, fun hpos => ?_⟩, ?_⟩
    · have hp : 0 < len := by simpa using hpos
      obtain ⟨b, o, rfl⟩ := addr_plain (hat 0 (by omega)).1
      refine ⟨b, o, rfl, fun k l hx => ?_⟩
      have hk : k < len := by
        have := (List.getElem?_eq_some_iff.1 hx).1
        simpa using this
      simp only [List.getElem?_map, List.getElem?_range hk, Option.map_some, Option.some.injEq] at hx
      subst hx
      refine ⟨V k, ?_, (hF k hk).1⟩
      have := (hat k (by omega)).1
      have e : ((⟨b, o, none⟩ : Addr).add k) = ⟨b, o + k, none⟩ := by unfold Addr.add; split <;> simp_all
      rw [e] at this
      exact this
    · have := sizes_range len F D (fun i hi => (hF i hi).2)
      simp only [Rows.uptoBulk]
      omega
end Go.Proofs.YtcdeagmoldbicaaGreatDoor
