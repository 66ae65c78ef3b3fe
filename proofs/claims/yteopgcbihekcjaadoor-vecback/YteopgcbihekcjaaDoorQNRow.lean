/- How arguments are opened: bytes, ints, slices of bytes; the bounds. -/
import Derived.Test.YteopgcbihekcjaaDoorRows
import Derived.Test.YteopgcbihekcjaaDoorGCrc3
import Derived.ProofKit
import Derived.OpenShut
import Derived.ShutString
import Derived.ChangeOld
import Derived.Below
import Derived.SizedLaws
import Derived.Deep.CondSized
import Derived.SliceStrings
import Derived.Deep.Slices
import Derived.Lib.SmallJoins
set_option linter.unusedSimpArgs false
set_option linter.unusedVariables false
namespace Go.Proofs.YteopgcbihekcjaaDoor
open Go.ChangeShapes Go.WideShapes Go.ChangeAt Go.RowKit Go.Joins

theorem own : ownKnob Tryd.prog.godebug = none := by kernel_rfl
theorem laidOut : laidOutB Tryd.prog = true := by kernel_rfl
theorem cellsByte : Tryd.prog.cellsOf 5 = 1 := by kernel_rfl
theorem cellsInt : Tryd.prog.cellsOf 3 = 1 := by kernel_rfl
theorem cellsBts : Tryd.prog.cellsOf 25 = 1 := by kernel_rfl
theorem cellsInts : Tryd.prog.cellsOf 24 = 1 := by kernel_rfl
theorem bytesByte : Tryd.prog.bytesOf 5 = 1 := by kernel_rfl
theorem bytesInt : Tryd.prog.bytesOf 3 = 8 := by kernel_rfl
theorem arr_of {args : Array Value} {l : List Value} (h : args.toList = l) : args = l.toArray := by rw [← h]
theorem byte_wf {x : Int} (h : (Lit.int .u8 x).wf = true) : 0 ≤ x ∧ x < 256 := by
  have h1 : IntKind.u8.min = 0 := rfl
  have h2 : IntKind.u8.max = 255 := rfl
  simp only [Lit.wf, Bool.and_eq_true, decide_eq_true_eq] at h
  omega
/-- How long a datum says that a slice is: its elements and its spare room. -/
def Long {H : Type} (d : DataW H) (n : Nat) : Prop := n = 0 ∨ ∃ elems spare, d = .slice elems spare ∧ n ≤ elems.length + spare.length
theorem Long.sized {H : Type} {ts : List TypeId} {ds : List (DataW H)} (h : (DataW.weightsEach Tryd.prog ts ds).all (· ≤ reachBytes) = true) {j : Nat} {t e : TypeId} {d : DataW H} {n : Nat} (ht : ts[j]? = some t) (hd : ds[j]? = some d) (hu : Tryd.prog.underlying t = some (.slice e)) (hl : Long d n) :
    n * Tryd.prog.bytesOf e ≤ 140737488355328 := by
  rcases hl with rfl | ⟨elems, spare, rfl, hn⟩
  · simp
  · have h1 := sized_slice h ht hd hu
    have h2 := reachBytes_lt
    have h3 := Nat.mul_le_mul_right (Tryd.prog.bytesOf e) hn
    omega

/-- An argument of bytes, opened. -/
theorem openBts {H : Type} {enc : TypeId × Value → H} {W : World} {a0 : Option Addr} {len cap : Nat} {d0 : DataW H} {p : List MemPlace} (h0 : DataW.Trod enc Tryd.prog W 0 (fun _ => true) true 25 (.slice a0 len cap) d0 p) :
    ∃ l : List UInt8, Bts W (.slice a0 len cap) l ∧ Long d0 l.length := by
  obtain ⟨fuel, hf⟩ := h0
  rcases open_ints Tryd.underlying25 Tryd.underlying5 cellsByte hf with ⟨hcs, hx⟩ | ⟨a, len', cap', zs, hcs, _, hl, hm, hz, hx, hcell, hwz⟩
  · simp [Value.cells] at hcs
    obtain ⟨rfl, rfl, rfl⟩ := hcs
    exact ⟨[], Bts.nil W, .inl rfl⟩
  · simp [Value.cells] at hcs
    obtain ⟨rfl, rfl, rfl⟩ := hcs
    simp only [Prod.mk.injEq] at hx
    obtain ⟨rfl, rfl⟩ := hx
    simp only [if_true] at hz
    have hlen : ((zs.take len).map fun n => UInt8.ofNat n.toNat).length = len := by simp; omega
    refine ⟨(zs.take len).map fun n => UInt8.ofNat n.toNat, ⟨some a, cap, by rw [hlen], by omega, hm, fun hpos => ?_⟩, .inr ⟨_, _, rfl, by simp [lits]⟩⟩
    rw [hlen] at hpos
    obtain ⟨b, off, rfl, hc⟩ := ints_at hcell (by omega)
    refine ⟨b, off, rfl, fun k x hx => ?_⟩
    have hk : k < len := by
      have := (List.getElem?_eq_some_iff.1 hx).1
      omega
    have hkz : k < zs.length := by omega
    rw [hc k hkz]
    have hw := byte_wf (hwz zs[k] (List.getElem_mem hkz))
    simp [hk, hkz] at hx
    subst hx
    simp only [Option.some.injEq, Value.int.injEq, true_and]
    rw [List.getD_eq_getElem?_getD, List.getElem?_eq_getElem hkz, Option.getD_some, UInt8.toNat_ofNat']
    omega
/-- An argument of ints, opened. -/
theorem openInts {H : Type} {enc : TypeId × Value → H} {W : World} {a0 : Option Addr} {len cap : Nat} {d0 : DataW H} {p : List MemPlace} (h0 : DataW.Trod enc Tryd.prog W 0 (fun _ => true) true 24 (.slice a0 len cap) d0 p) :
    ∃ l : List Int, Ints W (.slice a0 len cap) l ∧ Long d0 l.length ∧ ∀ n ∈ l, -9223372036854775808 ≤ n ∧ n ≤ 9223372036854775807 := by
  obtain ⟨fuel, hf⟩ := h0
  rcases open_ints Tryd.underlying24 Tryd.underlying3 cellsInt hf with ⟨hcs, hx⟩ | ⟨a, len', cap', zs, hcs, _, hl, hm, hz, hx, hcell, hwz⟩
  · simp [Value.cells] at hcs
    obtain ⟨rfl, rfl, rfl⟩ := hcs
    exact ⟨[], ⟨none, 0, rfl, Nat.le_refl _, by decide, fun h => absurd h (by simp)⟩, .inl rfl, fun _ h => by cases h⟩
  · simp [Value.cells] at hcs
    obtain ⟨rfl, rfl, rfl⟩ := hcs
    simp only [Prod.mk.injEq] at hx
    obtain ⟨rfl, rfl⟩ := hx
    simp only [if_true] at hz
    have hlen : (zs.take len).length = len := by simp; omega
    refine ⟨zs.take len, ⟨some a, cap, by rw [hlen], by omega, hm, fun hpos => ?_⟩, .inr ⟨_, _, rfl, by simp [lits]⟩, fun n hn => ?_⟩
    · rw [hlen] at hpos
      obtain ⟨b, off, rfl, hc⟩ := ints_at hcell (by omega)
      refine ⟨b, off, rfl, fun k x hx => ?_⟩
      have hk : k < len := by
        have := (List.getElem?_eq_some_iff.1 hx).1
        omega
      have hkz : k < zs.length := by omega
      rw [hc k hkz]
      simp [hk, hkz] at hx
      subst hx
      simp [hkz]
    · have hw := hwz n (List.mem_of_mem_take hn)
      have h1 : IntKind.i64.min = -9223372036854775808 := rfl
      have h2 : IntKind.i64.max = 9223372036854775807 := rfl
      simp only [Lit.wf, Bool.and_eq_true, decide_eq_true_eq] at hw
      omega
theorem bulk_pos {H : Type} (d : DataW H) : 1 ≤ Rows.uptoBulk d := by
  cases d with
  | lit v => cases v <;> simp [Rows.uptoBulk]
  | _ => simp [Rows.uptoBulk]
theorem bulk_len {H : Type} (l : List (DataW H)) : l.length ≤ Rows.uptoBulkAll l := by
  induction l with
  | nil => simp
  | cons d l ih => have := bulk_pos d; simp only [Rows.uptoBulkAll, List.length_cons]; omega
theorem bulk_mem {H : Type} {l : List (DataW H)} {d : DataW H} (h : d ∈ l) : Rows.uptoBulk d ≤ Rows.uptoBulkAll l := by
  induction l with
  | nil => cases h
  | cons e l ih =>
    simp only [Rows.uptoBulkAll]
    rcases List.mem_cons.1 h with rfl | h
    · omega
    · have := ih h; omega
theorem Long.upto {H : Type} {ds : List (DataW H)} {d : DataW H} {n : Nat} (hup : Rows.uptoBulkAll ds ≤ 1048576) (hl : Long d n) (hm : d ∈ ds) : n ≤ 1048576 := by
  have h1 := bulk_mem hm
  rcases hl with rfl | ⟨elems, spare, rfl, hn⟩
  · exact Nat.zero_le _
  · have h2 := bulk_len elems
    have h3 := bulk_len spare
    simp only [Rows.uptoBulk] at h1
    omega
theorem Long.bulk {H : Type} {d : DataW H} {n : Nat} (hl : Long d n) : n ≤ Rows.uptoBulk d := by
  rcases hl with rfl | ⟨elems, spare, rfl, hn⟩
  · exact Nat.zero_le _
  · have h2 := bulk_len elems
    have h3 := bulk_len spare
    simp only [Rows.uptoBulk]
    omega
theorem openBtsAt {H : Type} {enc : TypeId × Value → H} {W : World} {fuel : Nat} {v : Value} {y : DataW H × List MemPlace} (h : DataW.trod enc Tryd.prog W 0 (fun _ => true) true fuel 25 [v] = some y) :
    ∃ l : List UInt8, Bts W v l ∧ Long y.1 l.length := by
  obtain ⟨a, len, cap, hv⟩ := slice_form Tryd.underlying25 h
  obtain rfl : v = .slice a len cap := by simpa using hv
  exact openBts (p := y.2) ⟨fuel, h⟩
theorem addr_plain {W : World} {a : Addr} {v : Value} (h : W.cell? (a.add 0) = some v) : ∃ b o, a = ⟨b, o, none⟩ := by
  obtain ⟨b, off, spot⟩ := a
  have hspot : spot = none := by simpa [Addr.add] using World.cell?_spot h
  subst hspot
  exact ⟨b, off, rfl⟩
theorem openIntsAt {H : Type} {enc : TypeId × Value → H} {W : World} {fuel : Nat} {v : Value} {y : DataW H × List MemPlace} (h : DataW.trod enc Tryd.prog W 0 (fun _ => true) true fuel 24 [v] = some y) :
    ∃ l : List Int, Ints W v l ∧ Long y.1 l.length := by
  obtain ⟨a, len, cap, hv⟩ := slice_form Tryd.underlying24 h
  obtain rfl : v = .slice a len cap := by simpa using hv
  obtain ⟨l, h1, h2, -⟩ := openInts (p := y.2) ⟨fuel, h⟩
  exact ⟨l, h1, h2⟩
theorem bytesBts : Tryd.prog.bytesOf 25 = 24 := by kernel_rfl
theorem weights_mem_all {H : Type} {P : Program} {e : TypeId} : ∀ {l : List (DataW H)} {d : DataW H}, d ∈ l → ∀ n ∈ d.weights P e, n ∈ DataW.weightsAll P e l
  | x :: r, d, h, n, hn => by
    simp only [DataW.weightsAll, List.mem_append]
    rcases List.mem_cons.1 h with rfl | h
    · exact .inl hn
    · exact .inr (weights_mem_all h n hn)
theorem openRecsN {H : Type} {enc : TypeId × Value → H} {W : World} {fuel : Nat} {a0 : Option Addr} {len cap : Nat} {d0 : DataW H} {p : List MemPlace} (hf : DataW.trod enc Tryd.prog W 0 (fun _ => true) true fuel 76 [.slice a0 len cap] = some (d0, p)) :
    ∃ ls : List (List UInt8), Parts W (.slice a0 len cap) ls ∧ (ls.length ≤ Rows.uptoBulk d0) ∧ ((∀ n ∈ d0.weights Tryd.prog 76, n ≤ reachBytes) → ls.length * 24 ≤ reachBytes ∧ ∀ l ∈ ls, l.length ≤ reachBytes) := by
  rcases Go.Deep.open_slice1 Tryd.underlying76 cellsBts hf with ⟨hcs, hx⟩ | ⟨a, len', cap', m, n, V, D, Pl, hcs, -, hl, hm, hmm, hx, hat⟩
  · simp [Value.cells] at hcs
    obtain ⟨rfl, rfl, rfl⟩ := hcs
    exact ⟨[], ⟨none, 0, rfl, Nat.le_refl _, by decide, fun h => absurd h (by simp)⟩, Nat.zero_le _, fun _ => ⟨by simp, fun l hl => by simp at hl⟩⟩
  · simp [Value.cells] at hcs
    obtain ⟨rfl, rfl, rfl⟩ := hcs
    simp only [Prod.mk.injEq] at hx
    obtain ⟨rfl, rfl⟩ := hx
    simp only [if_true] at hmm
    subst hmm
    obtain ⟨F, hF⟩ := Go.Deep.choose_lt (α := List UInt8) (n := len) (p := fun i l => Bts W (V i) l ∧ Long (D i) l.length) (fun i hi => by
      obtain ⟨-, h2⟩ := hat i (by omega)
      obtain ⟨l, b, g⟩ := openBtsAt h2
      exact ⟨l, b, g⟩)
    refine ⟨(List.range len).map F, ⟨some a, m, by simp, by simpa using hl, hm, fun hpos => ?_⟩, ?_, fun hw => ⟨?_, fun l hl => ?_⟩⟩
    · have hp : 0 < len := by simpa using hpos
      obtain ⟨b, o, rfl⟩ := addr_plain (hat 0 (by omega)).1
      refine ⟨b, o, rfl, fun k l hx => ?_⟩
      have hk : k < len := by
        have := (List.getElem?_eq_some_iff.1 hx).1
        simpa using this
      simp only [List.getElem?_map, List.getElem?_range hk, Option.map_some, Option.some.injEq] at hx
      subst hx
      refine ⟨V k, ?_, (hF k hk).1⟩
      have := (hat k (by omega)).1
      have e : ((⟨b, o, none⟩ : Addr).add k) = ⟨b, o + k, none⟩ := by unfold Addr.add; split <;> simp_all
      rw [e] at this
      exact this
    · have h2 := bulk_len ((List.range len).map D)
      simp only [Rows.uptoBulk, List.length_map, List.length_range] at h2 ⊢
      omega
    · have h5 := hw _ (by
        simp only [DataW.weights, Tryd.underlying76, List.mem_cons, List.mem_append]
        exact .inl rfl)
      rw [bytesBts] at h5
      simp only [List.length_map, List.length_range] at h5 ⊢
      omega
    · obtain ⟨i, hi, rfl⟩ := List.mem_map.1 hl
      have hi : i < len := by simpa using hi
      rcases (hF i hi).2 with h | ⟨elems, spare, h1, h2⟩
      · rw [h]
        exact Nat.zero_le _
      · have hm2 : D i ∈ (List.range len).map D := List.mem_map.2 ⟨i, by simpa using hi, rfl⟩
        have h3 : (elems.length + spare.length) * Tryd.prog.bytesOf 5 ∈ (D i).weights Tryd.prog 25 := by
          rw [h1]
          simp [DataW.weights, Tryd.underlying25]
        have h4 := weights_mem_all hm2 _ h3
        have h5 := hw ((elems.length + spare.length) * Tryd.prog.bytesOf 5) (by
          simp only [DataW.weights, Tryd.underlying76, List.mem_cons, List.mem_append]
          exact .inr (.inl h4))
        rw [bytesByte, Nat.mul_one] at h5
        omega
/-- An argument's weights are within reach. -/
theorem weights_arg {H : Type} {ts : List TypeId} {ds : List (DataW H)} (h : (DataW.weightsEach Tryd.prog ts ds).all (· ≤ reachBytes) = true) {j : Nat} {t : TypeId} {d : DataW H} (ht : ts[j]? = some t) (hd : ds[j]? = some d) : ∀ n ∈ d.weights Tryd.prog t, n ≤ reachBytes := fun n hn => by
  have := List.all_eq_true.1 h _ (DataW.weights_mem_each ht hd n hn)
  simpa using this
theorem reach_le : reachBytes ≤ 140737488355328 := by decide
theorem openRecsP {H : Type} {enc : TypeId × Value → H} {W : World} {base : Nat} {v : Value} {d : DataW H} {p : List MemPlace} (hv : Value.okWide Tryd.prog W .any base 76 v) (h : DataW.Trod enc Tryd.prog W 0 (fun _ => true) true 76 v d p) :
    ∃ ls : List (List UInt8), Parts W v ls ∧ (ls.length ≤ Rows.uptoBulk d) ∧ ((∀ n ∈ d.weights Tryd.prog 76, n ≤ reachBytes) → ls.length ≤ 5864062014805 ∧ ∀ l ∈ ls, l.length ≤ 140737488355328) := by
  obtain ⟨a, len, cap, rfl⟩ := okWide_slice Tryd.underlying76 hv
  obtain ⟨fuel, hf⟩ := h
  obtain ⟨ls, h1, h2, h3⟩ := openRecsN hf
  have hr : reachBytes = 140737488351232 := by decide
  refine ⟨ls, h1, h2, fun hw => ?_⟩
  obtain ⟨q1, q2⟩ := h3 hw
  exact ⟨by omega, fun l hl => by have := q2 l hl; omega⟩
end Go.Proofs.YteopgcbihekcjaaDoor
