/- Maps whose keys are pairs of nodes. -/
import Derived.Test.YtnpenabkmpoafaaQNMem
import Derived.Maps.OwnSet
import Derived.DeepKeys4
set_option linter.unusedSimpArgs false
set_option linter.unusedVariables false
namespace Go.Proofs.Ytnpenabkmpoafaa
open Go.RowKit Go.WideMaps
theorem laidOutP : laidOutB Try.prog = true := by kernel_rfl
theorem keyPair : Maps.Keyed Try.prog 71 := Maps.Keyed.of_law (deep_law_laid laidOutP (m := 2) (by omega) (of_decide_eq_true (by kernel_rfl)) (by kernel_rfl) (by rw [Try.underlying71]))
def pv (a b : Nat) : Value := .agg #[.int .i64 (a : Int), .int .i64 (b : Int)]
def kl (a b : Nat) : Lit := .string (keyBytes [.int .i64 (a : Int), .int .i64 (b : Int)])
theorem cellsPair : Try.prog.cellsOf 71 = 2 := by kernel_rfl
theorem cellsInt1 : Try.prog.cellsOf 3 = 1 := by kernel_rfl
theorem wfN (a : Nat) (ha : a < 1000) : (Lit.int .i64 (a : Int)).wf = true := by
  have h1 : IntKind.i64.min = -9223372036854775808 := by decide
  have h2 : IntKind.i64.max = 9223372036854775807 := by decide
  simp only [Lit.wf, h1, h2, Bool.and_eq_true, decide_eq_true_eq]
  omega
theorem litsInt (P : Program) (d a : Nat) (t : TypeId) (hu : P.underlying t = some (.int .i64)) (ha : a < 1000) : P.keyLits (d + 1) t [.int .i64 (a : Int)] = some [.int .i64 (a : Int)] := by
  unfold Program.keyLits
  rw [hu]
  simp only [wfN a ha, and_self, if_true]
theorem keyP (a b : Nat) (ha : a < 1000) (hb : b < 1000) : keyOf Try.prog 71 (pv a b) = some (kl a b) := by
  have hk : Try.prog.keyType 71 = true := by kernel_rfl
  have hf : (pv a b).formed Try.prog 71 = true := by simp [Value.formed, pv, Try.underlying71, cellsPair]
  obtain ⟨d, hd⟩ : ∃ d, Try.prog.types.size + 1 = d + 1 + 1 := ⟨Try.prog.types.size - 1, by
    have : 1 ≤ Try.prog.types.size := of_decide_eq_true (by kernel_rfl)
    omega⟩
  have hl : Try.prog.keyLits (d + 1 + 1) 71 (pv a b).cells.toList = some [.int .i64 (a : Int), .int .i64 (b : Int)] := by
    have h1 := litsInt Try.prog d a 3 Try.underlying3 ha
    have h2 := litsInt Try.prog d b 3 Try.underlying3 hb
    unfold Program.keyLits
    rw [Try.underlying71]
    simp [pv, Value.cells, cellsPair, cellsInt1, h1, h2]
  unfold keyOf
  rw [Try.underlying71]
  simp only [hk, hf, Bool.and_self, if_true]
  rw [hd, hl]
  rfl
theorem kl_key (a b : Nat) (ha : a < 1000) (hb : b < 1000) : WideAt.IsKeyLit (kl a b) := keyPair.key (keyP a b ha hb)
theorem kl_ne {a b a' b' : Nat} (ha : a < 1000) (hb : b < 1000) (ha' : a' < 1000) (hb' : b' < 1000) (h : ¬ (a' = a ∧ b' = b)) : kl a' b' ≠ kl a b := by
  intro e
  have h1 := keyP a' b' ha' hb'
  rw [e] at h1
  have := keyPair.inj h1 (keyP a b ha hb)
  simp only [pv, Value.agg.injEq, Array.mk.injEq, List.cons.injEq, Value.int.injEq, true_and, and_true] at this
  omega
/-! ### the map of queues -/
def qv (D : DataW Value) (a b : Nat) : Value := match D.atKey (kl a b) (.held (.slice none 0 0)) with | .held v => v | _ => .slice none 0 0
theorem qv_empty (a b : Nat) : qv (.map []) a b = .slice none 0 0 := rfl
theorem qv_put_same {D : DataW Value} (hD : Maps.IsMap D) {a b : Nat} (ha : a < 1000) (hb : b < 1000) (v : Value) : qv (D.put (kl a b) (.held v)) a b = v := by
  unfold qv; rw [Maps.atKey_put_same hD (kl_key a b ha hb)]
theorem qv_put_other {D : DataW Value} {a b a' b' : Nat} (h : kl a' b' ≠ kl a b) (v : Value) : qv (D.put (kl a b) (.held v)) a' b' = qv D a' b' := by
  unfold qv; rw [Maps.atKey_put_other h]
theorem qv_del_same {D : DataW Value} (a b : Nat) : qv (D.del (kl a b)) a b = .slice none 0 0 := by
  unfold qv; rw [Maps.atKey_del_same]
theorem qv_del_other {D : DataW Value} {a b a' b' : Nat} (h : kl a' b' ≠ kl a b) : qv (D.del (kl a b)) a' b' = qv D a' b' := by
  unfold qv; rw [Maps.atKey_del_other h]
theorem zeroQ (w : World) : (zeroValue 36).run Try.prog w = .ok (.slice none 0 0) w := by kernel_rfl
abbrev OwnsP (w : World) (mb n : Nat) (D : DataW Value) : Prop := w.ownsMap Try.prog 71 rdV mb n D
theorem OwnsP.look {w : World} {mb n : Nat} {D : DataW Value} (h : OwnsP w mb n D) {a b : Nat} (ha : a < 1000) (hb : b < 1000) : (Instr.lookup 48 (.map (some mb)) (pv a b) false).run Try.prog w = .ok (qv D a b) w := by
  obtain ⟨v, ps, hrun, hv⟩ := World.ownsMap.lookup h keyPair Try.underlying48 (zeroQ w) (zd := .held (.slice none 0 0)) (zp := []) rfl (keyP a b ha hb)
  have e : D.atKey (kl a b) (.held (.slice none 0 0)) = .held v := by simpa [rdV] using (congrArg (Option.map Prod.fst) hv).symm
  have : qv D a b = v := by unfold qv; rw [e]
  rw [hrun, this]
theorem OwnsP.store {w : World} {mb n : Nat} {D : DataW Value} (h : OwnsP w mb n D) (hn : n < maxLen) {a b : Nat} (ha : a < 1000) (hb : b < 1000) (v : Value) :
    ∃ w', (Instr.mapUpdate 48 (.map (some mb)) (pv a b) v).run Try.prog w = .ok () w' ∧ OwnsP w' mb (n + 1) (D.put (kl a b) (.held v)) ∧ w.grownBy w' (some mb) :=
  World.ownsMap.update h keyPair Try.underlying48 hn (keyP a b ha hb) (val := v) (d := .held v) (ps := []) rfl
theorem OwnsP.drop {w : World} {mb n : Nat} {D : DataW Value} (h : OwnsP w mb n D) {a b : Nat} (ha : a < 1000) (hb : b < 1000) (ty : TypeId) :
    ∃ w', (Builtin.delete_ #[48, 71] ty #[.map (some mb), pv a b]).run Try.prog w = .ok (.tuple #[]) w' ∧ OwnsP w' mb n (D.del (kl a b)) ∧ w.grownBy w' (some mb) := by
  obtain ⟨w', h1, h2, h3⟩ := World.ownsMap.drop h keyPair Try.underlying48 (keyP a b ha hb) ty
  exact ⟨w', h1, h2, h3.grown⟩
/-! ### the map of cuts -/
theorem zeroU (w : World) : (zeroValue 74).run Try.prog w = .ok (.agg #[]) w := by kernel_rfl
abbrev OwnsU (w : World) (mb n : Nat) (D : DataW Value) : Prop := w.ownsMap Try.prog 71 unitElem mb n D
theorem OwnsU.look_ok {w : World} {mb n : Nat} {D : DataW Value} (h : OwnsU w mb n D) {a b : Nat} (ha : a < 1000) (hb : b < 1000) : (Instr.lookup 49 (.map (some mb)) (pv a b) true).run Try.prog w = .ok (.tuple #[.agg #[], .bool (Maps.has D (kl a b))]) w := by
  obtain ⟨v, ps, hrun, hv⟩ := World.ownsMap.look_ok h keyPair Try.underlying49 (zeroU w) (zd := .agg []) (zp := []) unitElem_mk (keyP a b ha hb)
  rw [(unitElem_inv hv).1] at hrun
  exact hrun
theorem OwnsU.storeU {w : World} {mb n : Nat} {D : DataW Value} (h : OwnsU w mb n D) (hn : n < maxLen) {a b : Nat} (ha : a < 1000) (hb : b < 1000) :
    ∃ w', (Instr.mapUpdate 49 (.map (some mb)) (pv a b) (.agg #[])).run Try.prog w = .ok () w' ∧ OwnsU w' mb (n + 1) (D.put (kl a b) (.agg [])) ∧ w.grownBy w' (some mb) :=
  World.ownsMap.update h keyPair Try.underlying49 hn (keyP a b ha hb) (val := .agg #[]) (d := .agg []) (ps := []) unitElem_mk
theorem OwnsU.clear {w : World} {mb n : Nat} {D : DataW Value} (h : OwnsU w mb n D) (ty : TypeId) :
    ∃ w', (Builtin.clear_ #[49] ty #[.map (some mb)]).run Try.prog w = .ok (.tuple #[]) w' ∧ OwnsU w' mb n (.map []) ∧ w.grownBy w' (some mb) := by
  obtain ⟨es, clock, hb, F, hs, hD⟩ := h
  refine ⟨{ w with heap := w.heap.setIfInBounds mb (.map #[] clock) }, ?_, ⟨#[], clock, (MapKept.heap_set hb).1, ⟨by simp, MapKept.stamped_empty _, by simp⟩, Nat.zero_le _, rfl⟩, ⟨rfl, rfl, rfl, by simp, fun k hk hne => (MapKept.heap_set hb).2 k (fun e => hne (by rw [e]))⟩⟩
  simp [Builtin.clear_, run_underlying Try.underlying49, MapKept.run_getObj_map hb, MapKept.run_setObj_map _ hb, Result.andThen]
end Go.Proofs.Ytnpenabkmpoafaa
