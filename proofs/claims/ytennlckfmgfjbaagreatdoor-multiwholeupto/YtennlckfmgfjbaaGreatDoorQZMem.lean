/- A tree in memory: a map of paths to nodes of the tree's own. -/
import Derived.Test.YtennlckfmgfjbaaGreatDoorGZPure2
import Derived.Test.YtennlckfmgfjbaaGreatDoorGApp3
import Derived.Maps.OwnSet
import Derived.DeepKeys4
set_option linter.unusedSimpArgs false
set_option linter.unusedVariables false
namespace Go.Proofs.YtennlckfmgfjbaaGreatDoor
open Go.RowKit
/-- A node's place: its block, the value of its data, the node. -/
structure ZE where
  nb : Nat
  dv : Value
  nd : ZN
abbrev ZSt := List (Pth × ZE)
def ptrZ (nb : Nat) : Value := .pointer (some ⟨nb, 0, none⟩)
def toDZ (st : ZSt) : DataW Value := .map (st.map fun p => (.string p.1, .held (ptrZ p.2.nb)))
def valZ (k : Pth) (st : ZSt) : Value := ((getZ k st).map fun e => ptrZ e.nb).getD (.pointer none)
theorem keyLawZ : Maps.Keyed Tryz.prog 9 := Maps.string_keyed Tryz.underlying9
theorem keySZ (k : Pth) (h : k.length ≤ maxLen) : keyOf Tryz.prog 9 (.string ⟨k.toArray⟩) = some (.string k) := by
  have := WideMaps.keyOf_string_mk (P := Tryz.prog) (k := 9) Tryz.underlying9 (s := ⟨k.toArray⟩) (by rw [str_size]; exact h)
  simpa using this
theorem zeroNodeP (w : World) : (zeroValue 79).run Tryz.prog w = .ok (.pointer none) w := by kernel_rfl
theorem toDZ_at (k : Pth) (st : ZSt) : (toDZ st).atKey (.string k) (.held (.pointer none)) = .held (valZ k st) := by
  unfold toDZ DataW.atKey valZ getZ
  simp only [List.find?_map]
  have e : ((fun p : Lit × DataW Value => p.1.sameKey (.string k)) ∘ fun p : Pth × ZE => ((.string p.1 : Lit), (.held (ptrZ p.2.nb) : DataW Value))) = fun p => p.1 == k := by funext p; rfl
  rw [e]
  cases st.find? (fun p => p.1 == k) with
  | none => rfl
  | some p => rfl
theorem toDZ_has (k : Pth) (st : ZSt) : Maps.has (toDZ st) (.string k) = hasZ k st := by
  unfold toDZ hasZ
  rw [Maps.has_eq, List.any_map]
  rfl
theorem toDZ_size (st : ZSt) : Maps.size (toDZ st) = st.length := by
  unfold toDZ
  rw [Maps.size_eq, List.length_map]
theorem toDZ_del (k : Pth) (st : ZSt) : (toDZ st).del (.string k) = toDZ (cutZ k st) := by
  unfold toDZ DataW.del cutZ
  simp only [List.filter_map]
  rfl
theorem toDZ_ins (x : Pth × ZE) (st : ZSt) : DataW.insert ((.string x.1 : Lit), (.held (ptrZ x.2.nb) : DataW Value)) (st.map fun p => ((.string p.1 : Lit), (.held (ptrZ p.2.nb) : DataW Value))) = (insZ x st).map fun p => (.string p.1, .held (ptrZ p.2.nb)) := by
  induction st with
  | nil => rfl
  | cons y r ih =>
    rw [List.map_cons]
    unfold DataW.insert insZ
    by_cases hb : bytesBefore x.1 y.1 = true
    · rw [if_pos hb, if_pos (show (Lit.string x.1).before (Lit.string y.1) = true from hb)]; rfl
    · rw [if_neg hb, if_neg (show ¬ (Lit.string x.1).before (Lit.string y.1) = true from hb), List.map_cons, ih]
theorem toDZ_put (k : Pth) (e : ZE) (st : ZSt) : (toDZ st).put (.string k) (.held (ptrZ e.nb)) = toDZ (putZ k e st) := by
  have h := toDZ_del k st
  unfold toDZ DataW.del at h
  simp only at h
  unfold DataW.put toDZ
  simp only
  rw [show (st.map fun p => ((.string p.1 : Lit), (.held (ptrZ p.2.nb) : DataW Value))).filter (fun p => !p.1.sameKey (.string k)) = (cutZ k st).map fun p => ((.string p.1 : Lit), (.held (ptrZ p.2.nb) : DataW Value)) from by injection h]
  rw [toDZ_ins (k, e)]
  rfl
def OwnsZ (w : World) (mb : Nat) (st : ZSt) : Prop := w.ownsMap Tryz.prog 9 rdV mb st.length (toDZ st)
theorem OwnsZ.tight {w : World} {mb n : Nat} {st : ZSt} (h : w.ownsMap Tryz.prog 9 rdV mb n (toDZ st)) : OwnsZ w mb st := by
  obtain ⟨es, clock, hb, F, hs, hD⟩ := h
  refine ⟨es, clock, hb, F, ?_, hD⟩
  have : Maps.size (toDZ st) = es.size := by rw [hD]; simp [Maps.size, length_sorted]
  rw [toDZ_size] at this
  omega
theorem OwnsZ.look_ok {w : World} {mb : Nat} {st : ZSt} (h : OwnsZ w mb st) (k : Pth) (hk : k.length ≤ maxLen) : (Instr.lookup 81 (.map (some mb)) (.string ⟨k.toArray⟩) true).run Tryz.prog w = .ok (.tuple #[valZ k st, .bool (hasZ k st)]) w := by
  obtain ⟨v, ps, hrun, hv⟩ := World.ownsMap.look_ok h keyLawZ Tryz.underlying81 (zeroNodeP w) (zd := .held (.pointer none)) (zp := []) rfl (keySZ k hk)
  rw [toDZ_at] at hv
  have : v = valZ k st := by simpa [rdV] using congrArg (Option.map Prod.fst) hv
  rw [hrun, this, toDZ_has]
theorem OwnsZ.store {w : World} {mb : Nat} {st : ZSt} (h : OwnsZ w mb st) (hn : st.length < maxLen) (k : Pth) (hk : k.length ≤ maxLen) (e : ZE) :
    ∃ w', (Instr.mapUpdate 81 (.map (some mb)) (.string ⟨k.toArray⟩) (ptrZ e.nb)).run Tryz.prog w = .ok () w' ∧ OwnsZ w' mb (putZ k e st) ∧ w.grownBy w' (some mb) := by
  obtain ⟨w', hrun, h1, h2⟩ := World.ownsMap.update h keyLawZ Tryz.underlying81 hn (keySZ k hk) (val := ptrZ e.nb) (d := .held (ptrZ e.nb)) (ps := []) rfl
  rw [toDZ_put k e] at h1
  exact ⟨w', hrun, OwnsZ.tight h1, h2⟩
theorem OwnsZ.drop {w : World} {mb : Nat} {st : ZSt} (h : OwnsZ w mb st) (k : Pth) (hk : k.length ≤ maxLen) (ty : TypeId) :
    ∃ w', (Builtin.delete_ #[81, 9] ty #[.map (some mb), .string ⟨k.toArray⟩]).run Tryz.prog w = .ok (.tuple #[]) w' ∧ OwnsZ w' mb (cutZ k st) ∧ w.grownBy w' (some mb) := by
  obtain ⟨w', hrun, h1, h2⟩ := World.ownsMap.drop h keyLawZ Tryz.underlying81 (keySZ k hk) ty
  rw [toDZ_del] at h1
  exact ⟨w', hrun, OwnsZ.tight h1, h2.grown⟩
/-! ### nodes, trees -/
def NodeAt (w : World) (e : ZE) : Prop := w.heap[e.nb]? = some (.cells #[.int .i64 (e.nd.ver : Int), .int .i64 (e.nd.ctr : Int), .int .i64 (e.nd.own : Int), .int .i64 e.nd.kids, e.dv] 87 (0, 0)) ∧ w.ownsRow 0 5 1 e.dv e.nd.data.length (Lib.byteCells e.nd.data)
/-- What is true of each node. -/
structure GoodN (lim : Nat) (k : Pth) (n : ZN) : Prop where
  path : (names k).isSome = true
  small : n.data.length ≤ 256
  ver : n.ver ≤ 4611686018427387903 + lim
  ctr : n.ctr ≤ 4611686018427387903
  own : n.own ≤ 4611686018427387903
  kidL : -(lim : Int) ≤ n.kids
  kidH : n.kids ≤ (lim : Int)
theorem GoodN.more {lim lim' : Nat} {k : Pth} {n : ZN} (h : GoodN lim k n) (hl : lim ≤ lim') : GoodN lim' k n := ⟨h.path, h.small, by have := h.ver; omega, h.ctr, h.own, by have := h.kidL; omega, by have := h.kidH; omega⟩
structure TreeAt (w : World) (tb mb : Nat) (st : ZSt) (lim : Nat) (F : Nat → Prop) : Prop where
  cells : w.heap[tb]? = some (.cells #[.map (some mb)] 83 (0, 0))
  owns : OwnsZ w mb st
  srt : SrtZ st
  nodes : ∀ p ∈ st, NodeAt w p.2
  inj : st.Pairwise fun p q => p.2.nb ≠ q.2.nb
  few : st.length ≤ lim + 1
  good : ∀ p ∈ st, GoodN lim p.1 p.2.nd
  inT : F tb
  inM : F mb
  inN : ∀ p ∈ st, F p.2.nb
  inD : ∀ p ∈ st, ∀ g, p.2.dv.ownBlock = some g → F g
section
variable {w w' : World} {tb mb : Nat} {st : ZSt} {lim : Nat} {F G : Nat → Prop}
theorem NodeAt.chg {e : ZE} (h : NodeAt w e) (c : Chg G w w') (h1 : ¬ G e.nb) (h2 : ∀ g, e.dv.ownBlock = some g → ¬ G g) : NodeAt w' e := ⟨c.block' h.1 h1, own_chg h.2 c h2⟩
theorem TreeAt.chg (h : TreeAt w tb mb st lim F) (c : Chg G w w') (hG : ∀ g, F g → ¬ G g) : TreeAt w' tb mb st lim F :=
  ⟨c.block' h.cells (hG _ h.inT), map_chg h.owns c (hG _ h.inM), h.srt, fun p hp => (h.nodes p hp).chg c (hG _ (h.inN p hp)) (fun g hg => hG _ (h.inD p hp g hg)), h.inj, h.few, h.good, h.inT, h.inM, h.inN, h.inD⟩
theorem TreeAt.kept (h : TreeAt w tb mb st lim F) (c : Kept w w') : TreeAt w' tb mb st lim F := h.chg (Chg.of_kept (F := no) c) (fun _ _ x => x)
theorem TreeAt.mono (h : TreeAt w tb mb st lim F) (hg : ∀ g, F g → G g) : TreeAt w tb mb st lim G := ⟨h.cells, h.owns, h.srt, h.nodes, h.inj, h.few, h.good, hg _ h.inT, hg _ h.inM, fun p hp => hg _ (h.inN p hp), fun p hp g x => hg _ (h.inD p hp g x)⟩
theorem TreeAt.more (h : TreeAt w tb mb st lim F) {lim' : Nat} (hl : lim ≤ lim') : TreeAt w tb mb st lim' F := ⟨h.cells, h.owns, h.srt, h.nodes, h.inj, by have := h.few; omega, fun p hp => (h.good p hp).more hl, h.inT, h.inM, h.inN, h.inD⟩
theorem TreeAt.c0 (h : TreeAt w tb mb st lim F) : w.cell? ⟨tb, 0, none⟩ = some (.map (some mb)) := by rw [cell_at h.cells]; rfl
theorem TreeAt.get (h : TreeAt w tb mb st lim F) {k : Pth} {e : ZE} (hg : getZ k st = some e) : NodeAt w e ∧ GoodN lim k e.nd := ⟨h.nodes _ (getZ_mem hg), h.good _ (getZ_mem hg)⟩
end
end Go.Proofs.YtennlckfmgfjbaaGreatDoor
