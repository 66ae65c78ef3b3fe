/- append of bytes onto a row of the call's own, whatever the source; string(b); and the walks of the document's Join, Copy and Same. Words for memory: what has changed; rows; append of one element; the copies. In a world of the program's own shape the library's internal/bytealg.MaxLen holds some number. -/
import Derived.Test.YtennlckfmgfjbaaGreatDoorProg
import Derived.Test.YtennlckfmgfjbaaGreatDoorGCrc3
import Derived.Maps.AppendAt
import Derived.OwnWalk
import Derived.Laws.IdiomStrings
import Derived.Laws.OwnMore
import Derived.Deep.QuietTactic
import Derived.BigQuiet
import Derived.StillTailTactics
import Derived.Deep.RegionHeld3
import Derived.Lib.BufferMore
import Derived.Laws.CopyOwn
import Derived.Lib.AppendIntMem
import Derived.Test.YtennlckfmgfjbaaGreatDoorRows
import Derived.Shelf.Vars
import Derived.KernelRfl
namespace Go.Proofs.YtennlckfmgfjbaaGreatDoor
open Go.RowKit

theorem info_byte : ∃ i, Tryz.prog.info? 5 = some i ∧ i.zero = some (.int .u8 0) ∧ i.size = 1 ∧ i.bytes = 1 := by
  have h : (Tryz.prog.info? 5).map (fun i => (i.zero, i.size, i.bytes)) = some (some (.int .u8 0), 1, 1) := by kernel_rfl
  cases hq : Tryz.prog.info? 5 with
  | none => rw [hq] at h; cases h
  | some i =>
    rw [hq] at h
    simp only [Option.map_some, Option.some.injEq, Prod.mk.injEq] at h
    exact ⟨i, rfl, h⟩
theorem byteCells_append (l m : List UInt8) : Lib.byteCells (l ++ m) = Lib.byteCells l ++ Lib.byteCells m := by simp [Lib.byteCells]
theorem byteCells_one' (l : List UInt8) : ∀ u ∈ Lib.byteCells l, u.oneCell' = true := by
  intro u hu
  simp only [Lib.byteCells, List.mem_map] at hu
  obtain ⟨x, -, rfl⟩ := hu
  rfl

/-- What append does, of a source that reads as m. -/
theorem append_run (ty : TypeId) (w : World) (base : Nat) (v : Value) (n : Nat) (l m : List UInt8) (x : Value) (hown : w.ownsRow base 5 1 v n (Lib.byteCells l)) (hx : Bts w x m) (hlim : n + m.length ≤ 140737488355328) (hbase : base ≤ w.heap.size) :
    ∃ v' w', (Builtin.append_ #[39, 39] ty #[v, x]).run Tryz.prog w = .ok v' w' ∧ w'.ownsRow base 5 1 v' (n + m.length) (Lib.byteCells (l ++ m)) ∧ w.grownBy w' v.ownBlock ∧ (v'.ownBlock = v.ownBlock ∨ v'.ownBlock = some w.heap.size) := by
  obtain ⟨i, hi, hz, hs, hb⟩ := info_byte
  obtain ⟨A, c, rfl, hc1, hc2, hcs⟩ := hx
  rw [byteCells_append]
  cases A with
  | none =>
    have hm : m = [] := by
      rcases Nat.eq_zero_or_pos m.length with h | h
      · exact List.eq_nil_of_length_eq_zero h
      · obtain ⟨b, o, h, -⟩ := hcs h; cases h
    subst hm
    refine ⟨v, w, ?_, by simpa [Lib.byteCells] using hown, ⟨rfl, rfl, rfl, Nat.le_refl _, fun _ _ _ => rfl⟩, .inl rfl⟩
    rcases hown.2 with ⟨rfl, rfl⟩ | ⟨g, cap, cur, rfl, _, _, hnc, _⟩
    · simp [Builtin.append_, run_underlying Tryz.underlying39, sizeOf, typeInfo, hi, Builtin.lenOf, Builtin.firstCells]
    · simp [Builtin.append_, run_underlying Tryz.underlying39, sizeOf, typeInfo, hi, Builtin.lenOf, Builtin.firstCells, hnc, storeCells]
  | some ad =>
    have hcells : ∀ j u, (Lib.byteCells m)[j]? = some u → w.cell? (ad.add j) = some u := by
      intro j u hu
      have hj : j < m.length := by
        have := (List.getElem?_eq_some_iff.1 hu).1
        simpa [byteCells_length] using this
      obtain ⟨b, o, h, hc⟩ := hcs (by omega)
      cases h
      have e : ((⟨b, o, none⟩ : Addr).add j) = ⟨b, o + j, none⟩ := by unfold Addr.add; split <;> simp_all
      rw [e, hc j m[j] (by simp [hj])]
      simp [Lib.byteCells, hj] at hu
      rw [hu]
    obtain ⟨v', w', hrun, h2, h3, _, h5⟩ := run_append_own_at (P := Tryz.prog) w base 39 ty 5 i (.int .u8 0) 1 1 Tryz.underlying39 hi hz hs hb rfl (by decide) v n _ hown ad m.length c (Lib.byteCells m) (by rw [byteCells_length, Nat.mul_one]) hcells (byteCells_one' m) (by unfold maxLen; omega) (by omega) hbase
    exact ⟨v', w', hrun, h2, h3, h5⟩

/-- append, for the walk. -/
theorem wpList_append_bts {w : World} {ops : Array Oper} {rest : List Oper} {o : Oper} {a : Act} {Q : Exit → Act → World → Prop} (hgd : o.guard = none) (s x : Operand)
    (ho : o.op = .call { callee := .builtin .append, args := #[s, x], argTypes := #[39, 39] }) (base : Nat) (v : Value) (n : Nat) (l m : List UInt8) (xv : Value) (hs : a.eval s = v) (hxe : a.eval x = xv)
    (hown : w.ownsRow base 5 1 v n (Lib.byteCells l)) (hx : Bts w xv m) (hlim : n + m.length ≤ 140737488355328) (hbase : base ≤ w.heap.size)
    (h : ∀ v' w', w'.ownsRow base 5 1 v' (n + m.length) (Lib.byteCells (l ++ m)) → w.grownBy w' v.ownBlock → (v'.ownBlock = v.ownBlock ∨ v'.ownBlock = some w.heap.size) → wpList Tryz.prog ops Q rest (a.put o.dst v') w') : wpList Tryz.prog ops Q (o :: rest) a w := by
  refine wpList_plain hgd fun K hK => ?_
  obtain ⟨v', w', hrun, h2, h3, h4⟩ := append_run o.type w base v n l m xv hown hx hlim hbase
  unfold Oper.wp execOp
  simp only [ho, resolve, invoke, builtin, Sem.run_bind, Sem.run_pure, Result.andThen_ok, List.map_toArray, List.map_cons, List.map_nil, hs, hxe, hrun]
  exact hK _ _ (h v' w' h2 h3 h4)

/-- string(b). -/
theorem conv_run {w : World} {v : Value} {l : List UInt8} (h : Bts w v l) : (convert 39 9 v).run Tryz.prog w = .ok (.string ⟨l.toArray⟩) w := by
  obtain ⟨A, c, rfl, hc1, hc2, hcs⟩ := h
  cases A with
  | none =>
    have hm : l = [] := by
      rcases Nat.eq_zero_or_pos l.length with h | h
      · exact List.eq_nil_of_length_eq_zero h
      · obtain ⟨b, o, h, -⟩ := hcs h; cases h
    subst hm
    rw [List.length_nil, run_convert_bytes_string w _ _ 5 none 0 c Tryz.underlying39 Tryz.underlying5 Tryz.underlying9]
    rfl
  | some a =>
    refine run_convert_bytes_back w 39 9 5 a c l Tryz.underlying39 Tryz.underlying5 Tryz.underlying9 (fun j hj => ?_)
    obtain ⟨b, o, h, hc⟩ := hcs (by omega)
    cases h
    have e : ((⟨b, o, none⟩ : Addr).add j) = ⟨b, o + j, none⟩ := by unfold Addr.add; split <;> simp_all
    rw [e]
    exact hc j l[j] (by simp [hj])

set_option maxHeartbeats 400000 in
theorem same_any (l m : List UInt8) (v u : Value) (w : World) (hv : Bts w v l) (hu : Bts w u m) :
    Calls Tryz.prog 11 #[v, u] w fun e w' => e = .returned (.bool (l == m)) ∧ w = w' := by
  have c1 := conv_run hv
  have c2 := conv_run hu
  obtain ⟨A, c, rfl, -, -, -⟩ := hv
  obtain ⟨A', c', rfl, -, -, -⟩ := hu
  go_enter Tryz.func11, Tryz.ntmps11
  go_wp2
  go_ret
  exact ⟨rfl, rfl⟩

theorem Kept.grown {w0 w w' : World} {row : Option Nat} (h : Kept w0 w) (hg : w.grownBy w' row) (hr : ∀ g, row = some g → w0.heap.size ≤ g) : Kept w0 w' :=
  ⟨hg.os.trans h.os, hg.tape.trans h.tape, hg.output.trans h.output, Nat.le_trans h.size hg.size, fun k hk => by
    rw [hg.block k (Nat.lt_of_lt_of_le hk h.size) (fun e => by have := hr k e.symm; omega)]
    exact h.block k hk⟩
theorem own_ge {w : World} {b : Nat} {e : TypeId} {s n : Nat} {v : Value} {xs : List Value} (h : w.ownsRow b e s v n xs) : ∀ g, v.ownBlock = some g → b ≤ g := fun g hg => (h.lt g hg).1
theorem own_base' {w : World} {b b' : Nat} {e : TypeId} {s n : Nat} {v : Value} {xs : List Value} (h : w.ownsRow b e s v n xs) (hb : b' ≤ b) : w.ownsRow b' e s v n xs := by
  obtain ⟨h1, h2⟩ := h
  refine ⟨h1, ?_⟩
  rcases h2 with h2 | ⟨g, cap, cur, a1, a2, a3⟩
  · exact .inl h2
  · exact .inr ⟨g, cap, cur, a1, Nat.le_trans hb a2, a3⟩
theorem flat_le {α : Type} (ls : List (List α)) (k : Nat) (h : k < ls.length) : (ls.take k).flatten.length + ls[k].length ≤ ls.flatten.length := by
  have e : ls.flatten = (ls.take k).flatten ++ (ls.drop k).flatten := by rw [← List.flatten_append, List.take_append_drop]
  have d : ls.drop k = ls[k] :: ls.drop (k + 1) := List.drop_eq_getElem_cons h
  rw [e, d, List.flatten_cons, List.length_append, List.length_append]
  omega
theorem take_flat' {α : Type} (ls : List (List α)) (k : Nat) (h : k < ls.length) : (ls.take (k + 1)).flatten = (ls.take k).flatten ++ ls[k] := by
  rw [List.take_succ_eq_append_getElem h, List.flatten_append, List.flatten_cons, List.flatten_nil, List.append_nil]

set_option maxHeartbeats 400000 in
theorem join_any (ls : List (List UInt8)) (v : Value) (w : World) (hp : Parts w v ls) (hlim : ls.flatten.length ≤ 140737488355328) :
    Calls Tryz.prog 54 #[v] w fun e w' => ∃ v', e = .returned v' ∧ w'.ownsRow w.heap.size 5 1 v' ls.flatten.length (Lib.byteCells ls.flatten) ∧ Kept w w' := by
  obtain ⟨A, c, rfl, hc1, hc2, hcs⟩ := hp
  unfold maxLen at hc2
  go_enter Tryz.func54, Tryz.ntmps54
  have HCS := Lib.hid hcs
  clear hcs
  go_wp2
  go_loopw [3, 4] (fun t i W => ∃ k : Nat, i = .int .i64 (k : Int) ∧ k ≤ ls.length ∧ W.ownsRow w.heap.size 5 1 t (ls.take k).flatten.length (Lib.byteCells (ls.take k).flatten) ∧ Kept w W) (fun _ i _ => ls.length - (intOf i).toNat)
  case atStart => exact ⟨0, rfl, Nat.zero_le _, World.ownsRow_lit w #[] 0 (Nat.le_refl _) (by decide) rfl, (Kept.refl w).alloc _⟩
  case round =>
    obtain ⟨k, rfl, hk, hO, hK⟩ := hrel
    by_cases hlt : k < ls.length
    · obtain ⟨b, o, rfl, hcell⟩ := HCS.out (by omega)
      obtain ⟨x, hx, hbx⟩ := hcell k ls[k] (by simp [hlt])
      have hx1 := hK.cell hx
      have hbx1 := hbx.kept hK
      have e1 := take_flat' ls k hlt
      have hle := flat_le ls k hlt
      obtain ⟨A2, c2, rfl, -, -, -⟩ := id hbx
      have HO := Lib.hid hO
      have HB := Lib.hid hbx1
      have E1 := Lib.hid e1
      clear hO hbx1 e1 hcell hbx hx
      have hsz := hK.size
      obtain ⟨A3, c3, hv3⟩ : ∃ A3 c3, u3 = .slice A3 (ls.take k).flatten.length c3 := by
        rcases HO.out.2 with ⟨rfl, h0⟩ | ⟨g, cap, cur, rfl, -⟩
        · exact ⟨none, 0, by rw [h0]⟩
        · exact ⟨_, _, rfl⟩
      subst hv3
      go_wp2_with (at_builtin; refine wpList_append_bts rfl _ _ rfl w.heap.size _ _ (ls.take k).flatten ls[k] _ rfl rfl HO.out HB.out (by omega) hsz ?_; intro v' w' h1 h2 h3)
      go_roundw
      case rel =>
        refine ⟨k + 1, by go_num, by omega, ?_, ?_⟩
        · rw [E1.out, List.length_append]; exact h1
        · exact hK.grown h2 (own_ge HO.out)
      case measure => simp [intOf]; omega
    · obtain rfl : k = ls.length := by omega
      rw [List.take_length] at hO
      have HO := Lib.hid hO
      clear hO
      go_wp2
      go_ret
      exact ⟨_, rfl, HO.out, hK⟩
set_option maxHeartbeats 400000 in
theorem copy_any (l : List UInt8) (v : Value) (w : World) (hv : Bts w v l) (hlim : l.length ≤ 140737488355328) :
    Calls Tryz.prog 22 #[v] w fun e w' => ∃ v', e = .returned v' ∧ w'.ownsRow w.heap.size 5 1 v' l.length (Lib.byteCells l) ∧ Kept w w' := by
  obtain ⟨A, c, hv', -, -, -⟩ := id hv
  subst hv'
  go_enter Tryz.func22, Tryz.ntmps22
  go_wp2_with fail
  refine (join_any [l] _ _ (Parts.one hv) (by simpa using hlim)).mono ?_
  rintro e w' ⟨v', rfl, h1, h2⟩
  rw [List.flatten_cons, List.flatten_nil, List.append_nil] at h1
  have H1 := Lib.hid h1
  clear h1
  have hk := ((Kept.refl w).alloc _).trans h2
  go_wp2
  go_ret
  exact ⟨v', rfl, own_base' H1.out (by simp), hk⟩
end Go.Proofs.YtennlckfmgfjbaaGreatDoor
set_option linter.unusedSimpArgs false
set_option linter.unusedVariables false
namespace Go.Proofs.YtennlckfmgfjbaaGreatDoor
open Go.RowKit
/-- Of what was there only blocks that F names have changed. -/
structure Chg (F : Nat → Prop) (w w' : World) : Prop where
  os : w'.os = w.os
  tape : w'.tape = w.tape
  output : w'.output = w.output
  size : w.heap.size ≤ w'.heap.size
  block : ∀ k, k < w.heap.size → ¬ F k → w'.heap[k]? = w.heap[k]?
/-- F, and what is new. -/
def ext (F : Nat → Prop) (w w' : World) : Nat → Prop := fun g => F g ∨ (w.heap.size ≤ g ∧ g < w'.heap.size)
def no : Nat → Prop := fun _ => False
theorem Chg.refl (F : Nat → Prop) (w : World) : Chg F w w := ⟨rfl, rfl, rfl, Nat.le_refl _, fun _ _ _ => rfl⟩
theorem Chg.of_kept {F : Nat → Prop} {w w' : World} (h : Kept w w') : Chg F w w' := ⟨h.os, h.tape, h.output, h.size, fun k hk _ => h.block k hk⟩
theorem Chg.to_kept {w w' : World} (h : Chg no w w') : Kept w w' := ⟨h.os, h.tape, h.output, h.size, fun k hk => h.block k hk (fun x => x)⟩
theorem Chg.of_grown {F : Nat → Prop} {w w' : World} {row : Option Nat} (h : w.grownBy w' row) (hr : ∀ g, row = some g → g < w.heap.size → F g) : Chg F w w' :=
  ⟨h.os, h.tape, h.output, h.size, fun k hk hF => h.block k hk (fun e => hF (hr k e.symm hk))⟩
theorem Chg.trans {F G : Nat → Prop} {w w1 w2 : World} (h : Chg F w w1) (k : Chg G w1 w2) (hg : ∀ g, g < w.heap.size → G g → F g) : Chg F w w2 :=
  ⟨k.os.trans h.os, k.tape.trans h.tape, k.output.trans h.output, Nat.le_trans h.size k.size, fun i hi hF =>
    (k.block i (Nat.lt_of_lt_of_le hi h.size) (fun x => hF (hg i hi x))).trans (h.block i hi hF)⟩
theorem Chg.then_kept {F : Nat → Prop} {w w1 w2 : World} (h : Chg F w w1) (k : Kept w1 w2) : Chg F w w2 := h.trans (Chg.of_kept (F := no) k) (fun _ _ x => x.elim)
theorem Chg.mono {F G : Nat → Prop} {w w' : World} (h : Chg F w w') (hg : ∀ g, g < w.heap.size → F g → G g) : Chg G w w' := ⟨h.os, h.tape, h.output, h.size, fun k hk hF => h.block k hk (fun x => hF (hg k hk x))⟩
theorem Chg.kept {F : Nat → Prop} {w0 w w' : World} (h : Kept w0 w) (k : Chg F w w') (hF : ∀ g, F g → w0.heap.size ≤ g) : Kept w0 w' :=
  ⟨k.os.trans h.os, k.tape.trans h.tape, k.output.trans h.output, Nat.le_trans h.size k.size, fun i hi =>
    (k.block i (Nat.lt_of_lt_of_le hi h.size) (fun x => by have := hF i x; omega)).trans (h.block i hi)⟩
theorem Chg.drew {F : Nat → Prop} {w w' : World} (h : Chg F w w') : Chg F w w'.drew := ⟨h.os, h.tape, h.output, h.size, h.block⟩
theorem Chg.drewN {F : Nat → Prop} {w w' : World} (h : Chg F w w') (n : Nat) : Chg F w (w'.drewN n) := ⟨h.os, h.tape, h.output, h.size, h.block⟩
theorem Chg.alloc {F : Nat → Prop} {w w' : World} (h : Chg F w w') (o : Obj) : Chg F w (w'.alloc o) := h.then_kept ((Kept.refl _).alloc o)
theorem Chg.setCell {F : Nat → Prop} {w w' : World} (h : Chg F w w') {b o : Nat} (v : Value) (hb : b < w.heap.size → F b) : Chg F w (w'.setCell ⟨b, o, none⟩ v) :=
  ⟨h.os, h.tape, h.output, by simpa [World.setCell] using h.size, fun k hk hF => by
    rw [Below.heap_setCell w' ⟨b, o, none⟩ v k (fun e => by subst e; exact hF (hb hk))]
    exact h.block k hk hF⟩
theorem own_chg {F : Nat → Prop} {w w' : World} {b : Nat} {e : TypeId} {s n : Nat} {v : Value} {xs : List Value} (h : w.ownsRow b e s v n xs) (k : Chg F w w') (hF : ∀ g, v.ownBlock = some g → ¬ F g) : w'.ownsRow b e s v n xs := by
  obtain ⟨h1, h2⟩ := h
  refine ⟨h1, ?_⟩
  rcases h2 with h2 | ⟨g, cap, cur, rfl, a2, a3, a4⟩
  · exact .inl h2
  · have hg : g < w.heap.size := (Array.getElem?_eq_some_iff.1 a3).1
    exact .inr ⟨g, cap, cur, rfl, a2, (k.block g hg (hF g rfl)).trans a3, a4⟩
theorem own_kept {w w' : World} {b : Nat} {e : TypeId} {s n : Nat} {v : Value} {xs : List Value} (h : w.ownsRow b e s v n xs) (k : Kept w w') : w'.ownsRow b e s v n xs := own_chg h (Chg.of_kept (F := no) k) (fun _ _ x => x)
theorem map_chg {F : Nat → Prop} {w w' : World} {H : Type} {P : Program} {k : TypeId} {R : Value → Option (DataW H × List MemPlace)} {b n : Nat} {D : DataW H} (h : w.ownsMap P k R b n D) (c : Chg F w w') (hF : ¬ F b) : w'.ownsMap P k R b n D := by
  have hlt := h.lt
  obtain ⟨es, clock, hb, r⟩ := h
  exact ⟨es, clock, (c.block b hlt hF).trans hb, r⟩
theorem Kept.block' {w w' : World} (h : Kept w w') {b : Nat} {o : Obj} (hb : w.heap[b]? = some o) : w'.heap[b]? = some o := (h.block b (Array.getElem?_eq_some_iff.1 hb).1).trans hb
theorem Chg.block' {F : Nat → Prop} {w w' : World} (h : Chg F w w') {b : Nat} {o : Obj} (hb : w.heap[b]? = some o) (hF : ¬ F b) : w'.heap[b]? = some o := (h.block b (Array.getElem?_eq_some_iff.1 hb).1 hF).trans hb

/-- An element of the table reads as itself. -/
def rdV : Value → Option (DataW Value × List MemPlace) := fun v => some (.held v, [])
theorem cell_at {w : World} {b : Nat} {cs : Array Value} {t : TypeId} {m : Nat × Nat} (h : w.heap[b]? = some (.cells cs t m)) (i : Nat) : w.cell? ⟨b, i, none⟩ = cs[i]? := by simp [World.cell?, h]
theorem frozen_at {w : World} {b : Nat} {cs : Array Value} {t : TypeId} (h : w.heap[b]? = some (.cells cs t (0, 0))) (i : Nat) : w.frozen? ⟨b, i, none⟩ = false := by simp [World.frozen?, h]
theorem ext_low {F : Nat → Prop} {w W : World} {g : Nat} (h : ext F w W g) (hg : g < w.heap.size) : F g := by
  rcases h with h | h
  · exact h
  · omega
theorem ext_ext {F : Nat → Prop} {w W W' : World} (h1 : w.heap.size ≤ W.heap.size) (h2 : W.heap.size ≤ W'.heap.size) {g : Nat} (h : ext (ext F w W) W W' g) : ext F w W' g := by
  rcases h with (h | h) | h
  · exact .inl h
  · exact .inr ⟨h.1, by omega⟩
  · exact .inr ⟨by omega, h.2⟩
theorem ext_mono {F : Nat → Prop} {w W W' : World} (h2 : W.heap.size ≤ W'.heap.size) {g : Nat} (h : ext F w W g) : ext F w W' g := by
  rcases h with h | h
  · exact .inl h
  · exact .inr ⟨h.1, by omega⟩
/-- A region that draws, whose tail is forced: the world behind the draw under a name. -/
theorem still_tail {P : Program} {id : Nat} {Q : Exit → Act → World → Prop} {a : Act} {w : World} {l : List Oper} (n : Nat) (hm : P.follows .mixedOrders = true) (hB : Region.lexTailB .any l.toArray n = true)
    (h : ∀ wd, Kept w wd → wpStill P l.toArray wd (fun a' => wpList P l.toArray Q (l.drop n) a' wd) (l.take n) a) : (Code.region id l.toArray true).wp P Q a w :=
  wp_region_still_tail n hm hB (h _ (Kept.refl w).drew)
theorem Chg.chain {F : Nat → Prop} {w W W' : World} (c : Chg F w W) (c' : Chg (ext F w W) W W') : Chg F w W' := c.trans c' (fun _ hg x => ext_low x hg)
theorem own_form {w : World} {b : Nat} {e : TypeId} {s n : Nat} {v : Value} {xs : List Value} (h : w.ownsRow b e s v n xs) : ∃ A c, v = .slice A n c := by
  rcases h.2 with ⟨rfl, h0⟩ | ⟨g, cap, cur, rfl, -⟩
  · exact ⟨none, 0, by rw [h0]⟩
  · exact ⟨_, _, rfl⟩
theorem own_set {w : World} {b : Nat} {e : TypeId} {s n : Nat} {v : Value} {xs : List Value} {g : Nat} (h : w.ownsRow b e s v n xs) (hv : v.ownBlock = some g) (j : Nat) (u : Value) : (w.setCell ⟨g, j, none⟩ u).ownsRow b e s v n (xs.set j u) := by
  refine ⟨by rw [List.length_set]; exact h.1, ?_⟩
  rcases h.2 with ⟨rfl, -⟩ | ⟨g', cap, cur, rfl, hb, hc, h1, h2, h3, h4⟩
  · cases hv
  · obtain rfl : g' = g := by simpa [Value.ownBlock] using hv
    refine .inr ⟨g', cap, cur.setIfInBounds j u, rfl, hb, Lib.heap_setCell_same hc u, h1, h2, by simpa using h3, ?_⟩
    rw [Array.toList_setIfInBounds, List.take_set, h4]
theorem chg_cellS {F : Nat → Prop} {w w' : World} (c : Chg F w w') {b o : Nat} {v : Value} (hc : w.cell? ⟨b, o, none⟩ = some v) (hF : ¬ F b) : w'.cell? ⟨b, o, none⟩ = some v := by
  have hb := World.block_lt_of_cell? _ _ hc
  rw [World.cell?_of_block (a := ⟨b, o, none⟩) (c.block b hb hF)]
  exact hc
theorem ints_none (W : World) : Ints W (.slice none 0 0) [] := ⟨none, 0, rfl, Nat.le_refl _, by decide, fun h => absurd h (by simp)⟩
theorem Ints.of_own {w : World} {base : Nat} {e : TypeId} {v : Value} {n : Nat} {l : List Int} (h : w.ownsRow base e 1 v n (l.map (Value.int .i64))) : Ints w v l := by
  have hn : l.length = n := by have := h.1; simpa using this
  rcases h.2 with ⟨rfl, h0⟩ | ⟨g, cap, cur, rfl, hB, hg, hc, hm, hs, ht⟩
  · obtain rfl : l = [] := List.eq_nil_of_length_eq_zero (by omega)
    exact ints_none w
  · subst hn
    refine ⟨_, cap, rfl, hc, hm, fun _ => ⟨g, 0, rfl, fun k x hx => ?_⟩⟩
    have := h.cells (g := g) rfl k (.int .i64 x) (by simp [hx])
    have e : ((⟨g, 0, none⟩ : Addr).add k) = ⟨g, 0 + k, none⟩ := by unfold Addr.add; split <;> simp_all
    rw [e] at this
    exact this
theorem size_int : (Tryz.prog.info? 3).map (·.size) = some 1 := by kernel_rfl
theorem info_int : ∃ i, Tryz.prog.info? 3 = some i ∧ i.zero = some (.int .i64 0) ∧ i.size = 1 ∧ i.bytes = 8 := by
  have h : (Tryz.prog.info? 3).map (fun i => (i.zero, i.size, i.bytes)) = some (some (.int .i64 0), 1, 8) := by kernel_rfl
  cases hq : Tryz.prog.info? 3 with
  | none => rw [hq] at h; cases h
  | some i =>
    rw [hq] at h
    simp only [Option.map_some, Option.some.injEq, Prod.mk.injEq] at h
    exact ⟨i, rfl, h⟩
/-- What is new. -/
abbrev fresh (w w' : World) : Nat → Prop := ext no w w'
theorem own_type {w : World} {b : Nat} {e : TypeId} {s n : Nat} {v : Value} {xs : List Value} (h : w.ownsRow b e s v n xs) {g : Nat} (hg : v.ownBlock = some g) : ∃ cur, w.heap[g]? = some (.cells cur e (0, 0)) := by
  rcases h.2 with ⟨rfl, -⟩ | ⟨g', cap, cur, rfl, -, h3, -⟩
  · cases hg
  · obtain rfl : g' = g := by simpa [Value.ownBlock] using hg
    exact ⟨cur, h3⟩
/-- The value is a row of records, each a row of bytes of its own; G names their blocks. -/
def RecsAt (w : World) (rv : Value) (rs : List (List UInt8)) (G : Nat → Prop) : Prop :=
  ∃ us : List Value, w.ownsRow 0 39 1 rv rs.length us ∧ (∀ g, rv.ownBlock = some g → G g) ∧
    ∀ k (hk : k < rs.length), ∃ u, us[k]? = some u ∧ w.ownsRow 0 5 1 u rs[k].length (Lib.byteCells rs[k]) ∧ ∀ g, u.ownBlock = some g → G g
theorem RecsAt.mono {w : World} {rv : Value} {rs : List (List UInt8)} {G G' : Nat → Prop} (h : RecsAt w rv rs G) (hg : ∀ g, G g → G' g) : RecsAt w rv rs G' := by
  obtain ⟨us, h1, h2, h3⟩ := h
  refine ⟨us, h1, fun g x => hg _ (h2 g x), fun k hk => ?_⟩
  obtain ⟨u, a, b, c⟩ := h3 k hk
  exact ⟨u, a, b, fun g x => hg _ (c g x)⟩
theorem RecsAt.chg {w w' : World} {rv : Value} {rs : List (List UInt8)} {F G : Nat → Prop} (h : RecsAt w rv rs G) (c : Chg F w w') (hF : ∀ g, G g → ¬ F g) : RecsAt w' rv rs G := by
  obtain ⟨us, h1, h2, h3⟩ := h
  refine ⟨us, own_chg h1 c (fun g x => hF _ (h2 g x)), h2, fun k hk => ?_⟩
  obtain ⟨u, a, b, d⟩ := h3 k hk
  exact ⟨u, a, own_chg b c (fun g x => hF _ (d g x)), d⟩
theorem RecsAt.kept {w w' : World} {rv : Value} {rs : List (List UInt8)} {G : Nat → Prop} (h : RecsAt w rv rs G) (k : Kept w w') : RecsAt w' rv rs G := h.chg (Chg.of_kept (F := no) k) (fun _ _ x => x)
/-- What has changed is no row of bytes, and not the records' own row. -/
theorem RecsAt.other {w w' : World} {rv : Value} {rs : List (List UInt8)} {F G : Nat → Prop} (h : RecsAt w rv rs G) (c : Chg F w w') (h1 : ∀ g, rv.ownBlock = some g → ¬ F g) (h2 : ∀ g, F g → ∀ cur, w.heap[g]? ≠ some (.cells cur 5 (0, 0))) : RecsAt w' rv rs G := by
  obtain ⟨us, a1, a2, a3⟩ := h
  refine ⟨us, own_chg a1 c h1, a2, fun k hk => ?_⟩
  obtain ⟨u, b1, b2, b3⟩ := a3 k hk
  refine ⟨u, b1, own_chg b2 c (fun g x y => ?_), b3⟩
  obtain ⟨cur, hc⟩ := own_type b2 x
  exact h2 g y cur hc
theorem RecsAt.nil (w : World) (G : Nat → Prop) : RecsAt w (.slice none 0 0) [] G := ⟨[], World.ownsRow_nil _ _ _ _, fun g x => (by cases x), fun k hk => by simp at hk⟩
theorem RecsAt.form {w : World} {rv : Value} {rs : List (List UInt8)} {G : Nat → Prop} (h : RecsAt w rv rs G) : ∃ A c, rv = .slice A rs.length c ∧ rs.length ≤ c ∧ c ≤ maxLen := by
  obtain ⟨us, h1, -⟩ := h
  rcases h1.2 with ⟨rfl, h0⟩ | ⟨g, cap, cur, rfl, -, -, h1, h2, -⟩
  · exact ⟨none, 0, by rw [h0], by omega, by decide⟩
  · exact ⟨_, _, rfl, h1, h2⟩
theorem RecsAt.ok {w : World} {rv : Value} {rs : List (List UInt8)} {G : Nat → Prop} (h : RecsAt w rv rs G) {g : Nat} (hg : rv.ownBlock = some g) : G g ∧ (∃ cur, w.heap[g]? = some (.cells cur 39 (0, 0))) := by
  obtain ⟨us, h1, h2, -⟩ := h
  exact ⟨h2 g hg, own_type h1 hg⟩
/-- One record of the row. -/
theorem RecsAt.at {w : World} {A : Option Addr} {n c : Nat} {rs : List (List UInt8)} {G : Nat → Prop} (h : RecsAt w (.slice A n c) rs G) {k : Nat} (hk : k < rs.length) : ∃ g u, A = some ⟨g, 0, none⟩ ∧ w.cell? ⟨g, k, none⟩ = some u ∧ Bts w u rs[k] := by
  obtain ⟨us, h1, -, h3⟩ := h
  obtain ⟨u, a, b, -⟩ := h3 k hk
  rcases h1.2 with ⟨e, h0⟩ | ⟨g, cap', cur, e, -⟩
  · omega
  · obtain ⟨rfl, -, rfl⟩ : A = some ⟨g, 0, none⟩ ∧ n = rs.length ∧ c = cap' := by simpa using e
    have hrow := h1
    rw [e] at hrow
    have ha : ∀ j, ((⟨g, 0, none⟩ : Addr).add j) = ⟨g, j, none⟩ := fun j => by unfold Addr.add; split <;> simp_all
    have c1 := hrow.cells (g := g) rfl _ _ a
    rw [ha] at c1
    exact ⟨g, u, rfl, c1, Bts.of_own b⟩
/-- One record more behind a row of the call's own. -/
theorem RecsAt.more {w w' : World} {A : Option Addr} {n c : Nat} {rs : List (List UInt8)} {G : Nat → Prop} {us : List Value} (a1 : w.ownsRow 0 39 1 (.slice A n c) rs.length us) (a2 : ∀ g, (Value.slice A n c).ownBlock = some g → G g) (a3 : ∀ k (hk : k < rs.length), ∃ u, us[k]? = some u ∧ w.ownsRow 0 5 1 u rs[k].length (Lib.byteCells rs[k]) ∧ ∀ g, u.ownBlock = some g → G g) {o : Obj} {v' u : Value} {r : List UInt8} (hu : w.ownsRow 0 5 1 u r.length (Lib.byteCells r)) (huG : ∀ g, u.ownBlock = some g → G g) (hg : (w.alloc o).grownBy w' (Value.slice A n c).ownBlock)
    (hr : w'.ownsRow 0 39 1 v' (rs.length + 1) (us ++ [u])) (hv : v'.ownBlock = (Value.slice A n c).ownBlock ∨ v'.ownBlock = some (w.alloc o).heap.size) :
    RecsAt w' v' (rs ++ [r]) (ext G w w') ∧ Chg (fun g => (Value.slice A n c).ownBlock = some g) w w' := by
  have hC : Chg (fun g => (Value.slice A n c).ownBlock = some g) w w' := (Chg.of_kept ((Kept.refl w).alloc o)).trans (Chg.of_grown hg (fun g hg _ => hg)) (fun g _ x => x)
  have hus : us.length = rs.length := by have := a1.1; omega
  have hb : ∀ {x : Value} {l : List UInt8}, w.ownsRow 0 5 1 x l.length (Lib.byteCells l) → w'.ownsRow 0 5 1 x l.length (Lib.byteCells l) := fun hx => own_chg hx hC (fun g hg e => by
    obtain ⟨cur, h1⟩ := own_type hx hg
    obtain ⟨cur', h2⟩ := own_type a1 e
    rw [h1] at h2
    injection h2 with h2
    injection h2 with _ h2
    exact absurd h2 (by decide))
  refine ⟨⟨us ++ [u], by rw [List.length_append]; exact hr, fun g hg => ?_, fun k hk => ?_⟩, hC⟩
  · rcases hv with e | e
    · rw [e] at hg
      exact .inl (a2 g hg)
    · rw [hg] at e
      have e : g = (w.alloc o).heap.size := by simpa using e
      have := (hr.lt g hg).2
      exact .inr ⟨by rw [e]; simp, this⟩
  · by_cases hkr : k < rs.length
    · obtain ⟨x, b1, b2, b3⟩ := a3 k hkr
      refine ⟨x, by rw [List.getElem?_append_left (by omega)]; exact b1, ?_, fun g hg => .inl (b3 g hg)⟩
      rw [List.getElem_append_left hkr]
      exact hb b2
    · obtain rfl : k = rs.length := by simp at hk; omega
      have hrr : (rs ++ [r])[rs.length]'hk = r := by simp
      refine ⟨u, by rw [List.getElem?_append_right (by omega)]; simp [hus], by rw [hrr]; exact hb hu, fun g hg => .inl (huG g hg)⟩
theorem Parts.at {w : World} {A : Option Addr} {n c : Nat} {ls : List (List UInt8)} (h : Parts w (.slice A n c) ls) {k : Nat} (hk : k < ls.length) : ∃ b o u, A = some ⟨b, o, none⟩ ∧ w.cell? ⟨b, o + k, none⟩ = some u ∧ Bts w u ls[k] := by
  obtain ⟨A', c', hv, -, -, h3⟩ := h
  obtain ⟨rfl, -, -⟩ : A = A' ∧ n = ls.length ∧ c = c' := by simpa using hv
  obtain ⟨b, o, e, hc⟩ := h3 (by omega)
  obtain ⟨u, h1, h2⟩ := hc k ls[k] (by simp [hk])
  exact ⟨b, o, u, e, h1, h2⟩
theorem RecsAt.parts {w : World} {rv : Value} {rs : List (List UInt8)} {G : Nat → Prop} (h : RecsAt w rv rs G) : Parts w rv rs := by
  obtain ⟨A, c, rfl, h1, h2⟩ := h.form
  refine ⟨A, c, rfl, h1, h2, fun hp => ?_⟩
  obtain ⟨g, u, rfl, -, -⟩ := h.at hp
  refine ⟨g, 0, rfl, fun k l hl => ?_⟩
  obtain ⟨hk, rfl⟩ := List.getElem?_eq_some_iff.1 hl
  obtain ⟨g', u', hg, hc, hb⟩ := h.at hk
  obtain rfl : g = g' := by simpa using hg
  exact ⟨u', by rw [Nat.zero_add]; exact hc, hb⟩
/-- What a type is, for append. -/
structure Elem (st et : TypeId) (size bytes : Nat) : Prop where
  under : Tryz.prog.underlying st = some (.slice et)
  info : ∃ i z, Tryz.prog.info? et = some i ∧ i.zero = some z ∧ i.size = size ∧ i.bytes = bytes ∧ z.cells.size = size
  pos : 0 < size
theorem elem_of {st et : TypeId} {size bytes : Nat} {z : Value} (hu : Tryz.prog.underlying st = some (.slice et)) (h : (Tryz.prog.info? et).map (fun i => (i.zero, i.size, i.bytes)) = some (some z, size, bytes)) (hz : z.cells.size = size) (hp : 0 < size) : Elem st et size bytes := by
  refine ⟨hu, ?_, hp⟩
  cases hq : Tryz.prog.info? et with
  | none => rw [hq] at h; cases h
  | some i =>
    rw [hq] at h
    simp only [Option.map_some, Option.some.injEq, Prod.mk.injEq] at h
    exact ⟨i, z, rfl, h.1, h.2.1, h.2.2, hz⟩
theorem elemB : Elem 133 39 1 24 := elem_of (z := .slice none 0 0) Tryz.underlying133 (by kernel_rfl) rfl (by decide)
theorem elemI : Elem 50 3 1 8 := elem_of (z := .int .i64 0) Tryz.underlying50 (by kernel_rfl) rfl (by decide)
theorem append_one_run {st et : TypeId} {size bytes : Nat} (E : Elem st et size bytes) (ty : TypeId) (w : World) (base : Nat) (v : Value) (n : Nat) (xs news : List Value) (hown : w.ownsRow base et size v n xs) (b c : Nat) (hl : news.length = size) (hc : ∀ j u, news[j]? = some u → w.cell? ⟨b, j, none⟩ = some u) (h1 : ∀ u ∈ news, u.oneCell' = true)
    (hlim : (n + 1) * bytes ≤ 140737488355328) (h63 : n + 1 ≤ maxLen) (hbase : base ≤ w.heap.size) :
    ∃ v' w', (Builtin.append_ #[st, st] ty #[v, .slice (some ⟨b, 0, none⟩) 1 c]).run Tryz.prog w = .ok v' w' ∧ w'.ownsRow base et size v' (n + 1) (xs ++ news) ∧ w.grownBy w' v.ownBlock ∧ (v'.ownBlock = v.ownBlock ∨ v'.ownBlock = some w.heap.size) := by
  obtain ⟨i, z, hi, hz, hs, hb, hzs⟩ := E.info
  have ha : ∀ j, ((⟨b, 0, none⟩ : Addr).add j) = ⟨b, j, none⟩ := fun j => by unfold Addr.add; split <;> simp_all
  obtain ⟨v', w', hrun, h2, h3, _, h5⟩ := run_append_own_at (P := Tryz.prog) w base st ty et i z size bytes E.under hi hz hs hb hzs E.pos v n _ hown ⟨b, 0, none⟩ 1 c news (by omega) (fun j u hu => by rw [ha]; exact hc j u hu) h1 h63 hlim hbase
  exact ⟨v', w', hrun, h2, h3, h5⟩
/-- append, for the walk. -/
theorem wpList_append_one {st et : TypeId} {size bytes : Nat} (E : Elem st et size bytes) {w : World} {ops : Array Oper} {rest : List Oper} {o : Oper} {a : Act} {Q : Exit → Act → World → Prop} (hgd : o.guard = none) (s x : Operand)
    (ho : o.op = .call { callee := .builtin .append, args := #[s, x], argTypes := #[st, st] }) (base : Nat) (v : Value) (n : Nat) (xs news : List Value) (b c : Nat) (hs : a.eval s = v) (hxe : a.eval x = .slice (some ⟨b, 0, none⟩) 1 c)
    (hown : w.ownsRow base et size v n xs) (hl : news.length = size) (hc : ∀ j u, news[j]? = some u → w.cell? ⟨b, j, none⟩ = some u) (h1 : ∀ u ∈ news, u.oneCell' = true) (hlim : (n + 1) * bytes ≤ 140737488355328) (h63 : n + 1 ≤ maxLen) (hbase : base ≤ w.heap.size)
    (h : ∀ v' w', w'.ownsRow base et size v' (n + 1) (xs ++ news) → w.grownBy w' v.ownBlock → (v'.ownBlock = v.ownBlock ∨ v'.ownBlock = some w.heap.size) → wpList Tryz.prog ops Q rest (a.put o.dst v') w') : wpList Tryz.prog ops Q (o :: rest) a w := by
  refine wpList_plain hgd fun K hK => ?_
  obtain ⟨v', w', hrun, h2, h3, h4⟩ := append_one_run E o.type w base v n xs news hown b c hl hc h1 hlim h63 hbase
  unfold Oper.wp execOp
  simp only [ho, resolve, invoke, builtin, Sem.run_bind, Sem.run_pure, Result.andThen_ok, List.map_toArray, List.map_cons, List.map_nil, hs, hxe, hrun]
  exact hK _ _ (h v' w' h2 h3 h4)
/-- append, in a region that draws. -/
theorem step_append_one {st et : TypeId} {size bytes : Nat} (E : Elem st et size bytes) {w : World} {ops : Array Oper} {o : Oper} {a : Act} {K : Act → World → Prop} {Q : Exit → Act → World → Prop} {X : Prop} (hgd : o.guard = none) (s x : Operand)
    (ho : o.op = .call { callee := .builtin .append, args := #[s, x], argTypes := #[st, st] }) (base : Nat) (v : Value) (n : Nat) (xs news : List Value) (b c : Nat) (hs : a.eval s = v) (hxe : a.eval x = .slice (some ⟨b, 0, none⟩) 1 c)
    (hown : w.ownsRow base et size v n xs) (hl : news.length = size) (hc : ∀ j u, news[j]? = some u → w.cell? ⟨b, j, none⟩ = some u) (h1 : ∀ u ∈ news, u.oneCell' = true) (hlim : (n + 1) * bytes ≤ 140737488355328) (h63 : n + 1 ≤ maxLen) (hbase : base ≤ w.heap.size)
    (h : ∀ v' w', w'.ownsRow base et size v' (n + 1) (xs ++ news) → w.grownBy w' v.ownBlock → (v'.ownBlock = v.ownBlock ∨ v'.ownBlock = some w.heap.size) → K (a.put o.dst v') w') :
    if Region.wanted o (yielded ops a.tmps) = true then Oper.wp Tryz.prog o a w K Q else X := by
  have hw : Region.wanted o (yielded ops a.tmps) = true := by simp [Region.wanted, hgd]
  rw [if_pos hw]
  obtain ⟨v', w', hrun, h2, h3, h4⟩ := append_one_run E o.type w base v n xs news hown b c hl hc h1 hlim h63 hbase
  unfold Oper.wp execOp
  simp only [ho, resolve, invoke, builtin, Sem.run_bind, Sem.run_pure, Result.andThen_ok, List.map_toArray, List.map_cons, List.map_nil, hs, hxe, hrun]
  exact h v' w' h2 h3 h4
theorem cell_new1 (w : World) (u : Value) (t : TypeId) : ∀ j x, ([u] : List Value)[j]? = some x → (w.alloc (.cells #[u] t)).cell? ⟨w.heap.size, j, none⟩ = some x := by
  intro j x hx
  rw [cell_at (heap_alloc_new w _)]
  match j, hx with
  | 0, hx => simpa using hx
theorem one_cell {u : Value} (h : u.oneCell' = true) : ∀ x ∈ [u], x.oneCell' = true := by
  intro x hx
  rw [List.mem_singleton.1 hx]
  exact h
end Go.Proofs.YtennlckfmgfjbaaGreatDoor
namespace Go.Proofs.YtennlckfmgfjbaaGreatDoor
open Go.RowKit
theorem maxLen_cell {W : World} (h : W.ShapedOpen Tryz.prog) : ∃ m, W.cell? ⟨1, 0, none⟩ = some (.int .i64 m) :=
  cell_of_shapedOpen_int (t := 3) (zero := #[.int .i64 0]) h (of_decide_eq_true (by kernel_rfl)) (by kernel_rfl) rfl (by kernel_rfl) (by kernel_rfl) Tryz.underlying3
end Go.Proofs.YtennlckfmgfjbaaGreatDoor
