/- append of bytes onto a row of the call's own, whatever the source; string(b); and the walks of the document's Join, Copy and Same. -/
import Derived.Test.YteopgcbihekcjaaDoorProg
import Derived.Test.YteopgcbihekcjaaDoorGCrc3
import Derived.Maps.AppendAt
import Derived.OwnWalk
import Derived.Laws.IdiomStrings
import Derived.Laws.OwnMore
import Derived.Deep.QuietTactic
import Derived.BigQuiet
namespace Go.Proofs.YteopgcbihekcjaaDoor
open Go.RowKit

theorem info_byte : ∃ i, Tryd.prog.info? 5 = some i ∧ i.zero = some (.int .u8 0) ∧ i.size = 1 ∧ i.bytes = 1 := by
  have h : (Tryd.prog.info? 5).map (fun i => (i.zero, i.size, i.bytes)) = some (some (.int .u8 0), 1, 1) := by kernel_rfl
  cases hq : Tryd.prog.info? 5 with
  | none => rw [hq] at h; cases h
  | some i =>
    rw [hq] at h
    simp only [Option.map_some, Option.some.injEq, Prod.mk.injEq] at h
    exact ⟨i, rfl, h⟩
theorem byteCells_append (l m : List UInt8) : Lib.byteCells (l ++ m) = Lib.byteCells l ++ Lib.byteCells m := by simp [Lib.byteCells]
theorem byteCells_one' (l : List UInt8) : ∀ u ∈ Lib.byteCells l, u.oneCell' = true := by
  intro u hu
  simp only [Lib.byteCells, List.mem_map] at hu
  obtain ⟨x, -, rfl⟩ := hu
  rfl

/-- What append does, of a source that reads as m. -/
theorem append_run (ty : TypeId) (w : World) (base : Nat) (v : Value) (n : Nat) (l m : List UInt8) (x : Value) (hown : w.ownsRow base 5 1 v n (Lib.byteCells l)) (hx : Bts w x m) (hlim : n + m.length ≤ 140737488355328) (hbase : base ≤ w.heap.size) :
    ∃ v' w', (Builtin.append_ #[25, 25] ty #[v, x]).run Tryd.prog w = .ok v' w' ∧ w'.ownsRow base 5 1 v' (n + m.length) (Lib.byteCells (l ++ m)) ∧ w.grownBy w' v.ownBlock ∧ (v'.ownBlock = v.ownBlock ∨ v'.ownBlock = some w.heap.size) := by
  obtain ⟨i, hi, hz, hs, hb⟩ := info_byte
  obtain ⟨A, c, rfl, hc1, hc2, hcs⟩ := hx
  rw [byteCells_append]
  cases A with
  | none =>
    have hm : m = [] := by
      rcases Nat.eq_zero_or_pos m.length with h | h
      · exact List.eq_nil_of_length_eq_zero h
      · obtain ⟨b, o, h, -⟩ := hcs h; cases h
    subst hm
    refine ⟨v, w, ?_, by simpa [Lib.byteCells] using hown, ⟨rfl, rfl, rfl, Nat.le_refl _, fun _ _ _ => rfl⟩, .inl rfl⟩
    rcases hown.2 with ⟨rfl, rfl⟩ | ⟨g, cap, cur, rfl, _, _, hnc, _⟩
    · simp [Builtin.append_, run_underlying Tryd.underlying25, sizeOf, typeInfo, hi, Builtin.lenOf, Builtin.firstCells]
    · simp [Builtin.append_, run_underlying Tryd.underlying25, sizeOf, typeInfo, hi, Builtin.lenOf, Builtin.firstCells, hnc, storeCells]
  | some ad =>
    have hcells : ∀ j u, (Lib.byteCells m)[j]? = some u → w.cell? (ad.add j) = some u := by
      intro j u hu
      have hj : j < m.length := by
        have := (List.getElem?_eq_some_iff.1 hu).1
        simpa [byteCells_length] using this
      obtain ⟨b, o, h, hc⟩ := hcs (by omega)
      cases h
      have e : ((⟨b, o, none⟩ : Addr).add j) = ⟨b, o + j, none⟩ := by unfold Addr.add; split <;> simp_all
      rw [e, hc j m[j] (by simp [hj])]
      simp [Lib.byteCells, hj] at hu
      rw [hu]
    obtain ⟨v', w', hrun, h2, h3, _, h5⟩ := run_append_own_at (P := Tryd.prog) w base 25 ty 5 i (.int .u8 0) 1 1 Tryd.underlying25 hi hz hs hb rfl (by decide) v n _ hown ad m.length c (Lib.byteCells m) (by rw [byteCells_length, Nat.mul_one]) hcells (byteCells_one' m) (by unfold maxLen; omega) (by omega) hbase
    exact ⟨v', w', hrun, h2, h3, h5⟩

/-- append, for the walk. -/
theorem wpList_append_bts {w : World} {ops : Array Oper} {rest : List Oper} {o : Oper} {a : Act} {Q : Exit → Act → World → Prop} (hgd : o.guard = none) (s x : Operand)
    (ho : o.op = .call { callee := .builtin .append, args := #[s, x], argTypes := #[25, 25] }) (base : Nat) (v : Value) (n : Nat) (l m : List UInt8) (xv : Value) (hs : a.eval s = v) (hxe : a.eval x = xv)
    (hown : w.ownsRow base 5 1 v n (Lib.byteCells l)) (hx : Bts w xv m) (hlim : n + m.length ≤ 140737488355328) (hbase : base ≤ w.heap.size)
    (h : ∀ v' w', w'.ownsRow base 5 1 v' (n + m.length) (Lib.byteCells (l ++ m)) → w.grownBy w' v.ownBlock → (v'.ownBlock = v.ownBlock ∨ v'.ownBlock = some w.heap.size) → wpList Tryd.prog ops Q rest (a.put o.dst v') w') : wpList Tryd.prog ops Q (o :: rest) a w := by
  refine wpList_plain hgd fun K hK => ?_
  obtain ⟨v', w', hrun, h2, h3, h4⟩ := append_run o.type w base v n l m xv hown hx hlim hbase
  unfold Oper.wp execOp
  simp only [ho, resolve, invoke, builtin, Sem.run_bind, Sem.run_pure, Result.andThen_ok, List.map_toArray, List.map_cons, List.map_nil, hs, hxe, hrun]
  exact hK _ _ (h v' w' h2 h3 h4)

/-- string(b). -/
theorem conv_run {w : World} {v : Value} {l : List UInt8} (h : Bts w v l) : (convert 25 9 v).run Tryd.prog w = .ok (.string ⟨l.toArray⟩) w := by
  obtain ⟨A, c, rfl, hc1, hc2, hcs⟩ := h
  cases A with
  | none =>
    have hm : l = [] := by
      rcases Nat.eq_zero_or_pos l.length with h | h
      · exact List.eq_nil_of_length_eq_zero h
      · obtain ⟨b, o, h, -⟩ := hcs h; cases h
    subst hm
    rw [List.length_nil, run_convert_bytes_string w _ _ 5 none 0 c Tryd.underlying25 Tryd.underlying5 Tryd.underlying9]
    rfl
  | some a =>
    refine run_convert_bytes_back w 25 9 5 a c l Tryd.underlying25 Tryd.underlying5 Tryd.underlying9 (fun j hj => ?_)
    obtain ⟨b, o, h, hc⟩ := hcs (by omega)
    cases h
    have e : ((⟨b, o, none⟩ : Addr).add j) = ⟨b, o + j, none⟩ := by unfold Addr.add; split <;> simp_all
    rw [e]
    exact hc j l[j] (by simp [hj])

set_option maxHeartbeats 400000 in
theorem same_any (l m : List UInt8) (v u : Value) (w : World) (hv : Bts w v l) (hu : Bts w u m) :
    Calls Tryd.prog 9 #[v, u] w fun e w' => e = .returned (.bool (l == m)) ∧ w = w' := by
  have c1 := conv_run hv
  have c2 := conv_run hu
  obtain ⟨A, c, rfl, -, -, -⟩ := hv
  obtain ⟨A', c', rfl, -, -, -⟩ := hu
  go_enter Tryd.func9, Tryd.ntmps9
  go_wp2
  go_ret
  exact ⟨rfl, rfl⟩

theorem Kept.grown {w0 w w' : World} {row : Option Nat} (h : Kept w0 w) (hg : w.grownBy w' row) (hr : ∀ g, row = some g → w0.heap.size ≤ g) : Kept w0 w' :=
  ⟨hg.os.trans h.os, hg.tape.trans h.tape, hg.output.trans h.output, Nat.le_trans h.size hg.size, fun k hk => by
    rw [hg.block k (Nat.lt_of_lt_of_le hk h.size) (fun e => by have := hr k e.symm; omega)]
    exact h.block k hk⟩
theorem own_ge {w : World} {b : Nat} {e : TypeId} {s n : Nat} {v : Value} {xs : List Value} (h : w.ownsRow b e s v n xs) : ∀ g, v.ownBlock = some g → b ≤ g := fun g hg => (h.lt g hg).1
theorem own_base' {w : World} {b b' : Nat} {e : TypeId} {s n : Nat} {v : Value} {xs : List Value} (h : w.ownsRow b e s v n xs) (hb : b' ≤ b) : w.ownsRow b' e s v n xs := by
  obtain ⟨h1, h2⟩ := h
  refine ⟨h1, ?_⟩
  rcases h2 with h2 | ⟨g, cap, cur, a1, a2, a3⟩
  · exact .inl h2
  · exact .inr ⟨g, cap, cur, a1, Nat.le_trans hb a2, a3⟩
theorem flat_le {α : Type} (ls : List (List α)) (k : Nat) (h : k < ls.length) : (ls.take k).flatten.length + ls[k].length ≤ ls.flatten.length := by
  have e : ls.flatten = (ls.take k).flatten ++ (ls.drop k).flatten := by rw [← List.flatten_append, List.take_append_drop]
  have d : ls.drop k = ls[k] :: ls.drop (k + 1) := List.drop_eq_getElem_cons h
  rw [e, d, List.flatten_cons, List.length_append, List.length_append]
  omega
theorem take_flat' {α : Type} (ls : List (List α)) (k : Nat) (h : k < ls.length) : (ls.take (k + 1)).flatten = (ls.take k).flatten ++ ls[k] := by
  rw [List.take_succ_eq_append_getElem h, List.flatten_append, List.flatten_cons, List.flatten_nil, List.append_nil]

set_option maxHeartbeats 400000 in
theorem join_any (ls : List (List UInt8)) (v : Value) (w : World) (hp : Parts w v ls) (hlim : ls.flatten.length ≤ 140737488355328) :
    Calls Tryd.prog 27 #[v] w fun e w' => ∃ v', e = .returned v' ∧ w'.ownsRow w.heap.size 5 1 v' ls.flatten.length (Lib.byteCells ls.flatten) ∧ Kept w w' := by
  obtain ⟨A, c, rfl, hc1, hc2, hcs⟩ := hp
  unfold maxLen at hc2
  go_enter Tryd.func27, Tryd.ntmps27
  have HCS := Lib.hid hcs
  clear hcs
  go_wp2
  go_loopw [3, 4] (fun t i W => ∃ k : Nat, i = .int .i64 (k : Int) ∧ k ≤ ls.length ∧ W.ownsRow w.heap.size 5 1 t (ls.take k).flatten.length (Lib.byteCells (ls.take k).flatten) ∧ Kept w W) (fun _ i _ => ls.length - (intOf i).toNat)
  case atStart => exact ⟨0, rfl, Nat.zero_le _, World.ownsRow_lit w #[] 0 (Nat.le_refl _) (by decide) rfl, (Kept.refl w).alloc _⟩
  case round =>
    obtain ⟨k, rfl, hk, hO, hK⟩ := hrel
    by_cases hlt : k < ls.length
    · obtain ⟨b, o, rfl, hcell⟩ := HCS.out (by omega)
      obtain ⟨x, hx, hbx⟩ := hcell k ls[k] (by simp [hlt])
      have hx1 := hK.cell hx
      have hbx1 := hbx.kept hK
      have e1 := take_flat' ls k hlt
      have hle := flat_le ls k hlt
      obtain ⟨A2, c2, rfl, -, -, -⟩ := id hbx
      have HO := Lib.hid hO
      have HB := Lib.hid hbx1
      have E1 := Lib.hid e1
      clear hO hbx1 e1 hcell hbx hx
      have hsz := hK.size
      obtain ⟨A3, c3, hv3⟩ : ∃ A3 c3, u3 = .slice A3 (ls.take k).flatten.length c3 := by
        rcases HO.out.2 with ⟨rfl, h0⟩ | ⟨g, cap, cur, rfl, -⟩
        · exact ⟨none, 0, by rw [h0]⟩
        · exact ⟨_, _, rfl⟩
      subst hv3
      go_wp2_with (at_builtin; refine wpList_append_bts rfl _ _ rfl w.heap.size _ _ (ls.take k).flatten ls[k] _ rfl rfl HO.out HB.out (by omega) hsz ?_; intro v' w' h1 h2 h3)
      go_roundw
      case rel =>
        refine ⟨k + 1, by go_num, by omega, ?_, ?_⟩
        · rw [E1.out, List.length_append]; exact h1
        · exact hK.grown h2 (own_ge HO.out)
      case measure => simp [intOf]; omega
    · obtain rfl : k = ls.length := by omega
      rw [List.take_length] at hO
      have HO := Lib.hid hO
      clear hO
      go_wp2
      go_ret
      exact ⟨_, rfl, HO.out, hK⟩
set_option maxHeartbeats 400000 in
theorem copy_any (l : List UInt8) (v : Value) (w : World) (hv : Bts w v l) (hlim : l.length ≤ 140737488355328) :
    Calls Tryd.prog 12 #[v] w fun e w' => ∃ v', e = .returned v' ∧ w'.ownsRow w.heap.size 5 1 v' l.length (Lib.byteCells l) ∧ Kept w w' := by
  obtain ⟨A, c, hv', -, -, -⟩ := id hv
  subst hv'
  go_enter Tryd.func12, Tryd.ntmps12
  go_wp2_with fail
  refine (join_any [l] _ _ (Parts.one hv) (by simpa using hlim)).mono ?_
  rintro e w' ⟨v', rfl, h1, h2⟩
  rw [List.flatten_cons, List.flatten_nil, List.append_nil] at h1
  have H1 := Lib.hid h1
  clear h1
  have hk := ((Kept.refl w).alloc _).trans h2
  go_wp2
  go_ret
  exact ⟨v', rfl, own_base' H1.out (by simp), hk⟩
end Go.Proofs.YteopgcbihekcjaaDoor
