/- Words for memory: a slice of texts that reads as a list. No program in it. append of texts onto a row of the call's own. -/
import Derived.Test.YtennlckfmgfjbaaGreatDoorGCrc3
import Derived.Test.YtennlckfmgfjbaaGreatDoorProg
import Derived.Maps.AppendAt
import Derived.OwnWalk
import Derived.Laws.OwnMore
import Derived.BigQuiet
namespace Go.Proofs.YtennlckfmgfjbaaGreatDoor
open Go.RowKit
/-- The value is a slice of texts (nil too, where there is none). -/
def Txts (w : World) (v : Value) (ls : List (List UInt8)) : Prop :=
  ∃ A c, v = .slice A ls.length c ∧ ls.length ≤ c ∧ c ≤ maxLen ∧ (0 < ls.length → ∃ b o, A = some ⟨b, o, none⟩ ∧ ∀ k l, ls[k]? = some l → w.cell? ⟨b, o + k, none⟩ = some (.string ⟨l.toArray⟩))
theorem Txts.kept {w w' : World} {v : Value} {ls : List (List UInt8)} (h : Txts w v ls) (k : Kept w w') : Txts w' v ls := by
  obtain ⟨A, c, rfl, h1, h2, h3⟩ := h
  refine ⟨A, c, rfl, h1, h2, fun hl => ?_⟩
  obtain ⟨b, o, rfl, hc⟩ := h3 hl
  exact ⟨b, o, rfl, fun i x hx => k.cell (hc i x hx)⟩
theorem Txts.nil (w : World) : Txts w (.slice none 0 0) [] := ⟨none, 0, rfl, Nat.le_refl _, by decide, fun h => absurd h (by simp)⟩
theorem Txts.form {w : World} {v : Value} {ls : List (List UInt8)} (h : Txts w v ls) : ∃ A c, v = .slice A ls.length c ∧ ls.length ≤ c ∧ c ≤ maxLen := by
  obtain ⟨A, c, rfl, h1, h2, -⟩ := h
  exact ⟨A, c, rfl, h1, h2⟩
theorem Txts.at {w : World} {A : Option Addr} {n c : Nat} {ls : List (List UInt8)} (h : Txts w (.slice A n c) ls) {k : Nat} (hk : k < ls.length) : ∃ b o, A = some ⟨b, o, none⟩ ∧ w.cell? ⟨b, o + k, none⟩ = some (.string ⟨ls[k].toArray⟩) := by
  obtain ⟨A', c', hv, -, -, h3⟩ := h
  obtain ⟨rfl, -, -⟩ : A = A' ∧ n = ls.length ∧ c = c' := by simpa using hv
  obtain ⟨b, o, e, hc⟩ := h3 (by omega)
  exact ⟨b, o, e, hc k ls[k] (by simp [hk])⟩
/-- One text in a new array. -/
theorem Txts.one (w : World) (l : List UInt8) (t : TypeId) : Txts (w.alloc (.cells #[.string ⟨l.toArray⟩] t)) (.slice (some ⟨w.heap.size, 0, none⟩) 1 1) [l] := by
  refine ⟨_, 1, rfl, Nat.le_refl _, by decide, fun _ => ⟨_, 0, rfl, fun k x hx => ?_⟩⟩
  match k, hx with
  | 0, hx =>
    obtain rfl : l = x := by simpa using hx
    simp [go_sem]
/-- The beginning of a slice of texts. -/
theorem Txts.take {w : World} {A : Option Addr} {n c : Nat} {ls : List (List UInt8)} (h : Txts w (.slice A n c) ls) (m : Nat) (hm : m ≤ ls.length) : Txts w (.slice A m c) (ls.take m) := by
  obtain ⟨A', c', hv, h1, h2, h3⟩ := h
  obtain ⟨rfl, -, rfl⟩ : A = A' ∧ n = ls.length ∧ c = c' := by simpa using hv
  have hl : (ls.take m).length = m := by simp; omega
  refine ⟨A, c, by rw [hl], by omega, h2, fun hp => ?_⟩
  rw [hl] at hp
  obtain ⟨b, o, e, hc⟩ := h3 (by omega)
  refine ⟨b, o, e, fun k l hk => hc k l ?_⟩
  have hkm : k < m := by
    have := (List.getElem?_eq_some_iff.1 hk).1
    omega
  rw [List.getElem?_take_of_lt hkm] at hk
  exact hk
/-- The cells of texts. -/
def strCells (ls : List (List UInt8)) : List Value := ls.map fun l => .string ⟨l.toArray⟩
theorem strCells_length (ls : List (List UInt8)) : (strCells ls).length = ls.length := by simp [strCells]
theorem strCells_append (ls ms : List (List UInt8)) : strCells (ls ++ ms) = strCells ls ++ strCells ms := by simp [strCells]
/-- A row of the call's own reads as a slice of texts. -/
theorem Txts.of_own {w : World} {base : Nat} {e : TypeId} {v : Value} {n : Nat} {ls : List (List UInt8)} (h : w.ownsRow base e 1 v n (strCells ls)) : Txts w v ls := by
  have hn : ls.length = n := by have := h.1; simpa [strCells] using this
  rcases h.2 with ⟨rfl, h0⟩ | ⟨g, cap, cur, rfl, hB, hg, hc, hm, hs, ht⟩
  · obtain rfl : ls = [] := List.eq_nil_of_length_eq_zero (by omega)
    exact Txts.nil w
  · subst hn
    refine ⟨_, cap, rfl, hc, hm, fun _ => ⟨g, 0, rfl, fun k x hx => ?_⟩⟩
    have := h.cells (g := g) rfl k (.string ⟨x.toArray⟩) (by simp [strCells, hx])
    have e : ((⟨g, 0, none⟩ : Addr).add k) = ⟨g, 0 + k, none⟩ := by unfold Addr.add; split <;> simp_all
    rw [e] at this
    exact this
end Go.Proofs.YtennlckfmgfjbaaGreatDoor
namespace Go.Proofs.YtennlckfmgfjbaaGreatDoor
open Go.RowKit
theorem info_str : ∃ i, Tryz.prog.info? 9 = some i ∧ i.zero = some (.string ⟨#[]⟩) ∧ i.size = 1 ∧ i.bytes = 16 := by
  have h : (Tryz.prog.info? 9).map (fun i => (i.zero, i.size, i.bytes)) = some (some (.string ⟨#[]⟩), 1, 16) := by kernel_rfl
  cases hq : Tryz.prog.info? 9 with
  | none => rw [hq] at h; cases h
  | some i =>
    rw [hq] at h
    simp only [Option.map_some, Option.some.injEq, Prod.mk.injEq] at h
    exact ⟨i, rfl, h⟩
theorem strCells_one' (ls : List (List UInt8)) : ∀ u ∈ strCells ls, u.oneCell' = true := by
  intro u hu
  simp only [strCells, List.mem_map] at hu
  obtain ⟨x, -, rfl⟩ := hu
  rfl
theorem own_keptS {w w' : World} {b : Nat} {e : TypeId} {s n : Nat} {v : Value} {xs : List Value} (h : w.ownsRow b e s v n xs) (k : Kept w w') : w'.ownsRow b e s v n xs := by
  obtain ⟨h1, h2⟩ := h
  refine ⟨h1, ?_⟩
  rcases h2 with h2 | ⟨g, cap, cur, a1, a2, a3, a4⟩
  · exact .inl h2
  · have hg : g < w.heap.size := (Array.getElem?_eq_some_iff.1 a3).1
    exact .inr ⟨g, cap, cur, a1, a2, (k.block g hg).trans a3, a4⟩
theorem Kept.grownS {w0 w w' : World} {row : Option Nat} (h : Kept w0 w) (hg : w.grownBy w' row) (hr : ∀ g, row = some g → w0.heap.size ≤ g) : Kept w0 w' :=
  ⟨hg.os.trans h.os, hg.tape.trans h.tape, hg.output.trans h.output, Nat.le_trans h.size hg.size, fun k hk => by
    rw [hg.block k (Nat.lt_of_lt_of_le hk h.size) (fun e => by have := hr k e.symm; omega)]
    exact h.block k hk⟩
theorem own_geS {w : World} {b : Nat} {e : TypeId} {s n : Nat} {v : Value} {xs : List Value} (h : w.ownsRow b e s v n xs) : ∀ g, v.ownBlock = some g → b ≤ g := fun g hg => (h.lt g hg).1
theorem own_formS {w : World} {b : Nat} {e : TypeId} {s n : Nat} {v : Value} {xs : List Value} (h : w.ownsRow b e s v n xs) : ∃ A c, v = .slice A n c := by
  rcases h.2 with ⟨rfl, h0⟩ | ⟨g, cap, cur, rfl, -⟩
  · exact ⟨none, 0, by rw [h0]⟩
  · exact ⟨_, _, rfl⟩
/-- What append does, of a source of texts. -/
theorem append_runS (ty : TypeId) (w : World) (base : Nat) (v : Value) (n : Nat) (l m : List (List UInt8)) (x : Value) (hown : w.ownsRow base 9 1 v n (strCells l)) (hx : Txts w x m) (hlim : n + m.length ≤ 8796093022208) (hbase : base ≤ w.heap.size) :
    ∃ v' w', (Builtin.append_ #[22, 22] ty #[v, x]).run Tryz.prog w = .ok v' w' ∧ w'.ownsRow base 9 1 v' (n + m.length) (strCells (l ++ m)) ∧ w.grownBy w' v.ownBlock ∧ (v'.ownBlock = v.ownBlock ∨ v'.ownBlock = some w.heap.size) := by
  obtain ⟨i, hi, hz, hs, hb⟩ := info_str
  obtain ⟨A, c, rfl, hc1, hc2, hcs⟩ := hx
  rw [strCells_append]
  cases A with
  | none =>
    have hm : m = [] := by
      rcases Nat.eq_zero_or_pos m.length with h | h
      · exact List.eq_nil_of_length_eq_zero h
      · obtain ⟨b, o, h, -⟩ := hcs h; cases h
    subst hm
    refine ⟨v, w, ?_, by simpa [strCells] using hown, ⟨rfl, rfl, rfl, Nat.le_refl _, fun _ _ _ => rfl⟩, .inl rfl⟩
    rcases hown.2 with ⟨rfl, rfl⟩ | ⟨g, cap, cur, rfl, _, _, hnc, _⟩
    · simp [Builtin.append_, run_underlying Tryz.underlying22, sizeOf, typeInfo, hi, Builtin.lenOf, Builtin.firstCells]
    · simp [Builtin.append_, run_underlying Tryz.underlying22, sizeOf, typeInfo, hi, Builtin.lenOf, Builtin.firstCells, hnc, storeCells]
  | some ad =>
    have hcells : ∀ j u, (strCells m)[j]? = some u → w.cell? (ad.add j) = some u := by
      intro j u hu
      have hj : j < m.length := by
        have := (List.getElem?_eq_some_iff.1 hu).1
        simpa [strCells_length] using this
      obtain ⟨b, o, h, hc⟩ := hcs (by omega)
      cases h
      have e : ((⟨b, o, none⟩ : Addr).add j) = ⟨b, o + j, none⟩ := by unfold Addr.add; split <;> simp_all
      rw [e, hc j m[j] (by simp [hj])]
      simp [strCells, hj] at hu
      rw [hu]
    obtain ⟨v', w', hrun, h2, h3, _, h5⟩ := run_append_own_at (P := Tryz.prog) w base 22 ty 9 i (.string ⟨#[]⟩) 1 16 Tryz.underlying22 hi hz hs hb rfl (by decide) v n _ hown ad m.length c (strCells m) (by rw [strCells_length, Nat.mul_one]) hcells (strCells_one' m) (by unfold maxLen; omega) (by omega) hbase
    exact ⟨v', w', hrun, h2, h3, h5⟩
/-- append, for the walk. -/
theorem wpList_append_txts {w : World} {ops : Array Oper} {rest : List Oper} {o : Oper} {a : Act} {Q : Exit → Act → World → Prop} (hgd : o.guard = none) (s x : Operand)
    (ho : o.op = .call { callee := .builtin .append, args := #[s, x], argTypes := #[22, 22] }) (base : Nat) (v : Value) (n : Nat) (l m : List (List UInt8)) (xv : Value) (hs : a.eval s = v) (hxe : a.eval x = xv)
    (hown : w.ownsRow base 9 1 v n (strCells l)) (hx : Txts w xv m) (hlim : n + m.length ≤ 8796093022208) (hbase : base ≤ w.heap.size)
    (h : ∀ v' w', w'.ownsRow base 9 1 v' (n + m.length) (strCells (l ++ m)) → w.grownBy w' v.ownBlock → (v'.ownBlock = v.ownBlock ∨ v'.ownBlock = some w.heap.size) → wpList Tryz.prog ops Q rest (a.put o.dst v') w') : wpList Tryz.prog ops Q (o :: rest) a w := by
  refine wpList_plain hgd fun K hK => ?_
  obtain ⟨v', w', hrun, h2, h3, h4⟩ := append_runS o.type w base v n l m xv hown hx hlim hbase
  unfold Oper.wp execOp
  simp only [ho, resolve, invoke, builtin, Sem.run_bind, Sem.run_pure, Result.andThen_ok, List.map_toArray, List.map_cons, List.map_nil, hs, hxe, hrun]
  exact hK _ _ (h v' w' h2 h3 h4)
/-- One text, whatever it is, in a new array. -/
theorem Txts.oneB (w : World) (s : ByteArray) (t : TypeId) : Txts (w.alloc (.cells #[.string s] t)) (.slice (some ⟨w.heap.size, 0, none⟩) 1 1) [s.data.toList] := Txts.one w s.data.toList t
end Go.Proofs.YtennlckfmgfjbaaGreatDoor
