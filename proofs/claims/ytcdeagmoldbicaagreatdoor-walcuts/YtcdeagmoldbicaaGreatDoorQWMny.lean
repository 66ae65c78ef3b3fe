/- append of a slice of records onto another, both of the call's own. -/
import Derived.Test.YtcdeagmoldbicaaGreatDoorQWCpi
import Derived.Laws.OwnMore
set_option linter.unusedSimpArgs false
set_option linter.unusedVariables false
namespace Go.Proofs.YtcdeagmoldbicaaGreatDoor
open Go.RowKit
theorem append_recs_run {w : World} {v u : Value} {ls ms : List (List UInt8)} {G : Nat → Prop} (h1 : RecsAt w v ls G) (h2 : RecsAt w u ms G) (hn : ls.length + ms.length ≤ 1000000000) (ty : TypeId) :
    ∃ v' w', (Builtin.append_ #[41, 41] ty #[v, u]).run Tryz.prog w = .ok v' w' ∧ RecsAt w' v' (ls ++ ms) (ext G w w') ∧ Chg G w w' := by
  obtain ⟨us, a1, a2, a3⟩ := h1
  obtain ⟨vs, b1, b2, b3⟩ := h2
  obtain ⟨i, z, hi, hz, hs, hb, hzs⟩ := elemB.info
  have hul : us.length = ls.length := by have := a1.1; omega
  have hvl : vs.length = ms.length := by have := b1.1; omega
  rcases b1.2 with ⟨rfl, h0⟩ | ⟨g, cap, cur, rfl, -, -, -, -, -, -⟩
  · obtain rfl : ms = [] := List.eq_nil_of_length_eq_zero h0
    refine ⟨v, w, run_append_owned_none w 0 _ ty _ i 1 elemB.under hi v ls.length us a1, ?_, Chg.of_kept (Kept.refl w)⟩
    rw [List.append_nil]
    exact ⟨us, a1, fun g hg => .inl (a2 g hg), fun k hk => by
      obtain ⟨x, c1, c2, c3⟩ := a3 k hk
      exact ⟨x, c1, c2, fun g hg => .inl (c3 g hg)⟩⟩
  · have h1c : ∀ x ∈ vs, x.oneCell' = true := fun x hx => by
      obtain ⟨k, hk, rfl⟩ := List.getElem_of_mem hx
      obtain ⟨y, c1, c2, -⟩ := b3 k (by omega)
      rw [List.getElem?_eq_getElem hk] at c1
      obtain rfl : vs[k] = y := by simpa using c1
      obtain ⟨A, c, e⟩ := own_form c2
      rw [e]
      rfl
    obtain ⟨v', w', hrun, hown, hgr, -, hwhere⟩ := run_append_own_at (P := Tryz.prog) w 0 _ ty _ i z 1 24 elemB.under hi hz hs hb hzs elemB.pos v ls.length us a1 ⟨g, 0, none⟩ ms.length cap vs (by omega) (b1.cells rfl) h1c (by unfold maxLen; omega) (by omega) (Nat.zero_le _)
    have hC0 : Chg (fun g => v.ownBlock = some g) w w' := Chg.of_grown hgr (fun g hg _ => hg)
    have hC : Chg G w w' := Chg.of_grown hgr (fun g hg _ => a2 g hg)
    have hkeep : ∀ {x : Value} {l : List UInt8}, w.ownsRow 0 5 1 x l.length (Lib.byteCells l) → w'.ownsRow 0 5 1 x l.length (Lib.byteCells l) := fun hx => own_chg hx hC0 (fun g hg e => by
      obtain ⟨cur, h1⟩ := own_type hx hg
      obtain ⟨cur', h2⟩ := own_type a1 e
      rw [h1] at h2
      injection h2 with h2
      injection h2 with _ h2
      exact absurd h2 (by decide))
    refine ⟨v', w', hrun, ⟨us ++ vs, by rw [List.length_append]; exact hown, fun y hy => ?_, fun k hk => ?_⟩, hC⟩
    · rcases hwhere with e | e
      · rw [e] at hy
        exact .inl (a2 y hy)
      · have hlt := (hown.lt y hy).2
        rw [hy] at e
        obtain rfl : y = w.heap.size := by simpa using e
        exact .inr ⟨Nat.le_refl _, hlt⟩
    · by_cases hkl : k < ls.length
      · obtain ⟨x, c1, c2, c3⟩ := a3 k hkl
        refine ⟨x, by rw [List.getElem?_append_left (by omega)]; exact c1, ?_, fun g hg => .inl (c3 g hg)⟩
        rw [List.getElem_append_left hkl]
        exact hkeep c2
      · have hk2 : k - ls.length < ms.length := by rw [List.length_append] at hk; omega
        obtain ⟨x, c1, c2, c3⟩ := b3 (k - ls.length) hk2
        refine ⟨x, by rw [List.getElem?_append_right (by omega), hul]; exact c1, ?_, fun g hg => .inl (c3 g hg)⟩
        rw [List.getElem_append_right (by omega)]
        exact hkeep c2
/-- append of records, for the walk. -/
theorem wpList_append_recs {w : World} {ops : Array Oper} {rest : List Oper} {o : Oper} {a : Act} {Q : Exit → Act → World → Prop} (hgd : o.guard = none) (s x : Operand)
    (ho : o.op = .call { callee := .builtin .append, args := #[s, x], argTypes := #[41, 41] }) (v u : Value) (ls ms : List (List UInt8)) (G : Nat → Prop) (hs : a.eval s = v) (hxe : a.eval x = u)
    (h1 : RecsAt w v ls G) (h2 : RecsAt w u ms G) (hn : ls.length + ms.length ≤ 1000000000)
    (h : ∀ v' w', RecsAt w' v' (ls ++ ms) (ext G w w') → Chg G w w' → wpList Tryz.prog ops Q rest (a.put o.dst v') w') : wpList Tryz.prog ops Q (o :: rest) a w := by
  refine wpList_plain hgd fun K hK => ?_
  obtain ⟨v', w', hrun, r1, r2⟩ := append_recs_run h1 h2 hn o.type
  unfold Oper.wp execOp
  simp only [ho, resolve, invoke, builtin, Sem.run_bind, Sem.run_pure, Result.andThen_ok, List.map_toArray, List.map_cons, List.map_nil, hs, hxe, hrun]
  exact hK _ _ (h v' w' r1 r2)
end Go.Proofs.YtcdeagmoldbicaaGreatDoor
