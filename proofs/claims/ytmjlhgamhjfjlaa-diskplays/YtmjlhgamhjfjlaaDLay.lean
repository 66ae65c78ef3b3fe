/- append of files; the walk of the document's lay. -/
import Derived.Test.YtmjlhgamhjfjlaaDRfm
set_option linter.unusedSimpArgs false
set_option linter.unusedVariables false
namespace Go.Proofs.Ytmjlhgamhjfjlaa
open Go.RowKit
theorem info_file : ∃ i, Try.prog.info? 58 = some i ∧ i.zero = some (.agg #[.string ⟨#[]⟩, .slice none 0 0, .int .i64 0]) ∧ i.size = 3 ∧ i.bytes = 48 := by
  have h : (Try.prog.info? 58).map (fun i => (i.zero, i.size, i.bytes)) = some (some (.agg #[.string ⟨#[]⟩, .slice none 0 0, .int .i64 0]), 3, 48) := by kernel_rfl
  cases hq : Try.prog.info? 58 with
  | none => rw [hq] at h; cases h
  | some i =>
    rw [hq] at h
    simp only [Option.map_some, Option.some.injEq, Prod.mk.injEq] at h
    exact ⟨i, rfl, h⟩
/-- The value is a slice of files, wherever it lies. -/
def Frow (w : World) (x : Value) (rs : St) : Prop := ∃ A c, x = .slice A rs.length c ∧ (0 < rs.length → ∃ b o, A = some ⟨b, o, none⟩ ∧ ∀ j u, (rcs rs)[j]? = some u → w.cell? ⟨b, o + j, none⟩ = some u)
theorem rcs_one {rs : St} (h : ∀ p ∈ rs, p.2.1.oneCell' = true) : ∀ u ∈ rcs rs, u.oneCell' = true := by
  intro u hu
  unfold rcs at hu
  obtain ⟨p, hp, hu⟩ := List.mem_flatMap.1 hu
  simp only [List.mem_cons, List.not_mem_nil, or_false] at hu
  rcases hu with rfl | rfl | rfl
  · rfl
  · exact h p hp
  · rfl
theorem own_one {w : World} {b : Nat} {e : TypeId} {s n : Nat} {v : Value} {xs : List Value} (h : w.ownsRow b e s v n xs) : v.oneCell' = true := by
  obtain ⟨A, c, rfl⟩ := own_form h
  rfl
theorem append_runF (ty : TypeId) (w : World) (base : Nat) (v : Value) (n : Nat) (l m : St) (x : Value) (hown : w.ownsRow base 58 3 v n (rcs l)) (hx : Frow w x m) (hone : ∀ p ∈ m, p.2.1.oneCell' = true) (hlim : n + m.length ≤ 2900000000000) (hbase : base ≤ w.heap.size) :
    ∃ v' w', (Builtin.append_ #[29, 29] ty #[v, x]).run Try.prog w = .ok v' w' ∧ w'.ownsRow base 58 3 v' (n + m.length) (rcs (l ++ m)) ∧ w.grownBy w' v.ownBlock ∧ (v'.ownBlock = v.ownBlock ∨ v'.ownBlock = some w.heap.size) := by
  obtain ⟨i, hi, hz, hs, hb⟩ := info_file
  obtain ⟨A, c, rfl, hcs⟩ := hx
  rw [rcs_app]
  cases A with
  | none =>
    have hm : m = [] := by
      rcases Nat.eq_zero_or_pos m.length with h | h
      · exact List.eq_nil_of_length_eq_zero h
      · obtain ⟨b, o, h, -⟩ := hcs h; cases h
    subst hm
    refine ⟨v, w, ?_, by simpa [rcs] using hown, ⟨rfl, rfl, rfl, Nat.le_refl _, fun _ _ _ => rfl⟩, .inl rfl⟩
    rcases hown.2 with ⟨rfl, rfl⟩ | ⟨g, cap, cur, rfl, _, _, hnc, _⟩
    · simp [Builtin.append_, run_underlying Try.underlying29, sizeOf, typeInfo, hi, Builtin.lenOf, Builtin.firstCells]
    · simp [Builtin.append_, run_underlying Try.underlying29, sizeOf, typeInfo, hi, Builtin.lenOf, Builtin.firstCells, hnc, storeCells]
  | some ad =>
    have hcells : ∀ j u, (rcs m)[j]? = some u → w.cell? (ad.add j) = some u := by
      intro j u hu
      have hj : j < m.length * 3 := by
        have := (List.getElem?_eq_some_iff.1 hu).1
        rwa [rcs_len] at this
      obtain ⟨b, o, h, hc⟩ := hcs (by omega)
      cases h
      have e : ((⟨b, o, none⟩ : Addr).add j) = ⟨b, o + j, none⟩ := by unfold Addr.add; split <;> simp_all
      rw [e, hc j u hu]
    obtain ⟨v', w', hrun, h2, h3, _, h5⟩ := run_append_own_at (P := Try.prog) w base 29 ty 58 i _ 3 48 Try.underlying29 hi hz hs hb rfl (by decide) v n _ hown ad m.length c (rcs m) (rcs_len m) hcells (rcs_one hone) (by unfold maxLen; omega) (by omega) hbase
    exact ⟨v', w', hrun, h2, h3, h5⟩
theorem wpList_append_files {w : World} {ops : Array Oper} {rest : List Oper} {o : Oper} {a : Act} {Q : Exit → Act → World → Prop} (hgd : o.guard = none) (s x : Operand)
    (ho : o.op = .call { callee := .builtin .append, args := #[s, x], argTypes := #[29, 29] }) (base : Nat) (v : Value) (n : Nat) (l m : St) (xv : Value) (hs : a.eval s = v) (hxe : a.eval x = xv)
    (hown : w.ownsRow base 58 3 v n (rcs l)) (hx : Frow w xv m) (hone : ∀ p ∈ m, p.2.1.oneCell' = true) (hlim : n + m.length ≤ 2900000000000) (hbase : base ≤ w.heap.size)
    (h : ∀ v' w', w'.ownsRow base 58 3 v' (n + m.length) (rcs (l ++ m)) → w.grownBy w' v.ownBlock → (v'.ownBlock = v.ownBlock ∨ v'.ownBlock = some w.heap.size) → wpList Try.prog ops Q rest (a.put o.dst v') w') : wpList Try.prog ops Q (o :: rest) a w := by
  refine wpList_plain hgd fun K hK => ?_
  obtain ⟨v', w', hrun, h2, h3, h4⟩ := append_runF o.type w base v n l m xv hown hx hone hlim hbase
  unfold Oper.wp execOp
  simp only [ho, resolve, invoke, builtin, Sem.run_bind, Sem.run_pure, Result.andThen_ok, List.map_toArray, List.map_cons, List.map_nil, hs, hxe, hrun]
  exact hK _ _ (h v' w' h2 h3 h4)
/-- One file, in an array of the call's own. -/
theorem Frow.one (w : World) (k : Nm) (vb : Value) (f : Fl) (t : TypeId) : Frow (w.alloc (.cells #[.string ⟨k.toArray⟩, vb, .int .i64 (f.2 : Int)] t)) (.slice (some ⟨w.heap.size, 0, none⟩) 1 1) [(k, (vb, f))] := by
  refine ⟨_, 1, rfl, fun _ => ⟨_, 0, rfl, fun j u hu => ?_⟩⟩
  rw [cell_at (heap_alloc_new w _)]
  simpa [rcs] using hu
/-! ### where a file is laid -/
def insI {α : Type} (k : Nm) (m : List (Nm × α)) : Nat := m.findIdx (fun y => bytesBefore k y.1)
theorem insI_le {α : Type} (k : Nm) (m : List (Nm × α)) : insI k m ≤ m.length := List.findIdx_le_length
theorem ins_eq {α : Type} (x : Nm × α) (m : List (Nm × α)) : ins x m = m.take (insI x.1 m) ++ x :: m.drop (insI x.1 m) := by
  induction m with
  | nil => rfl
  | cons y r ih =>
    simp only [ins, insI, List.findIdx_cons]
    cases h : bytesBefore x.1 y.1 with
    | true => simp
    | false =>
      simp only [Bool.false_eq_true, if_false, cond_false, List.take_succ_cons, List.drop_succ_cons, List.cons_append]
      rw [ih]
      rfl
theorem ins_len {α : Type} (x : Nm × α) (m : List (Nm × α)) : (ins x m).length = m.length + 1 := by rw [(ins_perm x m).length_eq]; rfl
theorem insI_before {α : Type} {k : Nm} {m : List (Nm × α)} {i : Nat} (hi : i < m.length) (h : i < insI k m) : bytesBefore k m[i].1 = false := by
  have := List.not_of_lt_findIdx h
  simpa using this
theorem insI_at {α : Type} {k : Nm} {m : List (Nm × α)} (h : insI k m < m.length) : bytesBefore k (m[insI k m]'h).1 = true := by
  unfold insI at h ⊢
  exact List.findIdx_getElem (w := h)
theorem ins_take_lt {α : Type} (x : Nm × α) (m : List (Nm × α)) {k : Nat} (h : k < insI x.1 m) : (ins x m).take (k + 1) = (ins x m).take k ++ [m[k]'(Nat.lt_of_lt_of_le h (insI_le _ _))] := by
  have hk : k < m.length := Nat.lt_of_lt_of_le h (insI_le _ _)
  rw [List.take_succ_eq_append_getElem (by rw [ins_len]; omega)]
  congr 2
  have e := ins_eq x m
  have h1 : (m.take (insI x.1 m)).length = insI x.1 m := by have := insI_le x.1 m; simp; omega
  simp only [e]
  rw [List.getElem_append_left (by omega)]
  simp
theorem ins_take_at {α : Type} (x : Nm × α) (m : List (Nm × α)) : (ins x m).take (insI x.1 m + 1) = (ins x m).take (insI x.1 m) ++ [x] := by
  have hl := insI_le x.1 m
  rw [List.take_succ_eq_append_getElem (by rw [ins_len]; omega)]
  congr 2
  have e := ins_eq x m
  have h1 : (m.take (insI x.1 m)).length = insI x.1 m := by simp; omega
  simp only [e]
  rw [List.getElem_append_right (by omega)]
  simp [h1]
theorem ins_take_gt {α : Type} (x : Nm × α) (m : List (Nm × α)) {k : Nat} (hk : k < m.length) (h : insI x.1 m ≤ k) : (ins x m).take (k + 2) = (ins x m).take (k + 1) ++ [m[k]] := by
  have hl := insI_le x.1 m
  rw [List.take_succ_eq_append_getElem (by rw [ins_len]; omega)]
  congr 2
  have e := ins_eq x m
  have h1 : (m.take (insI x.1 m)).length = insI x.1 m := by simp; omega
  simp only [e]
  rw [List.getElem_append_right (by omega)]
  have e2 : k + 1 - (m.take (insI x.1 m)).length = (k - insI x.1 m) + 1 := by omega
  simp only [e2, List.getElem_cons_succ, List.getElem_drop]
  congr 1
  omega
end Go.Proofs.Ytmjlhgamhjfjlaa
