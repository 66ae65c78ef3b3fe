/- What was sent: every message that waits is among it. -/
import Derived.Test.YtnpenabkmpoafaaQNNk
import Derived.Test.YtnpenabkmpoafaaQNOps
set_option linter.unusedSimpArgs false
set_option linter.unusedVariables false
namespace Go.Proofs.Ytnpenabkmpoafaa
open Go.RowKit
/-- A message that was sent: from, to, the value that lies in the row, its bytes. -/
abbrev Sent := Int × Int × Value × List UInt8
def Told (ys : List Sent) (s : NS) : Prop := ∀ a b : Nat, a < s.n → b < s.n → ∀ l ∈ s.q a b, ∃ y ∈ ys, y.1 = (a : Int) ∧ y.2.1 = (b : Int) ∧ y.2.2.2 = l
theorem Told.sub {ys zs : List Sent} {s s' : NS} (h : Told ys s) (hn : s'.n = s.n) (hy : ∀ y ∈ ys, y ∈ zs) (hq : ∀ a b, a < s.n → b < s.n → ∀ l ∈ s'.q a b, l ∈ s.q a b) : Told zs s' := fun a b ha hb l hl => by
  rw [hn] at ha hb
  obtain ⟨y, h1, h2⟩ := h a b ha hb l (hq a b ha hb l hl)
  exact ⟨y, hy y h1, h2⟩
theorem sendS_n (s : NS) (a b : Int) (ms : List (List UInt8)) : (sendS s a b ms).n = s.n := by unfold sendS; split <;> rfl
theorem delS_n (s : NS) (a b i : Int) : (delS s a b i).n = s.n := by unfold delS; split <;> rfl
theorem repS_n (s : NS) (a b i : Int) : (repS s a b i).n = s.n := by unfold repS; split; exact sendS_n _ _ _ _; rfl
theorem cutS_n (s : NS) (a b : Int) : (cutS s a b).n = s.n := by unfold cutS; split <;> rfl
theorem loseS_n (s : NS) (l : List Int) : (loseS s l).n = s.n := by unfold loseS; split <;> rfl
theorem advS_n (s : NS) (t : Int) (l : List Int) : (advS s t l).n = s.n := by unfold advS; split <;> rfl
theorem q_send (s : NS) (a b : Int) (ms : List (List UInt8)) (i j : Nat) : ∀ l ∈ (sendS s a b ms).q i j, l ∈ s.q i j ∨ (l ∈ ms ∧ a = i ∧ b = j) := by
  intro l hl
  unfold sendS at hl
  split at hl
  · rename_i hk
    obtain ⟨a, b, rfl, rfl, -, -⟩ := chk_two_inv hk.1
    simp only [Int.toNat_natCast] at hl
    have hl : l ∈ upd s.q a b (s.q a b ++ ms) i j := hl
    by_cases e : i = a ∧ j = b
    · obtain ⟨rfl, rfl⟩ := e
      rw [upd_same] at hl
      rcases List.mem_append.1 hl with h | h
      · exact .inl h
      · exact .inr ⟨h, rfl, rfl⟩
    · rw [upd_other _ _ e] at hl
      exact .inl hl
  · exact .inl hl
theorem Told.send {ys : List Sent} {s : NS} (h : Told ys s) {a b : Int} {ms : List (List UInt8)} {zs : List Sent} (hy : ∀ y ∈ ys, y ∈ zs) (hz : ∀ l ∈ ms, ∃ z ∈ zs, z.1 = a ∧ z.2.1 = b ∧ z.2.2.2 = l) : Told zs (sendS s a b ms) := fun i j hi hj l hl => by
  rw [sendS_n] at hi hj
  rcases q_send s a b ms i j l hl with x | ⟨x, rfl, rfl⟩
  · obtain ⟨y, h1, h2⟩ := h i j hi hj l x
    exact ⟨y, hy y h1, h2⟩
  · exact hz l x
theorem sendS_same {s : NS} {a b : Int} {ms : List (List UInt8)} (h : sendE s a b ms.length ≠ 0) : sendS s a b ms = s := by
  unfold sendS
  rw [if_neg]
  rintro ⟨h1, h2, h3⟩
  apply h
  unfold sendE
  rw [if_neg (by simp [h1]), if_neg (by simp [h2]), if_neg (by omega)]
theorem Told.del {ys : List Sent} {s : NS} (h : Told ys s) (a b i : Int) : Told ys (delS s a b i) := by
  refine h.sub (delS_n _ _ _ _) (fun y hy => hy) (fun a' b' ha hb l hl => ?_)
  unfold delS at hl
  split at hl
  · rename_i hk
    obtain ⟨a, b, i, rfl, rfl, rfl, -⟩ := waitE_zero hk
    simp only [Int.toNat_natCast] at hl
    have hl : l ∈ upd s.q a b ((s.q a b).eraseIdx i) a' b' := hl
    by_cases e : a' = a ∧ b' = b
    · obtain ⟨rfl, rfl⟩ := e
      rw [upd_same] at hl
      exact List.mem_of_mem_eraseIdx hl
    · rw [upd_other _ _ e] at hl
      exact hl
  · exact hl
theorem msgS_mem {s : NS} {a b i : Int} (h : waitE s a b i = 0) : ∃ a' b' : Nat, a = a' ∧ b = b' ∧ a' < s.n ∧ b' < s.n ∧ msgS s a b i ∈ s.q a' b' := by
  unfold msgS
  rw [if_pos h]
  obtain ⟨a, b, i, rfl, rfl, rfl, ha, hb, hi⟩ := waitE_zero h
  refine ⟨a, b, rfl, rfl, ha, hb, ?_⟩
  simp only [Int.toNat_natCast]
  rw [List.getD_eq_getElem?_getD, List.getElem?_eq_getElem hi]
  exact List.getElem_mem hi
theorem Told.rep {ys : List Sent} {s : NS} (h : Told ys s) (a b i : Int) : Told ys (repS s a b i) := by
  unfold repS
  split
  · rename_i hk
    obtain ⟨a', b', rfl, rfl, ha, hb, hm⟩ := msgS_mem hk
    refine h.send (fun y hy => hy) (fun l hl => ?_)
    obtain rfl : l = msgS s a' b' i := by simpa using hl
    obtain ⟨y, h1, h2⟩ := h a' b' ha hb _ hm
    exact ⟨y, h1, h2⟩
  · exact h
theorem Told.cut {ys : List Sent} {s : NS} (h : Told ys s) (a b : Int) : Told ys (cutS s a b) := by
  refine h.sub (cutS_n _ _ _) (fun y hy => hy) (fun a' b' ha hb l hl => ?_)
  unfold cutS at hl
  split at hl
  · have hl : l ∈ upd (upd s.q a.toNat b.toNat []) b.toNat a.toNat [] a' b' := hl
    unfold upd at hl
    split at hl
    · cases hl
    · split at hl
      · cases hl
      · exact hl
  · exact hl
theorem Told.heal {ys : List Sent} {s : NS} (h : Told ys s) : Told ys (healS s) := h
theorem Told.got {ys : List Sent} {s : NS} (h : Told ys s) {a b i : Int} (hk : waitE s a b i = 0) : ∃ y ∈ ys, y.1 = a ∧ y.2.1 = b ∧ y.2.2.2 = msgS s a b i := by
  obtain ⟨a', b', rfl, rfl, ha, hb, hm⟩ := msgS_mem hk
  exact h a' b' ha hb _ hm
/-- The cells of what was sent. -/
def cell3 (y : Sent) : List Value := [.int .i64 y.1, .int .i64 y.2.1, y.2.2.1]
def cells3 (ys : List Sent) : List Value := ys.flatMap cell3
theorem cells3_len (ys : List Sent) : (cells3 ys).length = ys.length * 3 := by
  induction ys with
  | nil => rfl
  | cons y r ih => unfold cells3 at *; rw [List.flatMap_cons, List.length_append, ih]; simp [cell3]; omega
theorem cells3_app (ys zs : List Sent) : cells3 (ys ++ zs) = cells3 ys ++ cells3 zs := by unfold cells3; rw [List.flatMap_append]
theorem cells3_at {ys : List Sent} {i : Nat} (h : i < ys.length) : (cells3 ys)[i * 3]? = some (.int .i64 ys[i].1) ∧ (cells3 ys)[i * 3 + 1]? = some (.int .i64 ys[i].2.1) ∧ (cells3 ys)[i * 3 + 2]? = some ys[i].2.2.1 := by
  induction ys generalizing i with
  | nil => simp at h
  | cons y r ih =>
    unfold cells3 at *
    rw [List.flatMap_cons]
    cases i with
    | zero => simp [cell3]
    | succ j =>
      have := ih (i := j) (by simpa using h)
      have e : (j + 1) * 3 = j * 3 + 3 := by omega
      rw [e]
      simp only [cell3, List.cons_append, List.nil_append, List.getElem?_cons_succ, List.getElem_cons_succ]
      exact this
theorem elemM : Elem 30 81 3 40 := elem_of (z := .agg #[.int .i64 0, .int .i64 0, .slice none 0 0]) Try.underlying30 (by kernel_rfl) rfl (by decide)
theorem cell_new3 (w : World) (u v x : Value) (t : TypeId) : ∀ j y, ([u, v, x] : List Value)[j]? = some y → (w.alloc (.cells #[u, v, x] t)).cell? ⟨w.heap.size, j, none⟩ = some y := by
  intro j y hy
  rw [cell_at (heap_alloc_new w _)]
  match j, hy with
  | 0, hy => simpa using hy
  | 1, hy => simpa using hy
  | 2, hy => simpa using hy
/-- The row of what was sent, its values as they read in the old world. -/
structure SentAt (w0 w : World) (t : Value) (ys : List Sent) : Prop where
  row : w.ownsRow 0 81 3 t ys.length (cells3 ys)
  vals : ∀ y ∈ ys, Bts w0 y.2.2.1 y.2.2.2
theorem SentAt.chg {w0 w w' : World} {t : Value} {ys : List Sent} {F : Nat → Prop} (h : SentAt w0 w t ys) (c : Chg F w w') (hF : ∀ g, t.ownBlock = some g → ¬ F g) : SentAt w0 w' t ys := ⟨own_chg h.row c hF, h.vals⟩
theorem SentAt.kept {w0 w w' : World} {t : Value} {ys : List Sent} (h : SentAt w0 w t ys) (k : Kept w w') : SentAt w0 w' t ys := ⟨own_kept h.row k, h.vals⟩
theorem SentAt.nil (w0 w : World) : SentAt w0 w (.slice none 0 0) [] := ⟨World.ownsRow_nil _ _ _ _, fun y hy => by cases hy⟩
theorem SentAt.at {w0 w : World} {A : Option Addr} {n c : Nat} {ys : List Sent} (h : SentAt w0 w (.slice A n c) ys) {i : Nat} (hi : i < ys.length) : ∃ g, A = some ⟨g, 0, none⟩ ∧ w.cell? ⟨g, i * 3, none⟩ = some (.int .i64 ys[i].1) ∧ w.cell? ⟨g, i * 3 + 1, none⟩ = some (.int .i64 ys[i].2.1) ∧ w.cell? ⟨g, i * 3 + 2, none⟩ = some ys[i].2.2.1 := by
  have hr := h.row
  rcases hr.2 with ⟨e, h0⟩ | ⟨g, cap, cur, e, -⟩
  · omega
  · obtain ⟨rfl, -, rfl⟩ : A = some ⟨g, 0, none⟩ ∧ n = ys.length ∧ c = cap := by simpa using e
    have ha : ∀ j, ((⟨g, 0, none⟩ : Addr).add j) = ⟨g, j, none⟩ := fun j => by unfold Addr.add; split <;> simp_all
    obtain ⟨q0, q1, q2⟩ := cells3_at hi
    have c0 := hr.cells (g := g) (by rw [e]; rfl) _ _ q0
    have c1 := hr.cells (g := g) (by rw [e]; rfl) _ _ q1
    have c2 := hr.cells (g := g) (by rw [e]; rfl) _ _ q2
    rw [ha] at c0 c1 c2
    exact ⟨g, rfl, c0, c1, c2⟩
end Go.Proofs.Ytnpenabkmpoafaa
