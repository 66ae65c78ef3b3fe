/- An index of commands in memory: greatest numbers as eight cells, a map from homes to them; commands as three cells, items as six. -/
import Derived.Test.YtgmpbalibdlhdaaQIPure
import Derived.Test.YtgmpbalibdlhdaaQVCv2
import Derived.Maps.OwnSet
import Derived.DeepKeys4
set_option linter.unusedSimpArgs false
set_option linter.unusedVariables false
namespace Go.Proofs.Ytgmpbalibdlhdaa
open Go.RowKit
def tcs (f : Nat → Int) : Array Value := #[.int .i64 (f 0), .int .i64 (f 1), .int .i64 (f 2), .int .i64 (f 3), .int .i64 (f 4), .int .i64 (f 5), .int .i64 (f 6), .int .i64 (f 7)]
def tv (f : Nat → Int) : Value := .agg (tcs f)
abbrev TSt := List (Pth × (Nat → Int))
def toDT (st : TSt) : DataW Value := .map (st.map fun p => (.string p.1, .held (tv p.2)))
def valT (k : Pth) (st : TSt) : Nat → Int := (getZ k st).getD (fun _ => 0)
theorem keyLawT : Maps.Keyed Try.prog 9 := Maps.string_keyed Try.underlying9
theorem keyST (k : Pth) (h : k.length ≤ maxLen) : keyOf Try.prog 9 (.string ⟨k.toArray⟩) = some (.string k) := by
  have := WideMaps.keyOf_string_mk (P := Try.prog) (k := 9) Try.underlying9 (s := ⟨k.toArray⟩) (by show k.toArray.size ≤ _; simpa using h)
  simpa using this
theorem zeroT (w : World) : (zeroValue 59).run Try.prog w = .ok (tv fun _ => 0) w := by kernel_rfl
theorem toDT_at (k : Pth) (st : TSt) : (toDT st).atKey (.string k) (.held (tv fun _ => 0)) = .held (tv (valT k st)) := by
  unfold toDT DataW.atKey valT getZ
  simp only [List.find?_map]
  have e : ((fun p : Lit × DataW Value => p.1.sameKey (.string k)) ∘ fun p : Pth × (Nat → Int) => ((.string p.1 : Lit), (.held (tv p.2) : DataW Value))) = fun p => p.1 == k := by funext p; rfl
  rw [e]
  cases st.find? (fun p => p.1 == k) with
  | none => rfl
  | some p => rfl
theorem toDT_has (k : Pth) (st : TSt) : Maps.has (toDT st) (.string k) = hasZ k st := by
  unfold toDT hasZ
  rw [Maps.has_eq, List.any_map]
  rfl
theorem toDT_size (st : TSt) : Maps.size (toDT st) = st.length := by
  unfold toDT
  rw [Maps.size_eq, List.length_map]
theorem toDT_del (k : Pth) (st : TSt) : (toDT st).del (.string k) = toDT (cutZ k st) := by
  unfold toDT DataW.del cutZ
  simp only [List.filter_map]
  rfl
theorem toDT_ins (x : Pth × (Nat → Int)) (st : TSt) : DataW.insert ((.string x.1 : Lit), (.held (tv x.2) : DataW Value)) (st.map fun p => ((.string p.1 : Lit), (.held (tv p.2) : DataW Value))) = (insZ x st).map fun p => (.string p.1, .held (tv p.2)) := by
  induction st with
  | nil => rfl
  | cons y r ih =>
    rw [List.map_cons]
    unfold DataW.insert insZ
    by_cases hb : bytesBefore x.1 y.1 = true
    · rw [if_pos hb, if_pos (show (Lit.string x.1).before (Lit.string y.1) = true from hb)]; rfl
    · rw [if_neg hb, if_neg (show ¬ (Lit.string x.1).before (Lit.string y.1) = true from hb), List.map_cons, ih]
theorem toDT_put (k : Pth) (e : Nat → Int) (st : TSt) : (toDT st).put (.string k) (.held (tv e)) = toDT (putZ k e st) := by
  have h := toDT_del k st
  unfold toDT DataW.del at h
  simp only at h
  unfold DataW.put toDT
  simp only
  rw [show (st.map fun p => ((.string p.1 : Lit), (.held (tv p.2) : DataW Value))).filter (fun p => !p.1.sameKey (.string k)) = (cutZ k st).map fun p => ((.string p.1 : Lit), (.held (tv p.2) : DataW Value)) from by injection h]
  rw [toDT_ins (k, e)]
  rfl
def OwnsT (w : World) (mb : Nat) (st : TSt) : Prop := w.ownsMap Try.prog 9 rdV mb st.length (toDT st)
theorem OwnsT.tight {w : World} {mb n : Nat} {st : TSt} (h : w.ownsMap Try.prog 9 rdV mb n (toDT st)) : OwnsT w mb st := by
  obtain ⟨es, clock, hb, F, hs, hD⟩ := h
  refine ⟨es, clock, hb, F, ?_, hD⟩
  have : Maps.size (toDT st) = es.size := by rw [hD]; simp [Maps.size, length_sorted]
  rw [toDT_size] at this
  omega
theorem OwnsT.look {w : World} {mb : Nat} {st : TSt} (h : OwnsT w mb st) (k : Pth) (hk : k.length ≤ maxLen) : (Instr.lookup 56 (.map (some mb)) (.string ⟨k.toArray⟩) false).run Try.prog w = .ok (tv (valT k st)) w := by
  obtain ⟨v, ps, hrun, hv⟩ := World.ownsMap.lookup h keyLawT Try.underlying56 (zeroT w) (zd := .held (tv fun _ => 0)) (zp := []) rfl (keyST k hk)
  rw [toDT_at] at hv
  have : v = tv (valT k st) := by simpa [rdV] using congrArg (Option.map Prod.fst) hv
  rw [hrun, this]
theorem OwnsT.store {w : World} {mb : Nat} {st : TSt} (h : OwnsT w mb st) (hn : st.length < maxLen) (k : Pth) (hk : k.length ≤ maxLen) (e : Nat → Int) :
    ∃ w', (Instr.mapUpdate 56 (.map (some mb)) (.string ⟨k.toArray⟩) (tv e)).run Try.prog w = .ok () w' ∧ OwnsT w' mb (putZ k e st) ∧ w.grownBy w' (some mb) := by
  obtain ⟨w', hrun, h1, h2⟩ := World.ownsMap.update h keyLawT Try.underlying56 hn (keyST k hk) (val := tv e) (d := .held (tv e)) (ps := []) rfl
  rw [toDT_put k e] at h1
  exact ⟨w', hrun, OwnsT.tight h1, h2⟩
theorem OwnsT.kept {w w' : World} {mb : Nat} {st : TSt} (h : OwnsT w mb st) (k : Kept w w') : OwnsT w' mb st := map_chg h (Chg.of_kept (F := no) k) (fun x => x)
/-! ### commands, items -/
def Cm.dv (c : Cm) : Value := .slice c.da c.dn c.dc
def Cm.v (c : Cm) : Value := .agg #[.int .i64 c.kind, .string ⟨c.home.toArray⟩, c.dv]
def It.id (x : It) : Value := .agg #[.int .i64 x.rep, .int .i64 x.num]
def It.cs (x : It) : List Value := [.int .i64 x.c.kind, .string ⟨x.c.home.toArray⟩, x.c.dv, .int .i64 x.rep, .int .i64 x.num, .int .i64 x.seq]
def cellsIt (l : List It) : List Value := l.flatMap It.cs
theorem cellsIt_snoc (l : List It) (x : It) : cellsIt (l ++ [x]) = cellsIt l ++ x.cs := by unfold cellsIt; simp [List.flatMap_append]
theorem cellsIt_len (l : List It) : (cellsIt l).length = l.length * 6 := by
  unfold cellsIt
  rw [List.length_flatMap]
  induction l with
  | nil => rfl
  | cons x r ih => simp only [List.map_cons, List.sum_cons, List.length_cons]; rw [ih, show x.cs.length = 6 from rfl]; omega
/-- The value is a slice of items. -/
def Its (w : World) (v : Value) (xs : List It) : Prop :=
  ∃ A c, v = .slice A xs.length c ∧ xs.length ≤ c ∧ c ≤ maxLen ∧ (0 < xs.length → ∃ b o, A = some ⟨b, o, none⟩ ∧ ∀ k x, xs[k]? = some x →
    w.cell? ⟨b, o + k * 6, none⟩ = some (.int .i64 x.c.kind) ∧ w.cell? ⟨b, o + k * 6 + 1, none⟩ = some (.string ⟨x.c.home.toArray⟩) ∧ w.cell? ⟨b, o + k * 6 + 2, none⟩ = some x.c.dv ∧
    w.cell? ⟨b, o + k * 6 + 3, none⟩ = some (.int .i64 x.rep) ∧ w.cell? ⟨b, o + k * 6 + 4, none⟩ = some (.int .i64 x.num) ∧ w.cell? ⟨b, o + k * 6 + 5, none⟩ = some (.int .i64 x.seq))
theorem Its.kept {w w' : World} {v : Value} {xs : List It} (h : Its w v xs) (k : Kept w w') : Its w' v xs := by
  obtain ⟨A, c, rfl, h1, h2, h3⟩ := h
  refine ⟨A, c, rfl, h1, h2, fun hl => ?_⟩
  obtain ⟨b, o, rfl, hc⟩ := h3 hl
  exact ⟨b, o, rfl, fun i x hx => by
    obtain ⟨a0, a1, a2, a3, a4, a5⟩ := hc i x hx
    exact ⟨k.cell a0, k.cell a1, k.cell a2, k.cell a3, k.cell a4, k.cell a5⟩⟩
theorem Its.form {w : World} {v : Value} {xs : List It} (h : Its w v xs) : ∃ A c, v = .slice A xs.length c ∧ xs.length ≤ c ∧ c ≤ maxLen := by
  obtain ⟨A, c, rfl, h1, h2, -⟩ := h
  exact ⟨A, c, rfl, h1, h2⟩
theorem Its.at {w : World} {A : Option Addr} {n c : Nat} {xs : List It} (h : Its w (.slice A n c) xs) {k : Nat} (hk : k < xs.length) : ∃ b o, A = some ⟨b, o, none⟩ ∧
    w.cell? ⟨b, o + k * 6, none⟩ = some (.int .i64 xs[k].c.kind) ∧ w.cell? ⟨b, o + k * 6 + 1, none⟩ = some (.string ⟨xs[k].c.home.toArray⟩) ∧ w.cell? ⟨b, o + k * 6 + 2, none⟩ = some xs[k].c.dv ∧
    w.cell? ⟨b, o + k * 6 + 3, none⟩ = some (.int .i64 xs[k].rep) ∧ w.cell? ⟨b, o + k * 6 + 4, none⟩ = some (.int .i64 xs[k].num) ∧ w.cell? ⟨b, o + k * 6 + 5, none⟩ = some (.int .i64 xs[k].seq) := by
  obtain ⟨A', c', hv, -, -, h3⟩ := h
  obtain ⟨rfl, -, -⟩ : A = A' ∧ n = xs.length ∧ c = c' := by simpa using hv
  obtain ⟨b, o, e, hc⟩ := h3 (by omega)
  exact ⟨b, o, e, hc k xs[k] (by simp [hk])⟩
/-- The value is a slice of commands. -/
def Cms (w : World) (v : Value) (xs : List Cm) : Prop :=
  ∃ A c, v = .slice A xs.length c ∧ xs.length ≤ c ∧ c ≤ maxLen ∧ (0 < xs.length → ∃ b o, A = some ⟨b, o, none⟩ ∧ ∀ k x, xs[k]? = some x →
    w.cell? ⟨b, o + k * 3, none⟩ = some (.int .i64 x.kind) ∧ w.cell? ⟨b, o + k * 3 + 1, none⟩ = some (.string ⟨x.home.toArray⟩) ∧ w.cell? ⟨b, o + k * 3 + 2, none⟩ = some x.dv)
theorem Cms.kept {w w' : World} {v : Value} {xs : List Cm} (h : Cms w v xs) (k : Kept w w') : Cms w' v xs := by
  obtain ⟨A, c, rfl, h1, h2, h3⟩ := h
  refine ⟨A, c, rfl, h1, h2, fun hl => ?_⟩
  obtain ⟨b, o, rfl, hc⟩ := h3 hl
  exact ⟨b, o, rfl, fun i x hx => by
    obtain ⟨a0, a1, a2⟩ := hc i x hx
    exact ⟨k.cell a0, k.cell a1, k.cell a2⟩⟩
theorem Cms.form {w : World} {v : Value} {xs : List Cm} (h : Cms w v xs) : ∃ A c, v = .slice A xs.length c ∧ xs.length ≤ c ∧ c ≤ maxLen := by
  obtain ⟨A, c, rfl, h1, h2, -⟩ := h
  exact ⟨A, c, rfl, h1, h2⟩
theorem Cms.at {w : World} {A : Option Addr} {n c : Nat} {xs : List Cm} (h : Cms w (.slice A n c) xs) {k : Nat} (hk : k < xs.length) : ∃ b o, A = some ⟨b, o, none⟩ ∧
    w.cell? ⟨b, o + k * 3, none⟩ = some (.int .i64 xs[k].kind) ∧ w.cell? ⟨b, o + k * 3 + 1, none⟩ = some (.string ⟨xs[k].home.toArray⟩) ∧ w.cell? ⟨b, o + k * 3 + 2, none⟩ = some xs[k].dv := by
  obtain ⟨A', c', hv, -, -, h3⟩ := h
  obtain ⟨rfl, -, -⟩ : A = A' ∧ n = xs.length ∧ c = c' := by simpa using hv
  obtain ⟨b, o, e, hc⟩ := h3 (by omega)
  exact ⟨b, o, e, hc k xs[k] (by simp [hk])⟩
theorem cells3 {w : World} {b : Nat} {x y z : Value} {t : TypeId} {m : Nat × Nat} (h : w.heap[b]? = some (.cells #[x, y, z] t m)) : w.cell? ⟨b, 0, none⟩ = some x ∧ w.cell? ⟨b, 1, none⟩ = some y ∧ w.cell? ⟨b, 2, none⟩ = some z := by
  refine ⟨?_, ?_, ?_⟩ <;> rw [cell_at h] <;> rfl
theorem Cms.one (w : World) (c : Cm) (t : TypeId) : Cms (w.alloc (.cells #[.int .i64 c.kind, .string ⟨c.home.toArray⟩, c.dv] t)) (.slice (some ⟨w.heap.size, 0, none⟩) 1 1) [c] := by
  obtain ⟨h0, h1, h2⟩ := cells3 (heap_alloc_new w (.cells #[.int .i64 c.kind, .string ⟨c.home.toArray⟩, c.dv] t))
  refine ⟨_, _, rfl, Nat.le_refl _, by decide, fun _ => ⟨_, _, rfl, fun k x hx => ?_⟩⟩
  match k, hx with
  | 0, hx =>
    obtain rfl : c = x := by simpa using hx
    exact ⟨h0, h1, h2⟩
theorem cell_new6 (w : World) (a b c d e f : Value) (t : TypeId) : ∀ j x, ([a, b, c, d, e, f] : List Value)[j]? = some x → (w.alloc (.cells #[a, b, c, d, e, f] t)).cell? ⟨w.heap.size, j, none⟩ = some x := by
  intro j x hx
  rw [cell_at (heap_alloc_new w _)]
  match j, hx with
  | 0, hx | 1, hx | 2, hx | 3, hx | 4, hx | 5, hx => simpa using hx
theorem elemIt : Elem 22 49 6 72 := elem_of (z := .agg #[.int .i64 0, .string ⟨#[]⟩, .slice none 0 0, .int .i64 0, .int .i64 0, .int .i64 0]) Try.underlying22 (by kernel_rfl) rfl (by decide)
/-- What lies as a row of items is a slice of them. -/
theorem Its.of_own {w : World} {base : Nat} {e : TypeId} {v : Value} {xs : List It} (h : w.ownsRow base e 6 v xs.length (cellsIt xs)) : Its w v xs := by
  rcases h.2 with ⟨rfl, h0⟩ | ⟨g, cap, cur, rfl, hB, hg, hc, hm, hs, ht⟩
  · obtain rfl : xs = [] := List.eq_nil_of_length_eq_zero (by omega)
    exact ⟨none, 0, rfl, Nat.le_refl _, by decide, fun h => absurd h (by simp)⟩
  · refine ⟨_, cap, rfl, hc, hm, fun _ => ⟨g, 0, rfl, fun k x hx => ?_⟩⟩
    obtain ⟨hk, rfl⟩ := List.getElem?_eq_some_iff.1 hx
    have hj : ∀ j u, xs[k].cs[j]? = some u → w.cell? ⟨g, 0 + k * 6 + j, none⟩ = some u := fun j u hu => by
      have hj6 : j < 6 := (List.getElem?_eq_some_iff.1 hu).1
      have h1 := h.cells (g := g) rfl (k * 6 + j) u (by
        have e : xs = xs.take k ++ xs[k] :: xs.drop (k + 1) := by rw [← List.drop_eq_getElem_cons hk, List.take_append_drop]
        rw [e]
        unfold cellsIt
        rw [List.flatMap_append, List.flatMap_cons]
        have hl : (List.flatMap It.cs (xs.take k)).length = k * 6 := by have := cellsIt_len (xs.take k); unfold cellsIt at this; rw [this, List.length_take]; omega
        rw [List.getElem?_append_right (by omega), hl, Nat.add_sub_cancel_left, List.getElem?_append_left (by rw [show xs[k].cs.length = 6 from rfl]; exact hj6)]
        exact hu)
      have e : ((⟨g, 0, none⟩ : Addr).add (k * 6 + j)) = ⟨g, 0 + k * 6 + j, none⟩ := by unfold Addr.add; split <;> simp_all
      rw [e] at h1
      exact h1
    exact ⟨hj 0 _ rfl, hj 1 _ rfl, hj 2 _ rfl, hj 3 _ rfl, hj 4 _ rfl, hj 5 _ rfl⟩
end Go.Proofs.Ytgmpbalibdlhdaa
