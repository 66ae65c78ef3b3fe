/- The walk of Join. -/
import Derived.Test.YtgmpbalibdlhdaaQVSam
import Derived.Lib.MinMax
set_option linter.unusedSimpArgs false
set_option linter.unusedVariables false
namespace Go.Proofs.Ytgmpbalibdlhdaa
open Go.RowKit
theorem row_base {w : World} {b b' : Nat} {e : TypeId} {s n : Nat} {v : Value} {xs : List Value} (h : w.ownsRow b e s v n xs) (hb : b' ≤ b) : w.ownsRow b' e s v n xs := by
  obtain ⟨h1, h2⟩ := h
  refine ⟨h1, ?_⟩
  rcases h2 with h2 | ⟨g, cap, cur, a1, a2, a3⟩
  · exact .inl h2
  · exact .inr ⟨g, cap, cur, a1, Nat.le_trans hb a2, a3⟩
/-- A row of ints of the call's own, at its block. -/
theorem row_at {w : World} {base g n c : Nat} {l : List Int} (h : w.ownsRow base 3 1 (.slice (some ⟨g, 0, none⟩) n c) n (iv l)) {k : Nat} (hk : k < l.length) : w.cell? ⟨g, k, none⟩ = some (.int .i64 l[k]) ∧ w.frozen? ⟨g, k, none⟩ = false := by
  have ha : ∀ j, ((⟨g, 0, none⟩ : Addr).add j) = ⟨g, j, none⟩ := fun j => by unfold Addr.add; split <;> simp_all
  have h1 := h.cells (g := g) rfl k (.int .i64 l[k]) (by simp [hk])
  rw [ha] at h1
  obtain ⟨cur, hc⟩ := own_type h (g := g) rfl
  exact ⟨h1, frozen_at hc k⟩
theorem row_form {w : World} {base n : Nat} {v : Value} {l : List Int} (h : w.ownsRow base 3 1 v n (iv l)) (hn : 0 < n) : ∃ g c, v = .slice (some ⟨g, 0, none⟩) n c ∧ base ≤ g ∧ g < w.heap.size ∧ n ≤ c ∧ c ≤ maxLen := by
  rcases h.2 with ⟨rfl, h0⟩ | ⟨g, cap, cur, rfl, h1, h2, h3, h4, -⟩
  · omega
  · exact ⟨g, cap, rfl, h1, (Array.getElem?_eq_some_iff.1 h2).1, h3, h4⟩
theorem row_set {w : World} {base g n c : Nat} {l : List Int} (h : w.ownsRow base 3 1 (.slice (some ⟨g, 0, none⟩) n c) n (iv l)) (k : Nat) (x : Int) : (w.setCell ⟨g, k, none⟩ (.int .i64 x)).ownsRow base 3 1 (.slice (some ⟨g, 0, none⟩) n c) n (iv (l.set k x)) := by
  have h1 := own_set h (g := g) rfl k (.int .i64 x)
  rw [show (iv l).set k (.int .i64 x) = iv (l.set k x) by simp [iv, List.map_set]] at h1
  exact h1
theorem vjoin_take {n : Nat} {vs : List (List Int)} (k : Nat) (h : ∀ v ∈ vs.take k, vok v = true ∧ v.length = n) : (vjoin (zeros n) (vs.take k)).length = n := vjoin_len (zeros_len n) (fun v hv => (h v hv).2)
theorem vjoin_succ {vs : List (List Int)} {acc : List Int} {k : Nat} (hk : k < vs.length) : vjoin acc (vs.take (k + 1)) = vmax (vjoin acc (vs.take k)) vs[k] := by rw [List.take_succ_eq_append_getElem hk, vjoin_snoc]
theorem takeV_more {l : List (List Int)} {k : Nat} (hk : k < l.length) {Q : List Int → Prop} (h : ∀ x ∈ l.take k, Q x) (hx : Q l[k]) : ∀ x ∈ l.take (k + 1), Q x := by
  rw [List.take_succ_eq_append_getElem hk]
  intro x hm
  rcases List.mem_append.1 hm with hm | hm
  · exact h x hm
  · rw [List.mem_singleton.1 hm]; exact hx
theorem joinT_no {vs : List (List Int)} (h : joinOk vs = false) : joinT vs = [] ∧ joinE vs = 90 := by
  unfold joinT joinE
  rw [h]
  exact ⟨rfl, rfl⟩
theorem joinT_ok {vs : List (List Int)} (h : joinOk vs = true) : joinT vs = vjoin (zeros (vs.headD []).length) vs ∧ joinE vs = 0 := by
  unfold joinT joinE
  rw [h]
  exact ⟨rfl, rfl⟩
theorem kept_poke {w0 w : World} {b : Nat} (k : Kept w0 w) (hb : w0.heap.size ≤ b) (i : Nat) (u : Value) : Kept w0 (w.setCell ⟨b, i, none⟩ u) :=
  (Chg.setCell (F := fun g => w0.heap.size ≤ g) (Chg.of_kept k) _ (fun _ => hb)).kept (Kept.refl w0) (fun g x => x)
/-- What Join leaves. -/
def JoinTo (w : World) (vs : List (List Int)) (e : Ending) (w' : World) : Prop := ∃ v, e = .returned (.tuple #[v, .int .i64 (joinE vs)]) ∧ w'.ownsRow w.heap.size 3 1 v (joinT vs).length (iv (joinT vs)) ∧ Kept w w'
theorem JoinTo.bad {w w' : World} {vs : List (List Int)} (h : joinOk vs = false) (k : Kept w w') : JoinTo w vs (.returned (.tuple #[.slice none 0 0, .int .i64 90])) w' := by
  obtain ⟨h1, h2⟩ := joinT_no h
  refine ⟨.slice none 0 0, by rw [h2], ?_, k⟩
  rw [h1]
  exact World.ownsRow_nil _ _ _ _
theorem JoinTo.good {w w' : World} {vs : List (List Int)} {n : Nat} {v : Value} (h : joinOk vs = true) (hn : (vs.headD []).length = n) (hr : w'.ownsRow w.heap.size 3 1 v n (iv (vjoin (zeros n) vs))) (k : Kept w w') : JoinTo w vs (.returned (.tuple #[v, .int .i64 0])) w' := by
  obtain ⟨h1, h2⟩ := joinT_ok h
  have hl : (vjoin (zeros n) vs).length = n := vjoin_len (zeros_len n) (fun x hx => (joinOk_of h hx hn).2)
  refine ⟨v, by rw [h2], ?_, k⟩
  rw [h1, hn, hl]
  exact hr
end Go.Proofs.Ytgmpbalibdlhdaa
