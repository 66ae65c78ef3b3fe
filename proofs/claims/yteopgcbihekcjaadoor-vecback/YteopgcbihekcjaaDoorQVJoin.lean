/- The walk of Join. -/
import Derived.Test.YteopgcbihekcjaaDoorQVSam
import Derived.Lib.MinMax
set_option linter.unusedSimpArgs false
set_option linter.unusedVariables false
namespace Go.Proofs.YteopgcbihekcjaaDoor
open Go.RowKit
theorem row_base {w : World} {b b' : Nat} {e : TypeId} {s n : Nat} {v : Value} {xs : List Value} (h : w.ownsRow b e s v n xs) (hb : b' ≤ b) : w.ownsRow b' e s v n xs := by
  obtain ⟨h1, h2⟩ := h
  refine ⟨h1, ?_⟩
  rcases h2 with h2 | ⟨g, cap, cur, a1, a2, a3⟩
  · exact .inl h2
  · exact .inr ⟨g, cap, cur, a1, Nat.le_trans hb a2, a3⟩
/-- A row of ints of the call's own, at its block. -/
theorem row_at {w : World} {base g n c : Nat} {l : List Int} (h : w.ownsRow base 3 1 (.slice (some ⟨g, 0, none⟩) n c) n (iv l)) {k : Nat} (hk : k < l.length) : w.cell? ⟨g, k, none⟩ = some (.int .i64 l[k]) ∧ w.frozen? ⟨g, k, none⟩ = false := by
  have ha : ∀ j, ((⟨g, 0, none⟩ : Addr).add j) = ⟨g, j, none⟩ := fun j => by unfold Addr.add; split <;> simp_all
  have h1 := h.cells (g := g) rfl k (.int .i64 l[k]) (by simp [hk])
  rw [ha] at h1
  obtain ⟨cur, hc⟩ := own_type h (g := g) rfl
  exact ⟨h1, frozen_at hc k⟩
theorem row_form {w : World} {base n : Nat} {v : Value} {l : List Int} (h : w.ownsRow base 3 1 v n (iv l)) (hn : 0 < n) : ∃ g c, v = .slice (some ⟨g, 0, none⟩) n c ∧ base ≤ g ∧ g < w.heap.size ∧ n ≤ c ∧ c ≤ maxLen := by
  rcases h.2 with ⟨rfl, h0⟩ | ⟨g, cap, cur, rfl, h1, h2, h3, h4, -⟩
  · omega
  · exact ⟨g, cap, rfl, h1, (Array.getElem?_eq_some_iff.1 h2).1, h3, h4⟩
theorem row_set {w : World} {base g n c : Nat} {l : List Int} (h : w.ownsRow base 3 1 (.slice (some ⟨g, 0, none⟩) n c) n (iv l)) (k : Nat) (x : Int) : (w.setCell ⟨g, k, none⟩ (.int .i64 x)).ownsRow base 3 1 (.slice (some ⟨g, 0, none⟩) n c) n (iv (l.set k x)) := by
  have h1 := own_set h (g := g) rfl k (.int .i64 x)
  rw [show (iv l).set k (.int .i64 x) = iv (l.set k x) by simp [iv, List.map_set]] at h1
  exact h1
theorem vjoin_take {n : Nat} {vs : List (List Int)} (k : Nat) (h : ∀ v ∈ vs.take k, vok v = true ∧ v.length = n) : (vjoin (zeros n) (vs.take k)).length = n := vjoin_len (zeros_len n) (fun v hv => (h v hv).2)
theorem vjoin_succ {vs : List (List Int)} {acc : List Int} {k : Nat} (hk : k < vs.length) : vjoin acc (vs.take (k + 1)) = vmax (vjoin acc (vs.take k)) vs[k] := by rw [List.take_succ_eq_append_getElem hk, vjoin_snoc]
theorem takeV_more {l : List (List Int)} {k : Nat} (hk : k < l.length) {Q : List Int → Prop} (h : ∀ x ∈ l.take k, Q x) (hx : Q l[k]) : ∀ x ∈ l.take (k + 1), Q x := by
  rw [List.take_succ_eq_append_getElem hk]
  intro x hm
  rcases List.mem_append.1 hm with hm | hm
  · exact h x hm
  · rw [List.mem_singleton.1 hm]; exact hx
theorem joinT_no {vs : List (List Int)} (h : joinOk vs = false) : joinT vs = [] ∧ joinE vs = 90 := by
  unfold joinT joinE
  rw [h]
  exact ⟨rfl, rfl⟩
theorem joinT_ok {vs : List (List Int)} (h : joinOk vs = true) : joinT vs = vjoin (zeros (vs.headD []).length) vs ∧ joinE vs = 0 := by
  unfold joinT joinE
  rw [h]
  exact ⟨rfl, rfl⟩
theorem kept_poke {w0 w : World} {b : Nat} (k : Kept w0 w) (hb : w0.heap.size ≤ b) (i : Nat) (u : Value) : Kept w0 (w.setCell ⟨b, i, none⟩ u) :=
  (Chg.setCell (F := fun g => w0.heap.size ≤ g) (Chg.of_kept k) _ (fun _ => hb)).kept (Kept.refl w0) (fun g x => x)
/-- What Join leaves. -/
def JoinTo (w : World) (vs : List (List Int)) (e : Ending) (w' : World) : Prop := ∃ v, e = .returned (.tuple #[v, .int .i64 (joinE vs)]) ∧ w'.ownsRow w.heap.size 3 1 v (joinT vs).length (iv (joinT vs)) ∧ Kept w w'
theorem JoinTo.bad {w w' : World} {vs : List (List Int)} (h : joinOk vs = false) (k : Kept w w') : JoinTo w vs (.returned (.tuple #[.slice none 0 0, .int .i64 90])) w' := by
  obtain ⟨h1, h2⟩ := joinT_no h
  refine ⟨.slice none 0 0, by rw [h2], ?_, k⟩
  rw [h1]
  exact World.ownsRow_nil _ _ _ _
theorem JoinTo.good {w w' : World} {vs : List (List Int)} {n : Nat} {v : Value} (h : joinOk vs = true) (hn : (vs.headD []).length = n) (hr : w'.ownsRow w.heap.size 3 1 v n (iv (vjoin (zeros n) vs))) (k : Kept w w') : JoinTo w vs (.returned (.tuple #[v, .int .i64 0])) w' := by
  obtain ⟨h1, h2⟩ := joinT_ok h
  have hl : (vjoin (zeros n) vs).length = n := vjoin_len (zeros_len n) (fun x hx => (joinOk_of h hx hn).2)
  refine ⟨v, by rw [h2], ?_, k⟩
  rw [h1, hn, hl]
  exact hr
set_option maxRecDepth 100000 in
set_option maxHeartbeats 2000000 in
theorem vjoin_any (vs : List (List Int)) (v : Value) (w : World) (hv : Vecs w v vs) : Calls Tryd.prog 31 #[v] w (JoinTo w vs) := by
  obtain ⟨A, c, hvv, hc1, hc2, -⟩ := id hv
  subst hvv
  unfold maxLen at hc2
  have HV := Lib.hid hv
  clear hv
  cases hvs : vs with
  | nil =>
    subst hvs
    have HB := Lib.hid (JoinTo.bad (w := w) (vs := []) rfl (Kept.refl w))
    go_enter Tryd.func31, Tryd.ntmps31
    go_wp2
    go_ret2
    exact HB.out
  | cons hd tl =>
    have hpos : 0 < vs.length := by rw [hvs]; simp
    have hh : (vs.headD []).length = vs[0].length := by subst hvs; rfl
    rw [← hvs]
    have HH := Lib.hid hh
    clear hvs hh
    obtain ⟨b0, o0, u0, rfl, hcell0, hu0⟩ := HV.out.at hpos
    obtain ⟨A0, c0, rfl, -, -⟩ := hu0.form
    rw [Nat.add_zero] at hcell0
    have t0 : ((vs.length : Int) == 0) = false := by rw [beq_eq_false_iff_ne]; omega
    have HMEM := Lib.hid (List.getElem_mem hpos)
    by_cases hbad : vs[0].length < 1 ∨ 7 < vs[0].length
    · have HB := Lib.hid (fun W (k : Kept w W) => JoinTo.bad (w := w) (joinOk_head (vs := vs) (by rw [HH.out]; exact hbad)) k)
      clear hu0
      generalize vs[0] = x0 at *
      go_enter Tryd.func31, Tryd.ntmps31
      go_wp2_with fail
      refine (zero_bad (x0.length : Int) _ (by omega)).mono ?_
      rintro e w1 ⟨rfl, rfl⟩
      have HB2 := Lib.hid (HB.out _ (Kept.refl _))
      go_wp2
      go_ret2
      exact HB2.out
    · have HBAD := Lib.hid (fun W (k : Kept w W) (h : joinOk vs = false) => JoinTo.bad h k)
      obtain ⟨n, hn⟩ : ∃ n, n = vs[0].length := ⟨_, rfl⟩
      rw [← hn] at HH hcell0 hbad
      have HN := Lib.hid hn
      clear hn hu0
      have hn1 : 1 ≤ n := by omega
      have hn7 : n ≤ 7 := by omega
      clear hbad
      go_enter Tryd.func31, Tryd.ntmps31
      go_wp2_with fail
      refine (zero_good n _ hn1 hn7).mono ?_
      rintro e w1 ⟨vj, rfl, ho1, hk1⟩
      obtain ⟨g, cj, rfl, hg1, hg2, hg3, hg4⟩ := row_form ho1 (by omega)
      unfold maxLen at hg4
      have HO1 := Lib.hid ho1
      have HK1 := Lib.hid hk1
      clear ho1 hk1 hcell0
      go_wp2
      go_loopw [26] (fun i W => ∃ k : Nat, i = .int .i64 (k : Int) ∧ k ≤ vs.length ∧ W.ownsRow w.heap.size 3 1 (.slice (some ⟨g, 0, none⟩) n cj) n (iv (vjoin (zeros n) (vs.take k))) ∧ Kept w W ∧ ∀ v ∈ vs.take k, vok v = true ∧ v.length = n) (fun i _ => vs.length - (intOf i).toNat)
      case atStart => exact ⟨0, rfl, Nat.zero_le _, HO1.out, HK1.out, fun v hv => by simp at hv⟩
      case round =>
        obtain ⟨k, rfl, hk, hrow, hkk, hall⟩ := hrel
        have HROW := Lib.hid hrow
        have HK := Lib.hid hkk
        have HALL := Lib.hid hall
        clear hrow hkk hall
        by_cases hlt : k < vs.length
        · obtain ⟨b, o, u, hbo, hcell, hu⟩ := HV.out.at hlt
          obtain ⟨rfl, rfl⟩ : b0 = b ∧ o0 = o := by simpa using hbo
          have hcell := HK.out.cell hcell
          clear hbo
          obtain ⟨Au, cu, rfl, hu1, hu2⟩ := hu.form
          unfold maxLen at hu2
          have HU := Lib.hid hu
          have HM := Lib.hid (List.getElem_mem hlt)
          have HTM := Lib.hid (fun (h : vok vs[k] = true ∧ vs[k].length = n) => takeV_more hlt HALL.out h)
          have HSUC := Lib.hid (vjoin_succ (acc := zeros n) hlt)
          have HACC := Lib.hid (vjoin_take k HALL.out)
          have HNO := Lib.hid (fun (h : vok vs[k] = false ∨ vs[k].length ≠ n) => joinOk_bad HM.out (by rw [HH.out]; exact h))
          generalize hx : vs[k] = x at *
          generalize vjoin (zeros n) (vs.take k) = acc at *
          clear hu hx
          have g1 : (k : Int) < (vs.length : Int) := by omega
          by_cases hxl : x.length = n
          · have t1 : ((x.length : Int) != (n : Int)) = false := by simp [hxl]
            cases hvx : vok x with
            | false =>
              have HB := Lib.hid (HBAD.out _ HK.out (HNO.out (.inl hvx)))
              have HE := Lib.hid (vE_no hvx)
              clear hvx hxl
              go_wp2_with fail
              refine (vcheck_any x _ _ (HU.out.kept HK.out)).mono ?_
              rintro e w2 ⟨rfl, rfl⟩
              rw [HE.out]
              go_wp2
              go_ret2
              exact HB.out
            | true =>
              have HE := Lib.hid (vE_ok hvx)
              have HTM2 := Lib.hid (HTM.out ⟨hvx, hxl⟩)
              have hxe : acc.length = x.length := by rw [HACC.out, hxl]
              have HXE := Lib.hid hxe
              have HXL := Lib.hid hxl
              have hle1 : x.length ≤ n := by omega
              have hle2 : n ≤ x.length := by omega
              clear hvx hxl hxe
              go_wp2_with fail
              refine (vcheck_any x _ _ (HU.out.kept HK.out)).mono ?_
              rintro e w2 ⟨rfl, rfl⟩
              rw [HE.out]
              go_wp2
              go_loopw [42] (fun i W => ∃ j : Nat, i = .int .i64 (j : Int) ∧ j ≤ x.length ∧ W.ownsRow w.heap.size 3 1 (.slice (some ⟨g, 0, none⟩) n cj) n (iv (vmaxTo j acc x)) ∧ Kept w W) (fun i _ => x.length - (intOf i).toNat)
              case atStart => exact ⟨0, rfl, Nat.zero_le _, by rw [vmaxTo_zero]; exact HROW.out, HK.out⟩
              case round =>
                obtain ⟨j, rfl, hj, hrow2, hkk2⟩ := hrel
                have HROW2 := Lib.hid hrow2
                have HK2 := Lib.hid hkk2
                clear hrow2 hkk2
                by_cases hlt2 : j < x.length
                · obtain ⟨b1, o1, rfl, hcx⟩ := (HU.out.kept HK2.out).atI hlt2
                  have hja : j < acc.length := by rw [HXE.out]; exact hlt2
                  obtain ⟨hcg, hfg⟩ := row_at HROW2.out (k := j) (by rw [vmaxTo_len HXE.out]; exact hja)
                  rw [vmaxTo_at HXE.out hja] at hcg
                  have HSET := Lib.hid (row_set HROW2.out j (max acc[j] x[j]))
                  have HE2 := Lib.hid (vmaxTo_succ HXE.out hja hlt2)
                  have HKS := Lib.hid (kept_poke HK2.out hg1 j (.int .i64 (max acc[j] x[j])))
                  have g2 : (j : Int) < (x.length : Int) := by omega
                  have g3 : (j : Int) < (n : Int) := by omega
                  have g4 : j < n := by omega
                  generalize acc[j] = y at *
                  generalize x[j] = z at *
                  go_wp2
                  go_roundw
                  case rel => exact ⟨j + 1, by go_num, by omega, by rw [← HE2.out]; exact HSET.out, HKS.out⟩
                  case measure => simp [intOf]; omega
                · obtain rfl : j = x.length := by omega
                  have hrow3 := HROW2.out
                  rw [vmaxTo_all HXE.out, ← HSUC.out] at hrow3
                  have HR3 := Lib.hid hrow3
                  clear hrow3
                  go_wp2
                  go_roundw
                  case rel => exact ⟨k + 1, by go_num, by omega, HR3.out, HK2.out, HTM2.out⟩
                  case measure => simp [intOf]; omega
          · have t1 : ((x.length : Int) != (n : Int)) = true := by simp; omega
            have HB := Lib.hid (HBAD.out _ HK.out (HNO.out (.inr hxl)))
            go_wp2
            go_ret2
            exact HB.out
        · obtain rfl : k = vs.length := by omega
          have hall := HALL.out
          have hrow := HROW.out
          rw [List.take_length] at hall hrow
          have HG := Lib.hid (JoinTo.good (joinOk_all (by omega) (fun v hv => by rw [HH.out]; exact hall v hv)) HH.out hrow HK.out)
          clear hall hrow
          go_wp2
          go_ret2
          exact HG.out
end Go.Proofs.YteopgcbihekcjaaDoor
