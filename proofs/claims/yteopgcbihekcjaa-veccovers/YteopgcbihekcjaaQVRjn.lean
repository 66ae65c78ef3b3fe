/- The walk of the document's Join. -/
import Derived.Test.YteopgcbihekcjaaQVJoin
import Derived.Deep.RegionWith
import Derived.BigQuiet
set_option linter.unusedSimpArgs false
set_option linter.unusedVariables false
namespace Go.Proofs.Yteopgcbihekcjaa
open Go.RowKit
theorem vmaxTo_keep {a b : List Int} (h : a.length = b.length) {k : Nat} (hk : k < a.length) (hb : k < b.length) (hle : b[k] ≤ a[k]) : vmaxTo k a b = vmaxTo (k + 1) a b := by
  rw [← vmaxTo_succ h hk hb, show max a[k] b[k] = a[k] by omega]
  have := vmaxTo_at h hk
  conv => rhs; rw [← this]
  simp
theorem vmaxTo_raise {a b : List Int} (h : a.length = b.length) {k : Nat} (hk : k < a.length) (hb : k < b.length) (hlt : a[k] < b[k]) : (vmaxTo k a b).set k b[k] = vmaxTo (k + 1) a b := by
  rw [← vmaxTo_succ h hk hb, show max a[k] b[k] = b[k] by omega]
/-- What the document's Join leaves. -/
def RefJoinTo (w : World) (vs : List (List Int)) (e : Ending) (w' : World) : Prop := ∃ v, e = .returned (.tuple #[v, .bool (joinOk vs)]) ∧ w'.ownsRow w.heap.size 3 1 v (joinT vs).length (iv (joinT vs)) ∧ Kept w w'
theorem RefJoinTo.bad {w w' : World} {vs : List (List Int)} (h : joinOk vs = false) (k : Kept w w') : RefJoinTo w vs (.returned (.tuple #[.slice none 0 0, .bool false])) w' := by
  obtain ⟨h1, h2⟩ := joinT_no h
  refine ⟨.slice none 0 0, by rw [h], ?_, k⟩
  rw [h1]
  exact World.ownsRow_nil _ _ _ _
theorem RefJoinTo.good {w w' : World} {vs : List (List Int)} {n : Nat} {v : Value} (h : joinOk vs = true) (hn : (vs.headD []).length = n) (hr : w'.ownsRow w.heap.size 3 1 v n (iv (vjoin (zeros n) vs))) (k : Kept w w') : RefJoinTo w vs (.returned (.tuple #[v, .bool true])) w' := by
  obtain ⟨h1, h2⟩ := joinT_ok h
  have hl : (vjoin (zeros n) vs).length = n := vjoin_len (zeros_len n) (fun x hx => (joinOk_of h hx hn).2)
  refine ⟨v, by rw [h], ?_, k⟩
  rw [h1, hn, hl]
  exact hr
/-- The question whether x is none, asked wherever x reads as it did. -/
theorem badvec_at {w : World} {v : Value} {x : List Int} {b : Bool} (h : Ints w v x) (hb : (!vok x) = b) : ∀ W, Kept w W → Calls Try.prog 21 #[v] W fun e w' => e = .returned (.bool b) ∧ w' = W := fun W k =>
  (badvec_any x v W (h.kept k)).mono fun e w' h => ⟨by rw [← hb]; exact h.1, h.2.symm⟩
set_option maxRecDepth 100000 in
set_option maxHeartbeats 4000000 in
theorem refJoin_any (vs : List (List Int)) (v : Value) (w : World) (hv : Vecs w v vs) : Calls Try.prog 18 #[v] w (RefJoinTo w vs) := by
  obtain ⟨A, c, hvv, hc1, hc2, -⟩ := id hv
  subst hvv
  unfold maxLen at hc2
  have HV := Lib.hid hv
  clear hv
  cases hvs : vs with
  | nil =>
    subst hvs
    have HB := Lib.hid (RefJoinTo.bad (w := w) (vs := []) rfl (Kept.refl w))
    go_enter Try.func18, Try.ntmps18
    go_wp2
    go_ret2
    exact HB.out
  | cons hd tl =>
    have hpos : 0 < vs.length := by rw [hvs]; simp
    have hh : (vs.headD []).length = vs[0].length := by subst hvs; rfl
    rw [← hvs]
    have HH := Lib.hid hh
    clear hvs hh
    obtain ⟨b0, o0, u0, rfl, hcell0, hu0⟩ := HV.out.at hpos
    obtain ⟨A0, c0, rfl, -, hu0m⟩ := hu0.form
    unfold maxLen at hu0m
    rw [Nat.add_zero] at hcell0
    have HC0 := Lib.hid hcell0
    have t0 : ((vs.length : Int) == 0) = false := by rw [beq_eq_false_iff_ne]; omega
    have HBAD := Lib.hid (fun W (k : Kept w W) (h : joinOk vs = false) => RefJoinTo.bad h k)
    obtain ⟨n, hn⟩ : ∃ n, n = vs[0].length := ⟨_, rfl⟩
    rw [← hn] at HH HC0
    have HN := Lib.hid hn
    have hnm : n ≤ maxLen := by rw [hn]; obtain ⟨_, _, e, h1, h2⟩ := hu0.form; omega
    unfold maxLen at hnm
    clear hn hu0 hcell0
    go_enter Try.func18, Try.ntmps18
    go_wp2
    go_loopw [4] (fun i W => ∃ k : Nat, i = .int .i64 (k : Int) ∧ k ≤ vs.length ∧ Kept w W ∧ ∀ v ∈ vs.take k, vok v = true ∧ v.length = n) (fun i _ => vs.length - (intOf i).toNat)
    case atStart => exact ⟨0, rfl, Nat.zero_le _, Kept.refl w, fun v hv => by simp at hv⟩
    case round =>
      obtain ⟨k, rfl, hk, hkk, hall⟩ := hrel
      have HK := Lib.hid hkk
      have HALL := Lib.hid hall
      clear hkk hall
      by_cases hlt : k < vs.length
      · obtain ⟨b, o, u, hbo, hcell, hu⟩ := HV.out.at hlt
        obtain ⟨rfl, rfl⟩ : b0 = b ∧ o0 = o := by simpa using hbo
        have hcell1 := HK.out.drew.cell hcell
        have hc01 := HK.out.drew.cell HC0.out
        have hcell := HK.out.cell hcell
        have hc0 := HK.out.cell HC0.out
        clear hbo
        obtain ⟨Au, cu, rfl, hu1, hu2⟩ := hu.form
        unfold maxLen at hu2
        have HU := Lib.hid hu
        have HM := Lib.hid (List.getElem_mem hlt)
        have HTM := Lib.hid (fun (h : vok vs[k] = true ∧ vs[k].length = n) => takeV_more hlt HALL.out h)
        have HNO := Lib.hid (fun (h : vok vs[k] = false ∨ vs[k].length ≠ n) => joinOk_bad HM.out (by rw [HH.out]; exact h))
        generalize hx : vs[k] = x at *
        clear hu hx
        have g1 : (k : Int) < (vs.length : Int) := by omega
        have g0 : (0 : Int) < (vs.length : Int) := by omega
        cases hvx : vok x with
        | false =>
          have HBV := Lib.hid (badvec_at (b := true) HU.out (by rw [hvx]; rfl))
          have HB := Lib.hid (HNO.out (.inl hvx))
          clear hvx
          go_wp2
          go_quiet ((go_at_call 21; exact Calls.quiet_of_same (HBV.out _ (HK.out.drewN _))))
          go_wp2
          go_ret2
          exact HBAD.out _ (HK.out.drewN _) HB.out
        | true =>
          have HBV := Lib.hid (badvec_at (b := false) HU.out (by rw [hvx]; rfl))
          by_cases hxl : x.length = n
          · have t1 : ((x.length : Int) != (n : Int)) = false := by simp [hxl]
            have HT := Lib.hid (HTM.out ⟨hvx, hxl⟩)
            clear hvx hxl
            go_wp2
            go_quiet ((go_at_call 21; exact Calls.quiet_of_same (HBV.out _ (HK.out.drewN _))))
            go_wp2
            go_roundw
            case rel => exact ⟨k + 1, by go_num, by omega, HK.out.drewN _, HT.out⟩
            case measure => simp [intOf]; omega
          · have t1 : ((x.length : Int) != (n : Int)) = true := by simp; omega
            have HB := Lib.hid (HNO.out (.inr hxl))
            clear hvx hxl
            go_wp2
            go_quiet ((go_at_call 21; exact Calls.quiet_of_same (HBV.out _ (HK.out.drewN _))))
            go_wp2
            go_ret2
            exact HBAD.out _ (HK.out.drewN _) HB.out
      · obtain rfl : k = vs.length := by omega
        have hall0 := HALL.out
        rw [List.take_length] at hall0
        have HALLV := Lib.hid hall0
        have hn1 : 1 ≤ n ∧ n ≤ 7 := by
          obtain ⟨h1, h2⟩ := hall0 _ (List.getElem_mem hpos)
          have := vok_len h1
          omega
        have HOK := Lib.hid (joinOk_all hpos (fun v hv => by rw [HH.out]; exact hall0 v hv))
        clear hall0
        obtain ⟨i, hi, hz, hs, hb⟩ := info_int
        obtain ⟨w1, hmk, hrow, hgr⟩ := run_make_full (P := Try.prog) wr wr.heap.size 38 3 i (.int .i64 0) 1 Try.underlying38 hi hz hs .i64 .i64 n (by rw [hb]; omega) (by unfold maxLen; omega) (Nat.le_refl _)
        have hk1 : Kept w w1 := HK.out.trans (Chg.of_grown (F := no) hgr (fun g hg => by cases hg)).to_kept
        have hg1 : w.heap.size ≤ wr.heap.size := HK.out.size
        have e : (madeCells (Value.int .i64 0).cells (n * 1)).toList = iv (zeros n) := by
          show (madeCells #[.int .i64 0] (n * 1)).toList = _
          rw [toList_madeCells_one]
          simp [iv, zeros]
        rw [e] at hrow
        have HO1 := Lib.hid (row_base hrow hg1)
        have HK1 := Lib.hid hk1
        have hc0 := HK.out.cell HC0.out
        have hgr1 : wr.heap.size < w1.heap.size := (hrow.lt wr.heap.size rfl).2
        clear hi hz hs hb hk1 hrow hgr e
        generalize hG : wr.heap.size = g at *
        have HG0 := Lib.hid hG
        clear hG
        go_wp2
        go_loopw [6] (fun i W => ∃ k : Nat, i = .int .i64 (k : Int) ∧ k ≤ vs.length ∧ W.ownsRow w.heap.size 3 1 (.slice (some ⟨g, 0, none⟩) n n) n (iv (vjoin (zeros n) (vs.take k))) ∧ Kept w W) (fun i _ => vs.length - (intOf i).toNat)
        case atStart => exact ⟨0, rfl, Nat.zero_le _, HO1.out, HK1.out⟩
        case round =>
          obtain ⟨k, rfl, hk, hrow, hkk⟩ := hrel
          have HROW := Lib.hid hrow
          have HKA := Lib.hid hkk
          clear hrow hkk
          by_cases hlt : k < vs.length
          · obtain ⟨b, o, u, hbo, hcell0, hu⟩ := HV.out.at hlt
            obtain ⟨rfl, rfl⟩ : b0 = b ∧ o0 = o := by simpa using hbo
            have HCELL := Lib.hid hcell0
            clear hbo hcell0
            obtain ⟨Au, cu, rfl, hu1, hu2⟩ := hu.form
            unfold maxLen at hu2
            have HU := Lib.hid hu
            have hxl := (HALLV.out _ (List.getElem_mem hlt)).2
            have HSUC := Lib.hid (vjoin_succ (acc := zeros n) hlt)
            have HACC := Lib.hid (vjoin_len (vs := vs.take k) (zeros_len n) (fun v hv => (HALLV.out v (List.mem_of_mem_take hv)).2))
            generalize vs[k] = x at *
            generalize vjoin (zeros n) (vs.take k) = acc at *
            clear hu
            have hxe : acc.length = x.length := by rw [HACC.out, hxl]
            have HXE := Lib.hid hxe
            have HXL := Lib.hid hxl
            have hle1 : x.length ≤ n := by omega
            have hle2 : n ≤ x.length := by omega
            clear hxl hxe
            have g1 : (k : Int) < (vs.length : Int) := by omega
            go_wp2
            go_loopw [7] (fun i W => ∃ j : Nat, i = .int .i64 (j : Int) ∧ j ≤ n ∧ W.ownsRow w.heap.size 3 1 (.slice (some ⟨g, 0, none⟩) n n) n (iv (vmaxTo j acc x)) ∧ Kept w W) (fun i _ => n - (intOf i).toNat)
            case atStart => exact ⟨0, rfl, Nat.zero_le _, by rw [vmaxTo_zero]; exact HROW.out, HKA.out⟩
            case round =>
              obtain ⟨j, rfl, hj, hrow2, hkk2⟩ := hrel
              have HROW2 := Lib.hid hrow2
              have HK2 := Lib.hid hkk2
              clear hrow2 hkk2
              by_cases hlt2 : j < n
              · obtain ⟨b1, o1, rfl, hcx⟩ := (HU.out.kept HK2.out).atI (show j < x.length by omega)
                have hja : j < acc.length := by rw [HXE.out]; omega
                have hjx : j < x.length := by omega
                obtain ⟨hcg, hfg⟩ := row_at HROW2.out (k := j) (by rw [vmaxTo_len HXE.out]; exact hja)
                rw [vmaxTo_at HXE.out hja] at hcg
                have hcv := HK2.out.cell HCELL.out
                have g2 : (j : Int) < (x.length : Int) := by omega
                have g3 : (j : Int) < (n : Int) := by omega
                by_cases hgt : acc[j] < x[j]
                · have t1 : decide (acc[j] < x[j]) = true := decide_eq_true hgt
                  have HSET := Lib.hid (fun m => row_set (own_kept HROW2.out ((Kept.refl _).drewN m)) j x[j])
                  have HE2 := Lib.hid (vmaxTo_raise HXE.out hja hjx hgt)
                  have HKS := Lib.hid (fun m => kept_poke (HK2.out.drewN m) hg1 j (.int .i64 x[j]))
                  clear hgt
                  generalize acc[j] = y at *
                  generalize x[j] = z at *
                  go_wp2
                  go_quiet (fail)
                  go_wp2
                  go_roundw
                  case rel => exact ⟨j + 1, by go_num, by omega, by rw [← HE2.out]; exact HSET.out _, HKS.out _⟩
                  case measure => simp [intOf]; omega
                · have t1 : decide (acc[j] < x[j]) = false := decide_eq_false hgt
                  have HE2 := Lib.hid (vmaxTo_keep HXE.out hja hjx (by omega))
                  clear hgt
                  generalize acc[j] = y at *
                  generalize x[j] = z at *
                  go_wp2
                  go_quiet (fail)
                  go_wp2
                  go_roundw
                  case rel => exact ⟨j + 1, by go_num, by omega, by rw [← HE2.out]; exact own_kept HROW2.out ((Kept.refl _).drewN _), HK2.out.drewN _⟩
                  case measure => simp [intOf]; omega
              · obtain rfl : j = n := by omega
                have hrow3 := HROW2.out
                rw [← HXL.out, vmaxTo_all HXE.out, ← HSUC.out, HXL.out] at hrow3
                have HR3 := Lib.hid hrow3
                clear hrow3
                go_wp2
                go_roundw
                case rel => exact ⟨k + 1, by go_num, by omega, HR3.out, HK2.out⟩
                case measure => simp [intOf]; omega
          · obtain rfl : k = vs.length := by omega
            have hrow := HROW.out
            rw [List.take_length] at hrow
            have HGD := Lib.hid (RefJoinTo.good HOK.out HH.out hrow HKA.out)
            clear hrow
            go_wp2
            go_ret2
            exact HGD.out
end Go.Proofs.Yteopgcbihekcjaa
