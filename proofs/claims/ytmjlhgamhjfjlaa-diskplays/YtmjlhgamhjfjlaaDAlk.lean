/- The walk of alike. -/
import Derived.Test.YtmjlhgamhjfjlaaDJk
set_option linter.unusedSimpArgs false
set_option linter.unusedVariables false
namespace Go.Proofs.Ytmjlhgamhjfjlaa
open Go.RowKit
/-- A row of bytes, whatever they are. -/
def Row8 (w : World) (base : Nat) (v : Value) (n : Nat) : Prop := ∃ zs : List Int, w.ownsRow base 5 1 v n (zs.map (Value.int .u8))
theorem Row8.of_own {w : World} {base : Nat} {v : Value} {l : List UInt8} (h : w.ownsRow base 5 1 v l.length (Lib.byteCells l)) : Row8 w base v l.length := ⟨l.map fun b => (b.toNat : Int), by rw [List.map_map]; exact h⟩
theorem Row8.at {w : World} {base : Nat} {A : Option Addr} {n c : Nat} (h : Row8 w base (.slice A n c) n) {k : Nat} (hk : k < n) : ∃ g z, A = some ⟨g, 0, none⟩ ∧ base ≤ g ∧ w.cell? ⟨g, k, none⟩ = some (.int .u8 z) ∧ w.frozen? ⟨g, k, none⟩ = false ∧ ∀ u, Row8 (w.setCell ⟨g, k, none⟩ (.int .u8 u)) base (.slice A n c) n := by
  obtain ⟨zs, h⟩ := h
  have hl : zs.length = n := by have := h.1; simpa using this
  rcases h.2 with ⟨e, h0⟩ | ⟨g, cap, cur, e, hb, hc, h1, h2, h3, h4⟩
  · omega
  · obtain ⟨rfl, rfl⟩ : A = some ⟨g, 0, none⟩ ∧ c = cap := by simpa using e
    have hcell := h.cells (g := g) rfl k (.int .u8 (zs[k]'(by omega))) (by simp [hl, hk])
    have ea : ((⟨g, 0, none⟩ : Addr).add k) = ⟨g, k, none⟩ := by unfold Addr.add; split <;> simp_all
    rw [ea] at hcell
    refine ⟨g, _, rfl, hb, hcell, frozen_at hc k, fun u => ⟨zs.set k u, ?_⟩⟩
    have := own_set h (g := g) rfl k (.int .u8 u)
    rw [List.map_set]
    exact this
theorem same_same (l m : List UInt8) (v u : Value) (w : World) (hv : Bts w v l) (hu : Bts w u m) : Calls Try.prog 27 #[v, u] w fun e w' => e = .returned (.bool (l == m)) ∧ w' = w := (same_any l m v u w hv hu).mono fun _ _ ⟨a, b⟩ => ⟨a, b.symm⟩
set_option maxRecDepth 100000 in
set_option maxHeartbeats 8000000 in
theorem alike_any (d x : Value) (cap : Nat) (fs : Fls) (w0 w : World) (h : JK w0 w d x cap fs fs) : Calls Try.prog 23 #[d, x] w fun e w' => e = .returned (.bool true) ∧ Kept w w' := by
  obtain ⟨F, hF⟩ := h.disk
  obtain ⟨G, hG⟩ := h.ref
  have hgd := h.good
  clear h
  obtain ⟨db, rfl⟩ := hF.form
  obtain ⟨rb, vL, rs, rfl, hm, hrd⟩ := hG
  obtain ⟨AL, cL, rfl, hcl1, hcl2⟩ := hrd.form
  unfold maxLen at hcl2
  have hlen : rs.length = fs.length := by rw [← hm, length_mapV]
  have HFI := Lib.hid (files_any cap fs F _ w hF)
  have HUS := Lib.hid (show ∀ W, Kept w W → _ from fun W hW => used_any cap fs F _ W (hF.kept hW))
  have HRU := Lib.hid (show ∀ W, Kept w W → _ from fun W hW => rused_any rb _ rs cap G W (hrd.kept hW))
  rw [hm] at HRU
  have HRE := Lib.hid (show ∀ k W, Kept w W → _ from fun k W hW => read_any k cap fs F _ W (hF.kept hW))
  have HSA := Lib.hid (show ∀ k W, Kept w W → _ from fun k W hW => safe_any k cap fs F _ W (hF.kept hW))
  have HRD := Lib.hid hrd
  have HM := Lib.hid hm
  have HGD := Lib.hid hgd.1
  have hsm := hgd.2.2.2
  have HLEN := Lib.hid hlen
  clear hF hrd hm hgd hlen
  go_enter Try.func23, Try.ntmps23
  go_wp2_with fail
  refine HFI.out.mono ?_
  rintro e w1 ⟨vn, rfl, hn, k1⟩
  obtain ⟨An, cn, rfl, hcn1, hcn2⟩ := hn.form
  unfold maxLen at hcn2
  have hnl : (namesA fs).length = rs.length := by rw [HLEN.out]; simp [namesA]
  rw [hnl] at hcn1
  have HNT := Lib.hid hn
  have HNL := Lib.hid hnl
  rw [hnl]
  clear hn hnl
  have c1 := (HRD.out.kept k1).c1
  go_wp2_with fail
  refine (HUS.out _ k1).mono ?_
  rintro e wx ⟨rfl, hwx⟩
  subst hwx
  go_wp2_with fail
  refine (HRU.out _ k1).mono ?_
  rintro e wx ⟨rfl, hwx⟩
  subst hwx
  go_wp2
  go_loopw [35] (fun i W => ∃ k : Nat, i = .int .i64 (k : Int) ∧ k ≤ rs.length ∧ Kept w1 W) (fun i _ => rs.length - (intOf i).toNat)
  case atStart => exact ⟨0, rfl, Nat.zero_le _, Kept.refl _⟩
  case round =>
    obtain ⟨k, rfl, hk, hkw⟩ := hrel
    by_cases hlt : k < rs.length
    · have hkk := k1.trans hkw
      obtain ⟨gL, rfl, q0, q1, q2, -⟩ := (HRD.out.kept hkk).at hlt
      have g1 : (k : Int) < (rs.length : Int) := by omega
      obtain ⟨bn, on, rfl, hcell⟩ := (HNT.out.kept hkw).at (k := k) (by rw [HNL.out]; exact hlt)
      have hob := HRD.out.files _ (List.getElem_mem hlt)
      obtain ⟨Ab, cb, hvb⟩ := own_form hob
      rw [hvb] at q1 hob
      have hfsk : k < fs.length := by rw [← HLEN.out]; exact hlt
      have hget : fs[k] = (rs[k].1, rs[k].2.2) := by
        have := mapV_get hlt
        simp only [HM.out] at this
        exact this
      have hnk : (namesA fs)[k]'(by rw [HNL.out]; exact hlt) = rs[k].1 := by simp [namesA, hget]
      rw [hnk] at hcell
      have hmem : (rs[k].1, rs[k].2.2) ∈ fs := by rw [← hget]; exact List.getElem_mem hfsk
      have hal : allS [rs[k].1] fs = 0 ∧ (getA rs[k].1 fs).getD ([], 0) = rs[k].2.2 := by
        have h1 := get_of_mem HGD.out.1 hmem
        have h2 : hasA rs[k].1 fs = true := by rw [hasA_get, h1]; rfl
        have h3 := (HGD.out.2 _ hmem).1
        simp only at h3
        exact ⟨by simp [allS, h2, h3], by rw [h1]; rfl⟩
      have HOB := Lib.hid (Bts.of_own hob)
      have HAL := Lib.hid hal.1
      have HGE := Lib.hid hal.2
      clear hal hmem hnk hget hvb hob
      generalize rs[k].1 = nm at *
      generalize rs[k].2.2 = f at *
      obtain ⟨fb, s⟩ := f
      simp only at *
      go_wp2_with fail
      have hKa : Kept wr (wr.alloc (.cells #[.string ⟨nm.toArray⟩, .slice Ab fb.length cb, .int .i64 (s : Int)] 58)) := (Kept.refl wr).alloc _
      have hba := heap_alloc_new wr (.cells #[.string ⟨nm.toArray⟩, .slice Ab fb.length cb, .int .i64 (s : Int)] 58)
      generalize wr.alloc (.cells #[.string ⟨nm.toArray⟩, .slice Ab fb.length cb, .int .i64 (s : Int)] 58) = wa at *
      have HBA := Lib.hid hba
      clear hba q0 q1 q2
      refine (HRE.out nm wa (hkk.trans hKa)).mono ?_
      rw [HAL.out, if_pos rfl, HGE.out]
      rintro e wb ⟨vb, rfl, hrow, kb⟩
      obtain ⟨Av, cv, rfl⟩ := own_form hrow
      have HROW := Lib.hid hrow
      clear hrow
      have p0 := cell_at (kb.block' HBA.out) 0
      simp only [List.getElem?_toArray, List.getElem?_cons_zero] at p0
      go_wp2_with fail
      refine (HSA.out nm wb ((hkk.trans hKa).trans kb)).mono ?_
      rw [HAL.out, if_pos rfl, HGE.out]
      rintro e wc ⟨rfl, kc⟩
      have m0 := cell_at ((kb.trans kc).block' HBA.out) 0
      have m1 := cell_at ((kb.trans kc).block' HBA.out) 1
      have m2 := cell_at ((kb.trans kc).block' HBA.out) 2
      simp only [List.getElem?_toArray, List.getElem?_cons_zero, List.getElem?_cons_succ] at m0 m1 m2
      have hkc := (hKa.trans kb).trans kc
      have hcell2 := hkc.cell hcell
      have HSM := Lib.hid (show ∀ W, Kept wc W → Calls Try.prog 27 #[.slice Av fb.length cv, .slice Ab fb.length cb] W fun e w' => e = .returned (.bool true) ∧ w' = W from fun W hW => by
        have := same_same fb fb _ _ W ((Bts.of_own HROW.out).kept (kc.trans hW)) (HOB.out.kept ((hkk.trans hkc).trans hW))
        rw [show (fb == fb) = true by simp] at this
        exact this)
      have hrow8 : Row8 wc wa.heap.size (.slice Av fb.length cv) fb.length := Row8.of_own (own_kept HROW.out kc)
      clear p0
      go_wp2
      go_quiet ((go_at_call 27; exact Calls.quiet_of_same (HSM.out _ ((Kept.refl wc).drewN _))))
      rename_i nq
      have hkd : Kept wc (wc.drewN nq) := (Kept.refl wc).drewN nq
      have hr8 : Row8 (wc.drewN nq) wa.heap.size (.slice Av fb.length cv) fb.length := by
        obtain ⟨zs, h⟩ := hrow8
        exact ⟨zs, own_kept h hkd⟩
      generalize wc.drewN nq = wd at *
      have hfl : fb.length ≤ 9223372036854775807 := by have := (Bts.of_own HROW.out).len; unfold maxLen at this; omega
      have HR8 := Lib.hid hr8
      clear hrow8 hr8 m0 m1 m2 hcell2
      go_wp2
      go_loopw [84] (fun i W => ∃ j : Nat, i = .int .i64 (j : Int) ∧ j ≤ fb.length ∧ Row8 W wa.heap.size (.slice Av fb.length cv) fb.length ∧ Kept wa W) (fun i _ => fb.length - (intOf i).toNat)
      case atStart => exact ⟨0, rfl, Nat.zero_le _, HR8.out, (kb.trans kc).trans hkd⟩
      case round =>
        obtain ⟨j, rfl, hj, hr, hkj⟩ := hrel
        by_cases hjl : j < fb.length
        · obtain ⟨g, z, rfl, hge, y1, y2, y3⟩ := hr.at hjl
          have g2 : (j : Int) < (fb.length : Int) := by omega
          have Y3 := Lib.hid y3
          clear y3 hr
          go_wp2
          go_roundw
          case rel => exact ⟨j + 1, by go_num, by omega, Y3.out _, Kept.setCell hkj _ hge⟩
          case measure => simp [intOf]; omega
        · obtain rfl : j = fb.length := by omega
          clear hr
          go_wp2
          go_roundw
          case rel => exact ⟨k + 1, by go_num, by omega, (hkw.trans hKa).trans hkj⟩
          case measure => simp [intOf]; omega
    · obtain rfl : k = rs.length := by omega
      go_wp2
      go_ret
      exact ⟨rfl, k1.trans hkw⟩
end Go.Proofs.Ytmjlhgamhjfjlaa
