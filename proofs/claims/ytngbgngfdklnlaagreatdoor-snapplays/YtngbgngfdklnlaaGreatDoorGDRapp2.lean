/- The walk of the document's Append. The document's Append and Sync, whatever is asked; the walks of its Rename, Remove and Read. -/
import Derived.Test.YtngbgngfdklnlaaGreatDoorGDRall2
set_option linter.unusedSimpArgs false
set_option linter.unusedVariables false
namespace Go.Proofs.YtngbgngfdklnlaaGreatDoor
open Go.RowKit
theorem rused_same (rb : Nat) (vL : Value) (rs : St) (cap : Nat) (G : Nat → Prop) (w : World) (h : RD w rb vL rs cap G) : Calls Tryz.prog 59 #[.pointer (some ⟨rb, 0, none⟩)] w fun e w' => e = .returned (.int .i64 (used (mapV Prod.snd rs) : Int)) ∧ w' = w := (rused_any rb vL rs cap G w h).mono fun _ _ ⟨a, b⟩ => ⟨a, b.symm⟩
set_option maxRecDepth 100000 in
set_option maxHeartbeats 4000000 in
theorem rappend_name (k : Nm) (vb : Value) (rb : Nat) (w : World) (hk : okN k = false) :
    Calls Tryz.prog 16 #[.pointer (some ⟨rb, 0, none⟩), .string ⟨k.toArray⟩, vb] w fun e w' => e = .returned (.int .i64 30) ∧ Kept w w' := by
  have HN := Lib.hid (name_any k w)
  rw [hk] at HN
  go_enter Tryz.func16, Tryz.ntmps16
  go_wp2_with fail
  refine HN.out.mono ?_
  rintro e w1 ⟨rfl, hw1⟩
  subst hw1
  go_wp2
  go_ret
  exact ⟨rfl, Kept.refl _⟩
set_option maxRecDepth 100000 in
set_option maxHeartbeats 4000000 in
theorem rappend_space (k : Nm) (b : List UInt8) (vb : Value) (rb : Nat) (vL : Value) (rs : St) (cap : Nat) (G : Nat → Prop) (w : World) (h : RD w rb vL rs cap G) (hb : Bts w vb b) (hk : okN k = true) (hlim : b.length ≤ 140737488355328) (hfit : cap < used (mapV Prod.snd rs) + b.length) :
    Calls Tryz.prog 16 #[.pointer (some ⟨rb, 0, none⟩), .string ⟨k.toArray⟩, vb] w fun e w' => e = .returned (.int .i64 32) ∧ Kept w w' := by
  have HN := Lib.hid (name_any k w)
  rw [hk] at HN
  have HU := Lib.hid (show ∀ W, Kept w W → _ from fun W hW => rused_same rb vL rs cap G W (h.kept hW))
  have c0 := h.c0
  have hf := h.fits
  have hcl := h.capLe
  obtain ⟨A, c, rfl, hc1, hc2, -⟩ := hb
  unfold maxLen at hc2
  generalize used (mapV Prod.snd rs) = u at *
  have t1 : decide ((cap : Int) < (u : Int) + (b.length : Int)) = true := by simp; omega
  have hw : IntKind.i64.wrap ((u : Int) + (b.length : Int)) = (u : Int) + (b.length : Int) := IntWalk.i64_in _ (by omega)
  clear h hk
  go_enter Tryz.func16, Tryz.ntmps16
  go_wp2_with fail
  refine HN.out.mono ?_
  rintro e w1 ⟨rfl, hw1⟩
  subst hw1
  go_wp2
  go_quiet ((go_at_call 59; exact Calls.quiet_of_same (HU.out _ ((Kept.refl w).drewN _))))
  rename_i nq
  go_wp2
  go_ret
  exact ⟨rfl, (Kept.refl w).drewN nq⟩
set_option maxRecDepth 100000 in
set_option maxHeartbeats 4000000 in
theorem rappend_new (k : Nm) (b : List UInt8) (vb : Value) (rb : Nat) (vL : Value) (rs : St) (cap : Nat) (G : Nat → Prop) (w : World) (h : RD w rb vL rs cap G) (hb : Bts w vb b) (hk : okN k = true) (hfit : used (mapV Prod.snd rs) + b.length ≤ cap) (hno : hasA k rs = false) (hn : rs.length < 2000000000000) :
    Calls Tryz.prog 16 #[.pointer (some ⟨rb, 0, none⟩), .string ⟨k.toArray⟩, vb] w fun e w' => e = .returned (.int .i64 0) ∧ (∃ vL' rs', mapV Prod.snd rs' = appS k b (mapV Prod.snd rs) ∧ RD w' rb vL' rs' cap (ext G w w')) ∧ Chg G w w' := by
  have HN := Lib.hid (name_any k w)
  rw [hk] at HN
  have H := Lib.hid h
  have HBB := Lib.hid hb
  have HU := Lib.hid (show ∀ W, Kept w W → _ from fun W hW => rused_same rb vL rs cap G W (h.kept hW))
  have c0 := h.c0
  have hf := h.fits
  have hcl := h.capLe
  obtain ⟨A, c, rfl, hc1, hc2, -⟩ := hb
  unfold maxLen at hc2
  have hux : ∃ u, used (mapV Prod.snd rs) = u := ⟨_, rfl⟩
  obtain ⟨u, hu⟩ := hux
  rw [hu] at HU hfit hf
  have HUU := Lib.hid hu
  have t1 : decide ((cap : Int) < (u : Int) + (b.length : Int)) = false := by simp; omega
  have hw : IntKind.i64.wrap ((u : Int) + (b.length : Int)) = (u : Int) + (b.length : Int) := IntWalk.i64_in _ (by omega)
  have HNO := Lib.hid hno
  have HK := Lib.hid hk
  clear h hk hu hno
  go_enter Tryz.func16, Tryz.ntmps16
  go_wp2_with fail
  refine HN.out.mono ?_
  rintro e w1 ⟨rfl, hw1⟩
  subst hw1
  go_wp2
  go_quiet ((go_at_call 59; exact Calls.quiet_of_same (HU.out _ ((Kept.refl w).drewN _))))
  rename_i nq
  have hkq : Kept w (w.drewN nq) := (Kept.refl w).drewN nq
  generalize w.drewN nq = wq at *
  clear hw
  have HF := Lib.hid (rfind_any k rb vL rs cap G wq (H.out.kept hkq))
  rw [find_neg HNO.out] at HF
  go_wp2_with fail
  refine HF.out.mono ?_
  rintro e w2 ⟨rfl, hw2⟩
  subst hw2
  go_wp2_with fail
  refine (copy_any b _ wq (HBB.out.kept hkq) (by omega)).mono ?_
  rintro e w3 ⟨v3, rfl, ho3, k3⟩
  obtain ⟨A3, c3, rfl⟩ := own_form ho3
  have hk3 := hkq.trans k3
  have hnw : ∀ p ∈ rs, p.1 ≠ k := by
    intro p hp e
    have := HNO.out
    unfold hasA at this
    rw [List.any_eq_false] at this
    exact this p hp (by simpa using e)
  have hg3 : ∀ g, (Value.slice A3 b.length c3).ownBlock = some g → w.heap.size ≤ g ∧ g < w3.heap.size := fun g hg => by
    have h1 := ho3.lt g hg
    have h2 := hkq.size
    exact ⟨by omega, h1.2⟩
  have HLY := Lib.hid (lay_any k (.slice A3 b.length c3) (b, 0) rb vL rs cap (ext G w w3) w3 ((H.out.kept hk3).mono (fun _ x => .inl x)) (own_baseD ho3 (Nat.zero_le _)) (fun g hg => .inr (hg3 g hg)) HK.out (Nat.zero_le _) hnw (by rw [HUU.out]; exact hfit) hn)
  have hs3 := hk3.size
  clear ho3 hnw hg3
  go_wp2_with fail
  refine HLY.out.mono ?_
  rintro e w4 ⟨rfl, ⟨vL', h4⟩, hc4⟩
  have H4 := Lib.hid h4
  have HE := Lib.hid (show ins (k, b, 0) (mapV Prod.snd rs) = appS k b (mapV Prod.snd rs) by
    unfold appS
    have hg : getA k (mapV Prod.snd rs) = none := by
      have := HNO.out
      rw [← hasA_mapV Prod.snd, hasA_get] at this
      cases hq : getA k (mapV Prod.snd rs) with
      | none => rfl
      | some x => rw [hq] at this; cases this
    rw [hg]
    unfold putA
    rw [cut_none hg]
    simp)
  clear h4
  go_wp2
  go_ret
  refine ⟨rfl, ⟨vL', _, ?_, H4.out.mono (fun g x => ext_ext hs3 hc4.size x)⟩, (Chg.of_kept hk3).trans hc4 (fun g _ e => by rw [e]; exact H.out.inG)⟩
  rw [mapV_ins]
  exact HE.out
set_option maxRecDepth 100000 in
set_option maxHeartbeats 4000000 in
theorem rappend_old (k : Nm) (b : List UInt8) (vb : Value) (rb : Nat) (vL : Value) (rs : St) (cap : Nat) (G : Nat → Prop) (w : World) (h : RD w rb vL rs cap G) (hb : Bts w vb b) (hk : okN k = true) (hfit : used (mapV Prod.snd rs) + b.length ≤ cap) (hyes : hasA k rs = true) :
    Calls Tryz.prog 16 #[.pointer (some ⟨rb, 0, none⟩), .string ⟨k.toArray⟩, vb] w fun e w' => e = .returned (.int .i64 0) ∧ (∃ vL' rs', mapV Prod.snd rs' = appS k b (mapV Prod.snd rs) ∧ RD w' rb vL' rs' cap (ext G w w')) ∧ Chg G w w' := by
  have HN := Lib.hid (name_any k w)
  rw [hk] at HN
  obtain ⟨i, hi, hfi, hnm⟩ := find_pos hyes
  obtain ⟨AL, cL, rfl, hcl1, hcl2⟩ := h.form
  unfold maxLen at hcl2
  obtain ⟨gL, rfl, -, -, -, cur, hbL⟩ := h.at hi
  obtain ⟨Ab, cb, hvb⟩ := own_form (h.files _ (List.getElem_mem hi))
  obtain ⟨hfl, hsl⟩ := h.flen hi
  have g2 : (i : Int) < (rs.length : Int) := by omega
  have H := Lib.hid h
  have HBB := Lib.hid hb
  have HU := Lib.hid (show ∀ W, Kept w W → _ from fun W hW => rused_same rb _ rs cap G W (h.kept hW))
  have c0 := h.c0
  have hf := h.fits
  have hcl := h.capLe
  obtain ⟨A, c, rfl, hc1, hc2, -⟩ := hb
  unfold maxLen at hc2
  have hux : ∃ u, used (mapV Prod.snd rs) = u := ⟨_, rfl⟩
  obtain ⟨u, hu⟩ := hux
  rw [hu] at HU hfit hf
  have HUU := Lib.hid hu
  have t1 : decide ((cap : Int) < (u : Int) + (b.length : Int)) = false := by simp; omega
  have hw : IntKind.i64.wrap ((u : Int) + (b.length : Int)) = (u : Int) + (b.length : Int) := IntWalk.i64_in _ (by omega)
  have HFI := Lib.hid hfi
  have HNM := Lib.hid hnm
  have HVB := Lib.hid hvb
  have HBL := Lib.hid hbL
  have t2 : decide ((i : Int) < 0) = false := by simp
  clear h hk hu hfi hnm hvb hbL hyes
  go_enter Tryz.func16, Tryz.ntmps16
  go_wp2_with fail
  refine HN.out.mono ?_
  rintro e w1 ⟨rfl, hw1⟩
  subst hw1
  go_wp2
  go_quiet ((go_at_call 59; exact Calls.quiet_of_same (HU.out _ ((Kept.refl w).drewN _))))
  rename_i nq
  have hkq : Kept w (w.drewN nq) := (Kept.refl w).drewN nq
  generalize w.drewN nq = wq at *
  clear hw
  have HF := Lib.hid (rfind_any k rb _ rs cap G wq (H.out.kept hkq))
  rw [HFI.out] at HF
  go_wp2_with fail
  refine HF.out.mono ?_
  rintro e w2 ⟨rfl, hw2⟩
  subst hw2
  go_wp2
  have c1' := (H.out.kept hkq).c1
  obtain ⟨gL', eg, q0, q1, q2, -⟩ := (H.out.kept hkq).at hi
  cases eg
  rw [HVB.out] at q1
  have ff := frozen_at (hkq.block' HBL.out) (i * 3 + 1)
  have HJ := Lib.hid (show ∀ W, Kept wq W → _ from fun W hW => join_any [rs[i].2.2.1, b] _ _ (Parts.two (t := 32) (w := W) (u := .slice Ab rs[i].2.2.1.length cb) (u' := .slice A b.length c) (by have := Bts.of_own (own_kept (H.out.files _ (List.getElem_mem hi)) (hkq.trans hW)); rw [HVB.out] at this; exact this) (HBB.out.kept (hkq.trans hW))) (by simp; omega))
  have HFL := Lib.hid (show [rs[i].2.2.1, b].flatten = rs[i].2.2.1 ++ b by simp)
  have hrb : rb < wq.heap.size := World.block_lt_of_cell? _ _ c1'
  have hgl : gL < wq.heap.size := World.block_lt_of_cell? _ _ q1
  go_region_with (go_at_call 34; refine (HJ.out _ ((Kept.refl wq).drew)).mono ?_; rintro e w3 ⟨v3, rfl, ho3, k3⟩; rw [HFL.out, List.length_append] at ho3; obtain ⟨A3, c3, rfl⟩ := own_form ho3; have HO3 := Lib.hid ho3; clear ho3; have kk := (((Kept.refl wq).drew).alloc _).trans k3; have z1 := kk.cell c1'; have z2 := kk.cell q1; have z3 := frozen_at ((hkq.trans kk).block' HBL.out) (i * 3 + 1))
  all_goals (
    have hkk := hkq.trans kk
    have hCd : Chg (fun x => x = gL) w (w3.setCell ⟨gL, i * 3 + 1, none⟩ (.slice A3 (rs[i].2.2.1.length + b.length) c3)) := (Chg.of_kept hkk).setCell _ (fun _ => rfl)
    have hCw : Chg (fun x => x = gL) w3 (w3.setCell ⟨gL, i * 3 + 1, none⟩ (.slice A3 (rs[i].2.2.1.length + b.length) c3)) := (Chg.refl (fun x => x = gL) w3).setCell _ (fun _ => rfl)
    have hrow := own_set (own_kept H.out.row hkk) (g := gL) rfl (i * 3 + 1) (.slice A3 (rs[i].2.2.1.length + b.length) c3)
    rw [rcs_setB hi _ (rs[i].2.2.1 ++ b)] at hrow
    have hge : ∀ x, (Value.slice A3 (rs[i].2.2.1.length + b.length) c3).ownBlock = some x → w.heap.size ≤ x ∧ x < w3.heap.size := fun x hx => by
      have h1 := HO3.out.lt x hx
      have h2 := hkq.size
      simp at h1
      exact ⟨by omega, h1.2⟩
    have hgw : gL < w.heap.size := (Array.getElem?_eq_some_iff.1 HBL.out).1
    have hup := used_put H.out.good.1 rs[i].1 (rs[i].2.2.1 ++ b, rs[i].2.2.2)
    rw [← filA_mapV, filA_at H.out.srt hi, HUU.out] at hup
    simp only [List.length_append] at hup
    obtain ⟨hR, hmR⟩ := H.out.setAt hCd hi (vb := .slice A3 (rs[i].2.2.1.length + b.length) c3) (f := (rs[i].2.2.1 ++ b, rs[i].2.2.2)) hrow (by simp only [List.length_append]; exact own_baseD (own_chg HO3.out hCw (fun x hx e => by have := (hge x hx).1; omega)) (Nat.zero_le _)) (fun x hx => .inr ⟨(hge x hx).1, Nat.lt_of_lt_of_le (hge x hx).2 hCw.size⟩) (by simp only [List.length_append]; omega) (by omega)
    have HR := Lib.hid hR
    have HMR := Lib.hid hmR
    clear hR hmR hrow hup
    go_wp2
    go_ret
    refine ⟨rfl, ⟨_, _, ?_, HR.out⟩, hCd.mono (fun x _ e => by rw [e]; exact H.out.rowG _ rfl)⟩
    rw [HMR.out]
    unfold appS
    rw [← filA_mapV, ← HNM.out, filA_at H.out.srt hi])
end Go.Proofs.YtngbgngfdklnlaaGreatDoor
set_option linter.unusedSimpArgs false
set_option linter.unusedVariables false
namespace Go.Proofs.YtngbgngfdklnlaaGreatDoor
open Go.RowKit
/-- The value leads to the document's disk, with these files. -/
def Ref (w : World) (x : Value) (cap : Nat) (fs : Fls) (G : Nat → Prop) : Prop := ∃ rb vL rs, x = .pointer (some ⟨rb, 0, none⟩) ∧ mapV Prod.snd rs = fs ∧ RD w rb vL rs cap G
theorem Ref.mono {w : World} {x : Value} {cap : Nat} {fs : Fls} {G G' : Nat → Prop} (h : Ref w x cap fs G) (hg : ∀ g, G g → G' g) : Ref w x cap fs G' := by
  obtain ⟨rb, vL, rs, rfl, rfl, h⟩ := h
  exact ⟨rb, vL, rs, rfl, rfl, h.mono hg⟩
theorem Ref.chg {w w' : World} {x : Value} {cap : Nat} {fs : Fls} {F G : Nat → Prop} (h : Ref w x cap fs G) (c : Chg F w w') (hF : ∀ g, G g → ¬ F g) : Ref w' x cap fs G := by
  obtain ⟨rb, vL, rs, rfl, rfl, h⟩ := h
  exact ⟨rb, vL, rs, rfl, rfl, h.chg c hF⟩
theorem Ref.kept {w w' : World} {x : Value} {cap : Nat} {fs : Fls} {G : Nat → Prop} (h : Ref w x cap fs G) (k : Kept w w') : Ref w' x cap fs G := h.chg (Chg.of_kept (F := no) k) (fun _ _ x => x)
theorem Ref.still {w w' : World} {x : Value} {cap : Nat} {fs : Fls} {G : Nat → Prop} (h : Ref w x cap fs G) (k : Kept w w') : Ref w' x cap fs (ext G w w') ∧ Chg G w w' := ⟨(h.kept k).mono (fun _ x => .inl x), Chg.of_kept k⟩
theorem rappend_any (k : Nm) (b : List UInt8) (vb x : Value) (cap : Nat) (fs : Fls) (G : Nat → Prop) (w : World) (h : Ref w x cap fs G) (hb : Bts w vb b) (hlim : b.length ≤ 140737488355328) (hn : fs.length < 2000000000000) :
    Calls Tryz.prog 16 #[x, .string ⟨k.toArray⟩, vb] w fun e w' => e = .returned (.int .i64 (okA cap k b fs)) ∧ Ref w' x cap (if okA cap k b fs = 0 then appS k b fs else fs) (ext G w w') ∧ Chg G w w' := by
  have HR := h
  obtain ⟨rb, vL, rs, rfl, rfl, h⟩ := h
  unfold okA
  cases hk : okN k with
  | false =>
    rw [if_pos rfl]
    exact (rappend_name k vb rb w hk).mono fun e w' ⟨h1, h2⟩ => ⟨h1, HR.still h2⟩
  | true =>
    rw [if_neg (by simp)]
    by_cases hf : cap < used (mapV Prod.snd rs) + b.length
    · rw [if_pos hf]
      exact (rappend_space k b vb rb vL rs cap G w h hb hk hlim hf).mono fun e w' ⟨h1, h2⟩ => ⟨h1, HR.still h2⟩
    · rw [if_neg hf, if_pos rfl]
      cases hh : hasA k rs with
      | false =>
        refine (rappend_new k b vb rb vL rs cap G w h hb hk (by omega) hh (by simpa [mapV] using hn)).mono ?_
        rintro e w' ⟨h1, ⟨vL', rs', h2, h3⟩, h4⟩
        exact ⟨h1, ⟨rb, vL', rs', rfl, h2, h3⟩, h4⟩
      | true =>
        refine (rappend_old k b vb rb vL rs cap G w h hb hk (by omega) hh).mono ?_
        rintro e w' ⟨h1, ⟨vL', rs', h2, h3⟩, h4⟩
        exact ⟨h1, ⟨rb, vL', rs', rfl, h2, h3⟩, h4⟩
set_option maxRecDepth 100000 in
set_option maxHeartbeats 4000000 in
theorem rsync_no (ls : List Nm) (v : Value) (rb : Nat) (vL : Value) (rs : St) (cap : Nat) (G : Nat → Prop) (w : World) (h : RD w rb vL rs cap G) (hv : Txts w v ls) (hall : allT ls rs ≠ 0) :
    Calls Tryz.prog 51 #[.pointer (some ⟨rb, 0, none⟩), v] w fun e w' => e = .returned (.int .i64 (allT ls rs)) ∧ Kept w w' := by
  have HC := Lib.hid (rall_any ls v rb vL rs cap G w h hv)
  obtain ⟨A, c, rfl, hc1, hc2⟩ := hv.form
  clear h hv
  generalize allT ls rs = e0 at *
  have t0 : (e0 != 0) = true := by simpa using hall
  unfold maxLen at hc2
  go_enter Tryz.func51, Tryz.ntmps51
  go_wp2_with fail
  refine HC.out.mono ?_
  rintro e w1 ⟨rfl, hw1⟩
  subst hw1
  go_wp2
  go_ret
  exact ⟨rfl, Kept.refl _⟩
theorem rsync_any (ls : List Nm) (v x : Value) (cap : Nat) (fs : Fls) (G : Nat → Prop) (w : World) (h : Ref w x cap fs G) (hv : ∀ W, Chg G w W → Txts W v ls) :
    Calls Tryz.prog 51 #[x, v] w fun e w' => e = .returned (.int .i64 (allS ls fs)) ∧ Ref w' x cap (if allS ls fs = 0 then syncS ls fs else fs) (ext G w w') ∧ Chg G w w' := by
  have HR := h
  obtain ⟨rb, vL, rs, rfl, rfl, h⟩ := h
  rw [← allT_eq]
  by_cases h0 : allT ls rs = 0
  · rw [if_pos h0, h0]
    refine (rsync_ok ls v rb vL rs cap G w h hv h0).mono ?_
    rintro e w' ⟨h1, ⟨vL', rs', h2, h3⟩, h4⟩
    exact ⟨h1, ⟨rb, vL', rs', rfl, h2, h3⟩, h4⟩
  · rw [if_neg h0]
    exact (rsync_no ls v rb vL rs cap G w h (hv w (Chg.refl _ _)) h0).mono fun e w' ⟨h1, h2⟩ => ⟨h1, HR.still h2⟩
/-! ### Remove -/
set_option maxRecDepth 100000 in
set_option maxHeartbeats 4000000 in
theorem rremove_ok (ls : List Nm) (v : Value) (rb : Nat) (vL : Value) (rs : St) (cap : Nat) (G : Nat → Prop) (w : World) (h : RD w rb vL rs cap G) (hv : ∀ W, Chg G w W → Txts W v ls) (hall : allT ls rs = 0) :
    Calls Tryz.prog 18 #[.pointer (some ⟨rb, 0, none⟩), v] w fun e w' => e = .returned (.int .i64 0) ∧ (∃ vL' rs', mapV Prod.snd rs' = remS ls (mapV Prod.snd rs) ∧ RD w' rb vL' rs' cap (ext G w w')) ∧ Chg G w w' := by
  have H := Lib.hid h
  have HV := Lib.hid hv
  have HC := Lib.hid (rall_any ls v rb vL rs cap G w h (hv w (Chg.refl _ _)))
  rw [hall] at HC
  obtain ⟨A, c, rfl, hc1, hc2⟩ := (hv w (Chg.refl _ _)).form
  clear h hv hall
  unfold maxLen at hc2
  go_enter Tryz.func18, Tryz.ntmps18
  go_wp2_with fail
  refine HC.out.mono ?_
  rintro e w1 ⟨rfl, hw1⟩
  subst hw1
  go_wp2
  go_loopw [6] (fun i W => ∃ k : Nat, i = .int .i64 (k : Int) ∧ k ≤ ls.length ∧ (∃ vL' rs', mapV Prod.snd rs' = remS (ls.take k) (mapV Prod.snd rs) ∧ RD W rb vL' rs' cap (ext G w W)) ∧ Chg G w W) (fun i _ => ls.length - (intOf i).toNat)
  case atStart => exact ⟨0, rfl, Nat.zero_le _, ⟨vL, rs, rfl, H.out.mono (fun _ x => .inl x)⟩, Chg.refl _ _⟩
  case round =>
    obtain ⟨k, rfl, hk, ⟨vL', rs', hm, hd'⟩, hC⟩ := hrel
    by_cases hlt : k < ls.length
    · obtain ⟨b, o, rfl, hcell⟩ := (HV.out wr hC).at hlt
      have g1 : (k : Int) < (ls.length : Int) := by omega
      have HF := Lib.hid (rfind_any ls[k] rb vL' rs' cap _ wr hd')
      have HD := Lib.hid hd'
      have HM := Lib.hid hm
      clear hd' hm
      cases hh : hasA ls[k] rs' with
      | true =>
        obtain ⟨i, hi, hfi, hnm⟩ := find_pos hh
        rw [hfi] at HF
        have HDR := Lib.hid (rdrop_any i rb vL' rs' cap _ wr HD.out hi)
        have HCD := Lib.hid (show mapV Prod.snd (dropAt i rs') = remS (ls.take (k + 1)) (mapV Prod.snd rs) by
          rw [mapV_dropAt]
          unfold remS
          rw [foldl_take _ _ _ hlt]
          show _ = rem1 (remS (ls.take k) _) _
          rw [← HM.out]
          have := cut_drop HD.out.good.1 (i := i) (by rw [length_mapV]; exact hi)
          rw [mapV_get hi, hnm] at this
          exact this.symm)
        have t1 : decide ((0 : Int) ≤ (i : Int)) = true := by simp
        clear hh hfi hnm
        go_wp2_with fail
        refine HF.out.mono ?_
        rintro e w3 ⟨rfl, hw3⟩
        subst hw3
        go_wp2_with fail
        refine HDR.out.mono ?_
        rintro e w4 ⟨rfl, ⟨vL4, h4⟩, hc4⟩
        have H4 := Lib.hid h4
        clear h4
        go_wp2
        go_roundw
        case rel => exact ⟨k + 1, by go_num, by omega, ⟨_, _, HCD.out, H4.out.mono (fun x hx => ext_ext hC.size hc4.size hx)⟩, hC.chain (hc4.mono (fun x _ e => by rw [e]; exact HD.out.inG))⟩
        case measure => simp [intOf]; omega
      | false =>
        rw [find_neg hh] at HF
        have HCD := Lib.hid (show mapV Prod.snd rs' = remS (ls.take (k + 1)) (mapV Prod.snd rs) by
          unfold remS
          rw [foldl_take _ _ _ hlt]
          show _ = rem1 (remS (ls.take k) _) _
          rw [← HM.out]
          have hg : getA ls[k] (mapV Prod.snd rs') = none := by
            rw [← hasA_mapV Prod.snd, hasA_get] at hh
            cases hq : getA ls[k] (mapV Prod.snd rs') with
            | none => rfl
            | some x => rw [hq] at hh; cases hh
          exact (cut_none hg).symm)
        clear hh
        go_wp2_with fail
        refine HF.out.mono ?_
        rintro e w3 ⟨rfl, hw3⟩
        subst hw3
        go_wp2
        go_roundw
        case rel => exact ⟨k + 1, by go_num, by omega, ⟨_, _, HCD.out, HD.out⟩, hC⟩
        case measure => simp [intOf]; omega
    · obtain rfl : k = ls.length := by omega
      rw [List.take_length] at hm
      have HM := Lib.hid hm
      have HD := Lib.hid hd'
      clear hm hd'
      go_wp2
      go_ret
      exact ⟨rfl, ⟨_, rs', HM.out, HD.out⟩, hC⟩
set_option maxRecDepth 100000 in
set_option maxHeartbeats 4000000 in
theorem rremove_no (ls : List Nm) (v : Value) (rb : Nat) (vL : Value) (rs : St) (cap : Nat) (G : Nat → Prop) (w : World) (h : RD w rb vL rs cap G) (hv : Txts w v ls) (hall : allT ls rs ≠ 0) :
    Calls Tryz.prog 18 #[.pointer (some ⟨rb, 0, none⟩), v] w fun e w' => e = .returned (.int .i64 (allT ls rs)) ∧ Kept w w' := by
  have HC := Lib.hid (rall_any ls v rb vL rs cap G w h hv)
  obtain ⟨A, c, rfl, hc1, hc2⟩ := hv.form
  clear h hv
  generalize allT ls rs = e0 at *
  have t0 : (e0 != 0) = true := by simpa using hall
  unfold maxLen at hc2
  go_enter Tryz.func18, Tryz.ntmps18
  go_wp2_with fail
  refine HC.out.mono ?_
  rintro e w1 ⟨rfl, hw1⟩
  subst hw1
  go_wp2
  go_ret
  exact ⟨rfl, Kept.refl _⟩
theorem rremove_any (ls : List Nm) (v x : Value) (cap : Nat) (fs : Fls) (G : Nat → Prop) (w : World) (h : Ref w x cap fs G) (hv : ∀ W, Chg G w W → Txts W v ls) :
    Calls Tryz.prog 18 #[x, v] w fun e w' => e = .returned (.int .i64 (allS ls fs)) ∧ Ref w' x cap (if allS ls fs = 0 then remS ls fs else fs) (ext G w w') ∧ Chg G w w' := by
  have HR := h
  obtain ⟨rb, vL, rs, rfl, rfl, h⟩ := h
  rw [← allT_eq]
  by_cases h0 : allT ls rs = 0
  · rw [if_pos h0, h0]
    refine (rremove_ok ls v rb vL rs cap G w h hv h0).mono ?_
    rintro e w' ⟨h1, ⟨vL', rs', h2, h3⟩, h4⟩
    exact ⟨h1, ⟨rb, vL', rs', rfl, h2, h3⟩, h4⟩
  · rw [if_neg h0]
    exact (rremove_no ls v rb vL rs cap G w h (hv w (Chg.refl _ _)) h0).mono fun e w' ⟨h1, h2⟩ => ⟨h1, HR.still h2⟩
/-! ### Read -/
end Go.Proofs.YtngbgngfdklnlaaGreatDoor
