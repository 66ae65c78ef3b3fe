/- The walk of parse. The walks of numbers, isName, and of the library's Contains at a log's names. -/
import Derived.Test.YtcdeagmoldbicaaGreatDoorGWApp2
set_option linter.unusedSimpArgs false
set_option linter.unusedVariables false
namespace Go.Proofs.YtcdeagmoldbicaaGreatDoor
open Go.RowKit
/-- What is new. -/
abbrev fresh (w w' : World) : Nat → Prop := ext no w w'
theorem Lgm.dummy : True := trivial
def numIn (w : World) (b o : Nat) : Nat := match w.cell? ⟨b, o, none⟩ with
  | some (.int _ x) => x.toNat
  | _ => 0
theorem numIn_of {w : World} {b o n : Nat} (h : w.cell? ⟨b, o, none⟩ = some (.int .i64 (n : Int))) : numIn w b o = n := by unfold numIn; rw [h]; simp
/-- What parse tells. -/
def ParsePost (w : World) (o : Option Sg) (e : Ending) (w' : World) : Prop := match o with
  | none => e = .returned (.tuple #[noSeg, .bool false]) ∧ Kept w w'
  | some s => ∃ rv, e = .returned (.tuple #[segV s rv, .bool true]) ∧ RecsAt w' rv s.recs (fresh w w') ∧ Kept w w'
set_option maxRecDepth 100000 in
set_option maxHeartbeats 4000000 in
theorem parse_any (n : Nat) (l : List UInt8) (v : Value) (w : World) (hv : Bts w v l) (hl : l.length ≤ 1073741824) :
    Calls Tryz.prog 93 #[.int .i64 (n : Int), v] w (ParsePost w (parseS n l)) := by
  have HV := Lib.hid hv
  obtain ⟨A, c, hvv, hc1, hc2, -⟩ := hv
  subst hvv
  unfold maxLen at hc2
  have hk0 := (Kept.refl w).alloc (.cells #[.int .i64 0, .int .i64 0, .int .i64 0, .slice none 0 0] 104)
  have HU := Lib.hid (unframe_any l 0 _ _ (HV.out.kept hk0) (by omega))
  unfold UnPost at HU
  have hps : parseS n l = if (unAt l 0).2.2 ≠ 0 then none
    else if (numAt (unAt l 0).1 0).2.2 ≠ 0 ∨ (numAt (unAt l 0).1 0).2.1 ≠ ((unAt l 0).1.length : Int) then none
    else some ⟨n, (numAt (unAt l 0).1 0).1.toNat, (recsAt l (8 + (unAt l 0).1.length)).2, (recsAt l (8 + (unAt l 0).1.length)).1⟩ := rfl
  by_cases h0 : (unAt l 0).2.2 = 0
  · have hu : unAt l ((0 : Nat) : Int) = ((unAt l 0).1, (unAt l 0).2.1, 0) := Prod.ext rfl (Prod.ext rfl h0)
    obtain ⟨hu1, hu2, hu3, -⟩ := unAt_inv hu
    rw [if_neg (by simpa using h0)] at hps
    rw [h0, hu1] at HU
    generalize (unAt l 0).1 = p at *
    clear h0 hu hu1
    by_cases h1 : (numAt p 0).2.2 ≠ 0 ∨ (numAt p 0).2.1 ≠ (p.length : Int)
    · rw [if_pos h1] at hps
      rw [hps]
      unfold ParsePost
      clear hps
      have HN := Lib.hid (show ∀ v W, Bts W v p → _ from fun v W hW => number_read p 0 v W hW (by omega))
      generalize numAt p 0 = m at *
      obtain ⟨m1, m2, m3⟩ := m
      simp only at h1 HN
      by_cases h2 : m3 = 0
      · subst h2
        have h3 : m2 ≠ (p.length : Int) := by
          rcases h1 with h1 | h1
          · exact absurd rfl h1
          · exact h1
        have t1 : (m2 != (p.length : Int)) = true := by simpa using h3
        clear h1 h3
        go_enter Tryz.func93, Tryz.ntmps93
        go_wp2_with fail
        refine HU.out.mono ?_
        rintro e w1 ⟨v1, rfl, ho1, k1⟩
        have HB := Lib.hid (Bts.of_own ho1)
        obtain ⟨A1, c1, rfl⟩ := own_form ho1
        have k2 := hk0.trans k1
        have hb := k1.block' (heap_alloc_new w (.cells #[.int .i64 0, .int .i64 0, .int .i64 0, .slice none 0 0] 104))
        have q0 := frozen_at hb 0
        have q1 := frozen_at hb 1
        have q2 := frozen_at hb 2
        have q3 := frozen_at hb 3
        have r0 := cell_at hb 0
        have r1 := cell_at hb 1
        have r2 := cell_at hb 2
        have r3 := cell_at hb 3
        simp only [List.getElem?_toArray, List.getElem?_cons_zero, List.getElem?_cons_succ] at r0 r1 r2 r3
        clear ho1 hb
        go_wp2_with fail
        refine (HN.out _ _ HB.out).mono ?_
        rintro e w2 ⟨rfl, rfl⟩
        go_wp2
        exact bodyPost_ret (v := .tuple #[noSeg, .bool false]) (by simp [results, Tryz.results93, go_sem, noSeg, q0, q1, q2, q3, r0, r1, r2, r3]) rfl ⟨rfl, by
          refine Chg.kept (F := fun g => g = w.heap.size) (Kept.refl w) ?_ (fun g e => by omega)
          repeat (first | exact Chg.of_kept k2 | refine Chg.setCell ?_ _ (fun _ => rfl))⟩
      · have t1 : (m3 != 0) = true := by simpa using h2
        clear h1 h2
        go_enter Tryz.func93, Tryz.ntmps93
        go_wp2_with fail
        refine HU.out.mono ?_
        rintro e w1 ⟨v1, rfl, ho1, k1⟩
        have HB := Lib.hid (Bts.of_own ho1)
        obtain ⟨A1, c1, rfl⟩ := own_form ho1
        have k2 := hk0.trans k1
        have hb := k1.block' (heap_alloc_new w (.cells #[.int .i64 0, .int .i64 0, .int .i64 0, .slice none 0 0] 104))
        have q0 := frozen_at hb 0
        have q1 := frozen_at hb 1
        have q2 := frozen_at hb 2
        have q3 := frozen_at hb 3
        have r0 := cell_at hb 0
        have r1 := cell_at hb 1
        have r2 := cell_at hb 2
        have r3 := cell_at hb 3
        simp only [List.getElem?_toArray, List.getElem?_cons_zero, List.getElem?_cons_succ] at r0 r1 r2 r3
        clear ho1 hb
        go_wp2_with fail
        refine (HN.out _ _ HB.out).mono ?_
        rintro e w2 ⟨rfl, rfl⟩
        go_wp2
        exact bodyPost_ret (v := .tuple #[noSeg, .bool false]) (by simp [results, Tryz.results93, go_sem, noSeg, q0, q1, q2, q3, r0, r1, r2, r3]) rfl ⟨rfl, by
          refine Chg.kept (F := fun g => g = w.heap.size) (Kept.refl w) ?_ (fun g e => by omega)
          repeat (first | exact Chg.of_kept k2 | refine Chg.setCell ?_ _ (fun _ => rfl))⟩
    · simp only [not_or, Classical.not_not] at h1
      obtain ⟨h1, h2⟩ := h1
      rw [if_neg (by simp [h1, h2])] at hps
      rw [hps]
      unfold ParsePost
      clear hps
      have HN := Lib.hid (show ∀ v W, Bts W v p → _ from fun v W hW => number_read p 0 v W hW (by omega))
      rcases numAt_cases p 0 with ⟨e0, he0, -, hx⟩ | ⟨m0, x, cx, hm0, hx, hcx, -, hpx, hmax⟩
      · rw [hx] at h1
        exact absurd h1 (by simpa using he0)
      · rw [hx] at HN h2
        simp only at HN h2
        rw [h2] at HN
        rw [hx]
        simp only [Int.toNat_natCast]
        clear h1 h2 hx hcx hpx hm0
        have HUL := Lib.hid (show ∀ a (W : World), Kept w W → _ from fun a W hW => unframe_any l a _ W (HV.out.kept hW) (by omega))
        unfold UnPost at HUL
        obtain ⟨i1, i2, -, -, -⟩ := recsAt_bytes l _ (8 + p.length) (Nat.le_refl _) (by omega)
        go_enter Tryz.func93, Tryz.ntmps93
        go_wp2_with fail
        refine HU.out.mono ?_
        rintro e w1 ⟨v1, rfl, ho1, k1⟩
        have HB := Lib.hid (Bts.of_own ho1)
        obtain ⟨A1, c1, rfl⟩ := own_form ho1
        have k2 := hk0.trans k1
        have hb := k1.block' (heap_alloc_new w (.cells #[.int .i64 0, .int .i64 0, .int .i64 0, .slice none 0 0] 104))
        have q0 := frozen_at hb 0
        have q1 := frozen_at hb 1
        have q2 := frozen_at hb 2
        have q3 := frozen_at hb 3
        have r0 := cell_at hb 0
        have r1 := cell_at hb 1
        have r2 := cell_at hb 2
        have r3 := cell_at hb 3
        simp only [List.getElem?_toArray, List.getElem?_cons_zero, List.getElem?_cons_succ] at r0 r1 r2 r3
        have HB0 := Lib.hid hb
        clear ho1 hb q0 q1 q2 q3 r0 r1 r2 r3
        go_wp2_with fail
        refine (HN.out _ _ HB.out).mono ?_
        rintro e w2 ⟨rfl, rfl⟩
        go_wp2
        have hw1 : w.heap.size < w1.heap.size := (Array.getElem?_eq_some_iff.1 HB0.out).1
        go_loopw [] (fun W => ∃ (rs : List (List UInt8)) (siz : Nat) (rv : Value), W.heap[w1.heap.size]? = some (.cells #[.int .i64 (n : Int), .int .i64 (x : Int), .int .i64 (siz : Int), rv] 104 (0, 0)) ∧ RecsAt W rv rs (fresh w1 W) ∧ Kept w1 W ∧ rs ++ (recsAt l siz).1 = (recsAt l (8 + p.length)).1 ∧ (recsAt l siz).2 = (recsAt l (8 + p.length)).2 ∧ siz ≤ l.length ∧ rs.length ≤ siz) (fun W => l.length - numIn W w1.heap.size 2)
        case atStart =>
          refine ⟨[], 8 + p.length, .slice none 0 0, ?_, RecsAt.nil _ _, (Kept.refl w1).alloc _, rfl, rfl, by omega, Nat.zero_le _⟩
          have := heap_alloc_new w1 (.cells #[.int .i64 (n : Int), .int .i64 (x : Int), .int .i64 ((0 + 8 + p.length : Nat) : Int), .slice none 0 0] 104)
          simpa using this
        case round =>
          obtain ⟨rs, siz, rv, hbt, hrec, hK, e1, e2, hsl, hrl⟩ := hrel
          have HBT := Lib.hid hbt
          have HREC := Lib.hid hrec
          have HE1 := Lib.hid e1
          have HE2 := Lib.hid e2
          obtain ⟨rA, rc, hrv, hrc1, hrc2⟩ := hrec.form
          subst hrv
          have c0 := cell_at hbt 0
          have c1 := cell_at hbt 1
          have c2 := cell_at hbt 2
          have c3 := cell_at hbt 3
          simp only [List.getElem?_toArray, List.getElem?_cons_zero, List.getElem?_cons_succ] at c0 c1 c2 c3
          have HNI := Lib.hid (numIn_of c2)
          have HUW := Lib.hid (HUL.out (siz : Int) wr (k2.trans hK))
          clear hbt hrec e1 e2
          by_cases h0 : (unAt l (siz : Int)).2.2 = 0
          · have hu : unAt l (siz : Int) = ((unAt l (siz : Int)).1, (unAt l (siz : Int)).2.1, 0) := Prod.ext rfl (Prod.ext rfl h0)
            obtain ⟨hu1, hu2, hu3, -⟩ := unAt_inv hu
            have hgo := recsAt_go hu
            rw [h0, hu1] at HUW
            generalize (unAt l (siz : Int)).1 = r at *
            have HGO := Lib.hid hgo
            clear h0 hu hu1 hgo
            go_wp2_with fail
            refine HUW.out.mono ?_
            rintro e w4 ⟨v4, rfl, ho4, k4⟩
            have HB4 := Lib.hid (Bts.of_own ho4)
            obtain ⟨A4, c4, rfl⟩ := own_form ho4
            have hbt4 := k4.block' HBT.out
            have d2 := k4.cell c2
            have HBT4 := Lib.hid hbt4
            have HR4 := Lib.hid (HREC.out.kept k4)
            have hsub : IntKind.i64.wrap (((siz + 8 + r.length : Nat) : Int) - (siz : Int)) = ((8 + r.length : Nat) : Int) := by
              rw [IntWalk.i64_in _ (by omega)]
              omega
            clear ho4 hbt4
            go_wp2_with fail
            have hcast : ((siz : Int) + 8 + (r.length : Int) - (siz : Int)) = ((8 + r.length : Nat) : Int) := by omega
            try rw [hcast]
            refine (add_any w1.heap.size 0 _ _ siz (8 + r.length) (.slice rA rs.length rc) rs r _ (fresh w1 wr) w4 HBT4.out (by simp) (by simp) (by decide) (by decide) HR4.out HB4.out (by omega) (by omega) (by omega)).mono ?_
            rintro e w5 ⟨rfl, rv5, hb5, hr5, hg5, hC5⟩
            have HB5 := Lib.hid hb5
            have HR5 := Lib.hid hr5
            clear hb5 hr5
            go_wp2
            go_roundw
            case rel =>
              have hs4 := k4.size
              have hK5 : Kept w1 w5 := hC5.kept (hK.trans k4) (fun g hg => by
                rcases hg with rfl | hg
                · omega
                · rcases (HREC.out.ok hg).1 with x | x
                  · exact x.elim
                  · exact x.1)
              refine ⟨rs ++ [r], siz + (8 + r.length), rv5, by simpa using HB5.out, HR5.out.mono (fun g hg => ?_), hK5, ?_, ?_, by omega, by simp; omega⟩
              · rcases hg with (x | x) | x
                · exact x.elim
                · exact .inr ⟨x.1, by have := hC5.size; omega⟩
                · exact .inr ⟨by have := hK.size; omega, x.2⟩
              · rw [← HE1.out, HGO.out, List.append_assoc, show siz + (8 + r.length) = siz + 8 + r.length by omega]
                rfl
              · rw [← HE2.out, HGO.out, show siz + (8 + r.length) = siz + 8 + r.length by omega]
            case measure =>
              have hc5 := cell_at HB5.out 2
              have : numIn w5 w1.heap.size 2 = siz + (8 + r.length) := numIn_of (by rw [hc5]; simp)
              rw [this, HNI.out]
              omega
          · have hst := recsAt_stop h0
            have t1 : ((unAt l (siz : Int)).2.2 != 0) = true := by simpa using h0
            generalize unAt l (siz : Int) = u at *
            obtain ⟨u1, u2, u3⟩ := u
            simp only at HUW t1
            have HST := Lib.hid hst
            clear h0 hst
            go_wp2_with fail
            refine HUW.out.mono ?_
            rintro e w4 ⟨v4, rfl, ho4, k4⟩
            have d0 := k4.cell c0
            have d1 := k4.cell c1
            have d2 := k4.cell c2
            have d3 := k4.cell c3
            have hb4 := (hK.trans k4).block' HB0.out
            have q0 := frozen_at hb4 0
            have q1 := frozen_at hb4 1
            have q2 := frozen_at hb4 2
            have q3 := frozen_at hb4 3
            have r0 := cell_at hb4 0
            have r1 := cell_at hb4 1
            have r2 := cell_at hb4 2
            have r3 := cell_at hb4 3
            simp only [List.getElem?_toArray, List.getElem?_cons_zero, List.getElem?_cons_succ] at r0 r1 r2 r3
            have HR4 := Lib.hid (HREC.out.kept k4)
            have hK4 := hK.trans k4
            have hs4 := hK4.size
            clear ho4 hb4
            go_wp2
            have hC6 : Chg (fun g => g = w.heap.size) w4 ((((w4.setCell ⟨w.heap.size, 0, none⟩ (.int .i64 (n : Int))).setCell ⟨w.heap.size, 1, none⟩ (.int .i64 (x : Int))).setCell ⟨w.heap.size, 2, none⟩ (.int .i64 (siz : Int))).setCell ⟨w.heap.size, 3, none⟩ (.slice rA rs.length rc)) := by
              repeat (first | exact Chg.refl _ _ | refine Chg.setCell ?_ _ (fun _ => rfl))
            refine bodyPost_ret (v := .tuple #[.agg #[.int .i64 (n : Int), .int .i64 (x : Int), .int .i64 (siz : Int), .slice rA rs.length rc], .bool true]) (by simp [results, Tryz.results93, go_sem, q0, q1, q2, q3, r0, r1, r2, r3]) rfl ⟨.slice rA rs.length rc, ?_, ?_, hC6.kept (k2.trans hK4) (fun g e => by omega)⟩
            · unfold segV
              rw [← HE2.out, HST.out]
            · have : (recsAt l (8 + p.length)).1 = rs := by rw [← HE1.out, HST.out]; simp
              rw [this]
              have hz := hC6.size
              refine (HR4.out.chg hC6 (fun g hg e => ?_)).mono (fun g hg => ?_)
              · rcases hg with x | x
                · exact x.elim
                · omega
              · rcases hg with x | x
                · exact x.elim
                · have := k4.size
                  exact .inr ⟨by omega, by omega⟩
  · rw [if_pos (by simpa using h0)] at hps
    rw [hps]
    unfold ParsePost
    have t1 : ((unAt l 0).2.2 != 0) = true := by simpa using h0
    generalize unAt l 0 = u at *
    obtain ⟨u1, u2, u3⟩ := u
    simp only at HU t1
    clear hps h0
    go_enter Tryz.func93, Tryz.ntmps93
    go_wp2_with fail
    refine HU.out.mono ?_
    rintro e w1 ⟨v1, rfl, ho1, k1⟩
    have HB := Lib.hid (Bts.of_own ho1)
    obtain ⟨A1, c1, rfl⟩ := own_form ho1
    have k2 := hk0.trans k1
    have hb := k1.block' (heap_alloc_new w (.cells #[.int .i64 0, .int .i64 0, .int .i64 0, .slice none 0 0] 104))
    have q0 := frozen_at hb 0
    have q1 := frozen_at hb 1
    have q2 := frozen_at hb 2
    have q3 := frozen_at hb 3
    have r0 := cell_at hb 0
    have r1 := cell_at hb 1
    have r2 := cell_at hb 2
    have r3 := cell_at hb 3
    simp only [List.getElem?_toArray, List.getElem?_cons_zero, List.getElem?_cons_succ] at r0 r1 r2 r3
    clear ho1 hb
    go_wp2
    exact bodyPost_ret (v := .tuple #[noSeg, .bool false]) (by simp [results, Tryz.results93, go_sem, noSeg, q0, q1, q2, q3, r0, r1, r2, r3]) rfl ⟨rfl, by
      refine Chg.kept (F := fun g => g = w.heap.size) (Kept.refl w) ?_ (fun g e => by omega)
      repeat (first | exact Chg.of_kept k2 | refine Chg.setCell ?_ _ (fun _ => rfl))⟩
end Go.Proofs.YtcdeagmoldbicaaGreatDoor
set_option linter.unusedSimpArgs false
set_option linter.unusedVariables false
namespace Go.Proofs.YtcdeagmoldbicaaGreatDoor
open Go.RowKit
theorem kept_bytesWorld (w : World) (e : TypeId) (s : ByteArray) : Kept w (Lib.bytesWorld w e s) := by
  unfold Lib.bytesWorld
  have h : Kept w (w.drew.alloc (.cells (Lib.bytesCells w e s) e)) := ((Kept.refl w).drew).alloc _
  exact Lib.below_freeze h (Nat.le_refl _) 1
theorem trim_any (n : Nat) (w : World) : Calls Tryz.prog 92 #[.string ⟨(fileN n).toArray⟩, .string ⟨(lg ++ dot).toArray⟩] w fun e w' => e = .returned (.string ⟨(dk 6 n).toArray⟩) ∧ w = w' := by
  refine (Tryz.strings_TrimPrefix ⟨(fileN n).toArray⟩ ⟨(lg ++ dot).toArray⟩ w).mono ?_
  rintro e w' ⟨rfl, rfl⟩
  exact ⟨by rw [show (⟨(fileN n).toArray⟩ : ByteArray).data.toList = fileN n by simp, show (⟨(lg ++ dot).toArray⟩ : ByteArray).data.toList = lg ++ dot by simp, trim_file], rfl⟩
theorem atoi_any (n : Nat) (w : World) (hn : n < 1000000) : Calls Tryz.prog 91 #[.string ⟨(dk 6 n).toArray⟩] w fun e w' => e = .returned (.tuple #[.int .i64 (n : Int), .nilIface]) ∧ Kept w w' := by
  refine (Tryz.strconv_Atoi ⟨(dk 6 n).toArray⟩ (n : Int) (by rw [str_size, dk_len]; omega) (by simpa using atoi_dk n hn) w).mono ?_
  rintro e w' ⟨rfl, t, rfl⟩
  exact ⟨rfl, kept_bytesWorld _ _ _⟩
def numCells (ls : List Nat) : List Value := ls.map fun (n : Nat) => Value.int .i64 (n : Int)
theorem Ints.of_nums {w : World} {base : Nat} {v : Value} {n : Nat} {ls : List Nat} (h : w.ownsRow base 3 1 v n (numCells ls)) : Ints w v (ls.map fun (x : Nat) => (x : Int)) := by
  have hn : ls.length = n := by have := h.1; simpa [numCells] using this
  rcases h.2 with ⟨rfl, h0⟩ | ⟨g, cap, cur, rfl, hB, hg, hc, hm, hs, ht⟩
  · obtain rfl : ls = [] := List.eq_nil_of_length_eq_zero (by omega)
    exact ⟨none, 0, rfl, Nat.le_refl _, by decide, fun h => absurd h (by simp)⟩
  · subst hn
    refine ⟨_, cap, by simp, by simpa using hc, hm, fun _ => ⟨g, 0, rfl, fun k x hx => ?_⟩⟩
    rw [List.getElem?_map] at hx
    obtain ⟨y, hy, rfl⟩ := Option.map_eq_some_iff.1 hx
    have := h.cells (g := g) rfl k (.int .i64 (y : Int)) (by simp [numCells, hy])
    have e : ((⟨g, 0, none⟩ : Addr).add k) = ⟨g, 0 + k, none⟩ := by unfold Addr.add; split <;> simp_all
    rw [e] at this
    exact this
set_option maxRecDepth 100000 in
set_option maxHeartbeats 4000000 in
theorem numbers_wal (ns : Ns) (d : Value) (cap : Nat) (F : Nat → Prop) (w : World) (hd : Disk w d cap (dsk ns) F) (hns : NsOk ns) (hT : Tb w) (hlen : ns.length ≤ 1000000) :
    Calls Tryz.prog 72 #[.agg #[d, .string ⟨lg.toArray⟩]] w fun e w' => ∃ v, e = .returned v ∧ w'.ownsRow w.heap.size 3 1 v ns.length (numCells (ns.map Prod.fst)) ∧ Kept w w' := by
  obtain ⟨db, rfl⟩ := hd.form
  have hk0 := (Kept.refl w).alloc (.cells #[.pointer (some ⟨db, 0, none⟩), .string ⟨lg.toArray⟩] 81)
  have HF := Lib.hid (files_any cap (dsk ns) F _ _ (hd.kept hk0))
  rw [names_dsk] at HF
  have HNS := Lib.hid hns
  have HFI := Lib.hid (show ∀ (n : Nat) W, n < 1000000 → Kept w W → _ from fun n W hn hW => file_any (.pointer (some ⟨db, 0, none⟩)) n W (hT.kept hW) hn)
  have HLD := Lib.hid (show (⟨lg.toArray⟩ : ByteArray) ++ ⟨#[46]⟩ = ⟨(lg ++ dot).toArray⟩ from str_append lg dot)
  clear hd hns hT
  go_enter Tryz.func72, Tryz.ntmps72
  go_wp2_with fail
  refine HF.out.mono ?_
  rintro e w1 ⟨v1, rfl, ht1, k1⟩
  have HT1 := Lib.hid ht1
  obtain ⟨A1, c1, rfl, hc1, hc2⟩ := ht1.form
  rw [List.length_map] at hc1
  unfold maxLen at hc2
  have hb := k1.block' (heap_alloc_new w (.cells #[.pointer (some ⟨db, 0, none⟩), .string ⟨lg.toArray⟩] 81))
  have HB := Lib.hid hb
  have hkk := hk0.trans k1
  rw [List.length_map]
  clear ht1 hb
  go_wp2
  go_loopw [3, 12] (fun t i W => ∃ k : Nat, i = .int .i64 (k : Int) ∧ k ≤ ns.length ∧ W.ownsRow w1.heap.size 3 1 t k (numCells ((ns.take k).map Prod.fst)) ∧ Kept w1 W) (fun _ i _ => ns.length - (intOf i).toNat)
  case atStart => exact ⟨0, rfl, Nat.zero_le _, World.ownsRow_nil _ _ _ _, Kept.refl w1⟩
  case round =>
    obtain ⟨k, rfl, hk, hO, hK⟩ := hrel
    by_cases hlt : k < ns.length
    · obtain ⟨b, o, rfl, hcell⟩ := (HT1.out.kept hK).at (k := k) (by simpa using hlt)
      have hnk := HNS.out.2 ns[k] (List.getElem_mem hlt)
      have hnm : (ns.map fun p => fileN p.1)[k]'(by simpa using hlt) = fileN ns[k].1 := by simp
      rw [hnm] at hcell
      have HTS := Lib.hid (show (ns.take (k + 1)).map Prod.fst = (ns.take k).map Prod.fst ++ [ns[k].1] by rw [List.take_succ_eq_append_getElem hlt, List.map_append]; rfl)
      generalize ns[k].1 = n at *
      have hbw := hK.block' HB.out
      have p0 := cell_at hbw 0
      have p1 := cell_at hbw 1
      simp only [List.getElem?_toArray, List.getElem?_cons_zero, List.getElem?_cons_succ] at p0 p1
      have g1 : (k : Int) < (ns.length : Int) := by omega
      have t1 : decide ((1 : Int) ≤ (n : Int)) = true := by simp; omega
      obtain ⟨A3, c3, hv3⟩ := own_form hO
      subst hv3
      have HO := Lib.hid hO
      have HBW := Lib.hid hbw
      clear hO hnm hbw
      go_wp2_with fail
      rw [HLD.out]
      refine (trim_any n wr).mono ?_
      rintro e w2 ⟨rfl, hw2⟩
      subst hw2
      go_wp2_with fail
      refine (atoi_any n wr hnk.2).mono ?_
      rintro e w3 ⟨rfl, k3⟩
      have p0' := k3.cell p0
      have p1' := k3.cell p1
      go_wp2_with fail
      refine (HFI.out n w3 hnk.2 (hkk.trans (hK.trans k3))).mono ?_
      rintro e w4 ⟨rfl, k4⟩
      have hK4 := hK.trans (k3.trans k4)
      have hs4 := hK4.size
      have hO4 := own_kept HO.out (k3.trans k4)
      have HO4 := Lib.hid hO4
      clear hO4
      go_wp2_with (at_builtin; refine wpList_append_one elemI rfl _ _ rfl w1.heap.size _ _ _ [.int .i64 (n : Int)] w4.heap.size 1 rfl rfl (own_kept HO4.out ((Kept.refl w4).alloc _)) rfl (cell_new1 w4 _ _) (one_cell rfl) (by omega) (by unfold maxLen; omega) (by simp; omega) ?_; intro v5 w5 a1 a2 a3)
      go_roundw
      case rel =>
        refine ⟨k + 1, by go_num, by omega, ?_, (hK4.alloc _).grown a2 (own_ge HO4.out)⟩
        rw [HTS.out]
        unfold numCells at a1 ⊢
        rw [List.map_append]
        exact a1
      case measure => simp [intOf]; omega
    · obtain rfl : k = ns.length := by omega
      rw [List.take_length] at hO
      have HO := Lib.hid hO
      clear hO
      go_wp2
      go_ret
      exact ⟨_, rfl, own_base' HO.out hkk.size, hkk.trans hK⟩
end Go.Proofs.YtcdeagmoldbicaaGreatDoor
