/- The walk of an index's Add: a Homely command. -/
import Derived.Test.YtgmpbalibdlhdaaQIAd2
import Derived.Test.YtgmpbalibdlhdaaQIClo
set_option linter.unusedSimpArgs false
set_option linter.unusedVariables false
namespace Go.Proofs.Ytgmpbalibdlhdaa
open Go.RowKit
section
variable {w : World} {xb mb n : Nat} {st : TSt} {L : List It}
set_option maxRecDepth 100000 in
set_option maxHeartbeats 4000000 in
theorem add_homely (h : IxAt w xb mb n st L) (x : It) (hx : okI n x) (hh : x.c.home.length ≤ 140737488355328) (hk : x.c.kind = 1) (hf : L.length < maxLen) : Calls Try.prog 18 #[.pointer (some ⟨xb, 0, none⟩), x.c.v, x.id, .int .i64 x.seq] w (AddTo w xb mb n L x) := by
  have HR := Lib.hid (fun w' ho hb (c : Chg (fun g => g = xb ∨ g = mb) w w') => AddTo.of hx (h.homely (w' := w') hx hh hk ho hb) c)
  have HKK := Lib.hid (show okK x.c.kind = true from decide_eq_true hx.1)
  have HB := Lib.hid h.blk
  have HLK := Lib.hid (fun X (k : Kept w X) => (h.kept k).owns.look x.c.home (by unfold maxLen; omega))
  have HST := Lib.hid (fun X (k : Kept w X) => (h.kept k).owns.store (by have := h.few; omega) x.c.home (by unfold maxLen; omega) (wiT (valT x.c.home st) x.rep x.num x.seq))
  have hlt := h.lt.1
  have hltm := h.lt.2
  have hne := h.ne
  obtain ⟨-, h1, ⟨n1, n2⟩, s1, s2⟩ := hx
  have hn7 := h.size.2
  obtain ⟨⟨kind, home, da, dn, dc⟩, rep, num, seq⟩ := x
  simp only at *
  unfold Cm.v It.id Cm.dv
  have HCL := Lib.hid (fun W => sclone_any home W (by omega))
  clear h hh hf
  have HP := Lib.hid (show decide (0 ≤ rep ∧ rep < n) = true from decide_eq_true h1)
  have t1 : decide (num < 1) = false := decide_eq_false (by omega)
  have t2 : decide (4611686018427387903 < num) = false := decide_eq_false (by omega)
  have t3 : decide (seq < 0) = false := decide_eq_false (by omega)
  have t4 : decide (4611686018427387902 < seq) = false := decide_eq_false (by omega)
  subst hk
  have h7 : 0 ≤ rep ∧ rep < 7 := by omega
  have HWV := Lib.hid (fun W => with_any (valT home st) rep num seq W h7)
  have HWA := Lib.hid (fun W => with_any (tp pA L) rep num seq W h7)
  clear h1 n1 n2 s1 s2 hn7 h7
  generalize putZ home (wiT (valT home st) rep num seq) st = st' at *
  generalize wiT (valT home st) rep num seq = V' at *
  generalize wiT (tp pA L) rep num seq = A' at *
  generalize valT home st = V at *
  generalize tp pG L = G at *
  generalize tp pA L = A at *
  unfold tv tcs at HWV HWA HLK HST
  have HK := Lib.hid (((Kept.refl w).alloc (.cells #[.int .i64 1, .string ⟨home.toArray⟩, .slice da dn dc] 34)).alloc (.cells #[.int .i64 rep, .int .i64 num] 47))
  have HB1 := Lib.hid (HK.out.block' HB.out)
  have HI := Lib.hid (two_new w (.cells #[.int .i64 1, .string ⟨home.toArray⟩, .slice da dn dc] 34) 47 (.int .i64 rep) (.int .i64 num))
  have HC := Lib.hid (cells3 (((Kept.refl _).alloc (.cells #[.int .i64 rep, .int .i64 num] 47)).block' (heap_alloc_new w (.cells #[.int .i64 1, .string ⟨home.toArray⟩, .slice da dn dc] 34))))
  go_enter Try.func18, Try.ntmps18
  go_upto_region 1 with (fail)
  generalize (w.alloc (.cells #[.int .i64 1, .string ⟨home.toArray⟩, .slice da dn dc] 34)).alloc (.cells #[.int .i64 rep, .int .i64 num] 47) = w1 at *
  obtain ⟨i0, i1⟩ := cells2 HI.out
  obtain ⟨c0, c1, c2⟩ := HC.out
  go_wp2_with fail
  refine (isKind_any 1 _).mono ?_
  rintro e w2 ⟨rfl, rfl⟩
  rw [HKK.out]
  have x1 : w1.cell? ⟨xb, 1, none⟩ = some (.map (some mb)) := by rw [cell_at HB1.out]; rfl
  go_wp2_with fail
  refine (xPlace_any n rep xb _ (by rw [cell_at HB1.out]; rfl)).mono ?_
  rintro e w2 ⟨rfl, rfl⟩
  rw [HP.out]
  go_wp2
  have hKd := (Kept.refl w1).drew
  have hl0 := HLK.out _ (HK.out.trans hKd)
  obtain ⟨wz, hz, -, -⟩ := HST.out _ (HK.out.trans hKd)
  clear hz
  go_region_held3 (fun X => X.cell? ⟨xb, 1, none⟩ = some (.map (some mb)) ∧ X.cell? ⟨w.heap.size, 1, none⟩ = some (.string ⟨home.toArray⟩) ∧ X.cell? ⟨w.heap.size + 1, 0, none⟩ = some (.int .i64 rep) ∧ X.cell? ⟨w.heap.size + 1, 1, none⟩ = some (.int .i64 num) ∧ Chg (fun g => g = mb) w1 X)
    (refine ⟨chg_cellS (F := fun g => g = mb) ?_ x1 hne, chg_cellS (F := fun g => g = mb) ?_ c1 (fun e => by omega), chg_cellS (F := fun g => g = mb) ?_ i0 (fun e => by omega), chg_cellS (F := fun g => g = mb) ?_ i1 (fun e => by omega), ?_⟩ <;> (first | exact Chg.refl _ _ | assumption | exact Chg.of_kept hKd | exact Chg.of_kept (by assumption)))
    (first
      | (go_at_call 26; refine (HCL.out _).mono ?_; rintro e w4 ⟨rfl, hk4⟩; have hq4 : Kept w1 w4 := (by first | exact hKd.trans hk4 | exact hq5.trans hk4); have hl4 := HLK.out _ (HK.out.trans hq4); obtain ⟨wa, hza, oza, gza⟩ := HST.out _ (HK.out.trans hq4); have hca : Chg (fun g => g = mb) w1 wa := (Chg.of_kept hq4).trans (Chg.of_grown (F := fun g => g = mb) gza (fun g hg _ => by cases hg; rfl)) (fun _ _ x => x); have OZA := Lib.hid oza; clear oza gza hk4)
      | (go_at_call 31; refine (HWV.out _).mono ?_; rintro e w5 ⟨rfl, hk5⟩; have hq5 : Kept w1 w5 := (by first | exact hKd.trans hk5 | exact hq4.trans hk5); obtain ⟨wb, hzb, ozb, gzb⟩ := HST.out _ (HK.out.trans hq5); have hcb : Chg (fun g => g = mb) w1 wb := (Chg.of_kept hq5).trans (Chg.of_grown (F := fun g => g = mb) gzb (fun g hg _ => by cases hg; rfl)) (fun _ _ x => x); have OZB := Lib.hid ozb; clear ozb gzb hk5))
  all_goals
    have HB4 := Lib.hid (hcb.block' HB1.out hne)
    have HI4 := Lib.hid (hcb.block' HI.out (fun e => by omega))
    have HC4 := Lib.hid hcb
    rename_i hHeld
    clear hHeld
    clear hzb hcb hl0 x1 c0 c1 c2 i0 i1
    go_wp2
    have hKe := (Kept.refl wb).drew
    obtain ⟨-, a0, a1, a2, a3, a4, a5, a6, a7⟩ := cells8 (hKe.block' HB4.out)
    obtain ⟨j0, j1⟩ := cells2 (hKe.block' HI4.out)
    go_region_with (go_at_call 31; refine (HWA.out _).mono ?_; rintro e w7 ⟨rfl, hk7⟩; have hkw := hKe.trans hk7; have hb3 := hkw.block' HB4.out; have f0 := frozen_at hb3 10; have f1 := frozen_at hb3 11; have f2 := frozen_at hb3 12; have f3 := frozen_at hb3 13; have f4 := frozen_at hb3 14; have f5 := frozen_at hb3 15; have f6 := frozen_at hb3 16; have f7 := frozen_at hb3 17; obtain ⟨-, z0, z1, z2, z3, z4, z5, z6, z7⟩ := cells8 hb3; have HB5 := Lib.hid hb3; have HK5 := Lib.hid hkw; clear hb3 hkw hk7)
    all_goals
      clear a0 a1 a2 a3 a4 a5 a6 a7 z0 z1 z2 z3 z4 z5 z6 z7 f0 f1 f2 f3 f4 f5 f6 f7 j0 j1
      obtain ⟨hb6, hc6⟩ := putA HB5.out A'
      have ho6 := map_chg (map_chg OZB.out (Chg.of_kept (F := no) HK5.out) (fun x => x)) hc6 (fun e => hne e.symm)
      have hk6 : Chg (fun g => g = xb ∨ g = mb) w _ := (Chg.of_kept (F := fun g => g = xb ∨ g = mb) HK.out).trans ((HC4.out.mono (G := fun g => g = xb ∨ g = mb) (fun _ _ x => .inr x)).trans (((Chg.of_kept (F := fun g => g = xb) HK5.out).trans hc6 (fun _ _ x => x)).mono (G := fun g => g = xb ∨ g = mb) (fun _ _ x => .inl x)) (fun _ _ x => x)) (fun _ _ x => x)
      have HE := Lib.hid (HR.out _ ho6 hb6 hk6)
      clear hb6 hc6 hk6 ho6
      go_wp2
      go_ret
      exact HE.out
end
end Go.Proofs.Ytgmpbalibdlhdaa
