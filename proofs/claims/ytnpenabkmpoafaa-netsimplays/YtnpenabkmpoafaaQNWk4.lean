/- The walks of back and lose. -/
import Derived.Test.YtnpenabkmpoafaaGNWk13
import Derived.IntWalk
set_option linter.unusedSimpArgs false
set_option linter.unusedVariables false
namespace Go.Proofs.Ytnpenabkmpoafaa
open Go.RowKit
/-- delete, for the walk. -/
theorem wpList_dropP {w : World} {ops : Array Oper} {rest : List Oper} {o : Oper} {a : Act} {Q : Exit → Act → World → Prop} (hgd : o.guard = none) (m x : Operand)
    (ho : o.op = .call { callee := .builtin .delete, args := #[m, x], argTypes := #[48, 71] }) (mb n : Nat) (D : DataW Value) (i j : Nat) (hm : a.eval m = .map (some mb)) (hx : a.eval x = pv i j)
    (hown : OwnsP w mb n D) (hi : i < 1000) (hj : j < 1000)
    (h : ∀ w', OwnsP w' mb n (D.del (kl i j)) → Chg (fun g => g = mb) w w' → wpList Try.prog ops Q rest (a.put o.dst (.tuple #[])) w') : wpList Try.prog ops Q (o :: rest) a w := by
  refine wpList_plain hgd fun K hK => ?_
  obtain ⟨w', hrun, h2, h3⟩ := hown.drop hi hj o.type
  unfold Oper.wp execOp
  simp only [ho, resolve, invoke, builtin, Sem.run_bind, Sem.run_pure, Result.andThen_ok, List.map_toArray, List.map_cons, List.map_nil, hm, hx, hrun]
  exact hK _ _ (h w' h2 (Chg.of_grown h3 (fun g hg _ => by cases hg; rfl)))
set_option maxRecDepth 100000 in
set_option maxHeartbeats 1000000 in
theorem back_any (a b : Nat) (w : World) : Calls Try.prog 39 #[.agg #[.int .i64 (a : Int), .int .i64 (b : Int)]] w fun e w' => e = .returned (.agg #[.int .i64 (b : Int), .int .i64 (a : Int)]) ∧ Kept w w' := by
  go_enter Try.func39, Try.ntmps39
  go_wp2
  (try simp only [Exit.inBlock, Exit.then])
  refine bodyPost_ret (v := .agg #[.int .i64 (b : Int), .int .i64 (a : Int)]) ?_ rfl ?_
  · have hbx := heap_alloc_new (w.alloc (.cells #[.int .i64 (a : Int), .int .i64 (b : Int)] 71)) (.cells #[.int .i64 (b : Int), .int .i64 (a : Int)] 71)
    have b0 := cell_at hbx 0
    have b1 := cell_at hbx 1
    simp only [List.getElem?_toArray, List.getElem?_cons_zero, List.getElem?_cons_succ] at b0 b1
    simp [results, Try.results39, go_sem, b0, b1]
  · exact ⟨rfl, ((Kept.refl w).alloc _).alloc _⟩
/-- A queue is lost. -/
theorem NetAt.del {w w' : World} {nb : Nat} {m : NM} {s : NS} {lim : Nat} {F : Nat → Prop} (h : NetAt w nb m s lim F) {a b : Nat} (ha : a < s.n) (hb : b < s.n) (hq : OwnsP w' m.qb lim (m.D.del (kl a b))) (c : Chg (fun g => g = m.qb) w w') :
    NetAt w' nb (m.turn a b (m.D.del (kl a b)) []) (s.turn a b []) lim (ext F w w') := by
  have hs := h.small
  refine h.turn ha hb (Nat.le_refl _) hq (fun a' b' ha' hb' hne => qv_del_other (kl_ne (by omega) (by omega) (by omega) (by omega) hne)) (c.mono fun g _ x => .inl x) ?_ (fun x hx => by cases hx) (fun g hg => ?_) (fun x hx => by cases hx) (fun i i' x x' g hx => by simp at hx) (Nat.zero_le _) (fun x hx => by cases hx)
  · rw [qv_del_same]; exact World.ownsRow_nil _ _ _ _
  · rw [qv_del_same] at hg; cases hg
def NS.lose (s : NS) (a b : Nat) : NS := (s.turn a b []).turn b a []
set_option maxRecDepth 100000 in
set_option maxHeartbeats 1000000 in
theorem lose_any (w : World) (nb : Nat) (m : NM) (s : NS) (lim : Nat) (F : Nat → Prop) (h : NetAt w nb m s lim F) (a b : Nat) (ha : a < s.n) (hb : b < s.n) :
    Calls Try.prog 38 #[.pointer (some ⟨nb, 0, none⟩), .agg #[.int .i64 (a : Int), .int .i64 (b : Int)]] w fun e w' => e = .returned (.tuple #[]) ∧ (∃ m', NetAt w' nb m' (s.lose a b) lim (ext F w w') ∧ m'.cb = m.cb ∧ m'.tb = m.tb ∧ m'.qb = m.qb) ∧ Chg (fun g => g = m.qb) w w' := by
  have hsm := h.small
  go_enter Try.func38, Try.ntmps38
  have c2 := h.c2
  go_wp2
  have hkb := (Kept.refl w).alloc (.cells #[.int .i64 (a : Int), .int .i64 (b : Int)] 71)
  have hbx := heap_alloc_new w (.cells #[.int .i64 (a : Int), .int .i64 (b : Int)] 71)
  have hbl := World.ownsMap.lt (h.kept hkb).qs
  refine still_tail 5 (by kernel_rfl) (by kernel_rfl) (fun wd hKd => ?_)
  have c2' := (h.kept (hkb.trans hKd)).c2
  have b0 := cell_at (hKd.block' hbx) 0
  have b1 := cell_at (hKd.block' hbx) 1
  simp only [List.getElem?_toArray, List.getElem?_cons_zero, List.getElem?_cons_succ] at b0 b1
  have HO := Lib.hid (h.kept (hkb.trans hKd)).qs
  simp only [List.take_succ_cons, List.take_zero, List.drop_succ_cons, List.drop_zero]
  repeat still_step
  refine wpStill_nil ?_
  go_wp2_with (at_delete; refine wpList_dropP rfl _ _ rfl m.qb lim m.D a b rfl rfl HO.out (by omega) (by omega) ?_; intro w5 ho5 hc5; have HO5 := Lib.hid ho5; clear ho5)
  have hk5 := hkb.trans hKd
  have hc : Chg (fun g => g = m.qb) w w5 := (Chg.of_kept hk5).trans hc5 (fun _ _ x => x)
  have H5 := Lib.hid (h.del ha hb HO5.out hc)
  have c25 : w5.cell? ⟨nb, 2, none⟩ = some (.map (some m.qb)) := H5.out.c2
  have hne : w.heap.size ≠ m.qb := by
    have := World.ownsMap.lt h.qs
    omega
  have b05 := chg_cellS hc5 b0 hne
  have b15 := chg_cellS hc5 b1 hne
  clear b0 b1 c2 c2' hbx hkb hKd HO
  have hnb : nb ≠ m.qb := map_ne_cells h.qs h.net
  go_region_held3 (fun W => W.cell? ⟨nb, 2, none⟩ = some (.map (some m.qb)) ∧ W.cell? ⟨w.heap.size, 0, none⟩ = some (.int .i64 (a : Int)) ∧ W.cell? ⟨w.heap.size, 1, none⟩ = some (.int .i64 (b : Int)))
    (first | exact ⟨c25, b05, b15⟩ | exact ⟨z1, z2, z3⟩ | exact ⟨y1, y2, y3⟩)
    (first
      | (go_at_call 39; refine (back_any a b _).mono ?_; rintro e w6 ⟨rfl, hk6⟩; have hk6' : Kept w5 w6 := Kept.trans ((Kept.refl w5).drew) hk6; have z1 := hk6'.cell c25; have z2 := hk6'.cell b05; have z3 := hk6'.cell b15; obtain ⟨w7, hrun7, ho7, hg7⟩ := OwnsP.drop (map_chg HO5.out (Chg.of_kept (F := no) hk6') (fun x => x)) (a := b) (b := a) (by omega) (by omega) 0; unfold pv at hrun7; have hc7 : Chg (fun g => g = m.qb) w6 w7 := Chg.of_grown hg7 (fun g hg _ => by cases hg; rfl); have HO7 := Lib.hid ho7; clear ho7 hg7; have y1 := chg_cellS hc7 z1 hnb; have y2 := chg_cellS hc7 z2 hne; have y3 := chg_cellS hc7 z3 hne))
  go_wp2
  go_end0
  have hC7 : Chg (fun g => g = m.qb) w5 w7 := (Chg.of_kept hk6').trans hc7 (fun _ _ x => x)
  refine ⟨rfl, ⟨_, (H5.out.del hb ha HO7.out hC7).mono (fun g x => ext_ext hc.size hC7.size x), rfl, rfl, rfl⟩, hc.trans hC7 (fun _ _ x => x)⟩
end Go.Proofs.Ytnpenabkmpoafaa
