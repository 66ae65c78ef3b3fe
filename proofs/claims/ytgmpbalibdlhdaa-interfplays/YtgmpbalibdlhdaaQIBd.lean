/- The walk of build: the program's index and the document's beside each other. -/
import Derived.Test.YtgmpbalibdlhdaaQIRx
set_option linter.unusedSimpArgs false
set_option linter.unusedVariables false
namespace Go.Proofs.Ytgmpbalibdlhdaa
open Go.RowKit
theorem radd_any {w : World} {base db n : Nat} {lv : Value} {L : List It} (h : RxAt w base db n lv L) (x : It) (hb : base ≤ w.heap.size) (hlim : (L.length + 1) * 72 ≤ 140737488355328) :
    Calls Try.prog 19 #[.pointer (some ⟨db, 0, none⟩), x.c.v, x.id, .int .i64 x.seq] w (RAddTo w base db n lv L x) := by
  by_cases hk : 0 ≤ x.c.kind ∧ x.c.kind ≤ 2
  · by_cases h2 : (0 ≤ x.rep ∧ x.rep < n) ∧ (1 ≤ x.num ∧ x.num ≤ 4611686018427387903) ∧ 0 ≤ x.seq ∧ x.seq ≤ 4611686018427387902
    · exact radd_ok h x ⟨hk, h2⟩ hb hlim
    · exact radd_num h x hk h2
  · exact radd_kind h x hk
/-- Both know the same. -/
structure Both (w W : World) (xb mb db n : Nat) (st : TSt) (lv : Value) (L : List It) : Prop where
  ix : IxAt W xb mb n st L
  rx : RxAt W w.heap.size db n lv L
  gx : w.heap.size ≤ xb
  gm : w.heap.size ≤ mb
  gd : w.heap.size ≤ db
  old : Kept w W
section
variable {w W W' : World} {xb mb db n : Nat} {st : TSt} {lv : Value} {L : List It}
theorem Both.kept (h : Both w W xb mb db n st lv L) (k : Kept W W') : Both w W' xb mb db n st lv L := ⟨h.ix.kept k, h.rx.kept k, h.gx, h.gm, h.gd, h.old.trans k⟩
theorem Both.d_x (h : Both w W xb mb db n st lv L) : db ≠ xb := fun e => by
  have h1 := h.ix.blk
  have h2 := h.rx.blk
  rw [e, h1] at h2
  simp only [Option.some.injEq, Obj.cells.injEq] at h2
  exact absurd h2.2.1 (by decide)
theorem Both.d_m (h : Both w W xb mb db n st lv L) : db ≠ mb := fun e => by
  obtain ⟨es, clock, h1, -⟩ := h.ix.owns
  have h2 := h.rx.blk
  rw [e, h1] at h2
  simp at h2
theorem Both.l_x (h : Both w W xb mb db n st lv L) : lv.ownBlock ≠ some xb := fun e => by
  obtain ⟨cur, h1⟩ := own_type h.rx.row e
  have h2 := h.ix.blk
  rw [h1] at h2
  simp only [Option.some.injEq, Obj.cells.injEq] at h2
  exact absurd h2.2.1 (by decide)
theorem Both.l_m (h : Both w W xb mb db n st lv L) : lv.ownBlock ≠ some mb := fun e => by
  obtain ⟨cur, h1⟩ := own_type h.rx.row e
  obtain ⟨es, clock, h2, -⟩ := h.ix.owns
  rw [h1] at h2
  simp at h2
/-- Both are told one more. -/
theorem Both.add (h : Both w W xb mb db n st lv L) (x : It) {e1 e2 : Ending} {W1 : World} (h1 : AddTo W xb mb n L x e1 W1) :
    RxAt W1 w.heap.size db n lv L ∧ Kept w W1 ∧ (RAddTo W1 w.heap.size db n lv L x e2 W' → ∃ st' lv', Both w W' xb mb db n st' lv' (addL n x L)) := by
  obtain ⟨-, ⟨st', i1⟩, c1⟩ := h1
  have r1 := h.rx.chg c1 (fun e => by rcases e with e | e; exact h.d_x e; exact h.d_m e) (fun g hg e => by rcases e with e | e; exact h.l_x (by rw [hg, e]); exact h.l_m (by rw [hg, e]))
  have k1 : Kept w W1 := c1.kept h.old (fun g e => by have := h.gx; have := h.gm; rcases e with rfl | rfl <;> omega)
  refine ⟨r1, k1, ?_⟩
  rintro ⟨-, ⟨lv', r2, hn⟩, c2⟩
  have hne := h.d_x
  have hnm := h.d_m
  have hlx := h.l_x
  have hlm := h.l_m
  refine ⟨st', lv', i1.chg c2 (fun e => ?_) (fun e => ?_), r2, h.gx, h.gm, h.gd, c2.kept k1 (fun g e => ?_)⟩
  · rcases e with e | e
    · exact hne e.symm
    · exact hlx e
  · rcases e with e | e
    · exact hnm e.symm
    · exact hlm e
  · have := h.gd
    rcases e with rfl | e
    · omega
    · exact (h.rx.row.lt g e).1
end
/-- What build leaves. -/
def BuildTo (w : World) (n : Int) (xs : List It) (e : Ending) (w' : World) : Prop :=
  ((n < 1 ∨ 7 < n) ∧ e = .returned (.tuple #[.pointer none, .pointer none, .bool false]) ∧ Kept w w') ∨
  ((1 ≤ n ∧ n ≤ 7) ∧ ∃ xb mb db st lv, e = .returned (.tuple #[.pointer (some ⟨xb, 0, none⟩), .pointer (some ⟨db, 0, none⟩), .bool true]) ∧ Both w w' xb mb db n.toNat st lv (known n.toNat xs))
set_option maxRecDepth 100000 in
set_option maxHeartbeats 4000000 in
theorem build_any (n : Int) (xs : List It) (v : Value) (w : World) (hv : Its w v xs) (hlim : xs.length * 72 ≤ 140737488355328) (hh : ∀ x ∈ xs, x.c.home.length ≤ 140737488355328) :
    Calls Try.prog 9 #[.int .i64 n, v] w (BuildTo w n xs) := by
  have HV := Lib.hid hv
  have HH := Lib.hid hh
  obtain ⟨A, c, rfl, hc1, hc2⟩ := hv.form
  unfold maxLen at hc2
  clear hv hh
  go_enter Try.func9, Try.ntmps9
  go_wp2_with fail
  refine (new_any n _).mono ?_
  rintro e w1 h1
  rcases h1 with ⟨hn, rfl, k1⟩ | ⟨hn, xb, mb, rfl, hx, hx1, hm1, k1⟩
  · have HK1 := Lib.hid k1
    have HN := Lib.hid hn
    clear hn
    go_wp2
    refine bodyPost_ret (v := .tuple #[.pointer none, .pointer none, .bool false]) (by simp [results, Try.results9, go_sem]) rfl ?_
    exact .inl ⟨HN.out, rfl, HK1.out⟩
  · obtain ⟨m, rfl⟩ := Int.eq_ofNat_of_zero_le (show 0 ≤ n by omega)
    have HN := Lib.hid hn
    have hs1 := k1.size
    have hba := heap_alloc_new w1 (.cells #[.int .i64 (m : Int), .slice none 0 0] 63)
    have hsa : (w1.alloc (.cells #[.int .i64 (m : Int), .slice none 0 0] 63)).heap.size = w1.heap.size + 1 := by simp
    have HB := Lib.hid (show Both w (w1.alloc (.cells #[.int .i64 (m : Int), .slice none 0 0] 63)) xb mb w1.heap.size m [] (.slice none 0 0) [] from
      ⟨hx.kept ((Kept.refl w1).alloc _), ⟨hba, World.ownsRow_nil _ _ _ _⟩, hx1, hm1, hs1, k1.alloc _⟩)
    have HN2 := Lib.hid (show ((m : Int)).toNat = m from rfl)
    clear hx k1 hba hn
    go_wp2
    generalize w1.alloc (.cells #[.int .i64 (m : Int), .slice none 0 0] 63) = w2 at *
    generalize hdb : w1.heap.size = db at *
    clear hdb hsa
    go_loopw [28] (fun i W => ∃ (k : Nat) (st : TSt) (lv : Value), i = .int .i64 (k : Int) ∧ k ≤ xs.length ∧ Both w W xb mb db m st lv (known m (xs.take k))) (fun i _ => xs.length - (intOf i).toNat)
    case atStart => exact ⟨0, _, _, rfl, Nat.zero_le _, HB.out⟩
    case round =>
      obtain ⟨k, st, lv, rfl, hk, hb⟩ := hrel
      by_cases hlt : k < xs.length
      · obtain ⟨b, o, rfl, q0, q1, q2, q3, q4, q5⟩ := (HV.out.kept hb.old).at hlt
        have g1 : (k : Int) < (xs.length : Int) := by omega
        have hh := HH.out xs[k] (List.getElem_mem hlt)
        have HS := Lib.hid (show known m (xs.take (k + 1)) = addL m xs[k] (known m (xs.take k)) by rw [List.take_succ_eq_append_getElem hlt, known_snoc])
        have hle := known_len m (xs.take k)
        rw [List.length_take] at hle
        generalize xs[k] = x at *
        unfold Cm.dv at q2
        have HBW := Lib.hid (hb.kept ((Kept.refl wr).alloc (.cells #[.int .i64 x.c.kind, .string ⟨x.c.home.toArray⟩, .slice x.c.da x.c.dn x.c.dc, .int .i64 x.rep, .int .i64 x.num, .int .i64 x.seq] 49)))
        have hna := heap_alloc_new wr (.cells #[.int .i64 x.c.kind, .string ⟨x.c.home.toArray⟩, .slice x.c.da x.c.dn x.c.dc, .int .i64 x.rep, .int .i64 x.num, .int .i64 x.seq] 49)
        have e0 := (cell_at hna 0).trans rfl
        have e1 := (cell_at hna 1).trans rfl
        have e2 := (cell_at hna 2).trans rfl
        have e3 := (cell_at hna 3).trans rfl
        have e4 := (cell_at hna 4).trans rfl
        have e5 := (cell_at hna 5).trans rfl
        have HSZ := Lib.hid (show wr.heap.size < (wr.alloc (.cells #[.int .i64 x.c.kind, .string ⟨x.c.home.toArray⟩, .slice x.c.da x.c.dn x.c.dc, .int .i64 x.rep, .int .i64 x.num, .int .i64 x.seq] 49)).heap.size by simp)
        have HBL := Lib.hid (And.intro hb.ix.lt (And.intro (Array.getElem?_eq_some_iff.1 hb.rx.blk).1 (fun g hg => (hb.rx.row.lt g hg).2)))
        clear hb hna
        go_upto_region 8 with (fail)
        generalize wr.alloc _ = w3 at *
        clear q0 q1 q2 q3 q4 q5
        have hkd := (Kept.refl w3).drew
        go_region_held3 (fun X => X.cell? ⟨wr.heap.size, 0, none⟩ = some (.int .i64 x.c.kind) ∧ X.cell? ⟨wr.heap.size, 1, none⟩ = some (.string ⟨x.c.home.toArray⟩) ∧ X.cell? ⟨wr.heap.size, 2, none⟩ = some (.slice x.c.da x.c.dn x.c.dc) ∧ X.cell? ⟨wr.heap.size, 3, none⟩ = some (.int .i64 x.rep) ∧ X.cell? ⟨wr.heap.size, 4, none⟩ = some (.int .i64 x.num) ∧ X.cell? ⟨wr.heap.size, 5, none⟩ = some (.int .i64 x.seq))
          (refine ⟨chg_cellS (F := fun g => g ≠ wr.heap.size) ?_ e0 (fun e => e rfl), chg_cellS (F := fun g => g ≠ wr.heap.size) ?_ e1 (fun e => e rfl), chg_cellS (F := fun g => g ≠ wr.heap.size) ?_ e2 (fun e => e rfl), chg_cellS (F := fun g => g ≠ wr.heap.size) ?_ e3 (fun e => e rfl), chg_cellS (F := fun g => g ≠ wr.heap.size) ?_ e4 (fun e => e rfl), chg_cellS (F := fun g => g ≠ wr.heap.size) ?_ e5 (fun e => e rfl)⟩ <;> (first | exact Chg.refl _ _ | assumption | exact Chg.of_kept hkd))
          (first
            | (go_at_call 18; refine (add_any (HBW.out.kept hkd).ix x hh (by unfold maxLen; omega)).mono ?_; rintro e w4 h4; obtain ⟨r4, k4, HN4⟩ := (HBW.out.kept hkd).add (W' := w4) (e2 := e) x h4; have HA4 := Lib.hid h4; have hc4 : Chg (fun g => g ≠ wr.heap.size) w3 w4 := (Chg.of_kept hkd).trans h4.2.2 (fun g _ e => by have := HBL.out.1; rcases e with rfl | rfl <;> omega); have HR4 := Lib.hid r4; have HK4 := Lib.hid k4; obtain rfl := h4.1; clear h4 r4 k4 HN4)
            | (go_at_call 19; refine (radd_any HR4.out x HK4.out.size (by omega)).mono ?_; rintro e w5 h5; have HA5 := Lib.hid h5; have hc5 : Chg (fun g => g ≠ wr.heap.size) w3 w5 := hc4.trans h5.2.2 (fun g _ e => by have := HBL.out.2; rcases e with rfl | e; omega; have := this.2 g e; omega); obtain rfl := h5.1; clear h5))
        all_goals
          rename_i hHeld
          clear hHeld hc4 hc5
          obtain ⟨-, -, hN⟩ := (HBW.out.kept hkd).add x HA4.out
          obtain ⟨st', lv', hb5⟩ := hN HA5.out
          have HB5 := Lib.hid hb5
          clear hN hb5 e0 e1 e2 e3 e4 e5 hkd
          go_wp2
          go_roundw
          case rel => exact ⟨k + 1, st', lv', by go_num, by omega, by rw [HS.out]; exact HB5.out⟩
          case measure => simp [intOf]; omega
      · obtain rfl : k = xs.length := by omega
        rw [List.take_length] at hb
        have HB2 := Lib.hid hb
        clear hb
        go_wp2
        refine bodyPost_ret (v := .tuple #[.pointer (some ⟨xb, 0, none⟩), .pointer (some ⟨db, 0, none⟩), .bool true]) (by simp [results, Try.results9, go_sem]) rfl ?_
        exact .inr ⟨HN.out, xb, mb, db, st, lv, rfl, HB2.out⟩
end Go.Proofs.Ytgmpbalibdlhdaa
