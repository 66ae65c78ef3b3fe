/- The walk of the statement WireWrites. -/
import Derived.Test.YtlkcooedlkhacaaDoorLawLists
import Derived.Test.YtlkcooedlkhacaaDoorDref2
import Derived.Test.YtlkcooedlkhacaaDoorDref3
import Derived.Test.YtlkcooedlkhacaaDoorWr
namespace Go.Proofs.YtlkcooedlkhacaaDoor
open Go.RowKit
/-- One thing that is written: its kind, its number, its bytes' slice and what that reads as. -/
structure It where
  kind : Int
  n : Int
  u : Value
  l : List UInt8
/-- The value is a slice of such things. -/
def Items (w : World) (v : Value) (its : List It) : Prop :=
  ∃ A c, v = .slice A its.length c ∧ its.length ≤ c ∧ c ≤ maxLen ∧ (0 < its.length → ∃ b o, A = some ⟨b, o, none⟩ ∧ ∀ k x, its[k]? = some x →
    w.cell? ⟨b, o + k * 3, none⟩ = some (.int .i64 x.kind) ∧ w.cell? ⟨b, o + k * 3 + 1, none⟩ = some (.int .i64 x.n) ∧ w.cell? ⟨b, o + k * 3 + 2, none⟩ = some x.u ∧ Bts w x.u x.l)
/-- What is written of one thing, and whether it is refused. -/
def itOut (x : It) : List UInt8 := if x.kind = 1 then (if okNum x.n then put x.n.toNat else []) else if x.kind = 2 then put x.l.length ++ x.l else if x.kind = 3 then put x.l.length ++ x.l else []
def itBad (x : It) : Bool := decide (x.kind = 1) && !okNum x.n
def itsOut (its : List It) : List UInt8 := its.flatMap itOut
def itsBad (its : List It) : Bool := its.any itBad
theorem itsOut_snoc (its : List It) (x : It) : itsOut (its ++ [x]) = itsOut its ++ itOut x := by unfold itsOut; simp [List.flatMap_append]
theorem itsBad_snoc (its : List It) (x : It) : itsBad (its ++ [x]) = (itsBad its || itBad x) := by unfold itsBad; simp
theorem itsOut_take (its : List It) (k : Nat) : (itsOut (its.take k)).length ≤ (itsOut its).length := by
  have : itsOut its = itsOut (its.take k) ++ itsOut (its.drop k) := by
    unfold itsOut; rw [← List.flatMap_append, List.take_append_drop]
  rw [this, List.length_append]; omega
theorem Items.at {w : World} {A : Option Addr} {n c : Nat} {its : List It} (h : Items w (.slice A n c) its) {k : Nat} (hk : k < its.length) : ∃ b o, A = some ⟨b, o, none⟩ ∧
    w.cell? ⟨b, o + k * 3, none⟩ = some (.int .i64 its[k].kind) ∧ w.cell? ⟨b, o + k * 3 + 1, none⟩ = some (.int .i64 its[k].n) ∧ w.cell? ⟨b, o + k * 3 + 2, none⟩ = some its[k].u ∧ Bts w its[k].u its[k].l := by
  obtain ⟨A', c', hv, -, -, h3⟩ := h
  obtain ⟨b, o, rfl, hc⟩ := h3 (by omega)
  simp only [Value.slice.injEq] at hv
  obtain ⟨rfl, -, -⟩ := hv
  exact ⟨b, o, rfl, hc k _ (by simp [hk])⟩
theorem Items.kept {w w' : World} {v : Value} {its : List It} (h : Items w v its) (k : Kept w w') : Items w' v its := by
  obtain ⟨A, c, rfl, h1, h2, h3⟩ := h
  refine ⟨A, c, rfl, h1, h2, fun hl => ?_⟩
  obtain ⟨b, o, rfl, hc⟩ := h3 hl
  exact ⟨b, o, rfl, fun i x hx => ⟨k.cell (hc i x hx).1, k.cell (hc i x hx).2.1, k.cell (hc i x hx).2.2.1, (hc i x hx).2.2.2.kept k⟩⟩

/-- The program's reader and the document's stand at the same place, with the same error. -/
structure Pair (w W : World) (rb db : Nat) (v : Value) (l : List UInt8) (p : Nat) (er : Int) : Prop where
  r : IsR W rb (l.drop p) er
  d : IsD W db v l p er
  kept : Kept w W
  ne : rb ≠ db
  rw : w.heap.size ≤ rb
  dw : w.heap.size ≤ db
theorem Pair.ofKept {w W W' : World} {rb db : Nat} {v : Value} {l : List UInt8} {p : Nat} {er : Int} (h : Pair w W rb db v l p er) (k : Kept W W') : Pair w W' rb db v l p er :=
  ⟨h.r.kept k, h.d.kept k, h.kept.trans k, h.ne, h.rw, h.dw⟩
theorem Bts.framed8 {w w' : World} {b : Nat} {v : Value} {l : List UInt8} (h : Bts w v l) (h8 : ∀ o y, w.cell? ⟨b, o, none⟩ ≠ some (.int .u8 y)) (hF : RFr b w w') : Bts w' v l := by
  obtain ⟨A, c, rfl, h1, h2, h3⟩ := h
  refine ⟨A, c, rfl, h1, h2, fun hl => ?_⟩
  obtain ⟨b', o, rfl, hc⟩ := h3 hl
  refine ⟨b', o, rfl, fun k y hy => ?_⟩
  have hcell := hc k y hy
  have hne : b' ≠ b := fun e => by subst e; exact h8 _ _ hcell
  exact (World.cell?_of_block (hF.block b' (World.block_lt_of_cell? _ _ hcell) hne)).trans hcell
theorem IsR.framed {w w' : World} {b b' : Nat} {s : List UInt8} {er : Int} (h : IsR w b s er) (h8 : ∀ o y, w.cell? ⟨b', o, none⟩ ≠ some (.int .u8 y)) (hF : RFr b' w w') (hne : b ≠ b') : IsR w' b s er := by
  have hl := h.lt
  obtain ⟨v, h, hb⟩ := h
  exact ⟨v, (hF.block b hl hne).trans h, hb.framed8 h8 hF⟩
theorem IsD.framed {w w' : World} {b b' : Nat} {v : Value} {l : List UInt8} {p : Nat} {er : Int} (h : IsD w b v l p er) (h8 : ∀ o y, w.cell? ⟨b', o, none⟩ ≠ some (.int .u8 y)) (hF : RFr b' w w') (hne : b ≠ b') : IsD w' b v l p er :=
  ⟨(hF.block b h.lt hne).trans h.1, h.2.1.framed8 h8 hF, h.2.2⟩
set_option maxRecDepth 100000 in
set_option maxHeartbeats 4000000 in
theorem wireWrites_walk (its : List It) (l : List UInt8) (ks : List Int) (vi vb vk : Value) (w : World) (hi : Items w vi its) (hb : Bts w vb l) (hk : Ints w vk ks) (zo : (itsOut its).length ≤ 35184372088832) (zl : l.length ≤ 1048576) (zk : ks.length ≤ 1048576) :
    Calls Tryd.prog 9 #[vi, vb, vk] w fun e w' => e = .returned (.bool true) ∧ Kept w w' := by
  obtain ⟨Ai, ci, rfl⟩ : ∃ A c, vi = .slice A its.length c := by obtain ⟨A, c, rfl, -⟩ := hi; exact ⟨A, c, rfl⟩
  obtain ⟨Ab, cb, rfl⟩ := hb.form
  obtain ⟨Ak, ck, rfl⟩ := hk.form
  have hil : its.length ≤ 9223372036854775807 := by obtain ⟨A, c, -, h1, h2, -⟩ := id hi; unfold maxLen at h2; omega
  have HIT := Lib.hid hi
  have HB := Lib.hid hb
  have HKS := Lib.hid hk
  clear hi hb hk
  go_enter Tryd.func9, Tryd.ntmps9
  go_wp2_with fail
  refine (newWriter_any w).mono ?_
  rintro e w1 ⟨rfl, hI1, hK1, hr1, hs1⟩
  have hk0 := fun t => (Kept.refl w1).alloc (.cells #[] t)
  have hst : Wr w w1.heap.size (w1.alloc (.cells #[] 5)) (.slice (some ⟨w1.heap.size, 0, none⟩) 0 0) false [] [] :=
    ⟨hI1.after (hk0 _), World.ownsRow_lit w1 #[] 0 (Nat.le_refl _) (by decide) rfl, hK1.alloc _, (fun i hi => by rw [hI1.rowAfter (hk0 _), hr1] at hi; cases hi), (fun g _ e => by rw [hI1.rowAfter (hk0 _), hr1] at e; cases e), by simp, hs1⟩
  have HST := Lib.hid hst
  clear hst hk0 hI1 hK1 hr1
  go_wp2_with fail
  go_loopw [8, 9, 26] (fun u8 u9 t W => ∃ k : Nat, t = .int .i64 (k : Int) ∧ k ≤ its.length ∧ u9 = .bool (itsBad (its.take k)) ∧ Wr w w1.heap.size W u8 (itsBad (its.take k)) (itsOut (its.take k)) (itsOut (its.take k))) (fun _ _ t _ => its.length - (intOf t).toNat)
  case atStart => exact ⟨0, rfl, Nat.zero_le _, rfl, HST.out⟩
  case round =>
    clear HST
    obtain ⟨k, rfl, hk, rfl, hWr⟩ := hrel
    by_cases hlt : k < its.length
    · obtain ⟨bi, oi, rfl, x0, x1, x2, hxb⟩ := (HIT.out.kept hWr.kept).at hlt
      obtain ⟨-, -, -, -, -, -, hxw⟩ := HIT.out.at hlt
      have e1 : itsBad (its.take (k + 1)) = (itsBad (its.take k) || itBad its[k]) := by rw [take_snoc _ _ hlt, itsBad_snoc]
      have e2 : itsOut (its.take (k + 1)) = itsOut (its.take k) ++ itOut its[k] := by rw [take_snoc _ _ hlt, itsOut_snoc]
      have hlen := itsOut_take its (k + 1)
      rw [e2, List.length_append] at hlen
      have E1 := Lib.hid e1
      have E2 := Lib.hid e2
      clear e1 e2
      generalize its[k] = x at *
      obtain ⟨kd, n, u, xl⟩ := x
      simp only at x0 x1 x2 hxb hxw
      obtain ⟨Au, cu, rfl⟩ := hxb.form
      have HXB := Lib.hid hxb
      have HXW := Lib.hid hxw
      clear hxw
      have HWR := Lib.hid hWr
      obtain ⟨A8, c8, rfl⟩ := hWr.form
      clear hxb hWr
      by_cases hk1 : kd = 1
      · subst hk1
        have hpl : (put n.toNat).length ≤ 9 := putF_len 9 _
        go_wp2_with fail
        have hk2 := ((Kept.refl wr).alloc (.cells #[.int .i64 1, .int .i64 n, .slice Au xl.length cu] 58)).alloc (.cells #[.int .i64 n] 3)
        have hW2 := HWR.out.ofKept hk2
        have fr0 := HWR.out.fresh hk2 wr.heap.size (Nat.le_refl _)
        have fr1 := HWR.out.fresh hk2 (wr.heap.size + 1) (by omega)
        have hx1 : ((wr.alloc (.cells #[.int .i64 1, .int .i64 n, .slice Au xl.length cu] 58)).alloc (.cells #[.int .i64 n] 3)).cell? ⟨wr.heap.size, 1, none⟩ = some (.int .i64 n) := by simp [go_sem]
        refine (nums_framed w.heap.size _ _ [n] _ _ ((Ints.one' (by simp)).framed fun bi' o' n' c' e => by cases e; exact fr1) hW2.isW (by simp; omega)).mono ?_
        rintro e W3 ⟨rfl, hI3, hF3⟩
        have hW3 := hW2.ofWrite hF3 hI3
        have hx := hF3.cell hx1 fr0.1 fr0.2
        clear hk2 hW2 fr0 fr1 hx1 hF3 hI3 HWR HXB x0 x1 x2
        by_cases hok : okNum n = true
        · have HOK := Lib.hid hok
          obtain ⟨m, rfl, hm⟩ : ∃ m : Nat, n = m ∧ m ≤ 4611686018427387903 := by
            unfold okNum at hok
            simp only [Bool.and_eq_true, decide_eq_true_eq] at hok
            exact ⟨n.toNat, by omega, by omega⟩
          clear hok
          have q1 : badAll [(m : Int)] = false := by simp [badAll, HOK.out]
          have q2 : putAll [(m : Int)] = put m := by simp [putAll, HOK.out]
          have q3 : itBad ⟨1, (m : Int), .slice Au xl.length cu, xl⟩ = false := by simp [itBad, HOK.out]
          have q4 : itOut ⟨1, (m : Int), .slice Au xl.length cu, xl⟩ = put m := by simp [itOut, HOK.out]
          rw [Int.toNat_natCast] at hpl
          rw [q4] at hlen
          rw [q3, Bool.or_false] at E1
          rw [q4] at E2
          rw [q1, q2, Bool.or_false] at hW3
          clear q1 q2 q3 q4
          go_wp2_with fail
          refine (bad_any _ _).mono ?_
          rintro e wx ⟨rfl, rfl⟩
          rw [HOK.out]
          go_wp2_with fail
          refine (refPut_any m _ (by omega)).mono ?_
          rintro e W4 ⟨v4, rfl, ho4, hk4⟩
          have hb4 := Bts.of_own ho4
          obtain ⟨A4, c4, rfl⟩ := hb4.form
          have hW4 := hW3.ofKept hk4
          have HW4 := Lib.hid hW4
          have HB4 := Lib.hid hb4
          have hbig := hW4.big
          clear hW3 hW4 ho4 hb4 hk4 hx
          go_wp2_with (at_builtin; refine wpList_append_bts rfl _ _ rfl w1.heap.size _ _ (itsOut (its.take k)) (put m) _ rfl rfl HW4.out.own HB4.out (by omega) hbig ?_; intro v' w' h1 h2 h3)
          have hW5 := HW4.out.ofAppend (p' := itsOut (its.take k) ++ put m) (by rw [List.length_append]; exact h1) h2 h3
          have HW5 := Lib.hid hW5
          clear hW5 h1 h2 h3
          go_roundw
          case rel => exact ⟨k + 1, by go_num, by omega, by rw [E1.out], by rw [E1.out, E2.out]; exact HW5.out⟩
          case measure => simp [intOf]; omega
        · have hok' : okNum n = false := by simpa using hok
          have HOK := Lib.hid hok'
          clear hok hok'
          have q1 : badAll [n] = true := by simp [badAll, HOK.out]
          have q2 : putAll [n] = [] := by simp [putAll, HOK.out]
          have q3 : itBad ⟨1, n, .slice Au xl.length cu, xl⟩ = true := by simp [itBad, HOK.out]
          have q4 : itOut ⟨1, n, .slice Au xl.length cu, xl⟩ = [] := by simp [itOut, HOK.out]
          rw [q4] at hlen
          rw [q3, Bool.or_true] at E1
          rw [q4, List.append_nil] at E2
          rw [q1, q2, Bool.or_true, List.append_nil] at hW3
          clear q1 q2 q3 q4
          go_wp2_with fail
          refine (bad_any _ _).mono ?_
          rintro e wx ⟨rfl, rfl⟩
          rw [HOK.out]
          have HW3 := Lib.hid hW3
          clear hW3 hx
          go_wp2
          go_roundw
          case rel => exact ⟨k + 1, by go_num, by omega, by rw [E1.out], by rw [E1.out, E2.out]; exact HW3.out⟩
          case measure => simp [intOf]; omega
      · by_cases hk2 : kd = 2
        · subst hk2
          have q3 : itBad ⟨2, n, .slice Au xl.length cu, xl⟩ = false := by simp [itBad]
          have q4 : itOut ⟨2, n, .slice Au xl.length cu, xl⟩ = put xl.length ++ xl := by simp [itOut]
          rw [q4, List.length_append] at hlen
          rw [q3, Bool.or_false] at E1
          rw [q4] at E2
          clear q3 q4
          have hpl : (put xl.length).length ≤ 9 := putF_len 9 _
          go_wp2_with fail
          have hka := (Kept.refl wr).alloc (.cells #[.int .i64 2, .int .i64 n, .slice Au xl.length cu] 58)
          have hx2 : (wr.alloc (.cells #[.int .i64 2, .int .i64 n, .slice Au xl.length cu] 58)).cell? ⟨wr.heap.size, 2, none⟩ = some (.slice Au xl.length cu) := by simp [go_sem]
          have hfa := HWR.out.fresh hka wr.heap.size (Nat.le_refl _)
          have hWa := HWR.out.ofKept hka
          have hxa := HXB.out.kept hka
          have hsa : wr.heap.size < (wr.alloc (.cells #[.int .i64 2, .int .i64 n, .slice Au xl.length cu] 58)).heap.size := by simp
          generalize wr.alloc (.cells #[.int .i64 2, .int .i64 n, .slice Au xl.length cu] 58) = wa at *
          refine (copy_any xl _ _ hxa (by omega)).mono ?_
          rintro e wc ⟨vc, rfl, hoc, hkc⟩
          have hWc := hWa.ofKept hkc
          have hbc := Bts.of_own hoc
          obtain ⟨Ac, cc, rfl⟩ := hbc.form
          go_wp2_with fail
          have hkd := hkc.alloc (.cells #[.slice Ac xl.length cc] 23)
          have hkr := hka.trans hkd
          have hWd := hWa.ofKept hkd
          have frd := HWR.out.fresh hkr wr.heap.size (Nat.le_refl _)
          have frm := HWR.out.fresh hkr wc.heap.size (Nat.le_trans hka.size hkc.size)
          have hxd := hkd.cell hx2
          have hbd := hbc.kept ((Kept.refl wc).alloc (.cells #[.slice Ac xl.length cc] 23))
          have hcd : (wc.alloc (.cells #[.slice Ac xl.length cc] 23)).cell? ⟨wc.heap.size, 0, none⟩ = some (.slice Ac xl.length cc) := by simp [go_sem]
          have hfc : ∀ bi', (Value.slice Ac xl.length cc).ownBlock = some bi' → bi' ≠ w.heap.size ∧ rowOf (wc.alloc (.cells #[.slice Ac xl.length cc] 23)) w.heap.size ≠ some bi' := fun bi' hbi => HWR.out.fresh hkr bi' (by have := (hoc.lt bi' hbi).1; omega)
          refine (blobs_any w.heap.size _ _ [xl] [.slice Ac xl.length cc] _ _ (fun V hV => PartsU.oneFramed hcd frm (hbd.framed hV hfc) hV) hWd.isW (by simp [blobAll]; omega)).mono ?_
          rintro e we ⟨rfl, hIe, hFe⟩
          rw [show blobAll [xl] = put xl.length ++ xl by simp [blobAll]] at hIe
          have hWe := hWd.ofWrite hFe hIe
          clear hkd hkr hWd frm hbd hcd hfc hWa hWc hbc hoc hkc hka hfa hxa hsa hx2 HWR HXB x0 x1 x2
          have hx := hFe.cell hxd frd.1 frd.2
          have hxe := HXW.out.kept hWe.kept
          clear hFe hIe hxd frd
          go_wp2_with fail
          refine (refBlob_any xl _ _ hxe (by omega)).mono ?_
          rintro e wf ⟨vf, rfl, hof, hkf⟩
          have hbf := Bts.of_own hof
          obtain ⟨Af, cf, rfl⟩ := hbf.form
          have hWf := hWe.ofKept hkf
          have HWf := Lib.hid hWf
          have HBf := Lib.hid hbf
          have hbig := hWf.big
          rw [List.length_append] at HBf
          clear hWe hWf hof hbf hkf hx hxe
          rw [List.length_append]
          go_wp2_with (at_builtin; refine wpList_append_bts rfl _ _ rfl w1.heap.size _ _ (itsOut (its.take k)) (put xl.length ++ xl) _ rfl rfl HWf.out.own HBf.out (by simp; omega) hbig ?_; intro v' w' h1 h2 h3)
          have hW5 := HWf.out.ofAppend (p' := itsOut (its.take k) ++ (put xl.length ++ xl)) (by rw [List.length_append]; exact h1) h2 h3
          have HW5 := Lib.hid hW5
          clear hW5 h1 h2 h3
          go_roundw
          case rel => exact ⟨k + 1, by go_num, by omega, by rw [E1.out], by rw [E1.out, E2.out]; exact HW5.out⟩
          case measure => simp [intOf]; omega
        · by_cases hk3 : kd = 3
          · subst hk3
            have q3 : itBad ⟨3, n, .slice Au xl.length cu, xl⟩ = false := by simp [itBad]
            have q4 : itOut ⟨3, n, .slice Au xl.length cu, xl⟩ = put xl.length ++ xl := by simp [itOut]
            rw [q4, List.length_append] at hlen
            rw [q3, Bool.or_false] at E1
            rw [q4] at E2
            clear q3 q4
            have hpl : (put xl.length).length ≤ 9 := putF_len 9 _
            have hka := (Kept.refl wr).alloc (.cells #[.int .i64 3, .int .i64 n, .slice Au xl.length cu] 58)
            have hx2 : (wr.alloc (.cells #[.int .i64 3, .int .i64 n, .slice Au xl.length cu] 58)).cell? ⟨wr.heap.size, 2, none⟩ = some (.slice Au xl.length cu) := by simp [go_sem]
            have hcv := conv_run (HXB.out.kept hka)
            have hkr := hka.alloc (.cells #[.string ⟨xl.toArray⟩] 9)
            have hWd := HWR.out.ofKept hkr
            have frd := HWR.out.fresh hkr wr.heap.size (Nat.le_refl _)
            have frm := HWR.out.fresh hkr (wr.heap.size + 1) (by omega)
            have hxd := ((Kept.refl _).alloc (.cells #[.string ⟨xl.toArray⟩] 9)).cell hx2
            have hcd : ((wr.alloc (.cells #[.int .i64 3, .int .i64 n, .slice Au xl.length cu] 58)).alloc (.cells #[.string ⟨xl.toArray⟩] 9)).cell? ⟨wr.heap.size + 1, 0, none⟩ = some (.string ⟨xl.toArray⟩) := by
              simp [go_sem]
            have HKA := Lib.hid hka
            have HKR := Lib.hid hkr
            have HWD := Lib.hid hWd
            have FRD := Lib.hid frd
            have FRM := Lib.hid frm
            have HXD := Lib.hid hxd
            have HCD := Lib.hid hcd
            clear hka hkr hWd frd frm hxd hcd hx2
            go_wp2_with fail
            refine (texts_any w.heap.size _ _ [xl] _ _ (fun V hV => Strs.oneFramed HCD.out FRM.out hV) HWD.out.isW (by simp [blobAll]; omega)).mono ?_
            rintro e we ⟨rfl, hIe, hFe⟩
            rw [show blobAll [xl] = put xl.length ++ xl by simp [blobAll]] at hIe
            have hWe := HWD.out.ofWrite hFe hIe
            clear HKA HKR HWD FRM HCD hcv HWR HXB x0 x1 x2
            have hx := hFe.cell HXD.out FRD.out.1 FRD.out.2
            have hxe := HXW.out.kept hWe.kept
            clear hFe hIe HXD FRD
            go_wp2_with fail
            refine (refBlob_any xl _ _ hxe (by omega)).mono ?_
            rintro e wf ⟨vf, rfl, hof, hkf⟩
            have hbf := Bts.of_own hof
            obtain ⟨Af, cf, rfl⟩ := hbf.form
            have hWf := hWe.ofKept hkf
            have HWf := Lib.hid hWf
            have HBf := Lib.hid hbf
            have hbig := hWf.big
            rw [List.length_append] at HBf
            clear hWe hWf hof hbf hkf hx hxe
            rw [List.length_append]
            go_wp2_with (at_builtin; refine wpList_append_bts rfl _ _ rfl w1.heap.size _ _ (itsOut (its.take k)) (put xl.length ++ xl) _ rfl rfl HWf.out.own HBf.out (by simp; omega) hbig ?_; intro v' w' h1 h2 h3)
            have hW5 := HWf.out.ofAppend (p' := itsOut (its.take k) ++ (put xl.length ++ xl)) (by rw [List.length_append]; exact h1) h2 h3
            have HW5 := Lib.hid hW5
            clear hW5 h1 h2 h3
            go_roundw
            case rel => exact ⟨k + 1, by go_num, by omega, by rw [E1.out], by rw [E1.out, E2.out]; exact HW5.out⟩
            case measure => simp [intOf]; omega
          · have q3 : itBad ⟨kd, n, .slice Au xl.length cu, xl⟩ = false := by simp [itBad, hk1]
            have q4 : itOut ⟨kd, n, .slice Au xl.length cu, xl⟩ = [] := by simp [itOut, hk1, hk2, hk3]
            rw [q3, Bool.or_false] at E1
            rw [q4, List.append_nil] at E2
            have t1 : (kd == 1) = false := beq_eq_false_iff_ne.2 hk1
            have t2 : (kd == 2) = false := beq_eq_false_iff_ne.2 hk2
            have t3 : (kd == 3) = false := beq_eq_false_iff_ne.2 hk3
            have HW5 := Lib.hid (HWR.out.ofKept ((Kept.refl wr).alloc (.cells #[.int .i64 kd, .int .i64 n, .slice Au xl.length cu] 58)))
            clear q3 q4 HWR HXB hlen
            go_wp2
            go_roundw
            case rel => exact ⟨k + 1, by go_num, by omega, by rw [E1.out], by rw [E1.out, E2.out]; exact HW5.out⟩
            case measure => simp [intOf]; omega
    · obtain rfl : k = its.length := by omega
      rw [List.take_length] at hWr
      rw [List.take_length]
      clear hlt hk
      generalize itsOut its = out at *
      obtain ⟨A8, c8, rfl⟩ := hWr.form
      by_cases hbad : itsBad its = true
      · rw [hbad] at hWr ⊢
        clear hbad
        go_wp2_with fail
        refine (out_bad _ _ _ hWr.isW).mono ?_
        rintro e w6 ⟨rfl, rfl⟩
        go_wp2_with fail
        refine (out_bad _ _ _ hWr.isW).mono ?_
        rintro e w6 ⟨rfl, rfl⟩
        have HKW := Lib.hid hWr.kept
        clear hWr
        have u1 : ((10 : Int) != 0) = true := by decide
        have u2 : (true != true) = false := by decide
        have u3 : ((10 : Int) != 10) = false := by decide
        go_wp2_with fail
        refine (same_any [] [] _ _ _ (Bts.nil _) (Bts.nil _)).mono ?_
        rintro e wy ⟨rfl, rfl⟩
        rw [beq_self_eq_true]
        go_wp2_with fail
        refine (copy_any l _ _ (HB.out.kept HKW.out) (by omega)).mono ?_
        rintro e wc ⟨vc, rfl, hoc, hkc⟩
        have hbc := Bts.of_own hoc
        have hKc := HKW.out.trans hkc
        clear hoc hkc HKW
        go_wp2_with fail
        refine (newReader_any l _ _ hbc (by omega)).mono ?_
        rintro e wn ⟨rb, rfl, hrb, hIR, hkn⟩
        have hKn := hKc.trans hkn
        have hrl := hIR.lt
        have hka := (Kept.refl wn).alloc (.cells #[.slice Ab l.length cb, .int .i64 0, .int .i64 0] 68)
        have hIR2 := hIR.kept hka
        have hID : IsD (wn.alloc (.cells #[.slice Ab l.length cb, .int .i64 0, .int .i64 0] 68)) wn.heap.size (.slice Ab l.length cb) l 0 0 := ⟨heap_alloc_new wn _, (HB.out.kept hKn).kept hka, Nat.zero_le _⟩
        have hK := hKn.trans hka
        have hrw : w.heap.size ≤ rb := Nat.le_trans hKc.size hrb
        have hdw : w.heap.size ≤ wn.heap.size := hKn.size
        have hst : Pair w (wn.alloc (.cells #[.slice Ab l.length cb, .int .i64 0, .int .i64 0] 68)) rb wn.heap.size (.slice Ab l.length cb) l 0 0 := ⟨hIR2, hID, hK, by omega, hrw, hdw⟩
        have HST := Lib.hid hst
        clear hst hK hID hIR2 hka hrl hKn hkn hIR hrb hKc hbc hrw hdw
        go_wp2_with fail
        go_loopw [119] (fun t W => ∃ (k p : Nat) (er : Int), t = .int .i64 (k : Int) ∧ k ≤ ks.length ∧ Pair w W rb wn.heap.size (.slice Ab l.length cb) l p er) (fun t _ => ks.length - (intOf t).toNat)
        case atStart => exact ⟨0, 0, 0, rfl, Nat.zero_le _, HST.out⟩
        case round =>
          clear HST
          obtain ⟨k, p, er, rfl, hk, hP⟩ := hrel
          by_cases hlt : k < ks.length
          · obtain ⟨bi, oi, rfl, hc0⟩ := (HKS.out.kept hP.kept).at hlt
            have hpl := hP.d.2.2
            have hdl : (l.drop p).length ≤ 140737488355328 := by simp; omega
            generalize ks[k] = kd at *
            by_cases hk1 : kd = 1
            · subst hk1
              go_wp2_with fail
              refine (rNum rb _ er _ hP.r hdl).mono ?_
              rintro e wa ⟨rfl, hRa, hFa⟩
              have hDa := hP.d.framed hP.r.not8 hFa hP.ne.symm
              have hKa := hFa.kept hP.kept hP.rw
              go_wp2_with fail
              refine (dNum _ _ l p er _ hDa (by omega)).mono ?_
              rintro e wb ⟨rfl, hDb, hFb⟩
              have hRb := hRa.framed hDa.not8 hFb hP.ne
              rw [List.drop_drop] at hRb
              have hPb : Pair w wb rb wn.heap.size (.slice Ab l.length cb) l _ _ := ⟨hRb, hDb, hFb.kept hKa hP.dw, hP.ne, hP.rw, hP.dw⟩
              clear hRb hDb hFb hDa hKa hRa hFa hP hdl hpl hc0
              generalize rn (l.drop p) er = R at *
              have u5 : (((R.1 : Nat) : Int) != ((R.1 : Nat) : Int)) = false := by simp
              generalize R.1 = r1 at *
              generalize p + R.2.1 = p' at *
              generalize R.2.2 = er' at *
              have hcs := (hPb.ofKept (Kept.refl wb).drew).d.cells
              obtain ⟨d0, d1, d2, -, -⟩ := hPb.d.cells
              have HPd := Lib.hid (hPb.ofKept (Kept.refl wb).drew)
              clear hPb hcs
              have u6 : (er' != er') = false := by simp
              go_wp2_with fail
              go_region_with (first
                | (go_at_call 40; refine (rErr rb _ er' _ HPd.out.r).mono ?_; rintro e w3 ⟨rfl, rfl⟩)
                | (go_at_call 41; refine (rLeft rb _ er' _ HPd.out.r).mono ?_; rintro e w4 ⟨rfl, rfl⟩)
                | (go_at_call 42; refine (dLeft _ _ l p' er' _ HPd.out.d (by omega)).mono ?_; rintro e w5 ⟨rfl, hk5⟩))
              all_goals (
                have HFN := Lib.hid (HPd.out.ofKept hk5)
                clear HPd hk5 d0 d1 d2
                go_wp2
                go_roundw
                case rel => exact ⟨k + 1, p', er', by go_num, by omega, HFN.out⟩
                case measure => simp [intOf]; omega)
            · by_cases hk2 : kd = 2
              · subst hk2
                go_wp2_with fail
                refine (rBlob rb _ er _ hP.r hdl).mono ?_
                rintro e wa ⟨ua, rfl, hua, hRa, hFa⟩
                have hDa := hP.d.framed hP.r.not8 hFa hP.ne.symm
                have hKa := hFa.kept hP.kept hP.rw
                go_wp2_with fail
                refine (dBlob _ _ l p er _ hDa (by omega)).mono ?_
                rintro e wb ⟨ud, p', rfl, hud, hDb, hq, hFb⟩
                have hRb := hRa.framed hDa.not8 hFb hP.ne
                rw [hq] at hRb
                have hub := hua.framed8 hDa.not8 hFb
                have hPb : Pair w wb rb wn.heap.size (.slice Ab l.length cb) l _ _ := ⟨hRb, hDb, hFb.kept hKa hP.dw, hP.ne, hP.rw, hP.dw⟩
                clear hRb hDb hFb hDa hKa hRa hFa hP hdl hpl hc0 hq hua
                generalize (rd (l.drop p) er).1 = X at *
                generalize (rd (l.drop p) er).2.2 = er' at *
                go_wp2_with fail
                refine (same_any X X _ _ _ hub hud).mono ?_
                rintro e wy ⟨rfl, rfl⟩
                rw [beq_self_eq_true]
                clear hub hud
                have hcs := (hPb.ofKept (Kept.refl wb).drew).d.cells
                obtain ⟨d0, d1, d2, -, -⟩ := hPb.d.cells
                have HPd := Lib.hid (hPb.ofKept (Kept.refl wb).drew)
                clear hPb hcs
                have u6 : (er' != er') = false := by simp
                go_wp2_with fail
                go_region_with (first
                  | (go_at_call 40; refine (rErr rb _ er' _ HPd.out.r).mono ?_; rintro e w3 ⟨rfl, rfl⟩)
                  | (go_at_call 41; refine (rLeft rb _ er' _ HPd.out.r).mono ?_; rintro e w4 ⟨rfl, rfl⟩)
                  | (go_at_call 42; refine (dLeft _ _ l p' er' _ HPd.out.d (by omega)).mono ?_; rintro e w5 ⟨rfl, hk5⟩))
                all_goals (
                  have HFN := Lib.hid (HPd.out.ofKept hk5)
                  clear HPd hk5 d0 d1 d2
                  go_wp2
                  go_roundw
                  case rel => exact ⟨k + 1, p', er', by go_num, by omega, HFN.out⟩
                  case measure => simp [intOf]; omega)
              · have t1 : (kd == 1) = false := beq_eq_false_iff_ne.2 hk1
                have t2 : (kd == 2) = false := beq_eq_false_iff_ne.2 hk2
                go_wp2_with fail
                refine (rText rb _ er _ hP.r hdl).mono ?_
                rintro e wa ⟨rfl, hRa, hFa⟩
                have hDa := hP.d.framed hP.r.not8 hFa hP.ne.symm
                have hKa := hFa.kept hP.kept hP.rw
                go_wp2_with fail
                refine (dBlob _ _ l p er _ hDa (by omega)).mono ?_
                rintro e wb ⟨ud, p', rfl, hud, hDb, hq, hFb⟩
                have hRb := hRa.framed hDa.not8 hFb hP.ne
                rw [hq] at hRb
                have hPb : Pair w wb rb wn.heap.size (.slice Ab l.length cb) l _ _ := ⟨hRb, hDb, hFb.kept hKa hP.dw, hP.ne, hP.rw, hP.dw⟩
                clear hRb hDb hFb hDa hKa hRa hFa hP hdl hpl hc0 hq
                have hcv := conv_run hud
                obtain ⟨Ad, cd, rfl⟩ := hud.form
                clear hud
                generalize (rd (l.drop p) er).1 = X at *
                generalize (rd (l.drop p) er).2.2 = er' at *
                have hcs := (hPb.ofKept (Kept.refl wb).drew).d.cells
                obtain ⟨d0, d1, d2, -, -⟩ := hPb.d.cells
                have HPd := Lib.hid (hPb.ofKept (Kept.refl wb).drew)
                clear hPb hcs
                have u6 : (er' != er') = false := by simp
                go_wp2_with fail
                go_region_with (first
                  | (go_at_call 40; refine (rErr rb _ er' _ HPd.out.r).mono ?_; rintro e w3 ⟨rfl, rfl⟩)
                  | (go_at_call 41; refine (rLeft rb _ er' _ HPd.out.r).mono ?_; rintro e w4 ⟨rfl, rfl⟩)
                  | (go_at_call 42; refine (dLeft _ _ l p' er' _ HPd.out.d (by omega)).mono ?_; rintro e w5 ⟨rfl, hk5⟩))
                all_goals (
                  have HFN := Lib.hid (HPd.out.ofKept hk5)
                  clear HPd hk5 d0 d1 d2
                  go_wp2
                  go_roundw
                  case rel => exact ⟨k + 1, p', er', by go_num, by omega, HFN.out⟩
                  case measure => simp [intOf]; omega)
          · obtain rfl : k = ks.length := by omega
            go_wp2_with fail
            refine (awake_any _).mono ?_
            rintro e wz ⟨rfl, hkz⟩
            have hKz := hP.kept.trans hkz
            clear hkz hP
            go_wp2
            go_ret
            exact ⟨rfl, hKz⟩
      · have hbad' : itsBad its = false := by simpa using hbad
        rw [hbad'] at hWr ⊢
        clear hbad hbad'
        go_wp2_with fail
        refine (out_good _ _ _ hWr.isW (by omega)).mono ?_
        rintro e w6 ⟨v6, rfl, ho6, hk6⟩
        have hb6 := Bts.of_own ho6
        obtain ⟨A6, c6, rfl⟩ := hb6.form
        have hWr6 := hWr.ofKept hk6
        clear ho6 hk6 hWr
        go_wp2_with fail
        refine (out_good _ _ _ hWr6.isW (by omega)).mono ?_
        rintro e w7 ⟨v7, rfl, ho7, hk7⟩
        have hb7 := Bts.of_own ho7
        obtain ⟨A7, c7, rfl⟩ := hb7.form
        have hWr7 := hWr6.ofKept hk7
        have hb67 := hb6.kept hk7
        have hb8 := Bts.of_own hWr7.own
        have HKW := Lib.hid hWr7.kept
        clear ho7 hk7 hWr6 hb6 hWr7
        have u1 : ((0 : Int) != 0) = false := by decide
        have u2 : (false != false) = false := by decide
        go_wp2_with fail
        refine (same_any out out _ _ _ hb67 hb8).mono ?_
        rintro e wy ⟨rfl, rfl⟩
        rw [beq_self_eq_true]
        go_wp2_with fail
        refine (same_any out out _ _ _ hb67 hb7).mono ?_
        rintro e wy ⟨rfl, rfl⟩
        rw [beq_self_eq_true]
        clear hb67 hb8 hb7
        go_wp2_with fail
        refine (copy_any l _ _ (HB.out.kept HKW.out) (by omega)).mono ?_
        rintro e wc ⟨vc, rfl, hoc, hkc⟩
        have hbc := Bts.of_own hoc
        have hKc := HKW.out.trans hkc
        clear hoc hkc HKW
        go_wp2_with fail
        refine (newReader_any l _ _ hbc (by omega)).mono ?_
        rintro e wn ⟨rb, rfl, hrb, hIR, hkn⟩
        have hKn := hKc.trans hkn
        have hrl := hIR.lt
        have hka := (Kept.refl wn).alloc (.cells #[.slice Ab l.length cb, .int .i64 0, .int .i64 0] 68)
        have hIR2 := hIR.kept hka
        have hID : IsD (wn.alloc (.cells #[.slice Ab l.length cb, .int .i64 0, .int .i64 0] 68)) wn.heap.size (.slice Ab l.length cb) l 0 0 := ⟨heap_alloc_new wn _, (HB.out.kept hKn).kept hka, Nat.zero_le _⟩
        have hK := hKn.trans hka
        have hrw : w.heap.size ≤ rb := Nat.le_trans hKc.size hrb
        have hdw : w.heap.size ≤ wn.heap.size := hKn.size
        have hst : Pair w (wn.alloc (.cells #[.slice Ab l.length cb, .int .i64 0, .int .i64 0] 68)) rb wn.heap.size (.slice Ab l.length cb) l 0 0 := ⟨hIR2, hID, hK, by omega, hrw, hdw⟩
        have HST := Lib.hid hst
        clear hst hK hID hIR2 hka hrl hKn hkn hIR hrb hKc hbc hrw hdw
        go_wp2_with fail
        go_loopw [119] (fun t W => ∃ (k p : Nat) (er : Int), t = .int .i64 (k : Int) ∧ k ≤ ks.length ∧ Pair w W rb wn.heap.size (.slice Ab l.length cb) l p er) (fun t _ => ks.length - (intOf t).toNat)
        case atStart => exact ⟨0, 0, 0, rfl, Nat.zero_le _, HST.out⟩
        case round =>
          clear HST
          obtain ⟨k, p, er, rfl, hk, hP⟩ := hrel
          by_cases hlt : k < ks.length
          · obtain ⟨bi, oi, rfl, hc0⟩ := (HKS.out.kept hP.kept).at hlt
            have hpl := hP.d.2.2
            have hdl : (l.drop p).length ≤ 140737488355328 := by simp; omega
            generalize ks[k] = kd at *
            by_cases hk1 : kd = 1
            · subst hk1
              go_wp2_with fail
              refine (rNum rb _ er _ hP.r hdl).mono ?_
              rintro e wa ⟨rfl, hRa, hFa⟩
              have hDa := hP.d.framed hP.r.not8 hFa hP.ne.symm
              have hKa := hFa.kept hP.kept hP.rw
              go_wp2_with fail
              refine (dNum _ _ l p er _ hDa (by omega)).mono ?_
              rintro e wb ⟨rfl, hDb, hFb⟩
              have hRb := hRa.framed hDa.not8 hFb hP.ne
              rw [List.drop_drop] at hRb
              have hPb : Pair w wb rb wn.heap.size (.slice Ab l.length cb) l _ _ := ⟨hRb, hDb, hFb.kept hKa hP.dw, hP.ne, hP.rw, hP.dw⟩
              clear hRb hDb hFb hDa hKa hRa hFa hP hdl hpl hc0
              generalize rn (l.drop p) er = R at *
              have u5 : (((R.1 : Nat) : Int) != ((R.1 : Nat) : Int)) = false := by simp
              generalize R.1 = r1 at *
              generalize p + R.2.1 = p' at *
              generalize R.2.2 = er' at *
              have hcs := (hPb.ofKept (Kept.refl wb).drew).d.cells
              obtain ⟨d0, d1, d2, -, -⟩ := hPb.d.cells
              have HPd := Lib.hid (hPb.ofKept (Kept.refl wb).drew)
              clear hPb hcs
              have u6 : (er' != er') = false := by simp
              go_wp2_with fail
              go_region_with (first
                | (go_at_call 40; refine (rErr rb _ er' _ HPd.out.r).mono ?_; rintro e w3 ⟨rfl, rfl⟩)
                | (go_at_call 41; refine (rLeft rb _ er' _ HPd.out.r).mono ?_; rintro e w4 ⟨rfl, rfl⟩)
                | (go_at_call 42; refine (dLeft _ _ l p' er' _ HPd.out.d (by omega)).mono ?_; rintro e w5 ⟨rfl, hk5⟩))
              all_goals (
                have HFN := Lib.hid (HPd.out.ofKept hk5)
                clear HPd hk5 d0 d1 d2
                go_wp2
                go_roundw
                case rel => exact ⟨k + 1, p', er', by go_num, by omega, HFN.out⟩
                case measure => simp [intOf]; omega)
            · by_cases hk2 : kd = 2
              · subst hk2
                go_wp2_with fail
                refine (rBlob rb _ er _ hP.r hdl).mono ?_
                rintro e wa ⟨ua, rfl, hua, hRa, hFa⟩
                have hDa := hP.d.framed hP.r.not8 hFa hP.ne.symm
                have hKa := hFa.kept hP.kept hP.rw
                go_wp2_with fail
                refine (dBlob _ _ l p er _ hDa (by omega)).mono ?_
                rintro e wb ⟨ud, p', rfl, hud, hDb, hq, hFb⟩
                have hRb := hRa.framed hDa.not8 hFb hP.ne
                rw [hq] at hRb
                have hub := hua.framed8 hDa.not8 hFb
                have hPb : Pair w wb rb wn.heap.size (.slice Ab l.length cb) l _ _ := ⟨hRb, hDb, hFb.kept hKa hP.dw, hP.ne, hP.rw, hP.dw⟩
                clear hRb hDb hFb hDa hKa hRa hFa hP hdl hpl hc0 hq hua
                generalize (rd (l.drop p) er).1 = X at *
                generalize (rd (l.drop p) er).2.2 = er' at *
                go_wp2_with fail
                refine (same_any X X _ _ _ hub hud).mono ?_
                rintro e wy ⟨rfl, rfl⟩
                rw [beq_self_eq_true]
                clear hub hud
                have hcs := (hPb.ofKept (Kept.refl wb).drew).d.cells
                obtain ⟨d0, d1, d2, -, -⟩ := hPb.d.cells
                have HPd := Lib.hid (hPb.ofKept (Kept.refl wb).drew)
                clear hPb hcs
                have u6 : (er' != er') = false := by simp
                go_wp2_with fail
                go_region_with (first
                  | (go_at_call 40; refine (rErr rb _ er' _ HPd.out.r).mono ?_; rintro e w3 ⟨rfl, rfl⟩)
                  | (go_at_call 41; refine (rLeft rb _ er' _ HPd.out.r).mono ?_; rintro e w4 ⟨rfl, rfl⟩)
                  | (go_at_call 42; refine (dLeft _ _ l p' er' _ HPd.out.d (by omega)).mono ?_; rintro e w5 ⟨rfl, hk5⟩))
                all_goals (
                  have HFN := Lib.hid (HPd.out.ofKept hk5)
                  clear HPd hk5 d0 d1 d2
                  go_wp2
                  go_roundw
                  case rel => exact ⟨k + 1, p', er', by go_num, by omega, HFN.out⟩
                  case measure => simp [intOf]; omega)
              · have t1 : (kd == 1) = false := beq_eq_false_iff_ne.2 hk1
                have t2 : (kd == 2) = false := beq_eq_false_iff_ne.2 hk2
                go_wp2_with fail
                refine (rText rb _ er _ hP.r hdl).mono ?_
                rintro e wa ⟨rfl, hRa, hFa⟩
                have hDa := hP.d.framed hP.r.not8 hFa hP.ne.symm
                have hKa := hFa.kept hP.kept hP.rw
                go_wp2_with fail
                refine (dBlob _ _ l p er _ hDa (by omega)).mono ?_
                rintro e wb ⟨ud, p', rfl, hud, hDb, hq, hFb⟩
                have hRb := hRa.framed hDa.not8 hFb hP.ne
                rw [hq] at hRb
                have hPb : Pair w wb rb wn.heap.size (.slice Ab l.length cb) l _ _ := ⟨hRb, hDb, hFb.kept hKa hP.dw, hP.ne, hP.rw, hP.dw⟩
                clear hRb hDb hFb hDa hKa hRa hFa hP hdl hpl hc0 hq
                have hcv := conv_run hud
                obtain ⟨Ad, cd, rfl⟩ := hud.form
                clear hud
                generalize (rd (l.drop p) er).1 = X at *
                generalize (rd (l.drop p) er).2.2 = er' at *
                have hcs := (hPb.ofKept (Kept.refl wb).drew).d.cells
                obtain ⟨d0, d1, d2, -, -⟩ := hPb.d.cells
                have HPd := Lib.hid (hPb.ofKept (Kept.refl wb).drew)
                clear hPb hcs
                have u6 : (er' != er') = false := by simp
                go_wp2_with fail
                go_region_with (first
                  | (go_at_call 40; refine (rErr rb _ er' _ HPd.out.r).mono ?_; rintro e w3 ⟨rfl, rfl⟩)
                  | (go_at_call 41; refine (rLeft rb _ er' _ HPd.out.r).mono ?_; rintro e w4 ⟨rfl, rfl⟩)
                  | (go_at_call 42; refine (dLeft _ _ l p' er' _ HPd.out.d (by omega)).mono ?_; rintro e w5 ⟨rfl, hk5⟩))
                all_goals (
                  have HFN := Lib.hid (HPd.out.ofKept hk5)
                  clear HPd hk5 d0 d1 d2
                  go_wp2
                  go_roundw
                  case rel => exact ⟨k + 1, p', er', by go_num, by omega, HFN.out⟩
                  case measure => simp [intOf]; omega)
          · obtain rfl : k = ks.length := by omega
            go_wp2_with fail
            refine (awake_any _).mono ?_
            rintro e wz ⟨rfl, hkz⟩
            have hKz := hP.kept.trans hkz
            clear hkz hP
            go_wp2
            go_ret
            exact ⟨rfl, hKz⟩
end Go.Proofs.YtlkcooedlkhacaaDoor
