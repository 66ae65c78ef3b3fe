/- The walks of stampOf, fits, manifest and parseManifest. The walk of parseManifest. -/
import Derived.Test.YtngbgngfdklnlaaGreatDoorGSTb4
import Derived.Test.YtngbgngfdklnlaaGreatDoorQRdr2
import Derived.Test.YtngbgngfdklnlaaGreatDoorQUnf
set_option linter.unusedSimpArgs false
set_option linter.unusedVariables false
namespace Go.Proofs.YtngbgngfdklnlaaGreatDoor
open Go.RowKit
/-- A stamp. -/
def stV (a b c : Int) : Value := .agg #[.int .i64 a, .int .i64 b, .int .i64 c]
def stN (m : Nat × Nat × Nat) : Value := stV (m.1 : Int) (m.2.1 : Int) (m.2.2 : Int)
/-- Three numbers in a block of their own. -/
def St3 (w : World) (b : Nat) (x y z : Int) : Prop := w.heap[b]? = some (.cells #[.int .i64 x, .int .i64 y, .int .i64 z] 94 (0, 0))
theorem St3.cells {w : World} {b : Nat} {x y z : Int} (h : St3 w b x y z) : w.cell? ⟨b, 0, none⟩ = some (.int .i64 x) ∧ w.cell? ⟨b, 1, none⟩ = some (.int .i64 y) ∧ w.cell? ⟨b, 2, none⟩ = some (.int .i64 z) ∧ w.frozen? ⟨b, 0, none⟩ = false ∧ w.frozen? ⟨b, 1, none⟩ = false ∧ w.frozen? ⟨b, 2, none⟩ = false := by
  have h : w.heap[b]? = _ := h
  exact ⟨by rw [cell_at h]; rfl, by rw [cell_at h]; rfl, by rw [cell_at h]; rfl, frozen_at h 0, frozen_at h 1, frozen_at h 2⟩
theorem St3.kept {w w' : World} {b : Nat} {x y z : Int} (h : St3 w b x y z) (k : Kept w w') : St3 w' b x y z := k.block' h
theorem St3.set {w : World} {b : Nat} {x y z : Int} (h : St3 w b x y z) (u : Int) : St3 (w.setCell ⟨b, 0, none⟩ (.int .i64 u)) b u y z ∧ St3 (w.setCell ⟨b, 1, none⟩ (.int .i64 u)) b x u z ∧ St3 (w.setCell ⟨b, 2, none⟩ (.int .i64 u)) b x y u := by
  have h : w.heap[b]? = _ := h
  exact ⟨Lib.heap_setCell_same (i := 0) h _, Lib.heap_setCell_same (i := 1) h _, Lib.heap_setCell_same (i := 2) h _⟩
theorem St3.lt {w : World} {b : Nat} {x y z : Int} (h : St3 w b x y z) : b < w.heap.size := (Array.getElem?_eq_some_iff.1 h).1
theorem St3.other {w : World} {b c i : Nat} {x y z : Int} (h : St3 w b x y z) (hne : c ≠ b) (v : Value) : St3 (w.setCell ⟨c, i, none⟩ v) b x y z := by
  have := (Chg.refl (fun g => g = c) w).setCell (b := c) (o := i) v (fun _ => rfl)
  exact this.block' h (fun e => hne e.symm)
theorem St3.not8 {w : World} {b : Nat} {x y z : Int} (h : St3 w b x y z) (o : Nat) (u : Int) : w.cell? ⟨b, o, none⟩ ≠ some (.int .u8 u) := by
  have h : w.heap[b]? = _ := h
  rw [cell_at h]
  match o with
  | 0 => simp
  | 1 => simp
  | 2 => simp
  | k + 3 => simp
set_option maxRecDepth 100000 in
set_option maxHeartbeats 1000000 in
theorem stampOf_any (n : Int) (l : List UInt8) (v : Value) (w : World) (hv : Bts w v l) :
    Calls Tryz.prog 38 #[.int .i64 n, v] w fun e w' => e = .returned (stV n (l.length : Int) (crc l : Int)) ∧ Kept w w' := by
  have hk0 := (Kept.refl w).alloc (.cells #[.int .i64 0, .int .i64 0, .int .i64 0] 94)
  have hb : St3 (w.alloc (.cells #[.int .i64 0, .int .i64 0, .int .i64 0] 94)) w.heap.size 0 0 0 := heap_alloc_new w _
  have HS := Lib.hid (sum_any l v _ (hv.kept hk0))
  obtain ⟨A, c, rfl, hc1, hc2, -⟩ := hv
  unfold maxLen at hc2
  go_enter Tryz.func38, Tryz.ntmps38
  go_wp2_with fail
  refine HS.out.mono ?_
  rintro e w1 ⟨rfl, k1⟩
  obtain ⟨r0, r1, r2, q0, q1, q2⟩ := (hb.kept k1).cells
  have k2 := hk0.trans k1
  clear hb HS
  go_wp2
  exact bodyPost_ret (v := stV n (l.length : Int) (crc l : Int)) (by simp [results, Tryz.results38, go_sem, stV, q0, q1, q2, r0, r1, r2]) rfl ⟨rfl, by
    refine Chg.kept (F := fun g => g = w.heap.size) (Kept.refl w) ?_ (fun g e => by omega)
    repeat (first | exact Chg.of_kept k2 | refine Chg.setCell ?_ _ (fun _ => rfl))⟩
set_option maxRecDepth 100000 in
set_option maxHeartbeats 1000000 in
theorem fitsS_any (m : Nat × Nat × Nat) (l : List UInt8) (v : Value) (w : World) (hv : Bts w v l) :
    Calls Tryz.prog 81 #[stN m, v] w fun e w' => e = .returned (.bool (fitS m l)) ∧ Kept w w' := by
  obtain ⟨n, len, s⟩ := m
  have hk0 := (Kept.refl w).alloc (.cells #[.int .i64 (n : Int), .int .i64 (len : Int), .int .i64 (s : Int)] 94)
  have hb : St3 (w.alloc (.cells #[.int .i64 (n : Int), .int .i64 (len : Int), .int .i64 (s : Int)] 94)) w.heap.size n len s := heap_alloc_new w _
  have HS := Lib.hid (show ∀ W, Kept w W → _ from fun W hW => sum_any l v W (hv.kept hW))
  obtain ⟨A, c, rfl, hc1, hc2, -⟩ := hv
  unfold maxLen at hc2
  unfold stN stV
  simp only
  generalize hr : fitS (n, len, s) l = r
  unfold fitS at hr
  simp only at hr
  obtain ⟨r0, r1, r2, -, -, -⟩ := hb.cells
  by_cases h1 : l.length = len
  · have HR := Lib.hid (show ((crc l : Int) == (s : Int)) = r by
      rw [← hr, decide_eq_true h1, Bool.true_and, Bool.eq_iff_iff]
      simp only [beq_iff_eq, decide_eq_true_eq]
      omega)
    have i1 : ((l.length : Int) == (len : Int)) = true := by simp; omega
    clear hr h1
    go_enter Tryz.func81, Tryz.ntmps81
    go_wp2
    generalize w.alloc (.cells #[.int .i64 (n : Int), .int .i64 (len : Int), .int .i64 (s : Int)] 94) = w1 at *
    have hK1 := (Kept.refl w1).drew
    have hK2 := hk0.trans hK1
    clear hb
    go_region_with (go_at_call 83; refine (HS.out _ (by first | exact hK2)).mono ?_; rintro e w3 ⟨rfl, hq⟩; have hq1 := hK1.trans hq; have z1 := hq1.cell r1; have z2 := hq1.cell r2)
    all_goals (
      go_wp2
      go_ret
      exact ⟨ret_bool HR.out, hk0.trans hq1⟩)
  · have HR := Lib.hid (show false = r by rw [← hr, decide_eq_false h1]; rfl)
    have i1 : ((l.length : Int) == (len : Int)) = false := by simp; omega
    clear hr h1
    go_enter Tryz.func81, Tryz.ntmps81
    go_wp2
    generalize w.alloc (.cells #[.int .i64 (n : Int), .int .i64 (len : Int), .int .i64 (s : Int)] 94) = w1 at *
    have hK1 := (Kept.refl w1).drew
    clear hb
    go_region
    all_goals (
      go_wp2
      go_ret
      exact ⟨ret_bool HR.out, hk0.trans hK1⟩)
theorem nums3 (a b c : Nat) (ha : a ≤ 4611686018427387903) (hb : b ≤ 4611686018427387903) (hc : c ≤ 4611686018427387903) : numsErr [(a : Int), (b : Int), (c : Int)] = 0 ∧ numsRes [(a : Int), (b : Int), (c : Int)] = put a ++ (put b ++ put c) := by
  have e : ∀ n : Nat, n ≤ 4611686018427387903 → okNum (n : Int) = true := fun n h => by unfold okNum; simp; omega
  unfold numsErr numsRes badAll putAll
  simp [e a ha, e b hb, e c hc]
set_option maxRecDepth 100000 in
set_option maxHeartbeats 1000000 in
theorem manifest_any (a b c : Nat) (w : World) (ha : a ≤ 4611686018427387903) (hb : b ≤ 4611686018427387903) (hc : c ≤ 4611686018427387903) :
    Calls Tryz.prog 39 #[stV (a : Int) (b : Int) (c : Int)] w fun e w' => ∃ v, e = .returned (.tuple #[v, .int .i64 0]) ∧ w'.ownsRow w.heap.size 5 1 v (manB a b c).length (Lib.byteCells (manB a b c)) ∧ Kept w w' := by
  have hk0 := ((Kept.refl w).alloc (.cells #[.int .i64 (a : Int), .int .i64 (b : Int), .int .i64 (c : Int)] 94)).alloc (.cells #[.int .i64 (a : Int), .int .i64 (b : Int), .int .i64 (c : Int)] 3)
  have hz : (w.alloc (.cells #[.int .i64 (a : Int), .int .i64 (b : Int), .int .i64 (c : Int)] 94)).heap.size = w.heap.size + 1 := by simp
  have HN := Lib.hid (numbers_any [(a : Int), (b : Int), (c : Int)] (.slice (some ⟨w.heap.size + 1, 0, none⟩) 3 3) ((w.alloc (.cells #[.int .i64 (a : Int), .int .i64 (b : Int), .int .i64 (c : Int)] 94)).alloc (.cells #[.int .i64 (a : Int), .int .i64 (b : Int), .int .i64 (c : Int)] 3)) (by
    refine ⟨_, 3, rfl, Nat.le_refl _, by decide, fun _ => ⟨_, 0, rfl, fun k x hx => ?_⟩⟩
    have hb := heap_alloc_new (w.alloc (.cells #[.int .i64 (a : Int), .int .i64 (b : Int), .int .i64 (c : Int)] 94)) (.cells #[.int .i64 (a : Int), .int .i64 (b : Int), .int .i64 (c : Int)] 3)
    rw [hz] at hb
    rw [cell_at hb]
    match k, hx with
    | 0, hx => obtain rfl : (a : Int) = x := by simpa using hx
               rfl
    | 1, hx => obtain rfl : (b : Int) = x := by simpa using hx
               rfl
    | 2, hx => obtain rfl : (c : Int) = x := by simpa using hx
               rfl) (by simp))
  rw [(nums3 a b c ha hb hc).1, (nums3 a b c ha hb hc).2] at HN
  have HF := Lib.hid (show ∀ v W, Bts W v (put a ++ (put b ++ put c)) → _ from fun v W h => frame_any _ v W h)
  have hpl : ¬ 65536 < (put a ++ (put b ++ put c)).length := by
    rw [List.length_append, List.length_append]
    have := put_len a
    have := put_len b
    have := put_len c
    omega
  unfold frErr frRes at HF
  rw [if_neg hpl, if_neg hpl] at HF
  unfold manB
  unfold stV
  generalize put a ++ (put b ++ put c) = p at *
  clear hpl ha hb hc
  go_enter Tryz.func39, Tryz.ntmps39
  go_wp2_with fail
  refine HN.out.mono ?_
  rintro e w1 ⟨v1, rfl, ho1, k1⟩
  have HB := Lib.hid (Bts.of_own ho1)
  obtain ⟨A1, c1, rfl⟩ := own_form ho1
  have k2 := hk0.trans k1
  clear ho1 HN
  go_wp2_with fail
  refine (HF.out _ _ HB.out).mono ?_
  rintro e w2 ⟨v2, rfl, ho2, k3⟩
  have HO := Lib.hid (own_base' ho2 k2.size)
  have HK := Lib.hid (k2.trans k3)
  obtain ⟨A2, c2, rfl⟩ := own_form ho2
  clear ho2 k3
  go_wp2
  go_ret2
  exact ⟨_, rfl, HO.out, HK.out⟩
end Go.Proofs.YtngbgngfdklnlaaGreatDoor
set_option linter.unusedSimpArgs false
set_option linter.unusedVariables false
namespace Go.Proofs.YtngbgngfdklnlaaGreatDoor
open Go.RowKit
/-- A reader, a stamp that is being read, and the result's cell. -/
structure PSt (w W : World) (rb sb : Nat) (x y z : Int) (s : List UInt8) (er : Int) : Prop where
  kept : Kept w W
  rd : IsR W rb s er
  st : St3 W sb x y z
  res : St3 W w.heap.size 0 0 0
  rlo : w.heap.size < rb
  slo : w.heap.size < sb
  ne : rb ≠ sb
theorem PSt.num {w W W' : World} {rb sb : Nat} {x y z : Int} {s s' : List UInt8} {er er' : Int} (h : PSt w W rb sb x y z s er) (hI : IsR W' rb s' er') (hF : RFr rb W W') : PSt w W' rb sb x y z s' er' :=
  ⟨hF.kept h.kept (Nat.le_of_lt h.rlo), hI, (hF.block sb h.st.lt (fun e => h.ne e.symm)).trans h.st, (hF.block _ h.res.lt (Nat.ne_of_lt h.rlo)).trans h.res, h.rlo, h.slo, h.ne⟩
theorem PSt.set {w W : World} {rb sb : Nat} {x y z : Int} {s : List UInt8} {er : Int} (h : PSt w W rb sb x y z s er) {x' y' z' : Int} (i : Nat) (v : Value) (hs : St3 (W.setCell ⟨sb, i, none⟩ v) sb x' y' z') : PSt w (W.setCell ⟨sb, i, none⟩ v) rb sb x' y' z' s er := by
  have hC := (Chg.refl (fun g => g = sb) W).setCell (b := sb) (o := i) v (fun _ => rfl)
  obtain ⟨u, hu, hb⟩ := h.rd
  exact ⟨hC.kept h.kept (fun g e => by rw [e]; exact Nat.le_of_lt h.slo), ⟨u, hC.block' hu h.ne, hb.set h.st.not8⟩, hs, hC.block' h.res (Nat.ne_of_lt h.slo), h.rlo, h.slo, h.ne⟩
set_option maxRecDepth 100000 in
set_option maxHeartbeats 4000000 in
theorem parseManifest_any (l : List UInt8) (v : Value) (w : World) (hv : Bts w v l) (hl : l.length ≤ 1073741824) :
    Calls Tryz.prog 100 #[v] w fun e w' => e = .returned (.tuple #[stN ((parseM l).getD (0, 0, 0)), .bool (parseM l).isSome]) ∧ Kept w w' := by
  have hk0 := (Kept.refl w).alloc (.cells #[.int .i64 0, .int .i64 0, .int .i64 0] 94)
  have hb0 : St3 (w.alloc (.cells #[.int .i64 0, .int .i64 0, .int .i64 0] 94)) w.heap.size 0 0 0 := heap_alloc_new w _
  have hz0 : (w.alloc (.cells #[.int .i64 0, .int .i64 0, .int .i64 0] 94)).heap.size = w.heap.size + 1 := by simp
  have HU := Lib.hid (unframe_any l 0 _ _ (hv.kept hk0) (by omega))
  unfold UnPost at HU
  obtain ⟨A, c, hvv, hc1, hc2, -⟩ := hv
  subst hvv
  unfold maxLen at hc2
  generalize hr : parseM l = r
  unfold parseM at hr
  have hzero : stN (0, 0, 0) = .agg #[.int .i64 0, .int .i64 0, .int .i64 0] := rfl
  by_cases h0 : (unAt l 0).2.2 = 0
  · have hu : unAt l ((0 : Nat) : Int) = ((unAt l 0).1, (unAt l 0).2.1, 0) := Prod.ext rfl (Prod.ext rfl h0)
    obtain ⟨hu1, hu2, hu3, -⟩ := unAt_inv hu
    generalize unAt l 0 = u at *
    obtain ⟨p, en, er⟩ := u
    simp only at h0 HU hr hu1 hu2 hu3
    subst h0
    clear hu
    by_cases h1 : en = (l.length : Int)
    · subst h1
      rw [if_pos ⟨rfl, rfl⟩] at hr
      clear hu1
      unfold three at hr
      have d1 : ∀ k, (p.drop k).length ≤ 65536 := fun k => by rw [List.length_drop]; omega
      have d2 : ∀ j k, ((p.drop j).drop k).length ≤ 65536 := fun j k => by rw [List.length_drop]; have := d1 j; omega
      have HR1 := Lib.hid (show ∀ W rb, IsR W rb p 0 → _ from fun W rb h => rNum rb p 0 W h (by omega))
      cases hn1 : rn p 0 with
      | mk a1 ra =>
      obtain ⟨a2, a3⟩ := ra
      rw [hn1] at HR1 hr
      simp only at HR1 hr
      have HR2 := Lib.hid (show ∀ W rb, IsR W rb (p.drop a2) a3 → _ from fun W rb h => rNum rb (p.drop a2) a3 W h (by have := d1 a2; omega))
      cases hn2 : rn (p.drop a2) a3 with
      | mk b1 rb' =>
      obtain ⟨b2, b3⟩ := rb'
      rw [hn2] at HR2 hr
      simp only at HR2 hr
      have HR3 := Lib.hid (show ∀ W rb, IsR W rb ((p.drop a2).drop b2) b3 → _ from fun W rb h => rNum rb ((p.drop a2).drop b2) b3 W h (by have := d2 a2 b2; omega))
      cases hn3 : rn ((p.drop a2).drop b2) b3 with
      | mk c1 rc' =>
      obtain ⟨c2, c3⟩ := rc'
      rw [hn3] at HR3 hr
      simp only at HR3 hr
      clear hn1 hn2 hn3 d1 d2
      generalize hq : ((p.drop a2).drop b2).drop c2 = q at *
      clear hq
      go_enter Tryz.func100, Tryz.ntmps100
      go_wp2_with fail
      refine HU.out.mono ?_
      rintro e w1 ⟨v1, rfl, ho1, k1⟩
      have HB := Lib.hid (Bts.of_own ho1)
      obtain ⟨A1, c1', rfl⟩ := own_form ho1
      have hs1 := k1.size
      have k1' := hk0.trans k1
      have hb1 := hb0.kept k1
      generalize w.alloc (.cells #[.int .i64 0, .int .i64 0, .int .i64 0] 94) = wa at *
      clear ho1 hb0 HU
      go_wp2_with fail
      refine (newReader_any p _ w1 HB.out (by omega)).mono ?_
      rintro e w2 ⟨rb, rfl, hrb, hI, k2⟩
      have hlt := hI.lt
      have P0 : PSt w (w2.alloc (.cells #[.int .i64 0, .int .i64 0, .int .i64 0] 94)) rb w2.heap.size 0 0 0 p 0 :=
        ⟨(k1'.trans k2).alloc _, hI.kept ((Kept.refl w2).alloc _), heap_alloc_new w2 _, (hb1.kept k2).kept ((Kept.refl w2).alloc _), by omega, by omega, by omega⟩
      have HP0 := Lib.hid P0
      clear hI hb1 P0 hlt
      go_wp2_with fail
      generalize w2.alloc (.cells #[.int .i64 0, .int .i64 0, .int .i64 0] 94) = w3 at *
      generalize w2.heap.size = sb at *
      refine (HR1.out _ _ HP0.out.rd).mono ?_
      rintro e w4 ⟨rfl, hI4, hF4⟩
      have HP1 := Lib.hid (HP0.out.num hI4 hF4)
      obtain ⟨e0, e1, e2, f0, f1, f2⟩ := HP1.out.st.cells
      clear hI4 hF4
      go_wp2_with fail
      have HP2 := Lib.hid (HP1.out.set 0 _ (HP1.out.st.set (a1 : Int)).1)
      generalize w4.setCell ⟨sb, 0, none⟩ (.int .i64 (a1 : Int)) = w5 at *
      refine (HR2.out _ _ HP2.out.rd).mono ?_
      rintro e w6 ⟨rfl, hI6, hF6⟩
      have HP3 := Lib.hid (HP2.out.num hI6 hF6)
      clear hI6 hF6 e0 e1 e2 f0 f1 f2
      obtain ⟨e0, e1, e2, f0, f1, f2⟩ := HP3.out.st.cells
      go_wp2_with fail
      have HP4 := Lib.hid (HP3.out.set 1 _ (HP3.out.st.set (b1 : Int)).2.1)
      generalize w6.setCell ⟨sb, 1, none⟩ (.int .i64 (b1 : Int)) = w7 at *
      refine (HR3.out _ _ HP4.out.rd).mono ?_
      rintro e w8 ⟨rfl, hI8, hF8⟩
      have HP5 := Lib.hid (HP4.out.num hI8 hF8)
      clear hI8 hF8 e0 e1 e2 f0 f1 f2
      obtain ⟨e0, e1, e2, f0, f1, f2⟩ := HP5.out.st.cells
      go_wp2_with fail
      have HP6 := Lib.hid (HP5.out.set 2 _ (HP5.out.st.set (c1 : Int)).2.2)
      generalize w8.setCell ⟨sb, 2, none⟩ (.int .i64 (c1 : Int)) = w9 at *
      clear e0 e1 e2 f0 f1 f2
      refine (rErr rb _ _ w9 HP6.out.rd).mono ?_
      rintro e w10 ⟨rfl, rfl⟩
      obtain ⟨e0, e1, e2, f0, f1, f2⟩ := HP6.out.st.cells
      obtain ⟨r0, r1, r2, q0, q1, q2⟩ := HP6.out.res.cells
      have HK := Lib.hid HP6.out.kept
      by_cases h2 : c3 = 0
      · subst h2
        by_cases h3 : q = []
        · subst h3
          rw [if_pos ⟨rfl, rfl⟩] at hr
          subst hr
          have HL := Lib.hid (rLeft rb [] 0 w9 HP6.out.rd)
          go_wp2_with fail
          refine HL.out.mono ?_
          rintro e w11 ⟨rfl, rfl⟩
          go_wp2
          exact bodyPost_ret (v := .tuple #[.agg #[.int .i64 (a1 : Int), .int .i64 (b1 : Int), .int .i64 (c1 : Int)], .bool true]) (by simp [results, Tryz.results100, go_sem, q0, q1, q2, r0, r1, r2]) rfl ⟨rfl, by
            refine Chg.kept (F := fun g => g = w.heap.size) (Kept.refl w) ?_ (fun g e => by omega)
            repeat (first | exact Chg.of_kept HK.out | refine Chg.setCell ?_ _ (fun _ => rfl))⟩
        · rw [if_neg (fun h => h3 h.2)] at hr
          subst hr
          have HL := Lib.hid (rLeft rb q 0 w9 HP6.out.rd)
          have hq : q.length ≠ 0 := fun h => h3 (List.eq_nil_of_length_eq_zero h)
          have hql : (q.length : Int) > 0 := by omega
          have hqd : decide ((0 : Int) < (q.length : Int)) = true := by simp; omega
          generalize q.length = Q at *
          go_wp2_with fail
          refine HL.out.mono ?_
          rintro e w11 ⟨rfl, rfl⟩
          go_wp2
          exact bodyPost_ret (v := .tuple #[.agg #[.int .i64 0, .int .i64 0, .int .i64 0], .bool false]) (by simp [results, Tryz.results100, go_sem, q0, q1, q2, r0, r1, r2]) rfl ⟨rfl, by
            refine Chg.kept (F := fun g => g = w.heap.size) (Kept.refl w) ?_ (fun g e => by omega)
            repeat (first | exact Chg.of_kept HK.out | refine Chg.setCell ?_ _ (fun _ => rfl))⟩
      · rw [if_neg (fun h => h2 h.1)] at hr
        subst hr
        have h2' : (c3 != 0) = true := by simpa using h2
        have h2'' : (c3 == 0) = false := by simpa using h2
        clear h2
        go_wp2
        exact bodyPost_ret (v := .tuple #[.agg #[.int .i64 0, .int .i64 0, .int .i64 0], .bool false]) (by simp [results, Tryz.results100, go_sem, q0, q1, q2, r0, r1, r2]) rfl ⟨rfl, by
          refine Chg.kept (F := fun g => g = w.heap.size) (Kept.refl w) ?_ (fun g e => by omega)
          repeat (first | exact Chg.of_kept HK.out | refine Chg.setCell ?_ _ (fun _ => rfl))⟩
    · rw [if_neg (fun h => h1 h.2)] at hr
      subst hr
      have h1' : (en != (l.length : Int)) = true := by simpa using h1
      have h1'' : (en == (l.length : Int)) = false := by simpa using h1
      clear h1 hu1
      go_enter Tryz.func100, Tryz.ntmps100
      go_wp2_with fail
      refine HU.out.mono ?_
      rintro e w1 ⟨v1, rfl, ho1, k1⟩
      obtain ⟨A1, c1', rfl⟩ := own_form ho1
      obtain ⟨r0, r1, r2, q0, q1, q2⟩ := (hb0.kept k1).cells
      have HK := Lib.hid (hk0.trans k1)
      clear ho1 hb0 HU
      go_wp2
      exact bodyPost_ret (v := .tuple #[.agg #[.int .i64 0, .int .i64 0, .int .i64 0], .bool false]) (by simp [results, Tryz.results100, go_sem, q0, q1, q2, r0, r1, r2]) rfl ⟨rfl, by
        refine Chg.kept (F := fun g => g = w.heap.size) (Kept.refl w) ?_ (fun g e => by omega)
        repeat (first | exact Chg.of_kept HK.out | refine Chg.setCell ?_ _ (fun _ => rfl))⟩
  · rw [if_neg (fun h => h0 h.1)] at hr
    subst hr
    generalize unAt l 0 = u at *
    obtain ⟨p, en, er⟩ := u
    simp only at h0 HU
    have h1' : (er != 0) = true := by simpa using h0
    have h1'' : (er == 0) = false := by simpa using h0
    clear h0
    go_enter Tryz.func100, Tryz.ntmps100
    go_wp2_with fail
    refine HU.out.mono ?_
    rintro e w1 ⟨v1, rfl, ho1, k1⟩
    obtain ⟨A1, c1', rfl⟩ := own_form ho1
    obtain ⟨r0, r1, r2, q0, q1, q2⟩ := (hb0.kept k1).cells
    have HK := Lib.hid (hk0.trans k1)
    clear ho1 hb0 HU
    go_wp2
    exact bodyPost_ret (v := .tuple #[.agg #[.int .i64 0, .int .i64 0, .int .i64 0], .bool false]) (by simp [results, Tryz.results100, go_sem, q0, q1, q2, r0, r1, r2]) rfl ⟨rfl, by
      refine Chg.kept (F := fun g => g = w.heap.size) (Kept.refl w) ?_ (fun g e => by omega)
      repeat (first | exact Chg.of_kept HK.out | refine Chg.setCell ?_ _ (fun _ => rfl))⟩
end Go.Proofs.YtngbgngfdklnlaaGreatDoor
