/- The walks of start and awake: a tree with homes, one transaction of it. The walk of awake: one transaction of a tree with one home. A script of transactions, as it lies in memory. -/
import Derived.Test.YtennlckfmgfjbaaGreatDoorQMCd
import Derived.Test.YtennlckfmgfjbaaGreatDoorGMAp3
import Derived.Test.YtennlckfmgfjbaaGreatDoorQMAy
import Derived.Test.YtennlckfmgfjbaaGreatDoorGZCt3
set_option linter.unusedSimpArgs false
set_option linter.unusedVariables false
namespace Go.Proofs.YtennlckfmgfjbaaGreatDoor
open Go.RowKit
/-- A tree with homes. -/
def startT (hs : List Pth) : ZT := hs.foldl (fun t h => createS t (47 :: h) [] 0 false) newT
theorem startT_snoc (hs : List Pth) {k : Nat} (h : k < hs.length) : startT (hs.take (k + 1)) = createS (startT (hs.take k)) (47 :: hs[k]) [] 0 false := by
  unfold startT
  rw [List.take_succ_eq_append_getElem h, List.foldl_append]
  rfl
theorem startT_len (hs : List Pth) : (startT hs).length ≤ hs.length + 1 := by
  have key : ∀ (hs : List Pth) (t : ZT), (hs.foldl (fun t h => createS t (47 :: h) [] 0 false) t).length ≤ t.length + hs.length := by
    intro hs
    induction hs with
    | nil => intro t; exact Nat.le_refl _
    | cons x r ih =>
      intro t
      have h1 := ih (createS t (47 :: x) [] 0 false)
      have h2 := createS_len t (47 :: x) [] 0 false
      simp only [List.foldl_cons, List.length_cons]
      omega
  have := key hs newT
  unfold startT
  have h0 : newT.length = 1 := rfl
  omega
def StartTo (w : World) (hs : List Pth) (e : Ending) (w' : World) : Prop := ∃ tb, e = .returned (.pointer (some ⟨tb, 0, none⟩)) ∧ KT w w' tb (startT hs) hs.length ∧ WF (startT hs) ∧ WB hs.length (startT hs)
set_option maxRecDepth 100000 in
set_option maxHeartbeats 4000000 in
theorem start_any (hs : List Pth) (v : Value) (w : World) (hv : Txts w v hs) (hl : hs.length ≤ 1048576) (hh : ∀ h ∈ hs, h.length ≤ 140737488355328) (htab : TbZ w) :
    Calls Tryz.prog 6 #[v] w (StartTo w hs) := by
  have HN := Lib.hid (new_kt w)
  have HV := Lib.hid hv
  have HT := Lib.hid htab
  have HH := Lib.hid hh
  obtain ⟨A, c, rfl, hc1, hc2⟩ := hv.form
  unfold maxLen at hc2
  clear hv htab hh
  go_enter Tryz.func6, Tryz.ntmps6
  go_wp2_with fail
  refine HN.out.mono ?_
  rintro e w1 ⟨tb, rfl, h1⟩
  have H1 := Lib.hid h1
  clear h1
  go_wp2
  go_loopw [11] (fun i W => ∃ (k : Nat) (t : ZT), i = .int .i64 (k : Int) ∧ k ≤ hs.length ∧ t = startT (hs.take k) ∧ KT w W tb t k ∧ WF t ∧ WB k t) (fun i _ => hs.length - (intOf i).toNat)
  case atStart => exact ⟨0, newT, rfl, Nat.zero_le _, rfl, H1.out, WF.new, WB.new⟩
  case round =>
    obtain ⟨k, t, rfl, hk, hst, hkt, hwf, hwb⟩ := hrel
    have HWB := Lib.hid hwb
    have HKT := Lib.hid hkt
    have HWF := Lib.hid hwf
    have HKR := Lib.hid hkt.old
    clear hkt hwf hwb
    by_cases hlt : k < hs.length
    · obtain ⟨b, o, rfl, a0⟩ := (HV.out.kept HKR.out).at hlt
      have g1 : (k : Int) < (hs.length : Int) := by omega
      have hnx := startT_snoc hs hlt
      rw [← hst] at hnx
      have HNX := Lib.hid hnx
      have hx := HH.out hs[k] (List.getElem_mem hlt)
      clear hst hnx
      generalize hs[k] = x at *
      have hsz : (⟨x.toArray⟩ : ByteArray).size ≤ 140737488355328 := by rw [str_size]; exact hx
      have hcat : (⟨#[47]⟩ : ByteArray) ++ ⟨x.toArray⟩ = ⟨(47 :: x).toArray⟩ := str_append [47] x
      have HCR := Lib.hid (create_kt HKT.out (47 :: x) [] (.slice none 0 0) 0 false (Bts.nil _) HT.out (by omega))
      go_wp2_with fail
      refine HCR.out.mono ?_
      rintro e w4 ⟨rfl, h4, -⟩
      have H4 := Lib.hid h4
      clear h4
      go_wp2
      go_roundw
      case rel => exact ⟨k + 1, _, by go_num, by omega, HNX.out.symm, H4.out, HWF.out.create _ _ _ _, (HWB.out.create HWF.out.srt _ _ _ _).more (Nat.le_succ _)⟩
      case measure => simp [intOf]; omega
    · obtain rfl : k = hs.length := by omega
      rw [List.take_length] at hst
      subst hst
      go_wp2
      go_ret
      exact ⟨tb, rfl, HKT.out, HWF.out, HWB.out⟩
end Go.Proofs.YtennlckfmgfjbaaGreatDoor
set_option linter.unusedSimpArgs false
set_option linter.unusedVariables false
namespace Go.Proofs.YtennlckfmgfjbaaGreatDoor
open Go.RowKit
theorem KT.tr {w0 w : World} {tb : Nat} {t : ZT} {lim : Nat} (h : KT w0 w tb t lim) : Tr no w0 w tb t lim := by
  obtain ⟨mb, st, G, a1, a2, a3, a4⟩ := h
  exact ⟨mb, st, G, a1, a2, a3, a4, fun g x => x.elim⟩
theorem Tr.kt {A : Nat → Prop} {w0 w : World} {tb : Nat} {t : ZT} {lim : Nat} (h : Tr A w0 w tb t lim) : KT w0 w tb t lim := by
  obtain ⟨mb, st, G, a1, a2, a3, a4, a5⟩ := h
  exact ⟨mb, st, G, a1, a2, a3, a4⟩
theorem Ops8.one {X : World} {b : Nat} {o : OpM} {ty : TypeId} (hd : o.data = []) (h : X.heap[b]? = some (.cells #[.int .i64 o.kind, .string ⟨o.path.toArray⟩, .slice none 0 0, .int .i64 o.ver, .bool o.eph, .bool o.seq] ty (0, 0))) : Ops8 X (.slice (some ⟨b, 0, none⟩) 1 1) [⟨o, .slice none 0 0⟩] := by
  refine ⟨_, 1, rfl, Nat.le_refl _, by decide, fun _ => ⟨b, 0, rfl, fun k x hx => ?_⟩⟩
  match k, hx with
  | 0, hx =>
    obtain rfl : (⟨o, .slice none 0 0⟩ : OpX) = x := by simpa using hx
    have c0 := cell_at h 0
    have c1 := cell_at h 1
    have c2 := cell_at h 2
    have c3 := cell_at h 3
    have c4 := cell_at h 4
    have c5 := cell_at h 5
    simp only [List.getElem?_toArray, List.getElem?_cons_zero, List.getElem?_cons_succ] at c0 c1 c2 c3 c4 c5
    refine ⟨c0, c1, c2, c3, c4, c5, ?_⟩
    simp only [hd]
    exact Bts.nil _
/-- The op of awake. -/
def opA : OpM := ⟨1, [47, 97, 47, 120], [], 0, false, false⟩
theorem awakeM_facts : (applyM [97] 5 9 99 (startT [[97]]) [opA]).err = 0 ∧ (applyM [97] 5 9 99 (startT [[97]]) [opA]).bad = -1 ∧ (applyM [97] 5 9 99 (startT [[97]]) [opA]).res = [([47, 97, 47, 120], 0)] ∧ (applyM [97] 5 9 99 (startT [[97]]) [opA]).t.length = 3 := by decide +kernel
set_option maxRecDepth 100000 in
set_option maxHeartbeats 4000000 in
theorem awakeM_any (w : World) (htab : TbZ w) {ml : Int} (hml : w.cell? ⟨1, 0, none⟩ = some (.int .i64 ml)) : Calls Tryz.prog 12 #[] w fun e w' => e = .returned (.bool true) ∧ Kept w w' := by
  have ka := (Kept.refl w).alloc (.cells #[.string ⟨#[97]⟩] 9)
  have HS := Lib.hid (start_any [[97]] _ _ (Txts.one w [97] 9) (by decide) (fun h hh => by obtain rfl := List.mem_singleton.1 hh; decide) (htab.kept ka))
  have HT := Lib.hid htab
  have HM := Lib.hid hml
  have HKA := Lib.hid ka
  clear htab hml ka
  go_enter Tryz.func12, Tryz.ntmps12
  go_wp2_with fail
  refine HS.out.mono ?_
  rintro e w2 ⟨tb, rfl, h2, hwf, hwb⟩
  have HK2 := Lib.hid (HKA.out.trans h2.old)
  have HTR := Lib.hid h2.tr
  have HWF := Lib.hid hwf
  have HWB := Lib.hid hwb
  clear h2 hwf hwb
  go_wp2_with fail
  have k3 := (Kept.refl w2).alloc (.cells #[.int .i64 1, .string ⟨#[47, 97, 47, 120]⟩, .slice none 0 0, .int .i64 0, .bool false, .bool false] 46)
  have hb3 := heap_alloc_new w2 (.cells #[.int .i64 1, .string ⟨#[47, 97, 47, 120]⟩, .slice none 0 0, .int .i64 0, .bool false, .bool false] 46)
  generalize w2.alloc (.cells #[.int .i64 1, .string ⟨#[47, 97, 47, 120]⟩, .slice none 0 0, .int .i64 0, .bool false, .bool false] 46) = w3 at *
  have hlt3 : w2.heap.size < w3.heap.size := (Array.getElem?_eq_some_iff.1 hb3).1
  have hlen := startT_len [[97]]
  have hap := apply_any ((HTR.out.under HKA.out).away k3) HWF.out HWB.out (by decide) [97] (by decide) 5 9 99 [⟨opA, .slice none 0 0⟩] (.slice (some ⟨w2.heap.size, 0, none⟩) 1 1) (fun X hX => Ops8.one rfl (hX.block' hb3 (fun x => x (.inr ⟨Nat.le_refl _, hlt3⟩)))) HT.out HM.out (by decide) (by simp at hlen; omega) (by
    have := encT_few (draft_wf (h := [97]) HWF.out) (draft_wb (h := [97]) HWB.out) (draft_few [97] (startT [[97]]))
    unfold draftT at this
    rw [encT_recnt] at this
    simp at hlen
    omega)
  rw [show plainO [⟨opA, .slice none 0 0⟩] = [opA] from rfl] at hap
  obtain ⟨f1, f2, f3, f4⟩ := awakeM_facts
  have HAP := Lib.hid hap
  have HF1 := Lib.hid f1
  have HF2 := Lib.hid f2
  have HF3 := Lib.hid f3
  have HF4 := Lib.hid f4
  clear hap hb3 hlen f1 f2 f3 f4
  generalize applyM [97] 5 9 99 (startT [[97]]) [opA] = am at *
  refine HAP.out.mono ?_
  rintro e w4 ⟨rv, ev, H, rfl, hr, he, -, -, -, htr, -⟩
  rw [HF3.out] at hr
  rw [HF1.out, HF2.out]
  obtain ⟨A5, c5, he5⟩ := own_form he
  subst he5
  rcases hr.2 with ⟨rfl, h0⟩ | ⟨g, cap, cur, rfl, -⟩
  · exact absurd h0 (by simp)
  have y0 : w4.cell? ⟨g, 0, none⟩ = some (.string ⟨#[47, 97, 47, 120]⟩) := by
    have := hr.cells (g := g) rfl 0 (.string ⟨#[47, 97, 47, 120]⟩) rfl
    simpa [Addr.add] using this
  simp only [List.length_cons, List.length_nil, Nat.zero_add] at hr ⊢
  have hk5 := (Kept.refl w4).alloc (.cells #[.slice (some ⟨g, 0, none⟩) 1 cap, .slice A5 am.eff.length c5, .int .i64 (-1)] 34)
  have hb5 := heap_alloc_new w4 (.cells #[.slice (some ⟨g, 0, none⟩) 1 cap, .slice A5 am.eff.length c5, .int .i64 (-1)] 34)
  have y1 := hk5.cell y0
  have q0 := cell_at hb5 0
  have q1 := cell_at hb5 1
  have q2 := cell_at hb5 2
  simp only [List.getElem?_toArray, List.getElem?_cons_zero, List.getElem?_cons_succ] at q0 q1 q2
  have hkt := (htr.kept hk5).kt
  have HZ := size_kt hkt
  rw [HF4.out] at HZ
  have HZ := Lib.hid HZ
  have HKF := Lib.hid hkt.old
  clear hb5 y0 hr htr hkt he
  go_upto_region 5 with (fail)
  generalize w4.alloc (.cells #[.slice (some ⟨g, 0, none⟩) 1 cap, .slice A5 am.eff.length c5, .int .i64 (-1)] 34) = w5 at *
  go_wp2_with fail
  refine HZ.out.mono ?_
  rintro e w6 ⟨rfl, rfl⟩
  go_wp2
  go_ret
  exact ⟨rfl, HKF.out⟩
end Go.Proofs.YtennlckfmgfjbaaGreatDoor
set_option linter.unusedSimpArgs false
set_option linter.unusedVariables false
namespace Go.Proofs.YtennlckfmgfjbaaGreatDoor
open Go.RowKit
structure TxnX where
  home : Pth
  owner : Int
  qn : Int
  qb : Int
  ov : Value
  ops : List OpX
  sweep : Bool
def TxnX.Reads (w : World) (x : TxnX) : Prop := Ops8 w x.ov x.ops
def TxnX.Fits (x : TxnX) : Prop := x.home.length ≤ 140737488355328 ∧ x.ops.length ≤ 1048576 ∧ ∀ o ∈ x.ops, o.o.data.length ≤ 140737488355328
/-- The ops of a script, the first k transactions. -/
def opsUp (xs : List TxnX) (k : Nat) : Nat := ((xs.take k).map fun x => x.ops.length).sum
theorem opsUp_succ (xs : List TxnX) {k : Nat} (h : k < xs.length) : opsUp xs (k + 1) = opsUp xs k + xs[k].ops.length := by
  unfold opsUp
  rw [List.take_succ_eq_append_getElem h, List.map_append, List.sum_append]
  simp
theorem opsUp_le (xs : List TxnX) (k : Nat) : opsUp xs k ≤ opsUp xs xs.length := by
  unfold opsUp
  rw [List.take_length]
  induction xs generalizing k with
  | nil => simp
  | cons x r ih =>
    cases k with
    | zero => simp
    | succ k =>
      have := ih k
      simp only [List.take_succ_cons, List.map_cons, List.sum_cons]
      omega
def Script8 (w : World) (v : Value) (xs : List TxnX) : Prop :=
  ∃ A c, v = .slice A xs.length c ∧ xs.length ≤ c ∧ c ≤ maxLen ∧ (0 < xs.length → ∃ b o, A = some ⟨b, o, none⟩ ∧ ∀ k x, xs[k]? = some x →
    w.cell? ⟨b, o + k * 6, none⟩ = some (.string ⟨x.home.toArray⟩) ∧ w.cell? ⟨b, o + k * 6 + 1, none⟩ = some (.int .i64 x.owner) ∧ w.cell? ⟨b, o + k * 6 + 2, none⟩ = some (.int .i64 x.qn) ∧
    w.cell? ⟨b, o + k * 6 + 3, none⟩ = some (.int .i64 x.qb) ∧ w.cell? ⟨b, o + k * 6 + 4, none⟩ = some x.ov ∧ w.cell? ⟨b, o + k * 6 + 5, none⟩ = some (.bool x.sweep) ∧ x.Reads w)
theorem Script8.form {w : World} {v : Value} {xs : List TxnX} (h : Script8 w v xs) : ∃ A c, v = .slice A xs.length c ∧ xs.length ≤ c ∧ c ≤ maxLen := by
  obtain ⟨A, c, h1, h2, h3, -⟩ := h
  exact ⟨A, c, h1, h2, h3⟩
theorem Script8.at {w : World} {A : Option Addr} {n c : Nat} {xs : List TxnX} (h : Script8 w (.slice A n c) xs) {k : Nat} (hk : k < xs.length) : ∃ b o, A = some ⟨b, o, none⟩ ∧
    w.cell? ⟨b, o + k * 6, none⟩ = some (.string ⟨xs[k].home.toArray⟩) ∧ w.cell? ⟨b, o + k * 6 + 1, none⟩ = some (.int .i64 xs[k].owner) ∧ w.cell? ⟨b, o + k * 6 + 2, none⟩ = some (.int .i64 xs[k].qn) ∧
    w.cell? ⟨b, o + k * 6 + 3, none⟩ = some (.int .i64 xs[k].qb) ∧ w.cell? ⟨b, o + k * 6 + 4, none⟩ = some xs[k].ov ∧ w.cell? ⟨b, o + k * 6 + 5, none⟩ = some (.bool xs[k].sweep) ∧ xs[k].Reads w := by
  obtain ⟨A', c', hv, -, -, h3⟩ := h
  obtain ⟨rfl, -, -⟩ : A = A' ∧ n = xs.length ∧ c = c' := by simpa using hv
  obtain ⟨b, o, e, hc⟩ := h3 (by omega)
  exact ⟨b, o, e, hc k xs[k] (by simp [hk])⟩
theorem Script8.kept {w w' : World} {v : Value} {xs : List TxnX} (h : Script8 w v xs) (k : Kept w w') : Script8 w' v xs := by
  obtain ⟨A, c, h1, h2, h3, h4⟩ := h
  refine ⟨A, c, h1, h2, h3, fun hp => ?_⟩
  obtain ⟨b, o, e, hc⟩ := h4 hp
  refine ⟨b, o, e, fun i x hx => ?_⟩
  obtain ⟨a0, a1, a2, a3, a4, a5, a6⟩ := hc i x hx
  exact ⟨k.cell a0, k.cell a1, k.cell a2, k.cell a3, k.cell a4, k.cell a5, Ops8.kept a6 k⟩
/-- What a transaction needs of the tree: not too many nodes. -/
theorem enc_few {n m : Nat} {h : Pth} {t : ZT} (hw : WF t) (hb : WB n t) (hl : t.length ≤ m) (hm : m ≤ 8000000) : (encT (draft0 h t)).length ≤ 8000000000000 := by
  have h1 := draft_few h t
  have := encT_few (draft_wf (h := h) hw) (draft_wb (h := h) hb) h1
  unfold draftT at this
  rw [encT_recnt] at this
  have h2 : 429 * (t.length + 1) ≤ 429 * 8000001 := Nat.mul_le_mul_left _ (by omega)
  omega
/-- A transaction, its ops copied for it. -/
theorem apply_cop {w0 W Wc : World} {tb : Nat} {t : ZT} {lim nn : Nat} (hT : Tr no w0 W tb t lim) (hw : WF t) (hb : WB nn t) (hnn : nn ≤ 4611686018427387903) (h : Pth) (hh : h.length ≤ maxLen) (owner qn qb : Int) (xs : List OpX) (v : Value) {base : Nat} (hbase : W.heap.size ≤ base) (hv : OpsAt base Wc v xs) (kc : Kept W Wc) (htab : TbZ w0) {ml : Int} (hml : w0.cell? ⟨1, 0, none⟩ = some (.int .i64 ml)) (hlim : lim ≤ 8000000000000) (hfew : t.length ≤ 8000000) :
    Calls Tryz.prog 7 #[.pointer (some ⟨tb, 0, none⟩), .string ⟨h.toArray⟩, .int .i64 owner, .agg #[.int .i64 qn, .int .i64 qb], v] Wc (ApplyTo (fun g => no g ∨ (W.heap.size ≤ g ∧ g < Wc.heap.size)) w0 tb (applyM h owner qn qb t (plainO xs)) (lim + 16) Wc) :=
  apply_any (hT.away kc) hw hb hnn h hh owner qn qb xs v (fun X hX => hv.ops8 (fun g h1 h2 => hX.block g h2 (fun x => x (.inr ⟨by omega, h2⟩)))) htab hml hlim hfew (enc_few hw hb (Nat.le_refl _) hfew)
/-- What homes hold, of a tree kept apart. -/
theorem usage_tr {A : Nat → Prop} {w0 W X : World} {tb : Nat} {t : ZT} {lim : Nat} (hT : Tr A w0 W tb t lim) (k : Kept W X) (hlim : lim ≤ 8000000000000) (hfew : t.length ≤ 8000000) (h : Pth) (hl : h.length ≤ maxLen) (v : Value) (hv : Txts X v [h]) :
    Calls Tryz.prog 20 #[.pointer (some ⟨tb, 0, none⟩), v] X fun e w' => e = .returned (.agg #[.int .i64 (useN h t), .int .i64 (useB h t)]) ∧ Kept X w' := by
  obtain ⟨mb, st, G, a1, rfl, -⟩ := hT
  have h2 : (plainZ st).length = st.length := length_mapZ _ _
  have := usage_any (a1.kept k) hlim (by omega) [h] v hv (by simp) (fun x hx => by obtain rfl := List.mem_singleton.1 hx; exact hl)
  rw [(use_one h _).1, (use_one h _).2] at this
  exact this
end Go.Proofs.YtennlckfmgfjbaaGreatDoor
