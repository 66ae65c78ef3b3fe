/- The walks of multi's put and draft. multi's work in memory; the walks of tell and room. -/
import Derived.Test.YtennlckfmgfjbaaGreatDoorGMPl2
import Derived.Test.YtennlckfmgfjbaaGreatDoorGZCt3
import Derived.Test.YtennlckfmgfjbaaGreatDoorGZGet2
import Derived.Test.YtennlckfmgfjbaaGreatDoorGZPkP2
import Derived.Deep.CutBlock
import Derived.Deep.DeepCutAuto
import Derived.Deep.QuietTactic
import Derived.BigQuiet
set_option linter.unusedSimpArgs false
set_option linter.unusedVariables false
namespace Go.Proofs.YtennlckfmgfjbaaGreatDoor
open Go.RowKit
set_option maxRecDepth 100000 in
set_option maxHeartbeats 2000000 in
theorem mput_any (b : Nat) (bad : Bool) (l : List UInt8) (p : Pth) (x : List UInt8) (vx : Value) (n : ZN) (hx : n.data = x) (w : World) (hI : IsW w b bad l) (hv : ∀ W, WFr b w W → Bts W vx x) (hlim : l.length + p.length + x.length + 100 ≤ 140737488355328) :
    Calls Tryz.prog 51 #[.pointer (some ⟨b, 0, none⟩), .string ⟨p.toArray⟩, vx, statV n] w fun e w' => e = .returned (.tuple #[]) ∧ IsW w' b (bad || badRow n) (l ++ encRow p n) ∧ WFr b w w' := by
  subst hx
  obtain ⟨A, c, rfl⟩ := (hv w (WFr.refl _ _)).form
  unfold statV
  have HV := Lib.hid hv
  have HA0 := Lib.hid (hI.allocFr (.cells #[.int .i64 (n.ver : Int), .int .i64 (n.ctr : Int), .int .i64 (n.own : Int), .int .i64 n.kids] 60))
  have HI0 := Lib.hid (hI.after ((Kept.refl w).alloc (.cells #[.int .i64 (n.ver : Int), .int .i64 (n.ctr : Int), .int .i64 (n.own : Int), .int .i64 n.kids] 60)))
  have HBK := Lib.hid (show ∀ W, WFr b (w.alloc (.cells #[.int .i64 (n.ver : Int), .int .i64 (n.ctr : Int), .int .i64 (n.own : Int), .int .i64 n.kids] 60)) W → W.heap[w.heap.size]? = _ from fun W hF => hI.blkNe hF)
  have hp1 : (blobAll [p]).length ≤ 9 + p.length := by have := put_lenZ p.length; simp [blobAll]; omega
  have hp2 : (blobAll [n.data]).length ≤ 9 + n.data.length := by have := put_lenZ n.data.length; simp [blobAll]; omega
  have E3 := Lib.hid (show encRow p n = blobAll [p] ++ (blobAll [n.data] ++ putAll [(n.ver : Int), (n.ctr : Int), (n.own : Int)]) by unfold encRow blobAll; simp)
  have E4 := Lib.hid (show badRow n = badAll [(n.ver : Int), (n.ctr : Int), (n.own : Int)] from rfl)
  clear hI hv
  go_enter Tryz.func51, Tryz.ntmps51
  go_upto_region 1 with (fail)
  generalize w.alloc (.cells #[.int .i64 (n.ver : Int), .int .i64 (n.ctr : Int), .int .i64 (n.own : Int), .int .i64 n.kids] 60) = wa at *
  have HT1 := Lib.hid (texts_any b bad l [p] (.slice (some ⟨wa.heap.size, 0, none⟩) 1 1) (wa.alloc (.cells #[.string ⟨p.toArray⟩] 9)) (HI0.out.strs1 p) (HI0.out.after ((Kept.refl wa).alloc _)) (by omega))
  have HA1 := Lib.hid (HI0.out.allocFr (.cells #[.string ⟨p.toArray⟩] 9))
  go_wp2_with fail
  refine HT1.out.mono ?_
  rintro e w3 ⟨rfl, hI3, hF3⟩
  have HI3 := Lib.hid hI3
  have HF3 := Lib.hid (HA1.out.trans hF3)
  clear hI3 hF3
  have HA3 := Lib.hid (HI3.out.allocFr (.cells #[.slice A n.data.length c] 39))
  have HT3 := Lib.hid (blobs_any b bad (l ++ blobAll [p]) [n.data] [.slice A n.data.length c] (.slice (some ⟨w3.heap.size, 0, none⟩) 1 1) (w3.alloc (.cells #[.slice A n.data.length c] 39)) (HI3.out.parts1 _ n.data (fun W hF => HV.out W (HA0.out.trans (HF3.out.trans (HA3.out.trans hF))))) (HI3.out.after ((Kept.refl w3).alloc _)) (by rw [List.length_append]; omega))
  go_wp2_with fail
  refine HT3.out.mono ?_
  rintro e w4 ⟨rfl, hI4, hF4⟩
  have HI4 := Lib.hid hI4
  have HF4 := Lib.hid (HF3.out.trans (HA3.out.trans hF4))
  clear hI4 hF4
  have hb4 := HBK.out w4 HF4.out
  have z0 := cell_at hb4 0
  have z1 := cell_at hb4 1
  have z2 := cell_at hb4 2
  simp only [List.getElem?_toArray, List.getElem?_cons_zero, List.getElem?_cons_succ] at z0 z1 z2
  have HA4 := Lib.hid (HI4.out.allocFr (.cells #[.int .i64 (n.ver : Int), .int .i64 (n.ctr : Int), .int .i64 (n.own : Int)] 3))
  have HT4 := Lib.hid (nums_framed b bad (l ++ blobAll [p] ++ blobAll [n.data]) [(n.ver : Int), (n.ctr : Int), (n.own : Int)] (.slice (some ⟨w4.heap.size, 0, none⟩) 3 3) (w4.alloc (.cells #[.int .i64 (n.ver : Int), .int .i64 (n.ctr : Int), .int .i64 (n.own : Int)] 3)) (HI4.out.ints3 _ _ _) (HI4.out.after ((Kept.refl w4).alloc _)) (by rw [List.length_append, List.length_append]; simp; omega))
  clear hb4
  go_wp2_with fail
  refine HT4.out.mono ?_
  rintro e w5 ⟨rfl, hI5, hF5⟩
  have HI5 := Lib.hid hI5
  have HF5 := Lib.hid (HA0.out.trans (HF4.out.trans (HA4.out.trans hF5)))
  clear hI5 hF5 z0 z1 z2
  go_wp2
  go_end0
  refine ⟨rfl, ?_, HF5.out⟩
  have := HI5.out
  rw [E3.out, E4.out]
  simpa [List.append_assoc] using this
/-- What a draft is, in memory. -/
def DraftTo (h : Pth) (t : ZT) (w : World) (e : Ending) (w' : World) : Prop := ∃ db, e = .returned (.pointer (some ⟨db, 0, none⟩)) ∧ KT w w' db (draftT h t) (encT (draft0 h t)).length
theorem KT.under {w0 w1 W : World} {tb : Nat} {t : ZT} {lim : Nat} (h : KT w1 W tb t lim) (k : Kept w0 w1) : KT w0 W tb t lim := by
  obtain ⟨mb, st, F, a1, a2, a3, a4⟩ := h
  have := k.size
  exact ⟨mb, st, F, a1, a2, fun g x => ⟨by have := (a3 g x).1; omega, (a3 g x).2⟩, k.trans a4⟩
theorem own_wfr {w W : World} {b : Nat} {e : TypeId} {s n bs : Nat} {v : Value} {xs : List Value} (h : w.ownsRow bs e s v n xs) (hF : WFr b w W) (hg : ∀ g, v.ownBlock = some g → g ≠ b ∧ rowOf w b ≠ some g) : W.ownsRow bs e s v n xs :=
  own_chg (F := fun g => g = b ∨ rowOf w b = some g) h ⟨hF.os, hF.tape, hF.output, hF.size, fun k hk hn => hF.block k hk (fun e => hn (.inl e)) (fun e => hn (.inr e))⟩ (fun g x y => y.elim (hg g x).1 (hg g x).2)
theorem paths_home {base : Nat} {t : ZT} {h : Pth} {w w' : World} {e : Ending} (hp : PathsTo base t (homeP h) w e w') : ∃ v er, e = .returned (.tuple #[v, .int .i64 er]) ∧ w'.ownsRow base 9 1 v (filt h t).length (strCells (namesZ (filt h t))) ∧ Kept w w' := by
  obtain ⟨v, h1, h2, h3⟩ := hp
  refine ⟨v, _, h1, ?_, h3⟩
  have hl : (namesZ (filt h t)).length = (filt h t).length := by unfold namesZ; rw [List.length_map]
  by_cases hn : (names (homeP h)).isSome = true
  · rw [if_pos hn, pick_home, hl] at h2
    exact h2
  · rw [if_neg hn] at h2
    have hz : namesZ (filt h t) = [] := by
      rw [← pick_home]
      unfold pickL
      rw [List.filter_eq_nil_iff.2, List.map_nil]
      intro x _
      unfold under
      cases hm : names (homeP h) with
      | none => simp
      | some ls => rw [hm] at hn; exact absurd rfl hn
    rw [← hl, hz, h2]
    exact World.ownsRow_nil _ _ _ _
theorem enc_step (h : Pth) (t : ZT) {k : Nat} (hk : k < (filt h t).length) : encT (([47], root1) :: (filt h t).take (k + 1)) = encT (([47], root1) :: (filt h t).take k) ++ encRow (filt h t)[k].1 (filt h t)[k].2 := by
  rw [take_snoc _ _ hk, ← List.cons_append, encT_snoc]
theorem enc_le (h : Pth) (t : ZT) (k : Nat) : (encT (([47], root1) :: (filt h t).take k)).length ≤ (encT (draft0 h t)).length := encT_take (draft0 h t) (k + 1)
set_option maxRecDepth 100000 in
set_option maxHeartbeats 4000000 in
theorem draft_any {w : World} {tb mb : Nat} {st : ZSt} {lim : Nat} {F : Nat → Prop} (hT : TreeAt w tb mb st lim F) (hw : WF (plainZ st)) {n : Nat} (hb : WB n (plainZ st)) (hn : n ≤ 4611686018427387903) (h : Pth) (hlim : lim ≤ 8000000000000) (hlen : (encT (draft0 h (plainZ st))).length + 1000 ≤ 140737488355328) :
    Calls Tryz.prog 19 #[.pointer (some ⟨tb, 0, none⟩), .string ⟨h.toArray⟩] w (DraftTo h (plainZ st) w) := by
  have hka := (Kept.refl w).alloc (.cells #[.string ⟨h.toArray⟩] 9)
  have HJ := Lib.hid (pjoin_any [47] [h] _ _ (Txts.one w h 9))
  rw [show strO (joinOf [47] [h]) = homeP h from rfl] at HJ
  generalize errO (joinOf [47] [h]) = er at HJ
  have HKA := Lib.hid hka
  have HPS := Lib.hid (fun W (kW : Kept w W) => paths_any W tb mb st lim F (hT.kept kW) (homeP h) hlim)
  have HPH := Lib.hid (fun (base : Nat) (w w' : World) (e : Ending) => paths_home (base := base) (t := plainZ st) (h := h) (w := w) (w' := w') (e := e))
  have HGT := Lib.hid (fun W (kW : Kept w W) p e => get_ok W tb mb st lim F (hT.kept kW) p e)
  have HDD := Lib.hid (draft_decode (h := h) hw hb hn)
  have HWF := Lib.hid hw
  have HWB := Lib.hid hb
  have hD : ∀ k (hk : k < (filt h (plainZ st)).length), ∃ e, getZ (filt h (plainZ st))[k].1 st = some e ∧ e.nd = (filt h (plainZ st))[k].2 ∧ (names (filt h (plainZ st))[k].1).isSome = true := fun k hk => by
    have hm := (mem_filt (List.getElem_mem hk)).1
    have h1 := mem_get hw.srt hm
    obtain ⟨e, he, h2⟩ := plainZ_get h1
    exact ⟨e, he, h2, hw.path _ hm⟩
  have HD := Lib.hid hD
  have HST := Lib.hid (fun k (hk : k < (filt h (plainZ st)).length) => enc_step h (plainZ st) hk)
  have HLE := Lib.hid (fun k => enc_le h (plainZ st) k)
  have HDF := Lib.hid (show encT (([47], root1) :: (filt h (plainZ st)).take (filt h (plainZ st)).length) = encT (draft0 h (plainZ st)) by rw [List.take_length]; rfl)
  have hfl : (filt h (plainZ st)).length ≤ 8000000000001 := by
    have h1 : (filt h (plainZ st)).length ≤ (plainZ st).length := List.length_filter_le _ _
    have h2 := hT.few
    have h3 : (plainZ st).length = st.length := length_mapZ _ _
    omega
  have HNB := Lib.hid (show ∀ k (hk : k < (filt h (plainZ st)).length), NB n (filt h (plainZ st))[k].2 from fun k hk => hb.each _ (mem_filt (List.getElem_mem hk)).1)
  unfold DraftTo
  clear hka hT hw hb hD
  generalize filt h (plainZ st) = D at *
  generalize draft0 h (plainZ st) = D0 at *
  generalize draftT h (plainZ st) = DT at *
  obtain ⟨m, hm⟩ : ∃ m, D.length = m := ⟨_, rfl⟩
  have HM := Lib.hid hm
  rw [hm] at HDF hfl
  simp only [hm] at HPH
  clear hm
  go_enter Tryz.func19, Tryz.ntmps19
  go_wp2_with fail
  refine HJ.out.mono ?_
  rintro e w1 ⟨rfl, hk1⟩
  have HK1 := Lib.hid (HKA.out.trans hk1)
  clear hk1
  have HP := Lib.hid (HPS.out w1 HK1.out)
  go_wp2_with fail
  refine HP.out.mono ?_
  intro e w2 hp
  obtain ⟨v2, er2, rfl, ho2, hk2⟩ := HPH.out _ _ _ _ hp
  obtain ⟨A2, c2, rfl⟩ := own_form ho2
  have HO2 := Lib.hid ho2
  have HK2 := Lib.hid (HK1.out.trans hk2)
  clear ho2 hk2 hp
  go_wp2_with fail
  refine (newWriter_any w2).mono ?_
  rintro e w3 ⟨rfl, hI3, hK3, hr3, hs3⟩
  have hput := mput_any w2.heap.size false [] [47] [] (.slice none 0 0) root1 rfl w3 hI3 (fun W _ => Bts.nil W) (by simp)
  rw [show statV root1 = .agg #[.int .i64 0, .int .i64 1, .int .i64 0, .int .i64 0] from rfl, show badRow root1 = false by decide, show [] ++ encRow [47] root1 = encT (([47], root1) :: D.take 0) by simp [encT]] at hput
  have HPU := Lib.hid hput
  have HK3 := Lib.hid hK3
  have HR3 := Lib.hid hr3
  clear hput hI3 hK3 hr3
  go_wp2_with fail
  refine HPU.out.mono ?_
  rintro e w4 ⟨rfl, hI4, hF4⟩
  have HI4 := Lib.hid hI4
  have HF4 := Lib.hid hF4
  have HR4 := Lib.hid (show ∀ i, rowOf w3 w2.heap.size = some i → w2.heap.size ≤ i from fun i hi => by rw [HR3.out] at hi; cases hi)
  clear hI4 hF4
  go_wp2
  go_loopw [40, 9] (fun i la W => ∃ k : Nat, i = .int .i64 (k : Int) ∧ la = .slice none 0 0 ∧ k ≤ m ∧ IsW W w2.heap.size false (encT (([47], root1) :: D.take k)) ∧ WFr w2.heap.size w3 W) (fun i _ _ => m - (intOf i).toNat)
  case atStart => exact ⟨0, rfl, rfl, Nat.zero_le _, HI4.out, HF4.out⟩
  case round =>
    obtain ⟨k, rfl, rfl, hk, hI, hF⟩ := hrel
    have hk2 : Kept w2 wr := hF.kept HK3.out (Nat.le_refl _) HR4.out
    have hkw : Kept w wr := HK2.out.trans hk2
    have HKW := Lib.hid hkw
    have HF := Lib.hid hF
    have HI := Lib.hid hI
    clear hI hF
    by_cases hlt : k < m
    · have hkt : k < D.length := by rw [HM.out]; exact hlt
      obtain ⟨e, hge, hnd, hpath⟩ := HD.out k hkt
      obtain ⟨g, rfl⟩ : ∃ g, A2 = some ⟨g, 0, none⟩ := by
        rcases HO2.out.2 with ⟨e, h0⟩ | ⟨g, cap, cur, e, -⟩
        · omega
        · injection e with e1 e2 e3
          exact ⟨g, e1⟩
      have hcell2 : w2.cell? ⟨g, k, none⟩ = some (.string ⟨D[k].1.toArray⟩) := by
        have h1 := HO2.out.cells (g := g) rfl k (.string ⟨D[k].1.toArray⟩) (by unfold strCells namesZ; rw [List.getElem?_map, List.getElem?_map, List.getElem?_eq_getElem hkt]; rfl)
        have e : ((⟨g, 0, none⟩ : Addr).add k) = ⟨g, 0 + k, none⟩ := by unfold Addr.add; split <;> simp_all
        rw [e, Nat.zero_add] at h1
        exact h1
      have hcell := hk2.cell hcell2
      have hgt := HGT.out wr hkw D[k].1 e hpath hge
      rw [hnd] at hgt
      have hpl : D[k].1.length ≤ 128 := names_lenZ hpath
      have hnb := HNB.out k hkt
      have hst := HST.out k hkt
      have hle := HLE.out (k + 1)
      rw [hst, List.length_append] at hle
      have HST2 := Lib.hid hst
      have hbd : badRow D[k].2 = false := by
        have := (putAll3 (a := D[k].2.ver) (b := D[k].2.ctr) (c := D[k].2.own) (by have := hnb.ver; omega) (by have := hnb.ctr; omega) hnb.own).2
        unfold badRow
        exact this
      have hsm := hnb.small
      have hvr : D[k].2.ver ≤ 4611686018427387903 := by have := hnb.ver; omega
      have HGTK := Lib.hid hgt
      clear hgt hst hcell2 hge hpath hnb hnd
      generalize encT (([47], root1) :: D.take k) = l at *
      generalize D[k].1 = p at *
      generalize D[k].2 = nd at *
      have t1 : decide ((4611686018427387903 : Int) < (nd.ver : Int)) = false := decide_eq_false (by omega)
      go_wp2_with fail
      refine HGTK.out.mono ?_
      rintro x w5 ⟨vd, rfl, ho5, hk5⟩
      obtain ⟨Ad, cd, rfl⟩ := own_form ho5
      unfold statV
      have hk6 := hk5.trans ((Kept.refl w5).alloc (.cells #[.int .i64 (nd.ver : Int), .int .i64 (nd.ctr : Int), .int .i64 (nd.own : Int), .int .i64 nd.kids] 60))
      have hna := heap_alloc_new w5 (.cells #[.int .i64 (nd.ver : Int), .int .i64 (nd.ctr : Int), .int .i64 (nd.own : Int), .int .i64 nd.kids] 60)
      have hO6 := own_kept ho5 ((Kept.refl w5).alloc (.cells #[.int .i64 (nd.ver : Int), .int .i64 (nd.ctr : Int), .int .i64 (nd.own : Int), .int .i64 nd.kids] 60))
      clear ho5 hk5
      go_upto_region 10 with (fail)
      generalize w5.alloc (.cells #[.int .i64 (nd.ver : Int), .int .i64 (nd.ctr : Int), .int .i64 (nd.own : Int), .int .i64 nd.kids] 60) = w6 at *
      have d0 := cell_at hna 0
      have d1 := cell_at hna 1
      have d2 := cell_at hna 2
      have d3 := cell_at hna 3
      simp only [List.getElem?_toArray, List.getElem?_cons_zero, List.getElem?_cons_succ] at d0 d1 d2 d3
      have hI6 := HI.out.after hk6
      have hbl := HI.out.ge
      have hput := mput_any w2.heap.size false l p nd.data (.slice Ad nd.data.length cd) nd rfl w6 hI6 (fun W hW => Bts.of_own (own_wfr hO6 hW (fun g hg => by
        have h1 := (hO6.lt g hg).1
        refine ⟨by omega, fun x => ?_⟩
        rw [HI.out.rowAfter hk6] at x
        have := HI.out.rowLt x
        omega))) (by omega)
      unfold statV at hput
      rw [hbd] at hput
      have HPU2 := Lib.hid hput
      have HF6 := Lib.hid (HF.out.trans (HI.out.keptFr hk6))
      clear hput hna hO6 hI6 hk6
      go_wp2_with fail
      refine HPU2.out.mono ?_
      rintro e w7 ⟨rfl, hI7, hF7⟩
      have HI7 := Lib.hid hI7
      have HF7 := Lib.hid (HF6.out.trans hF7)
      clear hI7 hF7
      go_wp2
      go_roundw
      case rel =>
        refine ⟨k + 1, by go_num, rfl, by omega, ?_, HF7.out⟩
        rw [HST2.out]
        exact HI7.out
      case measure => simp [intOf]; omega
    · obtain rfl : k = m := by omega
      have hIo := HI.out
      rw [HDF.out] at hIo
      have HOU := Lib.hid (out_good w2.heap.size _ wr hIo (by omega))
      clear hIo
      go_wp2_with fail
      refine HOU.out.mono ?_
      rintro e w8 ⟨u8, rfl, ho8, k8⟩
      have hde := decode_any _ u8 w8 (Bts.of_own ho8) (by omega)
      unfold DecTo at hde
      rw [HDD.out] at hde
      simp only at hde
      have HDE := Lib.hid hde
      have HK8 := Lib.hid (hkw.trans k8)
      obtain ⟨A8, c8, rfl⟩ := own_form ho8
      clear hde ho8 k8
      go_wp2_with fail
      refine HDE.out.mono ?_
      rintro e w9 ⟨db, rfl, hkt⟩
      have HKT := Lib.hid (hkt.under HK8.out)
      clear hkt
      go_wp2
      go_loopw [77] (fun i W => i = .int .i64 0 ∧ W = w9) (fun _ _ => 0)
      case atStart => exact ⟨rfl, rfl⟩
      case round =>
        obtain ⟨rfl, rfl⟩ := hrel
        go_wp2
        go_ret
        exact ⟨db, rfl, HKT.out⟩
end Go.Proofs.YtennlckfmgfjbaaGreatDoor
set_option linter.unusedSimpArgs false
set_option linter.unusedVariables false
namespace Go.Proofs.YtennlckfmgfjbaaGreatDoor
open Go.RowKit
def cellsR (l : List (Pth × Int)) : List Value := l.flatMap fun x => [.string ⟨x.1.toArray⟩, .int .i64 x.2]
def cellsE (l : List (Int × Pth)) : List Value := l.flatMap fun x => [.int .i64 x.1, .string ⟨x.2.toArray⟩]
theorem cellsR_snoc (l : List (Pth × Int)) (p : Pth) (v : Int) : cellsR (l ++ [(p, v)]) = cellsR l ++ [.string ⟨p.toArray⟩, .int .i64 v] := by unfold cellsR; simp [List.flatMap_append]
theorem cellsE_snoc (l : List (Int × Pth)) (k : Int) (p : Pth) : cellsE (l ++ [(k, p)]) = cellsE l ++ [.int .i64 k, .string ⟨p.toArray⟩] := by unfold cellsE; simp [List.flatMap_append]
theorem elemR : Elem 31 48 2 24 := elem_of (z := .agg #[.string ⟨#[]⟩, .int .i64 0]) Tryz.underlying31 (by kernel_rfl) rfl (by decide)
theorem elemE : Elem 32 58 2 24 := elem_of (z := .agg #[.int .i64 0, .string ⟨#[]⟩]) Tryz.underlying32 (by kernel_rfl) rfl (by decide)
theorem cell_new2 (w : World) (u v : Value) (t : TypeId) : ∀ j x, ([u, v] : List Value)[j]? = some x → (w.alloc (.cells #[u, v] t)).cell? ⟨w.heap.size, j, none⟩ = some x := by
  intro j x hx
  rw [cell_at (heap_alloc_new w _)]
  match j, hx with
  | 0, hx => simpa using hx
  | 1, hx => simpa using hx
structure WkAt (W : World) (wb tb : Nat) (h : Pth) (owner qn qb un ub bad : Int) (res : List (Pth × Int)) (eff : List (Int × Pth)) (rv ev : Value) (F : Nat → Prop) : Prop where
  blk : W.heap[wb]? = some (.cells #[rv, ev, .int .i64 bad, .pointer (some ⟨tb, 0, none⟩), .string ⟨h.toArray⟩, .int .i64 owner, .int .i64 un, .int .i64 ub, .int .i64 qn, .int .i64 qb] 72 (0, 0))
  rr : W.ownsRow 0 48 2 rv res.length (cellsR res)
  er : W.ownsRow 0 58 2 ev eff.length (cellsE eff)
  inW : F wb
  inR : ∀ g, rv.ownBlock = some g → F g
  inE : ∀ g, ev.ownBlock = some g → F g
section
variable {W W' : World} {wb tb : Nat} {h : Pth} {owner qn qb un ub bad : Int} {res : List (Pth × Int)} {eff : List (Int × Pth)} {rv ev : Value} {F G : Nat → Prop}
theorem WkAt.chg (k : WkAt W wb tb h owner qn qb un ub bad res eff rv ev F) (c : Chg G W W') (hG : ∀ g, F g → ¬ G g) : WkAt W' wb tb h owner qn qb un ub bad res eff rv ev F :=
  ⟨c.block' k.blk (hG _ k.inW), own_chg k.rr c (fun g x => hG _ (k.inR g x)), own_chg k.er c (fun g x => hG _ (k.inE g x)), k.inW, k.inR, k.inE⟩
theorem WkAt.kept (k : WkAt W wb tb h owner qn qb un ub bad res eff rv ev F) (c : Kept W W') : WkAt W' wb tb h owner qn qb un ub bad res eff rv ev F := k.chg (Chg.of_kept (F := no) c) (fun _ _ x => x)
theorem WkAt.mono (k : WkAt W wb tb h owner qn qb un ub bad res eff rv ev F) (hg : ∀ g, F g → G g) : WkAt W wb tb h owner qn qb un ub bad res eff rv ev G := ⟨k.blk, k.rr, k.er, hg _ k.inW, fun g x => hg _ (k.inR g x), fun g x => hg _ (k.inE g x)⟩
theorem WkAt.rne (k : WkAt W wb tb h owner qn qb un ub bad res eff rv ev F) : rv.ownBlock ≠ some wb := fun e => by
  obtain ⟨cur, h1⟩ := own_type k.rr e
  have h2 := k.blk
  rw [h1] at h2
  simp only [Option.some.injEq, Obj.cells.injEq] at h2
  exact absurd h2.2.1 (by decide)
theorem WkAt.ene (k : WkAt W wb tb h owner qn qb un ub bad res eff rv ev F) : ev.ownBlock ≠ some wb := fun e => by
  obtain ⟨cur, h1⟩ := own_type k.er e
  have h2 := k.blk
  rw [h1] at h2
  simp only [Option.some.injEq, Obj.cells.injEq] at h2
  exact absurd h2.2.1 (by decide)
theorem WkAt.rene (k : WkAt W wb tb h owner qn qb un ub bad res eff rv ev F) {g : Nat} (hr : rv.ownBlock = some g) : ev.ownBlock ≠ some g := fun e => by
  obtain ⟨cur, h1⟩ := own_type k.rr hr
  obtain ⟨cur', h2⟩ := own_type k.er e
  rw [h1] at h2
  simp only [Option.some.injEq, Obj.cells.injEq] at h2
  exact absurd h2.2.1 (by decide)
/-- A result more. -/
theorem WkAt.pushR (k : WkAt W wb tb h owner qn qb un ub bad res eff rv ev F) {wn w5 : World} {v5 : Value} {p : Pth} {v : Int} (kn : Kept W wn) (p1 : w5.ownsRow 0 48 2 v5 (res.length + 1) (cellsR res ++ [.string ⟨p.toArray⟩, .int .i64 v])) (p2 : wn.grownBy w5 rv.ownBlock) (p3 : v5.ownBlock = rv.ownBlock ∨ v5.ownBlock = some wn.heap.size) :
    WkAt (w5.setCell ⟨wb, 0, none⟩ v5) wb tb h owner qn qb un ub bad (res ++ [(p, v)]) eff v5 ev (ext F W (w5.setCell ⟨wb, 0, none⟩ v5)) ∧ Chg F W (w5.setCell ⟨wb, 0, none⟩ v5) := by
  have c5 : Chg (fun g => rv.ownBlock = some g) W w5 := (Chg.of_kept kn).trans (Chg.of_grown p2 (fun g hg _ => hg)) (fun g _ x => x)
  have b5 := c5.block' k.blk k.rne
  have hwl : wb < W.heap.size := (Array.getElem?_eq_some_iff.1 k.blk).1
  have s1 := kn.size
  have s5 := c5.size
  have c6 : Chg (fun g => g = wb) w5 (w5.setCell ⟨wb, 0, none⟩ v5) := (Chg.refl _ w5).setCell _ (fun _ => rfl)
  have s6 : (w5.setCell ⟨wb, 0, none⟩ v5).heap.size = w5.heap.size := by simp [World.setCell]
  have h6 := Lib.heap_setCell_same (i := 0) b5 v5
  have hv5 : v5.ownBlock ≠ some wb := fun e => by
    rcases p3 with x | x
    · rw [e] at x; exact k.rne x.symm
    · rw [e] at x
      have : wb = wn.heap.size := Option.some.inj x
      omega
  refine ⟨⟨by simpa using h6, ?_, ?_, .inl k.inW, fun g hg => ?_, fun g hg => .inl (k.inE g hg)⟩, ?_⟩
  · rw [List.length_append, cellsR_snoc]
    exact own_chg p1 c6 (fun g hg e => hv5 (by rw [hg, e]))
  · refine own_chg (own_chg k.er c5 (fun g hg e => k.rene e hg)) c6 (fun g hg e => k.ene (by rw [hg, e]))
  · rcases p3 with x | x
    · rw [x] at hg; exact .inl (k.inR g hg)
    · have := (p1.lt g hg).2
      rw [hg] at x
      have : g = wn.heap.size := Option.some.inj x
      exact .inr ⟨by omega, by omega⟩
  · exact ((c5.mono fun g _ x => k.inR g x)).trans c6 (fun g _ x => by rw [x]; exact k.inW)
/-- An effect more. -/
theorem WkAt.pushE (k : WkAt W wb tb h owner qn qb un ub bad res eff rv ev F) {wn w5 : World} {v5 : Value} {q : Pth} {v : Int} (kn : Kept W wn) (p1 : w5.ownsRow 0 58 2 v5 (eff.length + 1) (cellsE eff ++ [.int .i64 v, .string ⟨q.toArray⟩])) (p2 : wn.grownBy w5 ev.ownBlock) (p3 : v5.ownBlock = ev.ownBlock ∨ v5.ownBlock = some wn.heap.size) :
    WkAt (w5.setCell ⟨wb, 1, none⟩ v5) wb tb h owner qn qb un ub bad res (eff ++ [(v, q)]) rv v5 (ext F W (w5.setCell ⟨wb, 1, none⟩ v5)) ∧ Chg F W (w5.setCell ⟨wb, 1, none⟩ v5) := by
  have c5 : Chg (fun g => ev.ownBlock = some g) W w5 := (Chg.of_kept kn).trans (Chg.of_grown p2 (fun g hg _ => hg)) (fun g _ x => x)
  have b5 := c5.block' k.blk k.ene
  have hwl : wb < W.heap.size := (Array.getElem?_eq_some_iff.1 k.blk).1
  have s1 := kn.size
  have s5 := c5.size
  have c6 : Chg (fun g => g = wb) w5 (w5.setCell ⟨wb, 1, none⟩ v5) := (Chg.refl _ w5).setCell _ (fun _ => rfl)
  have s6 : (w5.setCell ⟨wb, 1, none⟩ v5).heap.size = w5.heap.size := by simp [World.setCell]
  have h6 := Lib.heap_setCell_same (i := 1) b5 v5
  have hv5 : v5.ownBlock ≠ some wb := fun e => by
    rcases p3 with x | x
    · rw [e] at x; exact k.ene x.symm
    · rw [e] at x
      have : wb = wn.heap.size := Option.some.inj x
      omega
  refine ⟨⟨by simpa using h6, ?_, ?_, .inl k.inW, fun g hg => .inl (k.inR g hg), fun g hg => ?_⟩, ?_⟩
  · refine own_chg (own_chg k.rr c5 (fun g hg e => k.rene hg e)) c6 (fun g hg e => k.rne (by rw [hg, e]))
  · rw [List.length_append, cellsE_snoc]
    exact own_chg p1 c6 (fun g hg e => hv5 (by rw [hg, e]))
  · rcases p3 with x | x
    · rw [x] at hg; exact .inl (k.inE g hg)
    · have := (p1.lt g hg).2
      rw [hg] at x
      have : g = wn.heap.size := Option.some.inj x
      exact .inr ⟨by omega, by omega⟩
  · exact ((c5.mono fun g _ x => k.inE g x)).trans c6 (fun g _ x => by rw [x]; exact k.inW)
set_option maxRecDepth 100000 in
set_option maxHeartbeats 4000000 in
theorem tell_any (k : WkAt W wb tb h owner qn qb un ub bad res eff rv ev F) (p : Pth) (v kind : Int) (q : Pth) (hr : res.length ≤ 1000) (he : eff.length ≤ 1000) (hq : q.length ≤ 140737488355328) :
    Calls Tryz.prog 94 #[.pointer (some ⟨wb, 0, none⟩), .agg #[.string ⟨p.toArray⟩, .int .i64 v], .int .i64 kind, .string ⟨q.toArray⟩] W fun e w' => e = .returned (.tuple #[]) ∧ (∃ rv' ev', WkAt w' wb tb h owner qn qb un ub bad (res ++ [(p, v)]) (eff ++ [(kind, q)]) rv' ev' (ext F W w')) ∧ Chg F W w' := by
  have hka := (Kept.refl W).alloc (.cells #[.string ⟨p.toArray⟩, .int .i64 v] 48)
  have hba := heap_alloc_new W (.cells #[.string ⟨p.toArray⟩, .int .i64 v] 48)
  have HK := Lib.hid (k.kept hka)
  have HKA := Lib.hid hka
  obtain ⟨A1, c1, rfl⟩ := own_form k.rr
  obtain ⟨A2, c2, rfl⟩ := own_form k.er
  clear k hka
  go_enter Tryz.func94, Tryz.ntmps94
  go_upto_region 1 with (fail)
  generalize W.alloc (.cells #[.string ⟨p.toArray⟩, .int .i64 v] 48) = wa at *
  have x0 := cell_at hba 0
  have x1 := cell_at hba 1
  have y0 := cell_at HK.out.blk 0
  simp only [List.getElem?_toArray, List.getElem?_cons_zero, List.getElem?_cons_succ] at x0 x1 y0
  have f0 : wa.frozen? ⟨wb, 0, none⟩ = false := frozen_at HK.out.blk 0
  have hkd := (Kept.refl wa).drew
  have kn := hkd.alloc (.cells #[.string ⟨p.toArray⟩, .int .i64 v] 48)
  have z0 := kn.cell y0
  have y0a := ((Kept.refl wa).alloc (.cells #[.string ⟨p.toArray⟩, .int .i64 v] 48)).cell y0
  go_wp2_with fail
  go_region_law (refine step_append_one elemR (by rfl) _ _ (by rfl) 0 _ _ (cellsR res) [.string ⟨p.toArray⟩, .int .i64 v] wa.drew.heap.size 1 (by rfl) (by rfl) (own_kept HK.out.rr kn) (by rfl) (cell_new2 wa.drew _ _ _) (by intro u hu; simp at hu; rcases hu with rfl | rfl <;> rfl) (by omega) (by unfold maxLen; omega) (Nat.zero_le _) ?_; intro v5 w5 p1 p2 p3; obtain ⟨A5, c5, rfl⟩ := own_form p1; have HPR := Lib.hid (HK.out.pushR kn p1 p2 p3); have hb5 := ((Chg.of_kept (F := fun g => (Value.slice A1 res.length c1).ownBlock = some g) kn).trans (Chg.of_grown p2 (fun g hg _ => hg)) (fun g _ x => x)).block' HK.out.blk HK.out.rne; have y5 := cell_at hb5 0; have f5 : w5.frozen? ⟨wb, 0, none⟩ = false := frozen_at hb5 0; simp only [List.getElem?_toArray, List.getElem?_cons_zero, List.getElem?_cons_succ] at y5; clear p1 p2 p3 hb5)
  all_goals
    obtain ⟨hk6, hc6⟩ := HPR.out
    have HK6 := Lib.hid hk6
    have HC6 := Lib.hid hc6
    generalize w5.setCell ⟨wb, 0, none⟩ (.slice A5 (res.length + 1) c5) = w6 at *
    clear x0 x1 y0 z0 y0a y5 f0 f5 hkd kn hk6 hc6 HPR
    have y1 := cell_at HK6.out.blk 1
    simp only [List.getElem?_toArray, List.getElem?_cons_zero, List.getElem?_cons_succ] at y1
    have hkd := (Kept.refl w6).drew
    have HCL := Lib.hid (fun W => clone_any q W hq)
    have z1 := hkd.cell y1
    go_wp2_with fail
    go_region_law (first
      | (go_simp; go_at_call 49; refine (HCL.out _).mono ?_; rintro e w7 ⟨rfl, k7⟩; have kk := hkd.trans k7; have z2 := kk.cell y1; have kn := kk.alloc (.cells #[.int .i64 kind, .string ⟨q.toArray⟩] 58); have z3 := kn.cell y1)
      | (refine step_append_one elemE (by rfl) _ _ (by rfl) 0 _ _ (cellsE eff) [.int .i64 kind, .string ⟨q.toArray⟩] w7.heap.size 1 (by rfl) (by rfl) (own_kept HK6.out.er kn) (by rfl) (cell_new2 w7 _ _ _) (by intro u hu; simp at hu; rcases hu with rfl | rfl <;> rfl) (by omega) (by unfold maxLen; omega) (Nat.zero_le _) ?_; intro v8 w8 p1 p2 p3; obtain ⟨A8, c8, rfl⟩ := own_form p1; have HPE := Lib.hid (HK6.out.pushE kn p1 p2 p3); have hb8 := ((Chg.of_kept (F := fun g => (Value.slice A2 eff.length c2).ownBlock = some g) kn).trans (Chg.of_grown p2 (fun g hg _ => hg)) (fun g _ x => x)).block' HK6.out.blk HK6.out.ene; have y8 := cell_at hb8 1; have f8 : w8.frozen? ⟨wb, 1, none⟩ = false := frozen_at hb8 1; simp only [List.getElem?_toArray, List.getElem?_cons_zero, List.getElem?_cons_succ] at y8; clear p1 p2 p3 hb8))
    all_goals
      obtain ⟨hk9, hc9⟩ := HPE.out
      have s6 := HC6.out.size
      have s9 := hc9.size
      have sa := HKA.out.size
      have hfin : (∃ rv' ev', WkAt (w8.setCell ⟨wb, 1, none⟩ (.slice A8 (eff.length + 1) c8)) wb tb h owner qn qb un ub bad (res ++ [(p, v)]) (eff ++ [(kind, q)]) rv' ev' (ext F W (w8.setCell ⟨wb, 1, none⟩ (.slice A8 (eff.length + 1) c8)))) ∧ Chg F W (w8.setCell ⟨wb, 1, none⟩ (.slice A8 (eff.length + 1) c8)) := by
        refine ⟨⟨_, _, hk9.mono fun g x => ?_⟩, ((Chg.of_kept (F := F) HKA.out).trans HC6.out (fun g _ x => x)).trans hc9 (fun g hg x => ?_)⟩
        · rcases x with (x | x) | x
          · exact .inl x
          · exact .inr ⟨by omega, by omega⟩
          · exact .inr ⟨by omega, x.2⟩
        · rcases x with x | x
          · exact x
          · omega
      have HFIN := Lib.hid hfin
      clear hk9 hc9 hfin
      go_wp2
      go_end0
      exact ⟨rfl, HFIN.out⟩
set_option maxRecDepth 100000 in
set_option maxHeartbeats 4000000 in
theorem room_any (k : WkAt W wb tb h owner qn qb un ub bad res eff rv ev F) :
    Calls Tryz.prog 95 #[.pointer (some ⟨wb, 0, none⟩)] W fun e w' => e = .returned (.int .i64 (roomE qn qb un ub)) ∧ Kept W w' := by
  have y6 := cell_at k.blk 6
  have y7 := cell_at k.blk 7
  have y8 := cell_at k.blk 8
  have y9 := cell_at k.blk 9
  simp only [List.getElem?_toArray, List.getElem?_cons_zero, List.getElem?_cons_succ] at y6 y7 y8 y9
  clear k
  unfold roomE
  by_cases h1 : qn < un
  · have t1 : decide (qn < un) = true := decide_eq_true h1
    rw [if_pos (.inl h1)]
    clear h1
    go_enter Tryz.func95, Tryz.ntmps95
    go_wp2
    go_quiet (fail)
    rename_i nq
    go_wp2
    go_ret
    exact ⟨rfl, (Kept.refl W).drewN nq⟩
  · have t1 : decide (qn < un) = false := decide_eq_false h1
    by_cases h2 : qb < ub
    · have t2 : decide (qb < ub) = true := decide_eq_true h2
      rw [if_pos (.inr h2)]
      clear h1 h2
      go_enter Tryz.func95, Tryz.ntmps95
      go_wp2
      go_quiet (fail)
      rename_i nq
      go_wp2
      go_ret
      exact ⟨rfl, (Kept.refl W).drewN nq⟩
    · have t2 : decide (qb < ub) = false := decide_eq_false h2
      rw [if_neg (fun x => x.elim h1 h2)]
      clear h1 h2
      go_enter Tryz.func95, Tryz.ntmps95
      go_wp2
      go_quiet (fail)
      rename_i nq
      go_wp2
      go_ret
      exact ⟨rfl, (Kept.refl W).drewN nq⟩
end
end Go.Proofs.YtennlckfmgfjbaaGreatDoor
