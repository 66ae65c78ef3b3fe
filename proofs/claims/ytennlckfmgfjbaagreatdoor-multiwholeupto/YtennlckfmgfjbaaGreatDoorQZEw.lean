/- The walk of Encode. -/
import Derived.Test.YtennlckfmgfjbaaGreatDoorGZPkE2
import Derived.Deep.CutBlock
import Derived.Deep.DeepCutAuto
set_option linter.unusedSimpArgs false
set_option linter.unusedVariables false
namespace Go.Proofs.YtennlckfmgfjbaaGreatDoor
open Go.RowKit
theorem OwnsZ.look {w : World} {mb : Nat} {st : ZSt} (h : OwnsZ w mb st) (k : Pth) (hk : k.length ≤ maxLen) : (Instr.lookup 81 (.map (some mb)) (.string ⟨k.toArray⟩) false).run Tryz.prog w = .ok (valZ k st) w := by
  obtain ⟨v, ps, hrun, hv⟩ := World.ownsMap.lookup h keyLawZ Tryz.underlying81 (zeroNodeP w) (zd := .held (.pointer none)) (zp := []) rfl (keySZ k hk)
  rw [toDZ_at] at hv
  have : v = valZ k st := by simpa [rdV] using congrArg (Option.map Prod.fst) hv
  rw [hrun, this]
theorem encCl_any (W : World) (q : Pth) (nv : Value) : Calls Tryz.prog 25 #[.string ⟨q.toArray⟩, nv] W fun e w' => e = .returned (.bool true) ∧ Kept W w' := by
  go_enter Tryz.func25, Tryz.ntmps25
  go_wp2
  go_ret
  exact ⟨rfl, Kept.refl _⟩
/-! ### one value behind a new array of the call's own, while a writer writes -/
section
variable {w : World} {b : Nat} {bad : Bool} {l : List UInt8}
theorem IsW.blkNe (h : IsW w b bad l) {W : World} {o : Obj} (hF : WFr b (w.alloc o) W) : W.heap[w.heap.size]? = some o := by
  have hlt : b < w.heap.size := by
    obtain ⟨⟨hB, v, lr, ⟨cs, hb, -⟩, -⟩, -⟩ := h
    exact (Array.getElem?_eq_some_iff.1 hb).1
  have hr : rowOf (w.alloc o) b ≠ some w.heap.size := fun e => by
    rw [h.rowAfter ((Kept.refl w).alloc o)] at e
    have := h.rowLt e
    omega
  exact (hF.block w.heap.size (by simp) (by omega) hr).trans (heap_alloc_new w o)
theorem IsW.strs1 (h : IsW w b bad l) (p : Pth) : ∀ W, WFr b (w.alloc (.cells #[.string ⟨p.toArray⟩] 9)) W → Strs W (.slice (some ⟨w.heap.size, 0, none⟩) 1 1) [p] := fun W hF => by
  have hb := h.blkNe hF
  refine ⟨_, 1, rfl, Nat.le_refl _, by decide, fun _ => ⟨_, 0, rfl, fun k y hy => ?_⟩⟩
  rw [cell_at hb]
  match k, hy with
  | 0, hy =>
    obtain rfl : p = y := by simpa using hy
    rfl
theorem IsW.parts1 (h : IsW w b bad l) (v : Value) (x : List UInt8) (hv : ∀ W, WFr b (w.alloc (.cells #[v] 39)) W → Bts W v x) : ∀ W, WFr b (w.alloc (.cells #[v] 39)) W → PartsU W (.slice (some ⟨w.heap.size, 0, none⟩) 1 1) [v] [x] := fun W hF => by
  have hb := h.blkNe hF
  refine ⟨rfl, _, 1, rfl, Nat.le_refl _, by decide, fun _ => ⟨_, 0, rfl, fun k y z hy hz => ?_⟩⟩
  match k, hy, hz with
  | 0, hy, hz =>
    obtain rfl : v = y := by simpa using hy
    obtain rfl : x = z := by simpa using hz
    exact ⟨by rw [cell_at hb]; rfl, hv W hF⟩
theorem IsW.ints3 (h : IsW w b bad l) (x y z : Int) : ∀ W, WFr b (w.alloc (.cells #[.int .i64 x, .int .i64 y, .int .i64 z] 3)) W → Ints W (.slice (some ⟨w.heap.size, 0, none⟩) 3 3) [x, y, z] := fun W hF => by
  have hb := h.blkNe hF
  refine ⟨_, 3, rfl, Nat.le_refl _, by decide, fun _ => ⟨_, 0, rfl, fun k u hu => ?_⟩⟩
  rw [cell_at hb]
  match k, hu with
  | 0, hu => obtain rfl : x = u := by simpa using hu
             rfl
  | 1, hu => obtain rfl : y = u := by simpa using hu
             rfl
  | 2, hu => obtain rfl : z = u := by simpa using hu
             rfl
theorem IsW.keptFr (h : IsW w b bad l) {W : World} (k : Kept w W) : WFr b w W := ⟨k.os, k.tape, k.output, k.size, fun i hi _ _ => k.block i hi, fun i hi => .inl ((h.rowAfter k).symm.trans hi)⟩
theorem IsW.allocFr (h : IsW w b bad l) (o : Obj) : WFr b w (w.alloc o) := h.keptFr ((Kept.refl w).alloc o)
theorem IsW.ge (h : IsW w b bad l) : b < w.heap.size := by
  obtain ⟨⟨hB, v, lr, ⟨cs, hb, -⟩, -⟩, -⟩ := h
  exact (Array.getElem?_eq_some_iff.1 hb).1
end
theorem plain_at {w : World} {tb mb : Nat} {st : ZSt} {lim : Nat} {F : Nat → Prop} (h : TreeAt w tb mb st lim F) {k : Nat} (hk : k < (plainZ st).length) : ∃ e, getZ (plainZ st)[k].1 st = some e ∧ e.nd = (plainZ st)[k].2 ∧ (names (plainZ st)[k].1).isSome = true := by
  have hk2 : k < st.length := by unfold plainZ at hk; rwa [length_mapZ] at hk
  have hm : st[k] ∈ st := List.getElem_mem hk2
  have e1 : (plainZ st)[k] = (st[k].1, st[k].2.nd) := by simp [plainZ, mapZ]
  rw [e1]
  exact ⟨st[k].2, get_of_memZ h.srt hm, rfl, (h.good _ hm).path⟩
theorem encRow_len (p : Pth) (n : ZN) : (encRow p n).length ≤ 45 + p.length + n.data.length := by
  unfold encRow
  simp only [List.length_append]
  have := put_lenZ p.length
  have := put_lenZ n.data.length
  have := putAll_len [(n.ver : Int), (n.ctr : Int), (n.own : Int)]
  simp at this
  omega
set_option maxRecDepth 100000 in
set_option maxHeartbeats 4000000 in
theorem encode_any (w : World) (tb mb : Nat) (st : ZSt) (lim : Nat) (F : Nat → Prop) (h : TreeAt w tb mb st lim F) (hlim : lim ≤ 8000000000000) (hlen : (encT (plainZ st)).length + 1000 ≤ 140737488355328) :
    Calls Tryz.prog 9 #[.pointer (some ⟨tb, 0, none⟩)] w fun e w' => ∃ u, e = .returned u ∧ w'.ownsRow w.heap.size 5 1 u (encodeP (plainZ st)).length (Lib.byteCells (encodeP (plainZ st))) ∧ Kept w w' := by
  have H := Lib.hid h
  have hat := fun k (hk : k < (plainZ st).length) => plain_at h hk
  have HAT := Lib.hid hat
  have HPK := Lib.hid (fun W (kW : Kept w W) => pickE_any W tb mb st lim F (h.kept kW) (fun _ _ => true) hlim (fun W' _ p _ => encCl_any W' p.1 _))
  have htl : (plainZ st).length ≤ 8000000000001 := by unfold plainZ; rw [length_mapZ]; have := h.few; omega
  clear h hat
  generalize plainZ st = t at *
  rw [pick_allE] at HPK
  go_enter Tryz.func9, Tryz.ntmps9
  go_wp2_with fail
  refine (newWriter_any w).mono ?_
  rintro e w1 ⟨rfl, hI1, hK1, hr1, hs1⟩
  have HP := Lib.hid (HPK.out w1 hK1)
  have HI1 := Lib.hid hI1
  have HK1 := Lib.hid hK1
  have HR1 := Lib.hid hr1
  clear hI1 hK1 hr1
  go_wp2_with fail
  refine HP.out.mono ?_
  rintro e w2 ⟨v2, rfl, ho2, hk2⟩
  have HI2 := Lib.hid (HI1.out.after hk2)
  have HR2 := Lib.hid ((HI1.out.rowAfter hk2).trans HR1.out)
  have HK2 := Lib.hid (HK1.out.trans hk2)
  have hs2 := hk2.size
  rw [List.length_map] at ho2
  obtain ⟨A2, c2, rfl⟩ := own_form ho2
  have HO2 := Lib.hid ho2
  clear ho2 hk2
  obtain ⟨tl, htl2⟩ : ∃ tl, t.length = tl := ⟨_, rfl⟩
  have HTL := Lib.hid htl2
  rw [htl2] at htl
  simp only [htl2]
  clear htl2
  go_wp2
  go_loopw [13] (fun i W => ∃ k : Nat, i = .int .i64 (k : Int) ∧ k ≤ tl ∧ IsW W w.heap.size (badT (t.take k)) (encT (t.take k)) ∧ WFr w.heap.size w2 W) (fun i _ => tl - (intOf i).toNat)
  case atStart => exact ⟨0, rfl, Nat.zero_le _, HI2.out, WFr.refl _ _⟩
  case round =>
    obtain ⟨k, rfl, hk, hI, hF⟩ := hrel
    have hkw : Kept w wr := hF.kept HK2.out (Nat.le_refl _) (fun i hi => by rw [HR2.out] at hi; cases hi)
    have HKW := Lib.hid hkw
    have HF := Lib.hid hF
    have HI := Lib.hid hI
    clear hI hF
    by_cases hlt : k < tl
    · have hkt : k < t.length := by rw [HTL.out]; exact hlt
      obtain ⟨e, hge, hnd, hpath⟩ := HAT.out k hkt
      obtain ⟨g, rfl⟩ : ∃ g, A2 = some ⟨g, 0, none⟩ := by
        rcases HO2.out.2 with ⟨e, h0⟩ | ⟨g, cap, cur, e, -⟩
        · have := HTL.out; omega
        · injection e with e1 e2 e3
          exact ⟨g, e1⟩
      have hgl := HO2.out.lt g rfl
      have hcell2 : w2.cell? ⟨g, k, none⟩ = some (.string ⟨t[k].1.toArray⟩) := by
        have h1 := HO2.out.cells (g := g) rfl k (.string ⟨t[k].1.toArray⟩) (by unfold strCells; rw [List.getElem?_map, List.getElem?_map, List.getElem?_eq_getElem hkt]; rfl)
        have e : ((⟨g, 0, none⟩ : Addr).add k) = ⟨g, 0 + k, none⟩ := by unfold Addr.add; split <;> simp_all
        rw [e, Nat.zero_add] at h1
        exact h1
      have hcell := HF.out.cell hcell2 (by show g ≠ w.heap.size; omega) (by rw [HR2.out]; simp)
      have hpl : t[k].1.length ≤ 128 := names_lenZ hpath
      have hlk := (H.out.kept hkw).owns.look t[k].1 (by unfold maxLen; omega)
      rw [show valZ t[k].1 st = ptrZ e.nb from by unfold valZ; rw [hge]; rfl] at hlk
      have c0 := (H.out.kept hkw).c0
      obtain ⟨hNb, hNd⟩ := (H.out.nodes _ (getZ_mem hge))
      have hsm := (H.out.good _ (getZ_mem hge)).small
      have E1 := Lib.hid (show badT (t.take (k + 1)) = (badT (t.take k) || badRow t[k].2) by rw [take_snoc _ _ hkt, badT_snoc])
      have e2 : encT (t.take (k + 1)) = encT (t.take k) ++ encRow t[k].1 t[k].2 := by rw [take_snoc _ _ hkt, encT_snoc]
      have E2 := Lib.hid e2
      have hle := encT_take t (k + 1)
      rw [e2, List.length_append] at hle
      have hrl := encRow_len t[k].1 t[k].2
      have hpos : (blobAll [t[k].1]).length ≤ 9 + t[k].1.length := by have := put_lenZ t[k].1.length; simp [blobAll]; omega
      have hpos2 : (blobAll [t[k].2.data]).length ≤ 9 + t[k].2.data.length := by have := put_lenZ t[k].2.data.length; simp [blobAll]; omega
      have E3 := Lib.hid (show encRow t[k].1 t[k].2 = blobAll [t[k].1] ++ (blobAll [t[k].2.data] ++ putAll [(t[k].2.ver : Int), (t[k].2.ctr : Int), (t[k].2.own : Int)]) by unfold encRow blobAll; simp)
      have E4 := Lib.hid (show badRow t[k].2 = badAll [(t[k].2.ver : Int), (t[k].2.ctr : Int), (t[k].2.own : Int)] from rfl)
      have hll : (encT (t.take k)).length + 1000 ≤ 140737488355328 := by omega
      rw [← hnd] at E1 E2 E3 E4 hpos2 hrl
      clear hle e2 hcell2 hge hpath
      generalize encT (t.take k) = l at *
      generalize badT (t.take k) = bd at *
      clear hnd
      generalize t[k].1 = p at *
      obtain ⟨nb, dv, nd⟩ := e
      simp only at hNb hNd hsm E1 E2 E3 E4 hpos2 hrl
      unfold ptrZ at hlk
      obtain ⟨Ad, cd, hdv⟩ := own_form hNd
      subst hdv
      have HNB := Lib.hid hNb
      have HND := Lib.hid hNd
      clear hNb hNd
      have HT1 := Lib.hid (texts_any w.heap.size bd l [p] (.slice (some ⟨wr.heap.size, 0, none⟩) 1 1) (wr.alloc (.cells #[.string ⟨p.toArray⟩] 9)) (HI.out.strs1 p) (HI.out.after ((Kept.refl wr).alloc _)) (by omega))
      have HA1 := Lib.hid (HI.out.allocFr (.cells #[.string ⟨p.toArray⟩] 9))
      go_wp2_with fail
      refine HT1.out.mono ?_
      rintro e w3 ⟨rfl, hI3, hF3⟩
      have hF3' := HF.out.trans (HA1.out.trans hF3)
      have hk3 : Kept w w3 := hF3'.kept HK2.out (Nat.le_refl _) (fun i hi => by rw [HR2.out] at hi; cases hi)
      have HF3 := Lib.hid hF3'
      have HI3 := Lib.hid hI3
      have HK3 := Lib.hid hk3
      have z4 := cell_at (hk3.block' HNB.out) 4
      simp only [List.getElem?_toArray, List.getElem?_cons_zero, List.getElem?_cons_succ] at z4
      clear hI3 hF3 hF3' hk3 hkw hlk c0
      have HA3 := Lib.hid (HI3.out.allocFr (.cells #[.slice Ad nd.data.length cd] 39))
      have HT3 := Lib.hid (blobs_any w.heap.size bd (l ++ blobAll [p]) [nd.data] [.slice Ad nd.data.length cd] (.slice (some ⟨w3.heap.size, 0, none⟩) 1 1) (w3.alloc (.cells #[.slice Ad nd.data.length cd] 39)) (HI3.out.parts1 _ nd.data (fun W hF => Bts.kept (Bts.of_own HND.out) ((HF3.out.trans (HA3.out.trans hF)).kept HK2.out (Nat.le_refl _) (fun i hi => by rw [HR2.out] at hi; cases hi)))) (HI3.out.after ((Kept.refl w3).alloc _)) (by rw [List.length_append]; omega))
      go_wp2_with fail
      refine HT3.out.mono ?_
      rintro e w4 ⟨rfl, hI4, hF4⟩
      have hF4' := HF3.out.trans (HA3.out.trans hF4)
      have hk4 : Kept w w4 := hF4'.kept HK2.out (Nat.le_refl _) (fun i hi => by rw [HR2.out] at hi; cases hi)
      have HF4 := Lib.hid hF4'
      have HI4 := Lib.hid hI4
      have HK4 := Lib.hid hk4
      have hb4 := hk4.block' HNB.out
      have z0 := cell_at hb4 0
      have z1 := cell_at hb4 1
      have z2 := cell_at hb4 2
      simp only [List.getElem?_toArray, List.getElem?_cons_zero, List.getElem?_cons_succ] at z0 z1 z2
      have hKd := (Kept.refl w4).drew
      have HKD := Lib.hid hKd
      have HI4d := Lib.hid (hI4.after hKd)
      have HA4 := Lib.hid (HI4d.out.allocFr (.cells #[.int .i64 (nd.ver : Int), .int .i64 (nd.ctr : Int), .int .i64 (nd.own : Int)] 3))
      have HT4 := Lib.hid (nums_framed w.heap.size bd (l ++ blobAll [p] ++ blobAll [nd.data]) [(nd.ver : Int), (nd.ctr : Int), (nd.own : Int)] (.slice (some ⟨w4.drew.heap.size, 0, none⟩) 3 3) (w4.drew.alloc (.cells #[.int .i64 (nd.ver : Int), .int .i64 (nd.ctr : Int), .int .i64 (nd.own : Int)] 3)) (HI4d.out.ints3 _ _ _) (HI4d.out.after ((Kept.refl w4.drew).alloc _)) (by rw [List.length_append, List.length_append]; simp; omega))
      have d0 := hKd.cell z0
      have d1 := hKd.cell z1
      have d2 := hKd.cell z2
      have hKe := (Kept.refl w4.drew).alloc (.cells #[.int .i64 (nd.ver : Int), .int .i64 (nd.ctr : Int), .int .i64 (nd.own : Int)] 3)
      have x0 := hKe.cell d0
      have x1 := hKe.cell d1
      have x2 := hKe.cell d2
      clear hI4 hF4 hF4' hk4 hb4 z4
      go_wp2_with fail
      go_region_held3 (fun W => W.cell? ⟨nb, 0, none⟩ = some (.int .i64 (nd.ver : Int)) ∧ W.cell? ⟨nb, 1, none⟩ = some (.int .i64 (nd.ctr : Int)) ∧ W.cell? ⟨nb, 2, none⟩ = some (.int .i64 (nd.own : Int)))
        (first | exact ⟨z0, z1, z2⟩ | exact ⟨d0, d1, d2⟩ | exact ⟨x0, x1, x2⟩ | exact ⟨y0, y1, y2⟩)
        (first
          | (go_at_call 28; refine HT4.out.mono ?_; rintro e w5 ⟨rfl, hI5, hF5⟩; have hF5' := HF4.out.trans ((HI4.out.keptFr HKD.out).trans (HA4.out.trans hF5)); have hb5 := (hF5'.kept HK2.out (Nat.le_refl _) (fun i hi => by rw [HR2.out] at hi; cases hi)).block' HNB.out; have y0 := cell_at hb5 0; have y1 := cell_at hb5 1; have y2 := cell_at hb5 2; simp only [List.getElem?_toArray, List.getElem?_cons_zero, List.getElem?_cons_succ] at y0 y1 y2; have HI5 := Lib.hid hI5; have HF5 := Lib.hid hF5'; clear hI5 hF5 hF5' hb5))
      go_wp2
      go_roundw
      case rel =>
        refine ⟨k + 1, by go_num, by omega, ?_, HF5.out⟩
        rw [E1.out, E2.out, E3.out, E4.out]
        have := HI5.out
        simpa [List.append_assoc] using this
      case measure => simp [intOf]; omega
    · obtain rfl : k = tl := by omega
      have HTK := Lib.hid (show t.take t.length = t from List.take_length)
      rw [← HTL.out, HTK.out] at HI
      have hle : (encT t).length ≤ 140737488355328 := by omega
      cases hbt : badT t with
      | true =>
        rw [hbt] at HI
        have HEP := Lib.hid (show encodeP t = [] by unfold encodeP; rw [hbt]; rfl)
        have HOU := Lib.hid (out_bad w.heap.size _ wr HI.out)
        clear hbt
        go_wp2_with fail
        refine HOU.out.mono ?_
        rintro e w3 ⟨rfl, rfl⟩
        go_wp2
        go_ret
        rw [HEP.out]
        exact ⟨_, rfl, World.ownsRow_nil _ _ _ _, HKW.out⟩
      | false =>
        rw [hbt] at HI
        have HEP := Lib.hid (show encodeP t = encT t by unfold encodeP; rw [hbt]; rfl)
        have HOU := Lib.hid (out_good w.heap.size _ wr HI.out hle)
        clear hbt
        go_wp2_with fail
        refine HOU.out.mono ?_
        rintro e w3 ⟨u, rfl, ho, k3⟩
        have HO := Lib.hid (own_base' ho hkw.size)
        have HK := Lib.hid (hkw.trans k3)
        obtain ⟨Au, cu, rfl⟩ := own_form ho
        clear ho
        go_wp2
        go_ret
        rw [HEP.out]
        exact ⟨_, rfl, HO.out, HK.out⟩
end Go.Proofs.YtennlckfmgfjbaaGreatDoor
