/- The walk of pick, over *althing/ztree.Tree.Paths$1. The walk of Paths. -/
import Derived.Test.YtennlckfmgfjbaaGreatDoorQZPkd
import Derived.Test.YtennlckfmgfjbaaGreatDoorGPUnder3
set_option linter.unusedSimpArgs false
set_option linter.unusedVariables false
namespace Go.Proofs.YtennlckfmgfjbaaGreatDoor
open Go.RowKit Go.Sort
set_option maxRecDepth 100000 in
set_option maxHeartbeats 4000000 in
theorem pickP_any (b1 : Nat) (w : World) (tb mb : Nat) (st : ZSt) (lim : Nat) (F : Nat → Prop) (h : TreeAt w tb mb st lim F) (f : Pth → ZN → Bool) (hlim : lim ≤ 8000000000000)
    (hcl : ∀ W, Kept w W → ∀ p ∈ st, Calls Tryz.prog 38 #[.string ⟨p.1.toArray⟩, ptrZ p.2.nb, Value.pointer (some ⟨b1, 0, none⟩)] W fun e w' => e = .returned (.bool (f p.1 p.2.nd)) ∧ Kept W w') :
    Calls Tryz.prog 24 #[.pointer (some ⟨tb, 0, none⟩), .func (.func 38) #[] #[Value.pointer (some ⟨b1, 0, none⟩)]] w fun e w' => ∃ v, e = .returned v ∧ w'.ownsRow w.heap.size 9 1 v (pickL f (plainZ st)).length (strCells (pickL f (plainZ st))) ∧ Kept w w' := by
  have hown : w.ownsMap Tryz.prog 9 rdV mb st.length (toDZ st) := h.owns
  have hbl := World.ownsMap.lt hown
  have hfew := h.few
  have hsz := toDZ_size st
  have HSZ := Lib.hid hsz
  have H := Lib.hid h
  have HPL := Lib.hid (pick_plain f h.srt)
  have HCF := Lib.hid hcl
  have c0 := h.c0
  have hmax : Maps.size (toDZ st) ≤ maxLen := by rw [hsz]; unfold maxLen; omega
  have HCL := Lib.hid (fun (k : Pth) (W : World) (h : k.length ≤ 128) => clone_any k W (by omega))
  clear h hsz hcl
  generalize hD : toDZ st = D at *
  have HD := Lib.hid hD
  generalize hPK : pkZ st f = pk at *
  have HPK := Lib.hid hPK
  generalize pickL f (plainZ st) = pl at *
  clear hD hPK
  go_enter Tryz.func24, Tryz.ntmps24
  go_wp2_with (first
    | (at_range; refine wpList_range_own _ rfl _ 81 rfl 9 79 keyLawZ Tryz.underlying81 _ mb st.length _ rfl hown ?_; intro w0 hrg0 hg0 hs0)
    | go_in)
  go_frame
  clear hs0
  go_loopw [5] (fun v wr => ∃ (left : Lit → Bool) (cnt : Nat) (vis : List Pth), wr.ranges Tryz.prog 9 rdV mb w.heap.size st.length D left cnt ∧ vis.length + cnt ≤ Maps.size D ∧
      wr.ownsRow w.heap.size 9 1 v (vis.filter pk).length (strCells (vis.filter pk)) ∧ Collected D left vis ∧ Kept w wr)
    (fun _ wr => wr.rangeLeft mb w.heap.size)
  case atStart =>
    exact ⟨_, _, [], hrg0, by simp, World.ownsRow_nil _ _ _ _, Collected.start D, (Kept.refl w).grown hg0 (fun j hj => by cases hj)⟩
  case round =>
    obtain ⟨left, cnt, vis, hrg, hcs, hrow, hC, hnx⟩ := hrel
    go_wp2_with (first
      | (at_next; refine wpList_next_ranges _ rfl _ rfl 9 keyLawZ rdV encStr (fun c : Value => c) (fun key kl hk => by obtain ⟨x, hx, _⟩ := Maps.keyOf_str Tryz.underlying9 hk; exact ⟨x, hx⟩) (fun v y _ => ⟨v, rfl⟩) mb w.heap.size st.length _ _ _ rfl hrg ?_ ?_)
      | go_in)
    · intro hc0 hl0
      have hperm := hC.perm hown keyLawZ Tryz.underlying9 hl0
      rw [← HD.out] at hperm
      have hsrt := sort_pick (pk := pk) H.out.srt hperm
      rw [HPL.out] at hsrt
      have hlen : (vis.filter pk).length = pl.length := by rw [← hsrt, List.length_mergeSort]
      have hvl : (vis.filter pk).length ≤ 8000000000001 := by have := List.length_filter_le pk vis; rw [HSZ.out] at hcs; omega
      have HSRT := Lib.hid hsrt
      have HLEN := Lib.hid hlen
      clear hsrt hperm hlen
      generalize vis.filter pk = vf at *
      rcases hrow.2 with ⟨rfl, h0⟩ | ⟨g, cap, cur, rfl, hbase, hb, h1, h2, h3, h4⟩
      · have hcc := Tryz.slices_Sort_string_none none 0 wr
        have HCC := Lib.hid hcc
        have HNX := Lib.hid hnx
        have hpl : pl = [] := List.eq_nil_of_length_eq_zero (by rw [← HLEN.out]; exact h0)
        have HP0 := Lib.hid hpl
        clear hcc hnx hpl
        go_wp2_with (go_at_call 55; refine HCC.out.mono ?_; rintro e w' ⟨rfl, rfl⟩)
        go_ret
        rw [HP0.out]
        exact ⟨_, rfl, World.ownsRow_nil _ _ _ _, HNX.out⟩
      · have hH : Holds encStr wr g 0 vf.toArray := holds_of_block hb (by simpa [strCells] using h4)
        have hgl : g < wr.heap.size := (Array.getElem?_eq_some_iff.1 hb).1
        have hcc := Tryz.slices_Sort_string g 0 cap vf wr hH hgl (by omega)
        have HCC := Lib.hid hcc
        clear hcc
        go_wp2_with (go_at_call 55; refine HCC.out.mono ?_; rintro e w' ⟨rfl, nn, os, rfl⟩)
        go_ret
        refine ⟨_, rfl, ?_, hnx.grown (grownBy_sorted _) (fun j hj => by cases hj; exact hbase)⟩
        have hfin := ownsRow_sorted (w := wr) (n := nn) (os := os) (ts := vf.mergeSort (fun x y => decide (x ≤ y))) (by simp) hbase hb h1 h2 h3
        rw [HSRT.out] at hfin ⊢
        rw [← HLEN.out]
        exact hfin
    · intro x c kl yd yp w2 cnt2 hkey hlk hv hat hrg2 hlt hg2 hs2 hen
      obtain ⟨x', ex, rfl, _⟩ := Maps.keyOf_str Tryz.underlying9 hkey
      obtain rfl : x = x' := encStr_inj ex
      have hrow2 := hrow.kept hg2 (Or.inr (row_ne_iter hrow hrg).symm)
      have hk2 := hnx.grown hg2 (fun j hj => by cases hj; exact Nat.le_refl _)
      obtain ⟨e, hge, rfl⟩ := pick_elem (st := st) (x := x) (c := c) (by rw [HD.out]; exact Maps.has_true_of_atKey hat) (by rw [HD.out, hat]; exact rdV_held hv)
      have hpke : pk x = f x e.nd := by rw [← HPK.out]; unfold pkZ; rw [hge]
      have hmem := getZ_mem hge
      have hxl : x.length ≤ 128 := names_lenZ (H.out.good _ hmem).path
      have hce := HCF.out w2 hk2 (x, e) hmem
      rw [← hpke] at hce
      have HCE := Lib.hid hce
      have HHAS := Lib.hid (show (vis ++ [x]).filter pk = vis.filter pk ++ if pk x then [x] else [] by rw [List.filter_append, List.filter_cons, List.filter_nil])
      have HK2 := Lib.hid hk2
      have HR := Lib.hid hrow2
      have HRG2 := Lib.hid hrg2
      have hvl : (vis.filter pk).length ≤ 8000000000001 := by have := List.length_filter_le pk vis; rw [HSZ.out] at hcs; omega
      have HMS := Lib.hid (show wr.rangeLeft mb w.heap.size = cnt from hrg.left_eq)
      have HC := Lib.hid (hC.step hlk hat)
      clear hs2 hrow2 hg2 hrg2 hpke hce hk2 hge hmem
      generalize vis.filter pk = vf at *
      obtain ⟨enb, edv, end'⟩ := e
      cases hpx : pk x with
      | false =>
        rw [hpx] at HCE HHAS
        clear hpx
        go_wp2_with (first
          | (go_at_call 38; refine HCE.out.mono ?_; rintro e w3 ⟨rfl, hq3⟩)
          | go_in)
        go_roundw
        case rel =>
          have hrg3 := HRG2.out.kept (w' := w3) (row := none) ⟨hq3.os, hq3.tape, hq3.output, hq3.size, fun k hk _ => hq3.block k hk⟩ (by simp) (by simp)
          refine ⟨_, cnt2, vis ++ [x], hrg3, by simp; omega, ?_, HC.out, HK2.out.trans hq3⟩
          rw [HHAS.out]
          simp only [Bool.false_eq_true, if_false, List.append_nil]
          exact own_kept HR.out hq3
        case measure =>
          have hrg3 := HRG2.out.kept (w' := w3) (row := none) ⟨hq3.os, hq3.tape, hq3.output, hq3.size, fun k hk _ => hq3.block k hk⟩ (by simp) (by simp)
          rw [hrg3.left_eq, HMS.out]; exact hlt
      | true =>
        rw [hpx] at HCE HHAS
        clear hpx
        have HCLX := Lib.hid (fun W => HCL.out x W hxl)
        go_wp2_with (first
          | (go_at_call 38; refine HCE.out.mono ?_; rintro e w3 ⟨rfl, hq3⟩)
          | (go_at_call 49; refine (HCLX.out _).mono ?_; rintro e w5 ⟨rfl, hq5⟩)
          | (at_builtin; refine wpList_append_txts rfl _ _ rfl w.heap.size _ _ vf [x] _ rfl rfl (own_kept HR.out ((hq3.trans hq5).alloc _)) (Txts.one _ x _) (by simp; omega) (by have := HK2.out.size; have := hq3.size; have := hq5.size; simp; omega) ?_; intro v' w4 h1 h2 h3)
          | go_in)
        have hq : Kept w2 (w5.alloc (.cells #[.string ⟨x.toArray⟩] 9)) := (hq3.trans hq5).alloc _
        have hnb : ∀ b', b' < w2.heap.size → some b' ≠ u5.ownBlock → w4.heap[b']? = w2.heap[b']? := fun b' hb' hne => by
          rw [h2.block b' (by have := hq.size; omega) hne, hq.block b' hb']
        have hrg3 := HRG2.out.kept (w' := w4) (row := u5.ownBlock) ⟨h2.os.trans hq.os, h2.tape.trans hq.tape, h2.output.trans hq.output, Nat.le_trans hq.size h2.size, hnb⟩ (row_ne_low HR.out hbl) (row_ne_iter HR.out HRG2.out)
        go_roundw
        case rel =>
          refine ⟨_, cnt2, vis ++ [x], hrg3, by simp; omega, ?_, HC.out, (HK2.out.trans hq).grown h2 (own_ge HR.out)⟩
          rw [HHAS.out]
          simp only [if_true]
          rw [List.length_append]
          exact h1
        case measure => rw [hrg3.left_eq, HMS.out]; exact hlt
end Go.Proofs.YtennlckfmgfjbaaGreatDoor
set_option linter.unusedSimpArgs false
set_option linter.unusedVariables false
namespace Go.Proofs.YtennlckfmgfjbaaGreatDoor
open Go.RowKit
set_option maxRecDepth 100000 in
set_option maxHeartbeats 1000000 in
theorem pathsCl_any (W : World) (b1 : Nat) (p q : Pth) (nv : Value) (hc : W.cell? ⟨b1, 0, none⟩ = some (.string ⟨p.toArray⟩)) :
    Calls Tryz.prog 38 #[.string ⟨q.toArray⟩, nv, .pointer (some ⟨b1, 0, none⟩)] W fun e w' => e = .returned (.bool (under p q)) ∧ Kept W w' := by
  have HU := Lib.hid (under_any p q W)
  generalize under p q = un at *
  generalize errB (bothP p q) = er at *
  go_enter Tryz.func38, Tryz.ntmps38
  go_wp2_with fail
  refine HU.out.mono ?_
  rintro e w1 ⟨rfl, hk⟩
  go_wp2
  go_ret
  exact ⟨rfl, hk⟩
def PathsTo (base : Nat) (t : ZT) (p : Pth) (w : World) (e : Ending) (w' : World) : Prop := ∃ v, e = .returned (.tuple #[v, .int .i64 (chk p)]) ∧ (if (names p).isSome then w'.ownsRow base 9 1 v (pickL (fun q _ => under p q) t).length (strCells (pickL (fun q _ => under p q) t)) else v = .slice none 0 0) ∧ Kept w w'
set_option maxRecDepth 100000 in
set_option maxHeartbeats 1000000 in
theorem paths_any (w : World) (tb mb : Nat) (st : ZSt) (lim : Nat) (F : Nat → Prop) (h : TreeAt w tb mb st lim F) (p : Pth) (hlim : lim ≤ 8000000000000) :
    Calls Tryz.prog 13 #[.pointer (some ⟨tb, 0, none⟩), .string ⟨p.toArray⟩] w (PathsTo w.heap.size (plainZ st) p w) := by
  have hka := (Kept.refl w).alloc (.cells #[.string ⟨p.toArray⟩] 9)
  have hna := heap_alloc_new w (.cells #[.string ⟨p.toArray⟩] 9)
  have hsa : (w.alloc (.cells #[.string ⟨p.toArray⟩] 9)).heap.size = w.heap.size + 1 := by simp
  have H := Lib.hid (h.kept hka)
  have HKA := Lib.hid hka
  have hc0 := cell_at hna 0
  simp only [List.getElem?_toArray, List.getElem?_cons_zero] at hc0
  clear h
  go_enter Tryz.func13, Tryz.ntmps13
  go_upto_region 1 with (fail)
  generalize w.alloc (.cells #[.string ⟨p.toArray⟩] 9) = wa at *
  have HCK := Lib.hid (check_any p wa)
  have HC0 := Lib.hid hc0
  by_cases hn : (names p).isSome = true
  · rw [chk_isSome hn] at HCK
    have HNN := Lib.hid hn
    clear hna hka hn
    go_wp2_with fail
    refine HCK.out.mono ?_
    rintro e w1 ⟨rfl, hk⟩
    have HK := Lib.hid hk
    have hs1 := hk.size
    have HP := Lib.hid (pickP_any w.heap.size w1 tb mb st lim F (H.out.kept hk) (fun q _ => under p q) hlim (fun W kW x hx => pathsCl_any W w.heap.size p x.1 _ (kW.cell (hk.cell HC0.out))))
    clear hk hc0
    go_wp2_with fail
    refine HP.out.mono ?_
    rintro e w2 ⟨v, rfl, ho, hk2⟩
    have HO := Lib.hid ho
    have HK2 := Lib.hid hk2
    clear ho hk2
    go_wp2
    go_ret2
    refine ⟨v, by rw [chk_isSome HNN.out]; rfl, ?_, (HKA.out.trans HK.out).trans HK2.out⟩
    rw [if_pos HNN.out]
    exact own_base' HO.out (by omega)
  · rw [chk_isNone hn] at HCK
    have HNN := Lib.hid hn
    clear hna hka hn
    go_wp2_with fail
    refine HCK.out.mono ?_
    rintro e w1 ⟨rfl, hk⟩
    have HK := Lib.hid hk
    clear hk hc0
    go_wp2
    go_ret2
    exact ⟨.slice none 0 0, by rw [chk_isNone HNN.out]; rfl, by rw [if_neg HNN.out], HKA.out.trans HK.out⟩
end Go.Proofs.YtennlckfmgfjbaaGreatDoor
