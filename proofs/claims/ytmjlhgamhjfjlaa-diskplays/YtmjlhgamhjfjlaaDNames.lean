/- The walk of names: the table's names, rising. -/
import Derived.Test.YtmjlhgamhjfjlaaDChk
import Derived.Test.YtmjlhgamhjfjlaaPApp
set_option linter.unusedSimpArgs false
set_option linter.unusedVariables false
namespace Go.Proofs.Ytmjlhgamhjfjlaa
open Go.RowKit Go.Sort
theorem bb_lt {a b : Nm} (h : bytesBefore a b = true) : a < b := by
  induction a generalizing b with
  | nil =>
    cases b with
    | nil => simp [bytesBefore] at h
    | cons y s => exact List.nil_lt_cons _ _
  | cons x r ih =>
    cases b with
    | nil => simp [bytesBefore] at h
    | cons y s =>
      simp only [bytesBefore, Bool.or_eq_true, decide_eq_true_eq, Bool.and_eq_true, beq_iff_eq] at h
      rw [List.cons_lt_cons_iff]
      rcases h with h | ⟨h1, h2⟩
      · exact .inl h
      · exact .inr ⟨h1, ih h2⟩
theorem strKeys_toD (st : St) : strKeys (toD st) = namesA st := by
  unfold strKeys toD namesA
  simp only [List.map_map]
  rfl
theorem sort_names {st : St} (hs : Srt st) {ss : List Nm} (hp : ss.Perm (strKeys (toD st))) : ss.mergeSort (fun x y => decide (x ≤ y)) = namesA st := by
  rw [strKeys_toD] at hp
  have h1 : (namesA st).Pairwise fun a b => leB a b = true := by
    unfold namesA
    rw [List.pairwise_map]
    exact hs.imp fun h => by simp only [leB, decide_eq_true_eq]; exact List.le_of_lt (bb_lt h)
  have := mergeSort_of_perm hp
  rw [show ss.mergeSort (fun x y => decide (x ≤ y)) = ss.mergeSort leB from rfl, this]
  exact List.mergeSort_of_pairwise h1
theorem strCells_enc (ss : List Nm) : strCells ss = ss.map encStr := rfl
set_option maxRecDepth 100000 in
set_option maxHeartbeats 2000000 in
theorem names_any (mb : Nat) (st : St) (F : Nat → Prop) (w : World) (ht : Tbl w mb st F) (hks : ∀ p ∈ st, p.1.length ≤ 40) :
    Calls Try.prog 40 #[.map (some mb)] w fun e w' => ∃ v, e = .returned v ∧ w'.ownsRow w.heap.size 9 1 v st.length (strCells (namesA st)) ∧ Kept w w' := by
  obtain ⟨i0, hi, hz0, hz1, hz2⟩ := info_str
  have hown : w.ownsMap Try.prog 9 rdV mb st.length (toD st) := ht.owns
  have hbl := World.ownsMap.lt hown
  have hsm := ht.small
  have hsz := toD_size st
  have HSZ := Lib.hid hsz
  have HT := Lib.hid ht
  have HKS := Lib.hid hks
  have hmax : Maps.size (toD st) ≤ maxLen := by rw [hsz]; unfold maxLen; omega
  have hby : i0.bytes * Maps.size (toD st) ≤ 281474976710656 := by rw [hz2, hsz]; omega
  have hcl : ∀ (k : Nm) (W : World), k.length ≤ 40 → Calls Try.prog 45 #[.string ⟨k.toArray⟩] W fun e w' => e = .returned (.string ⟨k.toArray⟩) ∧ Kept W w' := fun k W h => sclone_any k W (by omega)
  have HCL := Lib.hid hcl
  clear ht hks hsz hcl
  generalize hD : toD st = D at *
  have HD := Lib.hid hD
  clear hD
  go_enter Try.func40, Try.ntmps40
  go_wp2_with (first
    | (at_len; refine wpList_len_own _ rfl _ 68 rfl 9 72 Try.underlying68 _ mb st.length _ rfl hown ?_)
    | (at_make; refine wpList_make_own _ rfl _ _ 33 rfl w.heap.size 9 i0 (.string ⟨#[]⟩) 1 Try.underlying33 hi hz0 hz1 _ _ _ (Maps.size D) rfl rfl rfl hby hmax (Nat.le_refl _) ?_; intro w1 hrow1 hg1)
    | (at_range; refine wpList_range_own _ rfl _ 68 rfl 9 72 keyLaw Try.underlying68 _ mb st.length _ rfl (hown.kept hg1 (by simp)) ?_; intro w0 hrg0 hg0 hs0)
    | go_in)
  go_frame
  clear hs0
  go_loopw [3] (fun v wr => ∃ (left : Lit → Bool) (cnt : Nat) (ss : List (List UInt8)), wr.ranges Try.prog 9 rdV mb w1.heap.size st.length D left cnt ∧ ss.length + cnt ≤ Maps.size D ∧
      wr.ownsRow w.heap.size 9 1 v ss.length (strCells ss) ∧ v ≠ .slice none 0 0 ∧ Collected D left ss ∧ Kept w wr)
    (fun _ wr => wr.rangeLeft mb w1.heap.size)
  case atStart =>
    exact ⟨_, _, [], hrg0, by simp, hrow1.kept hg0 (Or.inr (by simp [Value.ownBlock])), by simp, Collected.start D,
      ((Kept.refl w).grown hg1 (fun j hj => by cases hj)).grown hg0 (fun j hj => by cases hj)⟩
  case round =>
    obtain ⟨left, cnt, ss, hrg, hcs, hrow, hnn, hC, hnx⟩ := hrel
    go_wp2_with (first
      | (at_next; refine wpList_next_ranges _ rfl _ rfl 9 keyLaw rdV encStr (fun c : Value => c) (fun key kl hk => by obtain ⟨x, hx, _⟩ := Maps.keyOf_str Try.underlying9 hk; exact ⟨x, hx⟩) (fun v y _ => ⟨v, rfl⟩) mb w1.heap.size st.length _ _ _ rfl hrg ?_ ?_)
      | go_in)
    · intro hc0 hl0
      rcases hrow.2 with ⟨hnil, _⟩ | ⟨g, cap, cur, rfl, hbase, hb, h1, h2, h3, h4⟩
      · exact absurd hnil hnn
      have hH : Holds encStr wr g 0 ss.toArray := holds_of_block hb (by simpa [strCells] using h4)
      have hgl : g < wr.heap.size := (Array.getElem?_eq_some_iff.1 hb).1
      have hcc := Try.slices_Sort_string g 0 cap ss wr hH hgl (by rw [HSZ.out] at hcs; omega)
      have hperm := hC.perm hown keyLaw Try.underlying9 hl0
      rw [← HD.out] at hperm
      have hsrt := sort_names HT.out.srt hperm
      have HSRT := Lib.hid hsrt
      have hlen : ss.length = st.length := by rw [hperm.length_eq, strKeys_toD]; simp [namesA]
      have HLEN := Lib.hid hlen
      clear hsrt hlen hperm
      have HCC := Lib.hid hcc
      clear hcc
      go_wp2_with (go_at_call 46; refine HCC.out.mono ?_; rintro e w' ⟨rfl, nn, os, rfl⟩)
      go_ret
      refine ⟨_, rfl, ?_, hnx.grown (grownBy_sorted _) (fun j hj => by cases hj; exact hbase)⟩
      have hfin := ownsRow_sorted (w := wr) (n := nn) (os := os) (ts := ss.mergeSort (fun x y => decide (x ≤ y))) (by simp) hbase hb h1 h2 h3
      rw [HSRT.out] at hfin ⊢
      rw [← HLEN.out]
      exact hfin
    · intro x c kl yd yp w2 cnt2 hkey hlk hv hat hrg2 hlt hg2 hs2 hen
      obtain ⟨x', ex, rfl, _⟩ := Maps.keyOf_str Try.underlying9 hkey
      obtain rfl : x = x' := encStr_inj ex
      have hrow2 := hrow.kept hg2 (Or.inr (row_ne_iter hrow hrg).symm)
      have hxl : x.length ≤ 40 := by
        have hh : Maps.has D (.string x) = true := Maps.has_true_of_atKey hat
        rw [← HD.out, toD_has] at hh
        unfold hasA at hh
        obtain ⟨p, hp, hpx⟩ := List.any_eq_true.1 hh
        have := HKS.out p hp
        simp at hpx
        rw [← hpx]; exact this
      have hk2 := hnx.grown hg2 (fun j hj => by cases hj; exact hg1.size)
      clear hs2
      have HR := Lib.hid hrow2
      have HG2 := Lib.hid hg2
      have HRG2 := Lib.hid hrg2
      clear hrow2 hg2 hrg2
      go_wp2_with (first
        | (go_at_call 45; refine (HCL.out _ _ hxl).mono ?_; rintro e w3 ⟨rfl, hq3⟩)
        | (at_builtin; refine wpList_append_txts rfl _ _ rfl w.heap.size _ _ ss [x] _ rfl rfl (own_kept HR.out (hq3.alloc _)) (Txts.one _ x _) (by rw [HSZ.out] at hcs; simp; omega) (by have := hk2.size; have := hq3.size; simp; omega) ?_; intro v' w4 h1 h2 h3)
        | go_in)
      have hnb : ∀ b', b' < w2.heap.size → some b' ≠ u3.ownBlock → w4.heap[b']? = w2.heap[b']? := fun b' hb' hne => by
        rw [h2.block b' (by have := hq3.size; simp; omega) hne, (hq3.alloc _).block b' hb']
      have hrg3 : w4.ranges Try.prog 9 rdV mb w1.heap.size st.length D (fun z => left z && !z.sameKey (.string x)) cnt2 :=
        HRG2.out.kept (row := u3.ownBlock) ⟨h2.os.trans hq3.os, h2.tape.trans hq3.tape, h2.output.trans hq3.output, Nat.le_trans (hq3.alloc _).size h2.size, hnb⟩ (row_ne_low HR.out hbl) (row_ne_iter HR.out HRG2.out)
      go_roundw
      case rel =>
        refine ⟨_, cnt2, ss ++ [x], hrg3, by simp; omega, by rw [List.length_append]; exact h1, ?_, hC.step hlk hat, ((hk2.trans hq3).alloc _).grown h2 (own_ge HR.out)⟩
        intro hv'
        have hh := h1.1
        rw [hv'] at h1
        rcases h1.2 with ⟨-, h0⟩ | ⟨g, cap, cur, e, -⟩
        · simp at h0
        · cases e
      case measure => rw [hrg3.left_eq, hrg.left_eq]; exact hlt
end Go.Proofs.Ytmjlhgamhjfjlaa
