/- The walk of New. A tree beside what was there; Size; awake. ZtreeNames as plain data. -/
import Derived.Test.YtennlckfmgfjbaaGreatDoorQZDl
import Derived.Lib.SlBytesConst
import Derived.Test.YtennlckfmgfjbaaGreatDoorGPLawSuf2
set_option linter.unusedSimpArgs false
set_option linter.unusedVariables false
namespace Go.Proofs.YtennlckfmgfjbaaGreatDoor
open Go.RowKit
set_option maxRecDepth 100000 in
set_option maxHeartbeats 1000000 in
theorem znew_any (w : World) :
    Calls Tryz.prog 17 #[] w fun e w' => ∃ tb mb st, e = .returned (.pointer (some ⟨tb, 0, none⟩)) ∧ TreeAt w' tb mb st 0 (fresh w w') ∧ plainZ st = newT ∧ Kept w w' := by
  have hmm := @run_makeMap Tryz.prog
  have k1 := (Kept.refl w).alloc (.map #[] 0)
  have k2 := (Kept.refl (w.alloc (.map #[] 0))).alloc (.cells #[.int .i64 0, .int .i64 0, .int .i64 0, .int .i64 0, .slice none 0 0] 87)
  have s1 : (w.alloc (.map #[] 0)).heap.size = w.heap.size + 1 := by simp
  have hq : OwnsZ (w.alloc (.map #[] 0)) w.heap.size [] := World.ownsMap_made w Tryz.prog 9 rdV
  have hq2 : OwnsZ ((w.alloc (.map #[] 0)).alloc (.cells #[.int .i64 0, .int .i64 0, .int .i64 0, .int .i64 0, .slice none 0 0] 87)) w.heap.size [] := map_chg hq (Chg.of_kept (F := no) k2) (fun x => x)
  obtain ⟨w5, hrun, ho5, hg5⟩ := hq2.store (by decide) [47] (by decide) ⟨w.heap.size + 1, .slice none 0 0, zroot⟩
  have HO5 := Lib.hid ho5
  have HG5 := Lib.hid hg5
  unfold ptrZ at hrun
  simp only at hrun
  clear ho5 hg5 hq hq2
  go_enter Tryz.func17, Tryz.ntmps17
  go_wp2_with fail
  go_ret
  have hna := heap_alloc_new (w.alloc (.map #[] 0)) (.cells #[.int .i64 0, .int .i64 0, .int .i64 0, .int .i64 0, .slice none 0 0] 87)
  rw [s1] at hna
  have hc5 : Chg (fun g => g = w.heap.size) _ w5 := Chg.of_grown HG5.out (fun g hg _ => by cases hg; rfl)
  have k6 := (Kept.refl w5).alloc (.cells #[.map (some w.heap.size)] 83)
  have hs5 := hc5.size
  have s2 : ((w.alloc (.map #[] 0)).alloc (.cells #[.int .i64 0, .int .i64 0, .int .i64 0, .int .i64 0, .slice none 0 0] 87)).heap.size = w.heap.size + 2 := by simp
  have s6 : (w5.alloc (.cells #[.map (some w.heap.size)] 83)).heap.size = w5.heap.size + 1 := by simp
  have hn5 := k6.block' (hc5.block' hna (fun x => by omega))
  have ho6 : OwnsZ (w5.alloc (.cells #[.map (some w.heap.size)] 83)) w.heap.size (putZ [47] ⟨w.heap.size + 1, .slice none 0 0, zroot⟩ []) := map_chg HO5.out (Chg.of_kept (F := no) k6) (fun x => x)
  refine ⟨w5.heap.size, w.heap.size, _, rfl, ⟨heap_alloc_new w5 _, ho6, srt_putZ List.Pairwise.nil, fun p hp => ?_, List.pairwise_singleton _ _, Nat.le_refl 1, fun p hp => ?_, ?_, ?_, fun p hp => ?_, fun p hp g hg => ?_⟩, rfl, ((k1.trans k2).trans (Kept.refl _) |> fun k => Chg.kept k hc5 (fun g e => by omega)).trans k6⟩
  · obtain rfl : p = ([47], ⟨w.heap.size + 1, .slice none 0 0, zroot⟩) := List.mem_singleton.1 hp
    exact ⟨hn5, World.ownsRow_nil _ _ _ _⟩
  · obtain rfl : p = ([47], ⟨w.heap.size + 1, .slice none 0 0, zroot⟩) := List.mem_singleton.1 hp
    exact ⟨show (names [47]).isSome = true by decide, Nat.zero_le _, Nat.zero_le _, Nat.zero_le _, Nat.zero_le _, show -((0 : Nat) : Int) ≤ 0 by decide, show (0 : Int) ≤ ((0 : Nat) : Int) by decide⟩
  · exact .inr ⟨by omega, by omega⟩
  · exact .inr ⟨Nat.le_refl _, by omega⟩
  · obtain rfl : p = ([47], ⟨w.heap.size + 1, .slice none 0 0, zroot⟩) := List.mem_singleton.1 hp
    exact .inr ⟨Nat.le_succ _, by show w.heap.size + 1 < _; omega⟩
  · obtain rfl : p = ([47], ⟨w.heap.size + 1, .slice none 0 0, zroot⟩) := List.mem_singleton.1 hp
    cases hg
end Go.Proofs.YtennlckfmgfjbaaGreatDoor
set_option linter.unusedSimpArgs false
set_option linter.unusedVariables false
namespace Go.Proofs.YtennlckfmgfjbaaGreatDoor
open Go.RowKit
/-- The tree lies in blocks younger than w0; all that was in w0 reads as it did. -/
def KT (w0 w : World) (tb : Nat) (t : ZT) (lim : Nat) : Prop := ∃ mb st, ∃ F : Nat → Prop, TreeAt w tb mb st lim F ∧ plainZ st = t ∧ (∀ g, F g → w0.heap.size ≤ g ∧ g < w.heap.size) ∧ Kept w0 w
section
variable {w0 w w' : World} {tb : Nat} {t : ZT} {lim : Nat}
theorem KT.kept (h : KT w0 w tb t lim) (k : Kept w w') : KT w0 w' tb t lim := by
  obtain ⟨mb, st, F, h1, h2, h3, h4⟩ := h
  have := k.size
  exact ⟨mb, st, F, h1.kept k, h2, fun g x => ⟨(h3 g x).1, by have := (h3 g x).2; omega⟩, h4.trans k⟩
theorem KT.old (h : KT w0 w tb t lim) : Kept w0 w := by
  obtain ⟨mb, st, F, h1, h2, h3, h4⟩ := h
  exact h4
theorem KT.more (h : KT w0 w tb t lim) {lim' : Nat} (hl : lim ≤ lim') : KT w0 w tb t lim' := by
  obtain ⟨mb, st, F, h1, h2, h3, h4⟩ := h
  exact ⟨mb, st, F, h1.more hl, h2, h3, h4⟩
theorem KT.srt (h : KT w0 w tb t lim) : SrtZ t := by
  obtain ⟨mb, st, F, h1, rfl, h3, h4⟩ := h
  exact srt_mapZ.2 h1.srt
theorem new_kt (w : World) : Calls Tryz.prog 17 #[] w fun e w' => ∃ tb, e = .returned (.pointer (some ⟨tb, 0, none⟩)) ∧ KT w w' tb newT 0 := by
  refine (znew_any w).mono ?_
  rintro e w' ⟨tb, mb, st, h1, h2, h3, h4⟩
  exact ⟨tb, h1, mb, st, _, h2, h3, fun g x => x.elim (fun y => y.elim) id, h4⟩
theorem createP_bad {t : ZT} {p : Pth} {dl : Nat} {owner : Int} {seq : Bool} (h : createE t p dl owner seq ≠ 0) : createP t p dl owner seq = [] := by
  unfold createE createP at *
  rcases create_cases t p dl owner seq with ⟨hp, hq⟩ | ⟨up, hp, ⟨hd, hq⟩ | ⟨hd, ⟨ho, hq⟩ | ⟨ho, ⟨hg, hq⟩ | ⟨n, hg, ⟨h3, hq⟩ | ⟨h3, ⟨hh, hq⟩ | ⟨hh, hq⟩⟩⟩⟩⟩⟩
  all_goals first | (rw [hq]; done) | (rw [hq] at h; exact absurd rfl h)
theorem create_kt (h : KT w0 w tb t lim) (p : Pth) (data : List UInt8) (v : Value) (owner : Int) (seq : Bool) (hv : Bts w v data) (htab : TbZ w0) (hlim : lim + 2 < 4611686018427387903) :
    Calls Tryz.prog 18 #[.pointer (some ⟨tb, 0, none⟩), .string ⟨p.toArray⟩, v, .int .i64 owner, .bool seq] w fun e w' => e = .returned (.tuple #[.string ⟨(createP t p data.length owner seq).toArray⟩, .int .i64 (createE t p data.length owner seq)]) ∧ KT w0 w' tb (createS t p data owner seq) (lim + 1) ∧ Chg (fun g => w0.heap.size ≤ g) w w' := by
  obtain ⟨mb, st, F, h1, rfl, h3, h4⟩ := h
  by_cases hE : createE (plainZ st) p data.length owner seq = 0
  · refine (create_ok h1 p data v owner seq hv (htab.kept h4) hE hlim).mono ?_
    rintro e w' ⟨rfl, ⟨st', h5, h6⟩, h7⟩
    have hs := h7.size
    have hs0 := h4.size
    refine ⟨by rw [hE], ⟨mb, st', _, h5, h6, fun g x => ?_, h7.kept h4 (fun g x => (h3 g x).1)⟩, h7.mono fun g _ x => (h3 g x).1⟩
    rcases x with x | x
    · exact ⟨(h3 g x).1, by have := (h3 g x).2; omega⟩
    · exact ⟨by omega, x.2⟩
  · refine (create_bad h1 p data v owner seq hv (htab.kept h4) hE).mono ?_
    rintro e w' ⟨rfl, hk⟩
    have hs := hk.size
    refine ⟨by rw [createP_bad hE], ⟨mb, st, F, (h1.kept hk).more (Nat.le_succ _), ?_, fun g x => ⟨(h3 g x).1, by have := (h3 g x).2; omega⟩, h4.trans hk⟩, Chg.of_kept hk⟩
    unfold createS
    rw [if_neg hE]
theorem delete_kt (h : KT w0 w tb t lim) (p : Pth) (v : Int) (hlim : lim + 2 < 4611686018427387903) :
    Calls Tryz.prog 43 #[.pointer (some ⟨tb, 0, none⟩), .string ⟨p.toArray⟩, .int .i64 v] w fun e w' => e = .returned (.int .i64 (deleteE t p v)) ∧ KT w0 w' tb (deleteS t p v) (lim + 1) ∧ Chg (fun g => w0.heap.size ≤ g) w w' := by
  obtain ⟨mb, st, F, h1, rfl, h3, h4⟩ := h
  refine (delete_any h1 p v hlim).mono ?_
  rintro e w' ⟨rfl, ⟨st', h5, h6⟩, h7⟩
  have hs := h7.size
  have hs0 := h4.size
  refine ⟨rfl, ⟨mb, st', _, h5, h6, fun g x => ?_, h7.kept h4 (fun g x => (h3 g x).1)⟩, h7.mono fun g _ x => (h3 g x).1⟩
  rcases x with x | x
  · exact ⟨(h3 g x).1, by have := (h3 g x).2; omega⟩
  · exact ⟨by omega, x.2⟩
set_option maxRecDepth 100000 in
set_option maxHeartbeats 1000000 in
theorem size_kt (h : KT w0 w tb t lim) :
    Calls Tryz.prog 35 #[.pointer (some ⟨tb, 0, none⟩)] w fun e w' => e = .returned (.int .i64 (t.length : Int)) ∧ w = w' := by
  obtain ⟨mb, st, F, h1, rfl, h3, h4⟩ := h
  have c0 := h1.c0
  have hlen := World.ownsMap.len h1.owns Tryz.underlying81 3
  rw [toDZ_size] at hlen
  have hl : (plainZ st).length = st.length := length_mapZ _ _
  rw [hl]
  have HL := Lib.hid hl
  clear h1 h3 h4 hl
  go_enter Tryz.func35, Tryz.ntmps35
  go_wp2
  go_ret
  exact ⟨rfl, rfl⟩
end
end Go.Proofs.YtennlckfmgfjbaaGreatDoor
set_option linter.unusedSimpArgs false
set_option linter.unusedVariables false
namespace Go.Proofs.YtennlckfmgfjbaaGreatDoor
def baseN (l : Pth) : Pth := [47, 113, 47] ++ l
theorem okB_digit (n : Nat) : okB (UInt8.ofNat (48 + n % 10)) = true := by
  have h : n % 10 < 10 := Nat.mod_lt _ (by decide)
  generalize n % 10 = m at *
  match m, h with
  | 0, _ => decide
  | 1, _ => decide
  | 2, _ => decide
  | 3, _ => decide
  | 4, _ => decide
  | 5, _ => decide
  | 6, _ => decide
  | 7, _ => decide
  | 8, _ => decide
  | 9, _ => decide
theorem dk_okB : ∀ (k n : Nat), (dk k n).all okB = true
  | 0, _ => rfl
  | k + 1, n => by
    unfold dk
    rw [List.all_append, dk_okB k, Bool.true_and, List.all_cons, okB_digit]
    rfl
theorem isName_dk {l : Pth} (h : isName l = true) (hl : l.length ≤ 22) (n : Nat) : isName (l ++ dk 10 n) = true := by
  have hlen := dk_len 10 n
  have h1 : l.all okB = true ∧ 1 ≤ l.length := by
    simp only [isName, Bool.and_eq_true, decide_eq_true_eq] at h
    exact ⟨h.2, h.1.1.1.1⟩
  have h2 : (l ++ dk 10 n).length = l.length + 10 := by rw [List.length_append, hlen]
  have n1 : l ++ dk 10 n ≠ [46] := fun e => by rw [e] at h2; simp at h2
  have n2 : l ++ dk 10 n ≠ [46, 46] := fun e => by rw [e] at h2; simp at h2
  simp only [isName, Bool.and_eq_true, decide_eq_true_eq, h2, List.all_append, h1.1, dk_okB, bne_iff_ne, ne_eq, n1, n2, not_false_eq_true, and_true]
  omega
theorem base_mk (l : Pth) : baseN l = mk [[113], l] := by
  unfold baseN mk flat
  simp
theorem base_ok {l : Pth} (h : isName l = true) (hl : l.length ≤ 32) : okNames [[113], l] = true := by
  refine okNames_mk (fun x hx => ?_) (by simp) ?_
  · simp only [List.mem_cons, List.not_mem_nil, or_false] at hx
    rcases hx with rfl | rfl
    · decide
    · exact h
  · simp [flat]
    omega
theorem base_names {l : Pth} (h : isName l = true) (hl : l.length ≤ 32) : names (baseN l) = some [[113], l] := by rw [base_mk, names_mk_ok (base_ok h hl)]
theorem base_parent {l : Pth} (h : isName l = true) (hl : l.length ≤ 32) : parentOf (baseN l) = some [47, 113] := by
  unfold parentOf
  rw [base_names h hl]
  rfl
theorem base_app (l m : Pth) : baseN l ++ m = baseN (l ++ m) := by unfold baseN; rw [List.append_assoc]
theorem base_suf {l : Pth} (h : isName l = true) (hl : l.length ≤ 22) {i : Nat} (hi : i ≤ 9999999999) : sufOf (baseN l) (i : Int) = some (baseN l ++ dk 10 i) := by
  unfold sufOf
  rw [base_names h (by omega)]
  simp only
  have hn : names (baseN l ++ dk 10 i) = some [[113], l ++ dk 10 i] := by
    rw [base_app]
    exact base_names (isName_dk h hl i) (by rw [List.length_append, dk_len]; omega)
  rw [if_neg (by simp; omega), Int.toNat_natCast, hn]
  rfl
/-- The tree behind i rounds. -/
structure InvN (l : Pth) (i : Nat) (t : ZT) : Prop where
  srt : SrtZ t
  q : ∃ n, getZ [47, 113] t = some n ∧ n.own = 0 ∧ n.ctr = i
  only : ∀ x ∈ t, x.1 = [47] ∨ x.1 = [47, 113] ∨ ∃ j, j < i ∧ x.1 = baseN l ++ dk 10 j
theorem getZ_onZ {k j : Pth} {f : ZN → ZN} : ∀ (t : ZT), getZ j (onZ k f t) = (getZ j t).map fun n => if j = k then f n else n
  | [] => rfl
  | x :: r => by
    have ih := getZ_onZ (k := k) (j := j) (f := f) r
    unfold getZ onZ at *
    rw [List.map_cons, List.find?_cons, List.find?_cons]
    by_cases e : x.1 = k
    · rw [if_pos e]
      simp only
      by_cases e2 : x.1 = j
      · have e3 : j = k := by rw [← e2, e]
        simp [e2, e3]
      · have : (x.1 == j) = false := by simpa using e2
        rw [this]
        exact ih
    · rw [if_neg e]
      by_cases e2 : x.1 = j
      · have e3 : ¬ j = k := by rw [← e2]; exact e
        simp [e2, e3]
      · have : (x.1 == j) = false := by simpa using e2
        rw [this]
        exact ih
theorem names_onZ (k : Pth) (f : ZN → ZN) (t : ZT) : namesZ (onZ k f t) = namesZ t := by
  unfold namesZ onZ
  rw [List.map_map]
  refine List.map_congr_left fun x _ => ?_
  simp only [Function.comp]
  by_cases h : x.1 = k
  · rw [if_pos h]
  · rw [if_neg h]
theorem mem_onZ {k : Pth} {f : ZN → ZN} {t : ZT} {x : Pth × ZN} (h : x ∈ onZ k f t) : ∃ y ∈ t, y.1 = x.1 := by
  obtain ⟨y, hy, rfl⟩ := List.mem_map.1 h
  refine ⟨y, hy, ?_⟩
  by_cases e : y.1 = k
  · rw [if_pos e]
  · rw [if_neg e]
theorem base_ne {l : Pth} {i : Nat} : baseN l ++ dk 10 i ≠ [47, 113] ∧ baseN l ++ dk 10 i ≠ [47] := by
  have h : (baseN l ++ dk 10 i).length = 13 + l.length := by
    rw [List.length_append, dk_len]
    unfold baseN
    simp
    omega
  exact ⟨fun e => by rw [e] at h; simp at h; omega, fun e => by rw [e] at h; simp at h; omega⟩
theorem InvN.new {l : Pth} {i : Nat} {t : ZT} (h : InvN l i t) (hi : i ≤ 9999999999) : getZ (baseN l ++ dk 10 i) t = none := by
  cases hg : getZ (baseN l ++ dk 10 i) t with
  | none => rfl
  | some n =>
    exfalso
    rcases h.only _ (getZ_mem hg) with e | e | ⟨j, hj, e⟩
    · exact base_ne.2 e
    · exact base_ne.1 e
    · have e2 := List.append_cancel_left e
      have := dk_inj 10 i j (by omega) (by omega) e2
      omega
theorem InvN.place {l : Pth} {i : Nat} {n : ZN} (hn : isName l = true) (hl : l.length ≤ 22) (hi : i ≤ 9999999999) (ho : n.own = 0) (hc : n.ctr = i) : placeQ n (baseN l) true = (0, baseN l ++ dk 10 i) := by
  unfold placeQ
  rw [if_neg (by simp [ho]), if_neg (by omega), hc]
  simp only [if_true]
  rw [base_suf hn hl hi]
theorem InvN.createQ {l : Pth} {i : Nat} {t : ZT} (h : InvN l i t) (hn : isName l = true) (hl : l.length ≤ 22) (hi : i ≤ 9999999999) : createQ t (baseN l) 0 0 true = (0, baseN l ++ dk 10 i) := by
  obtain ⟨n, hg, ho, hc⟩ := h.q
  unfold Go.Proofs.YtennlckfmgfjbaaGreatDoor.createQ
  rw [base_parent hn (by omega)]
  simp only
  rw [if_neg (by omega), if_neg (by omega), hg]
  simp only
  rw [InvN.place hn hl hi ho hc]
  have hh : hasZ (baseN l ++ dk 10 i) t = false := by rw [hasZ_get, h.new hi]; rfl
  simp [hh]
theorem InvN.create {l : Pth} {i : Nat} {t : ZT} (h : InvN l i t) (hn : isName l = true) (hl : l.length ≤ 22) (hi : i ≤ 9999999999) :
    createE t (baseN l) 0 0 true = 0 ∧ createP t (baseN l) 0 0 true = baseN l ++ dk 10 i ∧ InvN l (i + 1) (createS t (baseN l) [] 0 true) ∧ getZ (baseN l ++ dk 10 i) (createS t (baseN l) [] 0 true) = some ⟨[], 0, 0, 0, 0⟩ := by
  have hq := h.createQ hn hl hi
  have he : createE t (baseN l) 0 0 true = 0 := by unfold createE; rw [hq]
  have hp : createP t (baseN l) 0 0 true = baseN l ++ dk 10 i := by unfold createP; rw [hq]
  obtain ⟨n, hg, ho, hc⟩ := h.q
  have hS : createS t (baseN l) [] 0 true = onZ [47, 113] (fun n => { n with ctr := n.ctr + 1, kids := n.kids + 1 }) (putZ (baseN l ++ dk 10 i) ⟨[], 0, 0, 0, 0⟩ t) := by
    unfold createS
    rw [if_pos (show createE t (baseN l) ([] : List UInt8).length 0 true = 0 from he), show createP t (baseN l) ([] : List UInt8).length 0 true = baseN l ++ dk 10 i from hp, base_parent hn (by omega)]
    rfl
  refine ⟨he, hp, ?_, ?_⟩
  · rw [hS]
    refine ⟨srt_namesZ (names_onZ _ _ _).symm (srt_putZ h.srt), ⟨{ n with ctr := n.ctr + 1, kids := n.kids + 1 }, ?_, ho, by show n.ctr + 1 = i + 1; omega⟩, fun x hx => ?_⟩
    · rw [getZ_onZ, getZ_put_other (Ne.symm base_ne.1), hg]
      simp
    · obtain ⟨y, hy, e⟩ := mem_onZ hx
      rw [← e]
      rcases mem_putZ hy with rfl | ⟨hy, -⟩
      · exact .inr (.inr ⟨i, by omega, rfl⟩)
      · rcases h.only y hy with e | e | ⟨j, hj, e⟩
        · exact .inl e
        · exact .inr (.inl e)
        · exact .inr (.inr ⟨j, by omega, e⟩)
  · rw [hS, getZ_onZ, getZ_put_same _ _ _ h.srt]
    have := (base_ne (l := l) (i := i)).1
    simp [this]
theorem InvN.delete {l : Pth} {i : Nat} {t : ZT} (h : InvN l (i + 1) t) (hn : isName l = true) (hl : l.length ≤ 22) (hi : i ≤ 9999999999) (hg : getZ (baseN l ++ dk 10 i) t = some ⟨[], 0, 0, 0, 0⟩) :
    deleteE t (baseN l ++ dk 10 i) 0 = 0 ∧ InvN l (i + 1) (deleteS t (baseN l ++ dk 10 i) 0) := by
  obtain ⟨n, hq, ho, hc⟩ := h.q
  have hpar : parentOf (baseN l ++ dk 10 i) = some [47, 113] := by
    rw [base_app]
    exact base_parent (isName_dk hn hl i) (by rw [List.length_append, dk_len]; omega)
  have he : deleteE t (baseN l ++ dk 10 i) 0 = 0 := by
    unfold deleteE
    rw [hpar]
    simp only
    rw [hq, hg]
    simp [verOK]
  refine ⟨he, ?_⟩
  unfold deleteS
  rw [if_pos he, hpar]
  refine ⟨srt_namesZ (names_onZ _ _ _).symm (srt_cutZ h.srt), ⟨{ n with kids := n.kids - 1 }, ?_, ho, hc⟩, fun x hx => ?_⟩
  · show getZ [47, 113] (onZ [47, 113] _ _) = _
    rw [getZ_onZ, getZ_cut_other (Ne.symm base_ne.1), hq]
    simp
  · obtain ⟨y, hy, e⟩ := mem_onZ hx
    rw [← e]
    exact h.only y (mem_cutZ hy).1
theorem InvN.start (l : Pth) : createE newT [47, 113] 0 0 false = 0 ∧ InvN l 0 (createS newT [47, 113] [] 0 false) := by
  refine ⟨by decide +kernel, ?_⟩
  have e : createS newT [47, 113] [] 0 false = [([47], ⟨[], 0, 1, 0, 1⟩), ([47, 113], ⟨[], 0, 0, 0, 0⟩)] := by rfl
  rw [e]
  refine ⟨?_, ⟨⟨[], 0, 0, 0, 0⟩, rfl, rfl, rfl⟩, fun x hx => ?_⟩
  · refine List.pairwise_cons.2 ⟨fun y hy => ?_, List.pairwise_singleton _ _⟩
    obtain rfl := List.mem_singleton.1 hy
    decide
  · simp only [List.mem_cons, List.not_mem_nil, or_false] at hx
    rcases hx with rfl | rfl
    · exact .inl rfl
    · exact .inr (.inl rfl)
end Go.Proofs.YtennlckfmgfjbaaGreatDoor
