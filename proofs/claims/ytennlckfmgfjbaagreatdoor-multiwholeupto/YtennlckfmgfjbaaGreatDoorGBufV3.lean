/- Write and WriteString over a writer: what they write, and just what they change. The walks of the writer's Blobs and Texts. The form of a slice of ints. -/
import Derived.Test.YtennlckfmgfjbaaGreatDoorGBufW2
import Derived.Lib.BufferWrite
import Derived.Test.YtennlckfmgfjbaaGreatDoorGNum2
import Derived.Test.YtennlckfmgfjbaaGreatDoorGCat2
namespace Go.Proofs.YtennlckfmgfjbaaGreatDoor
open Go.RowKit

theorem addr_block (a : Addr) (n : Nat) : (a.add n).block = a.block := by unfold Addr.add; split <;> rfl
theorem grownBy_setRow (w : World) (g : Nat) (cs : Array Value) : w.grownBy (w.setRow g cs) (some g) :=
  ⟨rfl, rfl, rfl, by simp [World.setRow], fun k _ hk => setRow_other w g k cs (fun e => hk (by rw [e]))⟩
/-- The bytes are laid behind those that are there. -/
theorem write_fin {b N cap : Nat} {bad : Bool} {l p : List UInt8} {w' : World} {cur : Array Value} {lr : Int} (h3 : LibA.Three w' b 0 126 (badCell bad) (.slice (some ⟨N, 0, none⟩) (l.length + p.length) cap) (.int .i64 0) (.int .i8 lr)) (hg : w'.heap[N]? = some (.cells cur 5 (0, 0)))
    (h1 : l.length + p.length ≤ cap) (h2 : cap ≤ maxLen) (h4 : cur.size = cap) (h5 : cur.toList.take l.length = Lib.byteCells l) (h6 : N ≠ b) (hp : 0 < p.length) :
    IsW (w'.setRow N (cur.toList.take l.length ++ Lib.byteCells p ++ cur.toList.drop (l.length + p.length)).toArray) b bad (l ++ p) := by
  have e := byteCells_length p
  have := (LibA.written_end (B := 0) (news := Lib.byteCells p) (l := l.length) (Nat.zero_le _) (by rw [e]; exact h3) (Nat.zero_le _) hg h2 h4 h6 (by rw [e]; exact h1)).1
  rw [e, h5, ← byteCells_append] at this
  rw [h5, ← byteCells_append]
  exact ⟨this, fun h => by have h' := congrArg List.length h; rw [List.length_append, List.length_nil] at h'; omega⟩
theorem setCell_id {w : World} {a : Addr} {v : Value} (h : w.cell? a = some v) : ∀ q, (w.setCell a v).cell? q = w.cell? q := fun q => by
  by_cases e : a = q
  · subst e; rw [World.cell?_setCell_same w _ _ h, h]
  · exact World.cell?_setCell_other w _ _ _ e
/-- The header is written as it is. -/
theorem IsW.same {w : World} {b : Nat} {bad : Bool} {l : List UInt8} {v : Value} (h : IsW w b bad l) (hc : w.cell? ⟨b, 0, none⟩ = some v) : IsW (w.setCell ⟨b, 0, none⟩ v) b bad l ∧ WFr b w (w.setCell ⟨b, 0, none⟩ v) := by
  obtain ⟨⟨hB, v', lr, h3, hown, hne⟩, hrow⟩ := h
  obtain rfl : v' = v := by have := h3.c0; rw [hc] at this; exact (Option.some.inj this).symm
  have hr : rowOf (w.setCell ⟨b, 0, none⟩ v') b = rowOf w b := by unfold rowOf; rw [setCell_id hc]
  exact ⟨⟨⟨hB, v', lr, h3.set0 v', hown.kept (Lib.grownBy_setCell w b 0 _) (Or.inr hne), hne⟩, fun e => hr.trans (hrow e)⟩, WFr.of_grown (Lib.grownBy_setCell w b 0 _) (fun k hk => .inl (hr.symm.trans hk))⟩
/-- A slice of bytes does not lie in a writer's own block. -/
theorem IsW.apart {w : World} {b : Nat} {bad : Bool} {l p : List UInt8} {b' o c n : Nat} (h : IsW w b bad l) (hp : Bts w (.slice (some ⟨b', o, none⟩) n c) p) (h0 : 0 < p.length) : b' ≠ b := by
  rintro rfl
  obtain ⟨⟨hB, v, lr, ⟨cs, hb, e0, e1, e2, er⟩, hown, -⟩, -⟩ := h
  obtain ⟨A, c', hv, -, -, h3⟩ := hp
  obtain ⟨b2, o2, hA, hc⟩ := h3 h0
  obtain ⟨rfl, -, -⟩ : some (⟨b', o, none⟩ : Addr) = A ∧ n = p.length ∧ c = c' := by simpa using hv
  cases hA
  have h1 := hc 0 p[0] (by simp [h0])
  rw [Lib.cell_of_heap hb, Nat.add_zero] at h1
  match o, h1 with
  | 0, h1 =>
    rw [e0] at h1
    have hv0 := Option.some.inj h1
    subst hv0
    rcases hown.2 with ⟨h, -⟩ | ⟨_, _, _, h, -⟩ <;> cases h
  | 1, h1 => rw [show (0 + 1 : Nat) = 1 from rfl] at e1; rw [e1] at h1; cases h1
  | 2, h1 => rw [show (0 + 2 : Nat) = 2 from rfl] at e2; rw [e2] at h1; cases h1
  | k + 3, h1 =>
    rw [er (k + 3) (by omega)] at h1
    unfold badCell at h1
    split at h1 <;> cases h1
set_option maxRecDepth 100000 in
set_option maxHeartbeats 2000000 in
theorem wWrite (b : Nat) (bad : Bool) (l p : List UInt8) (v : Value) (w : World) (h : IsW w b bad l) (hp : Bts w v p) (hlim : l.length + p.length ≤ 140737488355328) :
    Calls Tryz.prog 58 #[.pointer (some ⟨b, 0, none⟩), v] w fun e w' => ∃ r, e = .returned r ∧ IsW w' b bad (l ++ p) ∧ WFr b w w' := by
  obtain ⟨lr, c2⟩ := h.c2.1
  have f2 := h.c2.2
  obtain ⟨hI, hF⟩ := h.last 0
  have hp1 : Bts (w.setCell ⟨b, 2, none⟩ (.int .i8 0)) v p := by
    obtain ⟨A, c, rfl, k1, k2, k3⟩ := id hp
    refine ⟨A, c, rfl, k1, k2, fun h0 => ?_⟩
    obtain ⟨b', o', rfl, hc⟩ := k3 h0
    have hab := h.apart hp h0
    exact ⟨b', o', rfl, fun k x hx => by rw [World.cell?_setCell_other w _ _ _ (fun e => hab (congrArg Addr.block e).symm)]; exact hc k x hx⟩
  have hinfo : (Tryz.prog.info? 5).map (·.size) = some 1 := by
    obtain ⟨i0, hi, -, hz1, -⟩ := info_byte
    rw [hi]; simp [hz1]
  have HI := Lib.hid hI
  have HF := Lib.hid hF
  have HP1 := Lib.hid hp1
  clear hp1
  obtain ⟨A, c, hv', hc1, hc2, hcs⟩ := hp
  subst hv'
  generalize hW1 : w.setCell ⟨b, 2, none⟩ (.int .i8 0) = w1 at *
  have HW1 := Lib.hid hW1
  clear hW1 hI hF h
  unfold maxLen at hc2
  by_cases hpos : 0 < p.length
  · obtain ⟨b', o', rfl, hcell⟩ := hcs hpos
    have hab : b' ≠ b := HI.out.apart HP1.out hpos
    have hsrc : ∀ j u, (Lib.byteCells p)[j]? = some u → w1.cell? ((⟨b', o', none⟩ : Addr).add j) = some u := fun j u hu => by
      have hj : j < p.length := by
        have := (List.getElem?_eq_some_iff.1 hu).1
        simpa [byteCells_length] using this
      obtain ⟨A2, c2', hv2, -, -, k3⟩ := HP1.out
      obtain ⟨b2, o2, hA2, hc⟩ := k3 hpos
      obtain ⟨rfl, -, -⟩ : some (⟨b', o', none⟩ : Addr) = A2 ∧ p.length = p.length ∧ c = c2' := by simpa using hv2
      cases hA2
      have e : ((⟨b', o', none⟩ : Addr).add j) = ⟨b', o' + j, none⟩ := by unfold Addr.add; split <;> simp_all
      rw [e, hc j p[j] (by simp [hj])]
      simp [Lib.byteCells, hj] at hu
      rw [hu]
    have HSRC := Lib.hid hsrc
    clear hsrc hcell hcs
    by_cases hroom : LibA.NoRoom b 0 p.length w1
    · obtain ⟨ao, l', cap', hc, hlt⟩ := hroom
      have hnr : LibA.NoRoom b 0 p.length w1 := ⟨ao, l', cap', hc, hlt⟩
      have hlc : l' ≤ cap' ∧ cap' ≤ maxLen := by
        rcases HI.out.cases with ⟨-, lr, h3⟩ | ⟨-, g, cap, cur, lr, h3, hg, h1, h2, -⟩
        · rw [h3.c0] at hc
          obtain ⟨-, rfl, rfl⟩ : none = ao ∧ 0 = l' ∧ 0 = cap' := by simpa using hc
          exact ⟨Nat.le_refl _, Nat.zero_le _⟩
        · rw [h3.c0] at hc
          obtain ⟨-, rfl, rfl⟩ : some (⟨g, 0, none⟩ : Addr) = ao ∧ l.length = l' ∧ cap = cap' := by simpa using hc
          exact ⟨h1, h2⟩
      have HN := Lib.hid hnr
      have HC := Lib.hid hc
      clear hc
      go_enter Tryz.func58, Tryz.ntmps58
      go_wp2_with fail
      rw [HW1.out]
      refine (Tryz.Buffer_tryGrow_none_at b 0 ao l' cap' p.length _ HC.out hlc.1 hlc.2 hlt).mono ?_
      rintro e w2 ⟨rfl, rfl⟩
      go_wp2_with fail
      refine (grow_any b p.length bad l _ HI.out (by omega) HN.out hlim).mono ?_
      rintro e w3 ⟨rfl, N, hR, hg, hN⟩
      have hfr := fun w'' => WFr.of_room (w'' := w'') hg (.inr hN) hR
      obtain ⟨cap, cur, lr2, h3, hgr, h1, h2, h4, h5, h6⟩ := hR
      have hfin : IsW _ b bad (l ++ p) ∧ WFr b w _ := ⟨write_fin h3 hgr h1 h2 h4 h5 h6 hpos, HF.out.trans (hfr _ (grownBy_setRow w3 N (cur.toList.take l.length ++ Lib.byteCells p ++ cur.toList.drop (l.length + p.length)).toArray))⟩
      have d0 : w3.cell? ⟨b, 0, none⟩ = some (.slice (some ⟨N, 0, none⟩) (l.length + p.length) cap) := h3.c0
      have hsrc : ∀ j u, (Lib.byteCells p)[j]? = some u → w3.cell? ((⟨b', o', none⟩ : Addr).add j) = some u := fun j u hu => hg.cell (HSRC.out j u hu) (by rw [addr_block]; exact fun e => hab (Option.some.inj e))
      have hcp := run_copy_row (P := Tryz.prog) w3 39 39 3 5 N l.length p.length (cap - l.length) ⟨b', o', none⟩ p.length c cur 5 (Lib.byteCells p) Tryz.underlying39 hinfo hgr (by simp [byteCells_length]) hsrc (by rw [byteCells_length]; omega) (byteCells_one' p)
      rw [byteCells_length] at hcp
      rw [List.append_assoc] at hfin
      have HFIN := Lib.hid hfin
      have hne : ¬ cap = l.length := by omega
      unfold maxLen at h2
      clear hfin h3 hgr h5 hfr hg
      go_wp2
      go_ret2
      exact ⟨_, rfl, HFIN.out⟩
    · rcases HI.out.cases with ⟨-, lr, h3⟩ | ⟨-, g, cap, cur, lr, h3, hg, h1, h2, h4, h5, h6⟩
      · exact absurd ⟨none, 0, 0, h3.c0, by omega⟩ hroom
      · have hrm : p.length ≤ cap - l.length := by
          rcases Nat.lt_or_ge (cap - l.length) p.length with e | e
          · exact absurd ⟨_, _, _, h3.c0, e⟩ hroom
          · exact e
        have hR := room_set (n := p.length) h3 hg h2 h4 h5 h6 (by omega)
        have hfr := fun w'' => WFr.of_room (w'' := w'') (Lib.grownBy_setCell w1 b 0 _) (.inl (by rw [rowOf_three h3]; rfl)) hR
        have HC := Lib.hid h3.c0
        have HFZ := Lib.hid (h3.f 0)
        clear hroom
        obtain ⟨cap2, cur2, lr2, h3', hg', k1, k2, k4, k5, k6⟩ := hR
        go_enter Tryz.func58, Tryz.ntmps58
        go_wp2_with fail
        rw [HW1.out]
        refine (Tryz.Buffer_tryGrow_room_at b 0 (some ⟨g, 0, none⟩) l.length cap p.length _ HC.out HFZ.out h1 h2 hrm).mono ?_
        rintro e w3 ⟨rfl, hw3⟩
        rw [← hw3] at h3' hg' hfr
        have hgk : w1.grownBy w3 (some b) := by rw [hw3]; exact Lib.grownBy_setCell w1 b 0 _
        clear hw3
        have hfin : IsW _ b bad (l ++ p) ∧ WFr b w _ := ⟨write_fin h3' hg' k1 k2 k4 k5 k6 hpos, HF.out.trans (hfr _ (grownBy_setRow w3 g (cur2.toList.take l.length ++ Lib.byteCells p ++ cur2.toList.drop (l.length + p.length)).toArray))⟩
        have d0 : w3.cell? ⟨b, 0, none⟩ = some (.slice (some ⟨g, 0, none⟩) (l.length + p.length) cap2) := h3'.c0
        have hsrc : ∀ j u, (Lib.byteCells p)[j]? = some u → w3.cell? ((⟨b', o', none⟩ : Addr).add j) = some u := fun j u hu => hgk.cell (HSRC.out j u hu) (by rw [addr_block]; exact fun e => hab (Option.some.inj e))
        have hcp := run_copy_row (P := Tryz.prog) w3 39 39 3 5 g l.length p.length (cap2 - l.length) ⟨b', o', none⟩ p.length c cur2 5 (Lib.byteCells p) Tryz.underlying39 hinfo hg' (by simp [byteCells_length]) hsrc (by rw [byteCells_length]; omega) (byteCells_one' p)
        rw [byteCells_length] at hcp
        rw [List.append_assoc] at hfin
        have HFIN := Lib.hid hfin
        have hne : ¬ cap2 = l.length := by omega
        unfold maxLen at k2
        clear hfin h3 h3' hg hg' h5 k5 hfr hgk
        go_wp2
        go_ret2
        exact ⟨_, rfl, HFIN.out⟩
  · have hp0 : p = [] := List.eq_nil_of_length_eq_zero (by omega)
    subst hp0
    have hce : ∀ d dLen dCap W, (Builtin.copy_ #[39, 39] 3 #[.slice d dLen dCap, .slice A 0 c]).run Tryz.prog W = .ok (goInt 0) W := fun d dLen dCap W => run_copy_none W 39 39 3 5 d A dLen dCap 0 c Tryz.underlying39 hinfo (by simp)
    clear hcs
    rw [List.append_nil]
    rcases HI.out.cases with ⟨hl0, lr, h3⟩ | ⟨-, g, cap, cur, lr, h3, hg, h1, h2, h4, h5, h6⟩
    · have hsame := HI.out.same h3.c0
      have hfin : IsW _ b bad l ∧ WFr b w _ := ⟨hsame.1, HF.out.trans hsame.2⟩
      have HFIN := Lib.hid hfin
      have HC := Lib.hid h3.c0
      have HFZ := Lib.hid (h3.f 0)
      clear hsame hfin h3 hl0
      go_enter Tryz.func58, Tryz.ntmps58
      go_wp2_with fail
      rw [HW1.out]
      refine (Tryz.Buffer_tryGrow_room_at b 0 none 0 0 0 _ HC.out HFZ.out (Nat.le_refl _) (Nat.zero_le _) (Nat.le_refl _)).mono ?_
      rintro e w3 ⟨rfl, hw3⟩
      have d0 : w3.cell? ⟨b, 0, none⟩ = some (.slice none 0 0) := by rw [hw3]; exact World.cell?_setCell_same w1 _ _ HC.out
      rw [show (0 + 0 : Nat) = 0 from rfl] at hw3
      rw [← hw3] at HFIN
      clear hw3
      go_wp2
      go_ret2
      exact ⟨_, rfl, HFIN.out⟩
    · have hsame := HI.out.same h3.c0
      have hfin : IsW _ b bad l ∧ WFr b w _ := ⟨hsame.1, HF.out.trans hsame.2⟩
      have HFIN := Lib.hid hfin
      have HC := Lib.hid h3.c0
      have HFZ := Lib.hid (h3.f 0)
      clear hsame hfin h3 hg h5
      go_enter Tryz.func58, Tryz.ntmps58
      go_wp2_with fail
      rw [HW1.out]
      refine (Tryz.Buffer_tryGrow_room_at b 0 (some ⟨g, 0, none⟩) l.length cap 0 _ HC.out HFZ.out h1 h2 (Nat.zero_le _)).mono ?_
      rintro e w3 ⟨rfl, hw3⟩
      have d0 : w3.cell? ⟨b, 0, none⟩ = some (.slice (some ⟨g, 0, none⟩) l.length cap) := by rw [hw3]; exact World.cell?_setCell_same w1 _ _ HC.out
      rw [Nat.add_zero] at hw3
      rw [← hw3] at HFIN
      clear hw3
      unfold maxLen at h2
      by_cases hcl : cap = l.length
      · subst hcl
        go_wp2
        go_ret2
        exact ⟨_, rfl, HFIN.out⟩
      · go_wp2
        go_ret2
        exact ⟨_, rfl, HFIN.out⟩
set_option maxRecDepth 100000 in
set_option maxHeartbeats 2000000 in
theorem wString (b : Nat) (bad : Bool) (l p : List UInt8) (w : World) (h : IsW w b bad l) (hlim : l.length + p.length ≤ 140737488355328) :
    Calls Tryz.prog 57 #[.pointer (some ⟨b, 0, none⟩), .string ⟨p.toArray⟩] w fun e w' => ∃ r, e = .returned r ∧ IsW w' b bad (l ++ p) ∧ WFr b w w' := by
  obtain ⟨lr, c2⟩ := h.c2.1
  have f2 := h.c2.2
  obtain ⟨hI, hF⟩ := h.last 0
  have hinfo : (Tryz.prog.info? 5).map (·.size) = some 1 := by
    obtain ⟨i0, hi, -, hz1, -⟩ := info_byte
    rw [hi]; simp [hz1]
  have HI := Lib.hid hI
  have HF := Lib.hid hF
  generalize hW1 : w.setCell ⟨b, 2, none⟩ (.int .i8 0) = w1 at *
  have HW1 := Lib.hid hW1
  clear hW1 hI hF h
  by_cases hpos : 0 < p.length
  · have hps : (⟨p.toArray⟩ : ByteArray).size = p.length := rfl
    by_cases hroom : LibA.NoRoom b 0 p.length w1
    · obtain ⟨ao, l', cap', hc, hlt⟩ := hroom
      have hnr : LibA.NoRoom b 0 p.length w1 := ⟨ao, l', cap', hc, hlt⟩
      have hlc : l' ≤ cap' ∧ cap' ≤ maxLen := by
        rcases HI.out.cases with ⟨-, lr, h3⟩ | ⟨-, g, cap, cur, lr, h3, hg, h1, h2, -⟩
        · rw [h3.c0] at hc
          obtain ⟨-, rfl, rfl⟩ : none = ao ∧ 0 = l' ∧ 0 = cap' := by simpa using hc
          exact ⟨Nat.le_refl _, Nat.zero_le _⟩
        · rw [h3.c0] at hc
          obtain ⟨-, rfl, rfl⟩ : some (⟨g, 0, none⟩ : Addr) = ao ∧ l.length = l' ∧ cap = cap' := by simpa using hc
          exact ⟨h1, h2⟩
      have HN := Lib.hid hnr
      have HC := Lib.hid hc
      clear hc
      go_enter Tryz.func57, Tryz.ntmps57
      go_wp2_with fail
      rw [HW1.out]
      refine (Tryz.Buffer_tryGrow_none_at b 0 ao l' cap' p.length _ HC.out hlc.1 hlc.2 hlt).mono ?_
      rintro e w2 ⟨rfl, rfl⟩
      go_wp2_with fail
      refine (grow_any b p.length bad l _ HI.out (by omega) HN.out hlim).mono ?_
      rintro e w3 ⟨rfl, N, hR, hg, hN⟩
      have hfr := fun w'' => WFr.of_room (w'' := w'') hg (.inr hN) hR
      obtain ⟨cap, cur, lr2, h3, hgr, h1, h2, h4, h5, h6⟩ := hR
      have hfin : IsW _ b bad (l ++ p) ∧ WFr b w _ := ⟨write_fin h3 hgr h1 h2 h4 h5 h6 hpos, HF.out.trans (hfr _ (grownBy_setRow w3 N (cur.toList.take l.length ++ Lib.byteCells p ++ cur.toList.drop (l.length + p.length)).toArray))⟩
      have d0 : w3.cell? ⟨b, 0, none⟩ = some (.slice (some ⟨N, 0, none⟩) (l.length + p.length) cap) := h3.c0
      have hcp := Lib.run_copy_row_string (P := Tryz.prog) w3 39 9 3 5 N l.length p.length (cap - l.length) ⟨p.toArray⟩ cur 5 Tryz.underlying39 hinfo hgr (Nat.le_refl _) (by rw [hps]; omega)
      rw [hps, show (⟨p.toArray⟩ : ByteArray).data.toList = p from rfl] at hcp
      rw [List.append_assoc] at hfin
      have HFIN := Lib.hid hfin
      have hne : ¬ cap = l.length := by omega
      unfold maxLen at h2
      clear hfin h3 hgr h5 hfr hg
      go_wp2
      go_ret2
      exact ⟨_, rfl, HFIN.out⟩
    · rcases HI.out.cases with ⟨-, lr, h3⟩ | ⟨-, g, cap, cur, lr, h3, hg, h1, h2, h4, h5, h6⟩
      · exact absurd ⟨none, 0, 0, h3.c0, by omega⟩ hroom
      · have hrm : p.length ≤ cap - l.length := by
          rcases Nat.lt_or_ge (cap - l.length) p.length with e | e
          · exact absurd ⟨_, _, _, h3.c0, e⟩ hroom
          · exact e
        have hR := room_set (n := p.length) h3 hg h2 h4 h5 h6 (by omega)
        have hfr := fun w'' => WFr.of_room (w'' := w'') (Lib.grownBy_setCell w1 b 0 _) (.inl (by rw [rowOf_three h3]; rfl)) hR
        have HC := Lib.hid h3.c0
        have HFZ := Lib.hid (h3.f 0)
        clear hroom
        obtain ⟨cap2, cur2, lr2, h3', hg', k1, k2, k4, k5, k6⟩ := hR
        go_enter Tryz.func57, Tryz.ntmps57
        go_wp2_with fail
        rw [HW1.out]
        refine (Tryz.Buffer_tryGrow_room_at b 0 (some ⟨g, 0, none⟩) l.length cap p.length _ HC.out HFZ.out h1 h2 hrm).mono ?_
        rintro e w3 ⟨rfl, hw3⟩
        rw [← hw3] at h3' hg' hfr
        have hgk : w1.grownBy w3 (some b) := by rw [hw3]; exact Lib.grownBy_setCell w1 b 0 _
        clear hw3
        have hfin : IsW _ b bad (l ++ p) ∧ WFr b w _ := ⟨write_fin h3' hg' k1 k2 k4 k5 k6 hpos, HF.out.trans (hfr _ (grownBy_setRow w3 g (cur2.toList.take l.length ++ Lib.byteCells p ++ cur2.toList.drop (l.length + p.length)).toArray))⟩
        have d0 : w3.cell? ⟨b, 0, none⟩ = some (.slice (some ⟨g, 0, none⟩) (l.length + p.length) cap2) := h3'.c0
        have hcp := Lib.run_copy_row_string (P := Tryz.prog) w3 39 9 3 5 g l.length p.length (cap2 - l.length) ⟨p.toArray⟩ cur2 5 Tryz.underlying39 hinfo hg' (Nat.le_refl _) (by rw [hps]; omega)
        rw [hps, show (⟨p.toArray⟩ : ByteArray).data.toList = p from rfl] at hcp
        rw [List.append_assoc] at hfin
        have HFIN := Lib.hid hfin
        have hne : ¬ cap2 = l.length := by omega
        unfold maxLen at k2
        clear hfin h3 h3' hg hg' h5 k5 hfr hgk
        go_wp2
        go_ret2
        exact ⟨_, rfl, HFIN.out⟩
  · have hp0 : p = [] := List.eq_nil_of_length_eq_zero (by omega)
    subst hp0
    have hce : ∀ d dLen dCap W, (Builtin.copy_ #[39, 9] 3 #[.slice d dLen dCap, .string ⟨#[]⟩]).run Tryz.prog W = .ok (goInt 0) W := fun d dLen dCap W => Lib.run_copy_empty_string W 39 9 3 5 d dLen dCap ⟨#[]⟩ Tryz.underlying39 (by rw [hinfo]; rfl) rfl
    rw [List.append_nil]
    rcases HI.out.cases with ⟨hl0, lr, h3⟩ | ⟨-, g, cap, cur, lr, h3, hg, h1, h2, h4, h5, h6⟩
    · have hsame := HI.out.same h3.c0
      have hfin : IsW _ b bad l ∧ WFr b w _ := ⟨hsame.1, HF.out.trans hsame.2⟩
      have HFIN := Lib.hid hfin
      have HC := Lib.hid h3.c0
      have HFZ := Lib.hid (h3.f 0)
      clear hsame hfin h3 hl0
      go_enter Tryz.func57, Tryz.ntmps57
      go_wp2_with fail
      rw [HW1.out]
      refine (Tryz.Buffer_tryGrow_room_at b 0 none 0 0 0 _ HC.out HFZ.out (Nat.le_refl _) (Nat.zero_le _) (Nat.le_refl _)).mono ?_
      rintro e w3 ⟨rfl, hw3⟩
      have d0 : w3.cell? ⟨b, 0, none⟩ = some (.slice none 0 0) := by rw [hw3]; exact World.cell?_setCell_same w1 _ _ HC.out
      rw [show (0 + 0 : Nat) = 0 from rfl] at hw3
      rw [← hw3] at HFIN
      clear hw3
      go_wp2
      go_ret2
      exact ⟨_, rfl, HFIN.out⟩
    · have hsame := HI.out.same h3.c0
      have hfin : IsW _ b bad l ∧ WFr b w _ := ⟨hsame.1, HF.out.trans hsame.2⟩
      have HFIN := Lib.hid hfin
      have HC := Lib.hid h3.c0
      have HFZ := Lib.hid (h3.f 0)
      clear hsame hfin h3 hg h5
      go_enter Tryz.func57, Tryz.ntmps57
      go_wp2_with fail
      rw [HW1.out]
      refine (Tryz.Buffer_tryGrow_room_at b 0 (some ⟨g, 0, none⟩) l.length cap 0 _ HC.out HFZ.out h1 h2 (Nat.zero_le _)).mono ?_
      rintro e w3 ⟨rfl, hw3⟩
      have d0 : w3.cell? ⟨b, 0, none⟩ = some (.slice (some ⟨g, 0, none⟩) l.length cap) := by rw [hw3]; exact World.cell?_setCell_same w1 _ _ HC.out
      rw [Nat.add_zero] at hw3
      rw [← hw3] at HFIN
      clear hw3
      unfold maxLen at h2
      by_cases hcl : cap = l.length
      · subst hcl
        go_wp2
        go_ret2
        exact ⟨_, rfl, HFIN.out⟩
      · go_wp2
        go_ret2
        exact ⟨_, rfl, HFIN.out⟩
end Go.Proofs.YtennlckfmgfjbaaGreatDoor
namespace Go.Proofs.YtennlckfmgfjbaaGreatDoor
open Go.RowKit
/-- What is written of several payloads. -/
def blobAll (ls : List (List UInt8)) : List UInt8 := ls.flatMap fun x => put x.length ++ x
theorem blobAll_snoc (ls : List (List UInt8)) (x : List UInt8) : blobAll (ls ++ [x]) = blobAll ls ++ (put x.length ++ x) := by
  unfold blobAll; simp [List.flatMap_append]
theorem blobAll_append (ls ms : List (List UInt8)) : blobAll (ls ++ ms) = blobAll ls ++ blobAll ms := by
  unfold blobAll; simp [List.flatMap_append]
theorem blobAll_take (ls : List (List UInt8)) (k : Nat) : (blobAll (ls.take k)).length ≤ (blobAll ls).length := by
  have := congrArg List.length (blobAll_append (ls.take k) (ls.drop k))
  rw [List.take_append_drop, List.length_append] at this
  omega
theorem okNum_nat (n : Nat) (h : n ≤ 4611686018427387903) : okNum (n : Int) = true := by unfold okNum; simp; omega
/-- The value is a slice of texts. -/
def Strs (w : World) (v : Value) (ls : List (List UInt8)) : Prop :=
  ∃ A c, v = .slice A ls.length c ∧ ls.length ≤ c ∧ c ≤ maxLen ∧ (0 < ls.length → ∃ b o, A = some ⟨b, o, none⟩ ∧ ∀ k l, ls[k]? = some l → w.cell? ⟨b, o + k, none⟩ = some (.string ⟨l.toArray⟩))
theorem Strs.kept {w w' : World} {v : Value} {ls : List (List UInt8)} (h : Strs w v ls) (k : Kept w w') : Strs w' v ls := by
  obtain ⟨A, c, rfl, h1, h2, h3⟩ := h
  refine ⟨A, c, rfl, h1, h2, fun hl => ?_⟩
  obtain ⟨b, o, rfl, hc⟩ := h3 hl
  exact ⟨b, o, rfl, fun i x hx => k.cell (hc i x hx)⟩

theorem IsW.rowLt {w : World} {b : Nat} {bad : Bool} {l : List UInt8} (h : IsW w b bad l) {i : Nat} (hi : rowOf w b = some i) : i < w.heap.size := by
  rcases h.cases with ⟨-, lr, h3⟩ | ⟨-, g, cap, cur, lr, h3, hg, -⟩
  · rw [rowOf_three h3] at hi; cases hi
  · rw [rowOf_three h3] at hi
    obtain rfl : g = i := by simpa [Value.ownBlock] using hi
    exact (Array.getElem?_eq_some_iff.1 hg).1
theorem IsW.rowAfter {w w' : World} {b : Nat} {bad : Bool} {l : List UInt8} (h : IsW w b bad l) (k : Kept w w') : rowOf w' b = rowOf w b := by
  obtain ⟨⟨hB, v, lr, h3, hown, hne⟩, hrow⟩ := h
  unfold rowOf
  rw [h3.c0, k.cell h3.c0]
theorem IsW.after {w w' : World} {b : Nat} {bad : Bool} {l : List UInt8} (h : IsW w b bad l) (k : Kept w w') : IsW w' b bad l := by
  have hr := h.rowAfter k
  obtain ⟨⟨hB, v, lr, ⟨cs, hb, h0, h1, h2, hr'⟩, hown, hne⟩, hrow⟩ := h
  have hl : b < w.heap.size := (Array.getElem?_eq_some_iff.1 hb).1
  exact ⟨⟨hB, v, lr, ⟨cs, (k.block b hl).trans hb, h0, h1, h2, hr'⟩, hown.kept (⟨k.os, k.tape, k.output, k.size, fun i hi _ => k.block i hi⟩ : w.grownBy w' (some b)) (Or.inr hne), hne⟩, fun e => hr.trans (hrow e)⟩
theorem Ints.framed {w : World} {b : Nat} {v : Value} {ns : List Int} (h : Ints w v ns) (ha : ∀ bi o n c, v = .slice (some ⟨bi, o, none⟩) n c → bi ≠ b ∧ rowOf w b ≠ some bi) : ∀ W, WFr b w W → Ints W v ns := fun W hF => by
  obtain ⟨A, c, rfl, h1, h2, h3⟩ := h
  refine ⟨A, c, rfl, h1, h2, fun hl => ?_⟩
  obtain ⟨bi, o, rfl, hc⟩ := h3 hl
  obtain ⟨a1, a2⟩ := ha _ _ _ _ rfl
  exact ⟨bi, o, rfl, fun i x hx => hF.cell (hc i x hx) a1 a2⟩
/-- The value is a slice of the values us, which are slices of bytes. -/
def PartsU (w : World) (v : Value) (us : List Value) (ls : List (List UInt8)) : Prop :=
  us.length = ls.length ∧ ∃ A c, v = .slice A ls.length c ∧ ls.length ≤ c ∧ c ≤ maxLen ∧ (0 < ls.length → ∃ b o, A = some ⟨b, o, none⟩ ∧ ∀ k u l, us[k]? = some u → ls[k]? = some l → w.cell? ⟨b, o + k, none⟩ = some u ∧ Bts w u l)
theorem PartsU.kept {w w' : World} {v : Value} {us : List Value} {ls : List (List UInt8)} (h : PartsU w v us ls) (k : Kept w w') : PartsU w' v us ls := by
  obtain ⟨h0, A, c, rfl, h1, h2, h3⟩ := h
  refine ⟨h0, A, c, rfl, h1, h2, fun hl => ?_⟩
  obtain ⟨b, o, rfl, hc⟩ := h3 hl
  exact ⟨b, o, rfl, fun i u x hu hx => ⟨k.cell (hc i u x hu hx).1, (hc i u x hu hx).2.kept k⟩⟩
theorem Parts.values {w : World} {v : Value} {ls : List (List UInt8)} (h : Parts w v ls) : ∃ us, PartsU w v us ls := by
  obtain ⟨A, c, rfl, h1, h2, h3⟩ := h
  by_cases hl : 0 < ls.length
  · obtain ⟨b, o, rfl, hc⟩ := h3 hl
    refine ⟨(List.range ls.length).map fun k => (w.cell? ⟨b, o + k, none⟩).getD (.bool false), by simp, _, c, rfl, h1, h2, fun _ => ⟨b, o, rfl, fun k u l hu hx => ?_⟩⟩
    have hk : k < ls.length := (List.getElem?_eq_some_iff.1 hx).1
    obtain ⟨u', e, hb⟩ := hc k l hx
    rw [List.getElem?_map, List.getElem?_range hk] at hu
    simp only [Option.map_some, e, Option.getD_some, Option.some.injEq] at hu
    subst hu
    exact ⟨e, hb⟩
  · exact ⟨[], by simp; omega, A, c, rfl, h1, h2, fun h => absurd h hl⟩

set_option maxRecDepth 100000 in
set_option maxHeartbeats 400000 in
theorem blobs_any (b : Nat) (bad : Bool) (l : List UInt8) (ls : List (List UInt8)) (us : List Value) (v : Value) (w : World) (hv : ∀ W, WFr b w W → PartsU W v us ls)
    (h : IsW w b bad l) (hlim : l.length + (blobAll ls).length + 9 ≤ 140737488355328) :
    Calls Tryz.prog 27 #[.pointer (some ⟨b, 0, none⟩), v] w fun e w' => e = .returned (.tuple #[]) ∧ IsW w' b bad (l ++ blobAll ls) ∧ WFr b w w' := by
  obtain ⟨hul, A, c, rfl, hc1, hc2, -⟩ := hv w (WFr.refl _ _)
  unfold maxLen at hc2
  have H := Lib.hid h
  have HV := Lib.hid hv
  clear h hv
  go_enter Tryz.func27, Tryz.ntmps27
  go_wp2
  go_loopw [8] (fun t W => ∃ k : Nat, t = .int .i64 (k : Int) ∧ k ≤ ls.length ∧ IsW W b bad (l ++ blobAll (ls.take k)) ∧ WFr b w W) (fun t _ => ls.length - (intOf t).toNat)
  case atStart => exact ⟨0, rfl, Nat.zero_le _, by simpa [blobAll] using H.out, WFr.refl _ _⟩
  case round =>
    obtain ⟨k, rfl, hk, hI, hF⟩ := hrel
    by_cases hlt : k < ls.length
    · have hku : k < us.length := by omega
      obtain ⟨bi, oi, rfl⟩ : ∃ bi oi, A = some (⟨bi, oi, none⟩ : Addr) := by
        obtain ⟨-, A', c', hv', -, -, hcs⟩ := HV.out _ hF
        obtain ⟨bi, oi, rfl, -⟩ := hcs (by omega)
        simp only [Value.slice.injEq] at hv'
        exact ⟨bi, oi, hv'.1⟩
      have hat : ∀ W, WFr b w W → W.cell? ⟨bi, oi + k, none⟩ = some us[k] ∧ Bts W us[k] ls[k] := fun W hW => by
        obtain ⟨-, A', c', hv', -, -, hcs⟩ := HV.out _ hW
        obtain ⟨b', o', rfl, hcs2⟩ := hcs (by omega)
        simp only [Value.slice.injEq, Option.some.injEq, Addr.mk.injEq] at hv'
        obtain ⟨⟨rfl, rfl, -⟩, -, -⟩ := hv'
        exact hcs2 k _ _ (by simp [hku]) (by simp [hlt])
      have HAT := Lib.hid hat
      clear hat
      obtain ⟨hcell, hu⟩ := HAT.out _ hF
      have HU := Lib.hid hu
      have hlen := blobAll_take ls (k + 1)
      have e2 : blobAll (ls.take (k + 1)) = blobAll (ls.take k) ++ (put ls[k].length ++ ls[k]) := by rw [take_snoc _ _ hlt, blobAll_snoc]
      rw [e2] at hlen
      simp only [List.length_append] at hlen
      have E2 := Lib.hid e2
      clear e2 hu
      generalize ls[k] = x at *
      generalize us[k] = u at *
      obtain ⟨Au, cu, rfl⟩ := HU.out.form
      go_wp2_with fail
      refine (number_any b _ _ _ _ hI (by simp; omega)).mono ?_
      rintro e w2 ⟨rfl, hI2, hF2⟩
      rw [okNum_nat _ (by omega), if_pos rfl, Int.toNat_natCast, Bool.not_true, Bool.or_false] at hI2
      have hF12 := hF.trans hF2
      have hu2 := (HAT.out _ hF12).2
      go_wp2_with fail
      refine (wWrite b _ _ x _ _ hI2 hu2 (by simp; omega)).mono ?_
      rintro e w3 ⟨r, rfl, hI3, hF3⟩
      go_wp2
      go_roundw
      case rel => exact ⟨k + 1, by go_num, by omega, by rw [E2.out]; simpa [List.append_assoc] using hI3, hF12.trans hF3⟩
      case measure => simp [intOf]; omega
    · obtain rfl : k = ls.length := by omega
      rw [List.take_length] at hI
      go_wp2
      go_end0
      exact ⟨rfl, hI, hF⟩

set_option maxRecDepth 100000 in
set_option maxHeartbeats 400000 in
theorem texts_any (b : Nat) (bad : Bool) (l : List UInt8) (ls : List (List UInt8)) (v : Value) (w : World) (hv : ∀ W, WFr b w W → Strs W v ls)
    (h : IsW w b bad l) (hlim : l.length + (blobAll ls).length + 9 ≤ 140737488355328) :
    Calls Tryz.prog 26 #[.pointer (some ⟨b, 0, none⟩), v] w fun e w' => e = .returned (.tuple #[]) ∧ IsW w' b bad (l ++ blobAll ls) ∧ WFr b w w' := by
  obtain ⟨A, c, rfl, hc1, hc2, -⟩ := hv w (WFr.refl _ _)
  unfold maxLen at hc2
  have H := Lib.hid h
  have HV := Lib.hid hv
  clear h hv
  go_enter Tryz.func26, Tryz.ntmps26
  go_wp2
  go_loopw [8] (fun t W => ∃ k : Nat, t = .int .i64 (k : Int) ∧ k ≤ ls.length ∧ IsW W b bad (l ++ blobAll (ls.take k)) ∧ WFr b w W) (fun t _ => ls.length - (intOf t).toNat)
  case atStart => exact ⟨0, rfl, Nat.zero_le _, by simpa [blobAll] using H.out, WFr.refl _ _⟩
  case round =>
    obtain ⟨k, rfl, hk, hI, hF⟩ := hrel
    by_cases hlt : k < ls.length
    · obtain ⟨A', c', hv', -, -, hcs⟩ := HV.out _ hF
      obtain ⟨bi, oi, rfl, hcs2⟩ := hcs (by omega)
      simp only [Value.slice.injEq] at hv'
      obtain ⟨rfl, -, rfl⟩ := hv'
      have hcell := hcs2 k ls[k] (by simp [hlt])
      have hlen := blobAll_take ls (k + 1)
      have e2 : blobAll (ls.take (k + 1)) = blobAll (ls.take k) ++ (put ls[k].length ++ ls[k]) := by rw [take_snoc _ _ hlt, blobAll_snoc]
      rw [e2] at hlen
      simp only [List.length_append] at hlen
      have E2 := Lib.hid e2
      clear e2 hcs hcs2
      generalize ls[k] = x at *
      have hsz : (⟨x.toArray⟩ : ByteArray).size = x.length := by simp [ByteArray.size]
      go_wp2_with fail
      refine (number_any b _ _ (x.length : Int) _ hI (by simp; omega)).mono ?_
      rintro e w2 ⟨rfl, hI2, hF2⟩
      rw [okNum_nat _ (by omega), if_pos rfl, Int.toNat_natCast, Bool.not_true, Bool.or_false] at hI2
      have hF12 := hF.trans hF2
      go_wp2_with fail
      refine (wString b _ _ x _ hI2 (by simp; omega)).mono ?_
      rintro e w3 ⟨r, rfl, hI3, hF3⟩
      go_wp2
      go_roundw
      case rel => exact ⟨k + 1, by go_num, by omega, by rw [E2.out]; simpa [List.append_assoc] using hI3, hF12.trans hF3⟩
      case measure => simp [intOf]; omega
    · obtain rfl : k = ls.length := by omega
      rw [List.take_length] at hI
      go_wp2
      go_end0
      exact ⟨rfl, hI, hF⟩

set_option maxRecDepth 100000 in
set_option maxHeartbeats 400000 in
theorem nums_framed (b : Nat) (bad : Bool) (l : List UInt8) (ns : List Int) (v : Value) (w : World) (hv : ∀ W, WFr b w W → Ints W v ns)
    (h : IsW w b bad l) (hlim : l.length + 9 * ns.length ≤ 140737488355328) :
    Calls Tryz.prog 28 #[.pointer (some ⟨b, 0, none⟩), v] w fun e w' => e = .returned (.tuple #[]) ∧ IsW w' b (bad || badAll ns) (l ++ putAll ns) ∧ WFr b w w' := by
  obtain ⟨A, c, rfl, hc1, hc2, -⟩ := hv w (WFr.refl _ _)
  unfold maxLen at hc2
  have H := Lib.hid h
  have HV := Lib.hid hv
  clear h hv
  go_enter Tryz.func28, Tryz.ntmps28
  go_wp2
  go_loopw [8] (fun t W => ∃ k : Nat, t = .int .i64 (k : Int) ∧ k ≤ ns.length ∧ IsW W b (bad || badAll (ns.take k)) (l ++ putAll (ns.take k)) ∧ WFr b w W) (fun t _ => ns.length - (intOf t).toNat)
  case atStart => exact ⟨0, rfl, Nat.zero_le _, by simpa [badAll, putAll] using H.out, WFr.refl _ _⟩
  case round =>
    obtain ⟨k, rfl, hk, hI, hF⟩ := hrel
    by_cases hlt : k < ns.length
    · obtain ⟨A', c', hv', -, -, hcs⟩ := HV.out _ hF
      obtain ⟨bi, oi, rfl, hcs2⟩ := hcs (by omega)
      simp only [Value.slice.injEq] at hv'
      obtain ⟨rfl, -, rfl⟩ := hv'
      have hc0 := hcs2 k ns[k] (by simp [hlt])
      have hlen := putAll_len (ns.take k)
      rw [List.length_take] at hlen
      have e1 : badAll (ns.take (k + 1)) = (badAll (ns.take k) || !okNum ns[k]) := by rw [take_snoc _ _ hlt, badAll_snoc]
      have e2 : putAll (ns.take (k + 1)) = putAll (ns.take k) ++ if okNum ns[k] then put ns[k].toNat else [] := by rw [take_snoc _ _ hlt, putAll_snoc]
      have E1 := Lib.hid e1
      have E2 := Lib.hid e2
      clear e1 e2 hcs hcs2
      generalize ns[k] = n at *
      go_wp2_with fail
      refine (number_any b _ _ _ _ hI (by simp; omega)).mono ?_
      rintro e w2 ⟨rfl, hI2, hF2⟩
      go_wp2
      go_roundw
      case rel => exact ⟨k + 1, by go_num, by omega, by rw [E1.out, E2.out, ← Bool.or_assoc, ← List.append_assoc]; exact hI2, hF.trans hF2⟩
      case measure => simp [intOf]; omega
    · obtain rfl : k = ns.length := by omega
      rw [List.take_length] at hI
      go_wp2
      go_end0
      exact ⟨rfl, hI, hF⟩
end Go.Proofs.YtennlckfmgfjbaaGreatDoor
namespace Go.Proofs.YtennlckfmgfjbaaGreatDoor
open Go.RowKit
theorem Ints.form {w : World} {v : Value} {l : List Int} (h : Ints w v l) : ∃ A c, v = .slice A l.length c := by
  obtain ⟨A, c, rfl, -⟩ := h
  exact ⟨A, c, rfl⟩
end Go.Proofs.YtennlckfmgfjbaaGreatDoor
