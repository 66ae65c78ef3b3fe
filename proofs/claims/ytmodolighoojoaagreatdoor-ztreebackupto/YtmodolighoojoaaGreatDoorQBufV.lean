/- Write and WriteString over a writer: what they write, and just what they change. -/
import Derived.Test.YtmodolighoojoaaGreatDoorGBufW2
import Derived.Lib.BufferWrite
namespace Go.Proofs.YtmodolighoojoaaGreatDoor
open Go.RowKit

theorem addr_block (a : Addr) (n : Nat) : (a.add n).block = a.block := by unfold Addr.add; split <;> rfl
theorem grownBy_setRow (w : World) (g : Nat) (cs : Array Value) : w.grownBy (w.setRow g cs) (some g) :=
  ⟨rfl, rfl, rfl, by simp [World.setRow], fun k _ hk => setRow_other w g k cs (fun e => hk (by rw [e]))⟩
/-- The bytes are laid behind those that are there. -/
theorem write_fin {b N cap : Nat} {bad : Bool} {l p : List UInt8} {w' : World} {cur : Array Value} {lr : Int} (h3 : LibA.Three w' b 0 273 (badCell bad) (.slice (some ⟨N, 0, none⟩) (l.length + p.length) cap) (.int .i64 0) (.int .i8 lr)) (hg : w'.heap[N]? = some (.cells cur 5 (0, 0)))
    (h1 : l.length + p.length ≤ cap) (h2 : cap ≤ maxLen) (h4 : cur.size = cap) (h5 : cur.toList.take l.length = Lib.byteCells l) (h6 : N ≠ b) (hp : 0 < p.length) :
    IsW (w'.setRow N (cur.toList.take l.length ++ Lib.byteCells p ++ cur.toList.drop (l.length + p.length)).toArray) b bad (l ++ p) := by
  have e := byteCells_length p
  have := (LibA.written_end (B := 0) (news := Lib.byteCells p) (l := l.length) (Nat.zero_le _) (by rw [e]; exact h3) (Nat.zero_le _) hg h2 h4 h6 (by rw [e]; exact h1)).1
  rw [e, h5, ← byteCells_append] at this
  rw [h5, ← byteCells_append]
  exact ⟨this, fun h => by have h' := congrArg List.length h; rw [List.length_append, List.length_nil] at h'; omega⟩
theorem setCell_id {w : World} {a : Addr} {v : Value} (h : w.cell? a = some v) : ∀ q, (w.setCell a v).cell? q = w.cell? q := fun q => by
  by_cases e : a = q
  · subst e; rw [World.cell?_setCell_same w _ _ h, h]
  · exact World.cell?_setCell_other w _ _ _ e
/-- The header is written as it is. -/
theorem IsW.same {w : World} {b : Nat} {bad : Bool} {l : List UInt8} {v : Value} (h : IsW w b bad l) (hc : w.cell? ⟨b, 0, none⟩ = some v) : IsW (w.setCell ⟨b, 0, none⟩ v) b bad l ∧ WFr b w (w.setCell ⟨b, 0, none⟩ v) := by
  obtain ⟨⟨hB, v', lr, h3, hown, hne⟩, hrow⟩ := h
  obtain rfl : v' = v := by have := h3.c0; rw [hc] at this; exact (Option.some.inj this).symm
  have hr : rowOf (w.setCell ⟨b, 0, none⟩ v') b = rowOf w b := by unfold rowOf; rw [setCell_id hc]
  exact ⟨⟨⟨hB, v', lr, h3.set0 v', hown.kept (Lib.grownBy_setCell w b 0 _) (Or.inr hne), hne⟩, fun e => hr.trans (hrow e)⟩, WFr.of_grown (Lib.grownBy_setCell w b 0 _) (fun k hk => .inl (hr.symm.trans hk))⟩
/-- A slice of bytes does not lie in a writer's own block. -/
theorem IsW.apart {w : World} {b : Nat} {bad : Bool} {l p : List UInt8} {b' o c n : Nat} (h : IsW w b bad l) (hp : Bts w (.slice (some ⟨b', o, none⟩) n c) p) (h0 : 0 < p.length) : b' ≠ b := by
  rintro rfl
  obtain ⟨⟨hB, v, lr, ⟨cs, hb, e0, e1, e2, er⟩, hown, -⟩, -⟩ := h
  obtain ⟨A, c', hv, -, -, h3⟩ := hp
  obtain ⟨b2, o2, hA, hc⟩ := h3 h0
  obtain ⟨rfl, -, -⟩ : some (⟨b', o, none⟩ : Addr) = A ∧ n = p.length ∧ c = c' := by simpa using hv
  cases hA
  have h1 := hc 0 p[0] (by simp [h0])
  rw [Lib.cell_of_heap hb, Nat.add_zero] at h1
  match o, h1 with
  | 0, h1 =>
    rw [e0] at h1
    have hv0 := Option.some.inj h1
    subst hv0
    rcases hown.2 with ⟨h, -⟩ | ⟨_, _, _, h, -⟩ <;> cases h
  | 1, h1 => rw [show (0 + 1 : Nat) = 1 from rfl] at e1; rw [e1] at h1; cases h1
  | 2, h1 => rw [show (0 + 2 : Nat) = 2 from rfl] at e2; rw [e2] at h1; cases h1
  | k + 3, h1 =>
    rw [er (k + 3) (by omega)] at h1
    unfold badCell at h1
    split at h1 <;> cases h1
set_option maxRecDepth 100000 in
set_option maxHeartbeats 2000000 in
theorem wWrite (b : Nat) (bad : Bool) (l p : List UInt8) (v : Value) (w : World) (h : IsW w b bad l) (hp : Bts w v p) (hlim : l.length + p.length ≤ 140737488355328) :
    Calls Tryz.prog 159 #[.pointer (some ⟨b, 0, none⟩), v] w fun e w' => ∃ r, e = .returned r ∧ IsW w' b bad (l ++ p) ∧ WFr b w w' := by
  obtain ⟨lr, c2⟩ := h.c2.1
  have f2 := h.c2.2
  obtain ⟨hI, hF⟩ := h.last 0
  have hp1 : Bts (w.setCell ⟨b, 2, none⟩ (.int .i8 0)) v p := by
    obtain ⟨A, c, rfl, k1, k2, k3⟩ := id hp
    refine ⟨A, c, rfl, k1, k2, fun h0 => ?_⟩
    obtain ⟨b', o', rfl, hc⟩ := k3 h0
    have hab := h.apart hp h0
    exact ⟨b', o', rfl, fun k x hx => by rw [World.cell?_setCell_other w _ _ _ (fun e => hab (congrArg Addr.block e).symm)]; exact hc k x hx⟩
  have hinfo : (Tryz.prog.info? 5).map (·.size) = some 1 := by
    obtain ⟨i0, hi, -, hz1, -⟩ := info_byte
    rw [hi]; simp [hz1]
  have HI := Lib.hid hI
  have HF := Lib.hid hF
  have HP1 := Lib.hid hp1
  clear hp1
  obtain ⟨A, c, hv', hc1, hc2, hcs⟩ := hp
  subst hv'
  generalize hW1 : w.setCell ⟨b, 2, none⟩ (.int .i8 0) = w1 at *
  have HW1 := Lib.hid hW1
  clear hW1 hI hF h
  unfold maxLen at hc2
  by_cases hpos : 0 < p.length
  · obtain ⟨b', o', rfl, hcell⟩ := hcs hpos
    have hab : b' ≠ b := HI.out.apart HP1.out hpos
    have hsrc : ∀ j u, (Lib.byteCells p)[j]? = some u → w1.cell? ((⟨b', o', none⟩ : Addr).add j) = some u := fun j u hu => by
      have hj : j < p.length := by
        have := (List.getElem?_eq_some_iff.1 hu).1
        simpa [byteCells_length] using this
      obtain ⟨A2, c2', hv2, -, -, k3⟩ := HP1.out
      obtain ⟨b2, o2, hA2, hc⟩ := k3 hpos
      obtain ⟨rfl, -, -⟩ : some (⟨b', o', none⟩ : Addr) = A2 ∧ p.length = p.length ∧ c = c2' := by simpa using hv2
      cases hA2
      have e : ((⟨b', o', none⟩ : Addr).add j) = ⟨b', o' + j, none⟩ := by unfold Addr.add; split <;> simp_all
      rw [e, hc j p[j] (by simp [hj])]
      simp [Lib.byteCells, hj] at hu
      rw [hu]
    have HSRC := Lib.hid hsrc
    clear hsrc hcell hcs
    by_cases hroom : LibA.NoRoom b 0 p.length w1
    · obtain ⟨ao, l', cap', hc, hlt⟩ := hroom
      have hnr : LibA.NoRoom b 0 p.length w1 := ⟨ao, l', cap', hc, hlt⟩
      have hlc : l' ≤ cap' ∧ cap' ≤ maxLen := by
        rcases HI.out.cases with ⟨-, lr, h3⟩ | ⟨-, g, cap, cur, lr, h3, hg, h1, h2, -⟩
        · rw [h3.c0] at hc
          obtain ⟨-, rfl, rfl⟩ : none = ao ∧ 0 = l' ∧ 0 = cap' := by simpa using hc
          exact ⟨Nat.le_refl _, Nat.zero_le _⟩
        · rw [h3.c0] at hc
          obtain ⟨-, rfl, rfl⟩ : some (⟨g, 0, none⟩ : Addr) = ao ∧ l.length = l' ∧ cap = cap' := by simpa using hc
          exact ⟨h1, h2⟩
      have HN := Lib.hid hnr
      have HC := Lib.hid hc
      clear hc
      go_enter Tryz.func159, Tryz.ntmps159
      go_wp2_with fail
      rw [HW1.out]
      refine (Tryz.Buffer_tryGrow_none_at b 0 ao l' cap' p.length _ HC.out hlc.1 hlc.2 hlt).mono ?_
      rintro e w2 ⟨rfl, rfl⟩
      go_wp2_with fail
      refine (grow_any b p.length bad l _ HI.out (by omega) HN.out hlim).mono ?_
      rintro e w3 ⟨rfl, N, hR, hg, hN⟩
      have hfr := fun w'' => WFr.of_room (w'' := w'') hg (.inr hN) hR
      obtain ⟨cap, cur, lr2, h3, hgr, h1, h2, h4, h5, h6⟩ := hR
      have hfin : IsW _ b bad (l ++ p) ∧ WFr b w _ := ⟨write_fin h3 hgr h1 h2 h4 h5 h6 hpos, HF.out.trans (hfr _ (grownBy_setRow w3 N (cur.toList.take l.length ++ Lib.byteCells p ++ cur.toList.drop (l.length + p.length)).toArray))⟩
      have d0 : w3.cell? ⟨b, 0, none⟩ = some (.slice (some ⟨N, 0, none⟩) (l.length + p.length) cap) := h3.c0
      have hsrc : ∀ j u, (Lib.byteCells p)[j]? = some u → w3.cell? ((⟨b', o', none⟩ : Addr).add j) = some u := fun j u hu => hg.cell (HSRC.out j u hu) (by rw [addr_block]; exact fun e => hab (Option.some.inj e))
      have hcp := run_copy_row (P := Tryz.prog) w3 22 22 3 5 N l.length p.length (cap - l.length) ⟨b', o', none⟩ p.length c cur 5 (Lib.byteCells p) Tryz.underlying22 hinfo hgr (by simp [byteCells_length]) hsrc (by rw [byteCells_length]; omega) (byteCells_one' p)
      rw [byteCells_length] at hcp
      rw [List.append_assoc] at hfin
      have HFIN := Lib.hid hfin
      have hne : ¬ cap = l.length := by omega
      unfold maxLen at h2
      clear hfin h3 hgr h5 hfr hg
      go_wp2
      go_ret2
      exact ⟨_, rfl, HFIN.out⟩
    · rcases HI.out.cases with ⟨-, lr, h3⟩ | ⟨-, g, cap, cur, lr, h3, hg, h1, h2, h4, h5, h6⟩
      · exact absurd ⟨none, 0, 0, h3.c0, by omega⟩ hroom
      · have hrm : p.length ≤ cap - l.length := by
          rcases Nat.lt_or_ge (cap - l.length) p.length with e | e
          · exact absurd ⟨_, _, _, h3.c0, e⟩ hroom
          · exact e
        have hR := room_set (n := p.length) h3 hg h2 h4 h5 h6 (by omega)
        have hfr := fun w'' => WFr.of_room (w'' := w'') (Lib.grownBy_setCell w1 b 0 _) (.inl (by rw [rowOf_three h3]; rfl)) hR
        have HC := Lib.hid h3.c0
        have HFZ := Lib.hid (h3.f 0)
        clear hroom
        obtain ⟨cap2, cur2, lr2, h3', hg', k1, k2, k4, k5, k6⟩ := hR
        go_enter Tryz.func159, Tryz.ntmps159
        go_wp2_with fail
        rw [HW1.out]
        refine (Tryz.Buffer_tryGrow_room_at b 0 (some ⟨g, 0, none⟩) l.length cap p.length _ HC.out HFZ.out h1 h2 hrm).mono ?_
        rintro e w3 ⟨rfl, hw3⟩
        rw [← hw3] at h3' hg' hfr
        have hgk : w1.grownBy w3 (some b) := by rw [hw3]; exact Lib.grownBy_setCell w1 b 0 _
        clear hw3
        have hfin : IsW _ b bad (l ++ p) ∧ WFr b w _ := ⟨write_fin h3' hg' k1 k2 k4 k5 k6 hpos, HF.out.trans (hfr _ (grownBy_setRow w3 g (cur2.toList.take l.length ++ Lib.byteCells p ++ cur2.toList.drop (l.length + p.length)).toArray))⟩
        have d0 : w3.cell? ⟨b, 0, none⟩ = some (.slice (some ⟨g, 0, none⟩) (l.length + p.length) cap2) := h3'.c0
        have hsrc : ∀ j u, (Lib.byteCells p)[j]? = some u → w3.cell? ((⟨b', o', none⟩ : Addr).add j) = some u := fun j u hu => hgk.cell (HSRC.out j u hu) (by rw [addr_block]; exact fun e => hab (Option.some.inj e))
        have hcp := run_copy_row (P := Tryz.prog) w3 22 22 3 5 g l.length p.length (cap2 - l.length) ⟨b', o', none⟩ p.length c cur2 5 (Lib.byteCells p) Tryz.underlying22 hinfo hg' (by simp [byteCells_length]) hsrc (by rw [byteCells_length]; omega) (byteCells_one' p)
        rw [byteCells_length] at hcp
        rw [List.append_assoc] at hfin
        have HFIN := Lib.hid hfin
        have hne : ¬ cap2 = l.length := by omega
        unfold maxLen at k2
        clear hfin h3 h3' hg hg' h5 k5 hfr hgk
        go_wp2
        go_ret2
        exact ⟨_, rfl, HFIN.out⟩
  · have hp0 : p = [] := List.eq_nil_of_length_eq_zero (by omega)
    subst hp0
    have hce : ∀ d dLen dCap W, (Builtin.copy_ #[22, 22] 3 #[.slice d dLen dCap, .slice A 0 c]).run Tryz.prog W = .ok (goInt 0) W := fun d dLen dCap W => run_copy_none W 22 22 3 5 d A dLen dCap 0 c Tryz.underlying22 hinfo (by simp)
    clear hcs
    rw [List.append_nil]
    rcases HI.out.cases with ⟨hl0, lr, h3⟩ | ⟨-, g, cap, cur, lr, h3, hg, h1, h2, h4, h5, h6⟩
    · have hsame := HI.out.same h3.c0
      have hfin : IsW _ b bad l ∧ WFr b w _ := ⟨hsame.1, HF.out.trans hsame.2⟩
      have HFIN := Lib.hid hfin
      have HC := Lib.hid h3.c0
      have HFZ := Lib.hid (h3.f 0)
      clear hsame hfin h3 hl0
      go_enter Tryz.func159, Tryz.ntmps159
      go_wp2_with fail
      rw [HW1.out]
      refine (Tryz.Buffer_tryGrow_room_at b 0 none 0 0 0 _ HC.out HFZ.out (Nat.le_refl _) (Nat.zero_le _) (Nat.le_refl _)).mono ?_
      rintro e w3 ⟨rfl, hw3⟩
      have d0 : w3.cell? ⟨b, 0, none⟩ = some (.slice none 0 0) := by rw [hw3]; exact World.cell?_setCell_same w1 _ _ HC.out
      rw [show (0 + 0 : Nat) = 0 from rfl] at hw3
      rw [← hw3] at HFIN
      clear hw3
      go_wp2
      go_ret2
      exact ⟨_, rfl, HFIN.out⟩
    · have hsame := HI.out.same h3.c0
      have hfin : IsW _ b bad l ∧ WFr b w _ := ⟨hsame.1, HF.out.trans hsame.2⟩
      have HFIN := Lib.hid hfin
      have HC := Lib.hid h3.c0
      have HFZ := Lib.hid (h3.f 0)
      clear hsame hfin h3 hg h5
      go_enter Tryz.func159, Tryz.ntmps159
      go_wp2_with fail
      rw [HW1.out]
      refine (Tryz.Buffer_tryGrow_room_at b 0 (some ⟨g, 0, none⟩) l.length cap 0 _ HC.out HFZ.out h1 h2 (Nat.zero_le _)).mono ?_
      rintro e w3 ⟨rfl, hw3⟩
      have d0 : w3.cell? ⟨b, 0, none⟩ = some (.slice (some ⟨g, 0, none⟩) l.length cap) := by rw [hw3]; exact World.cell?_setCell_same w1 _ _ HC.out
      rw [Nat.add_zero] at hw3
      rw [← hw3] at HFIN
      clear hw3
      unfold maxLen at h2
      by_cases hcl : cap = l.length
      · subst hcl
        go_wp2
        go_ret2
        exact ⟨_, rfl, HFIN.out⟩
      · go_wp2
        go_ret2
        exact ⟨_, rfl, HFIN.out⟩
set_option maxRecDepth 100000 in
set_option maxHeartbeats 2000000 in
theorem wString (b : Nat) (bad : Bool) (l p : List UInt8) (w : World) (h : IsW w b bad l) (hlim : l.length + p.length ≤ 140737488355328) :
    Calls Tryz.prog 158 #[.pointer (some ⟨b, 0, none⟩), .string ⟨p.toArray⟩] w fun e w' => ∃ r, e = .returned r ∧ IsW w' b bad (l ++ p) ∧ WFr b w w' := by
  obtain ⟨lr, c2⟩ := h.c2.1
  have f2 := h.c2.2
  obtain ⟨hI, hF⟩ := h.last 0
  have hinfo : (Tryz.prog.info? 5).map (·.size) = some 1 := by
    obtain ⟨i0, hi, -, hz1, -⟩ := info_byte
    rw [hi]; simp [hz1]
  have HI := Lib.hid hI
  have HF := Lib.hid hF
  generalize hW1 : w.setCell ⟨b, 2, none⟩ (.int .i8 0) = w1 at *
  have HW1 := Lib.hid hW1
  clear hW1 hI hF h
  by_cases hpos : 0 < p.length
  · have hps : (⟨p.toArray⟩ : ByteArray).size = p.length := rfl
    by_cases hroom : LibA.NoRoom b 0 p.length w1
    · obtain ⟨ao, l', cap', hc, hlt⟩ := hroom
      have hnr : LibA.NoRoom b 0 p.length w1 := ⟨ao, l', cap', hc, hlt⟩
      have hlc : l' ≤ cap' ∧ cap' ≤ maxLen := by
        rcases HI.out.cases with ⟨-, lr, h3⟩ | ⟨-, g, cap, cur, lr, h3, hg, h1, h2, -⟩
        · rw [h3.c0] at hc
          obtain ⟨-, rfl, rfl⟩ : none = ao ∧ 0 = l' ∧ 0 = cap' := by simpa using hc
          exact ⟨Nat.le_refl _, Nat.zero_le _⟩
        · rw [h3.c0] at hc
          obtain ⟨-, rfl, rfl⟩ : some (⟨g, 0, none⟩ : Addr) = ao ∧ l.length = l' ∧ cap = cap' := by simpa using hc
          exact ⟨h1, h2⟩
      have HN := Lib.hid hnr
      have HC := Lib.hid hc
      clear hc
      go_enter Tryz.func158, Tryz.ntmps158
      go_wp2_with fail
      rw [HW1.out]
      refine (Tryz.Buffer_tryGrow_none_at b 0 ao l' cap' p.length _ HC.out hlc.1 hlc.2 hlt).mono ?_
      rintro e w2 ⟨rfl, rfl⟩
      go_wp2_with fail
      refine (grow_any b p.length bad l _ HI.out (by omega) HN.out hlim).mono ?_
      rintro e w3 ⟨rfl, N, hR, hg, hN⟩
      have hfr := fun w'' => WFr.of_room (w'' := w'') hg (.inr hN) hR
      obtain ⟨cap, cur, lr2, h3, hgr, h1, h2, h4, h5, h6⟩ := hR
      have hfin : IsW _ b bad (l ++ p) ∧ WFr b w _ := ⟨write_fin h3 hgr h1 h2 h4 h5 h6 hpos, HF.out.trans (hfr _ (grownBy_setRow w3 N (cur.toList.take l.length ++ Lib.byteCells p ++ cur.toList.drop (l.length + p.length)).toArray))⟩
      have d0 : w3.cell? ⟨b, 0, none⟩ = some (.slice (some ⟨N, 0, none⟩) (l.length + p.length) cap) := h3.c0
      have hcp := Lib.run_copy_row_string (P := Tryz.prog) w3 22 9 3 5 N l.length p.length (cap - l.length) ⟨p.toArray⟩ cur 5 Tryz.underlying22 hinfo hgr (Nat.le_refl _) (by rw [hps]; omega)
      rw [hps, show (⟨p.toArray⟩ : ByteArray).data.toList = p from rfl] at hcp
      rw [List.append_assoc] at hfin
      have HFIN := Lib.hid hfin
      have hne : ¬ cap = l.length := by omega
      unfold maxLen at h2
      clear hfin h3 hgr h5 hfr hg
      go_wp2
      go_ret2
      exact ⟨_, rfl, HFIN.out⟩
    · rcases HI.out.cases with ⟨-, lr, h3⟩ | ⟨-, g, cap, cur, lr, h3, hg, h1, h2, h4, h5, h6⟩
      · exact absurd ⟨none, 0, 0, h3.c0, by omega⟩ hroom
      · have hrm : p.length ≤ cap - l.length := by
          rcases Nat.lt_or_ge (cap - l.length) p.length with e | e
          · exact absurd ⟨_, _, _, h3.c0, e⟩ hroom
          · exact e
        have hR := room_set (n := p.length) h3 hg h2 h4 h5 h6 (by omega)
        have hfr := fun w'' => WFr.of_room (w'' := w'') (Lib.grownBy_setCell w1 b 0 _) (.inl (by rw [rowOf_three h3]; rfl)) hR
        have HC := Lib.hid h3.c0
        have HFZ := Lib.hid (h3.f 0)
        clear hroom
        obtain ⟨cap2, cur2, lr2, h3', hg', k1, k2, k4, k5, k6⟩ := hR
        go_enter Tryz.func158, Tryz.ntmps158
        go_wp2_with fail
        rw [HW1.out]
        refine (Tryz.Buffer_tryGrow_room_at b 0 (some ⟨g, 0, none⟩) l.length cap p.length _ HC.out HFZ.out h1 h2 hrm).mono ?_
        rintro e w3 ⟨rfl, hw3⟩
        rw [← hw3] at h3' hg' hfr
        have hgk : w1.grownBy w3 (some b) := by rw [hw3]; exact Lib.grownBy_setCell w1 b 0 _
        clear hw3
        have hfin : IsW _ b bad (l ++ p) ∧ WFr b w _ := ⟨write_fin h3' hg' k1 k2 k4 k5 k6 hpos, HF.out.trans (hfr _ (grownBy_setRow w3 g (cur2.toList.take l.length ++ Lib.byteCells p ++ cur2.toList.drop (l.length + p.length)).toArray))⟩
        have d0 : w3.cell? ⟨b, 0, none⟩ = some (.slice (some ⟨g, 0, none⟩) (l.length + p.length) cap2) := h3'.c0
        have hcp := Lib.run_copy_row_string (P := Tryz.prog) w3 22 9 3 5 g l.length p.length (cap2 - l.length) ⟨p.toArray⟩ cur2 5 Tryz.underlying22 hinfo hg' (Nat.le_refl _) (by rw [hps]; omega)
        rw [hps, show (⟨p.toArray⟩ : ByteArray).data.toList = p from rfl] at hcp
        rw [List.append_assoc] at hfin
        have HFIN := Lib.hid hfin
        have hne : ¬ cap2 = l.length := by omega
        unfold maxLen at k2
        clear hfin h3 h3' hg hg' h5 k5 hfr hgk
        go_wp2
        go_ret2
        exact ⟨_, rfl, HFIN.out⟩
  · have hp0 : p = [] := List.eq_nil_of_length_eq_zero (by omega)
    subst hp0
    have hce : ∀ d dLen dCap W, (Builtin.copy_ #[22, 9] 3 #[.slice d dLen dCap, .string ⟨#[]⟩]).run Tryz.prog W = .ok (goInt 0) W := fun d dLen dCap W => Lib.run_copy_empty_string W 22 9 3 5 d dLen dCap ⟨#[]⟩ Tryz.underlying22 (by rw [hinfo]; rfl) rfl
    rw [List.append_nil]
    rcases HI.out.cases with ⟨hl0, lr, h3⟩ | ⟨-, g, cap, cur, lr, h3, hg, h1, h2, h4, h5, h6⟩
    · have hsame := HI.out.same h3.c0
      have hfin : IsW _ b bad l ∧ WFr b w _ := ⟨hsame.1, HF.out.trans hsame.2⟩
      have HFIN := Lib.hid hfin
      have HC := Lib.hid h3.c0
      have HFZ := Lib.hid (h3.f 0)
      clear hsame hfin h3 hl0
      go_enter Tryz.func158, Tryz.ntmps158
      go_wp2_with fail
      rw [HW1.out]
      refine (Tryz.Buffer_tryGrow_room_at b 0 none 0 0 0 _ HC.out HFZ.out (Nat.le_refl _) (Nat.zero_le _) (Nat.le_refl _)).mono ?_
      rintro e w3 ⟨rfl, hw3⟩
      have d0 : w3.cell? ⟨b, 0, none⟩ = some (.slice none 0 0) := by rw [hw3]; exact World.cell?_setCell_same w1 _ _ HC.out
      rw [show (0 + 0 : Nat) = 0 from rfl] at hw3
      rw [← hw3] at HFIN
      clear hw3
      go_wp2
      go_ret2
      exact ⟨_, rfl, HFIN.out⟩
    · have hsame := HI.out.same h3.c0
      have hfin : IsW _ b bad l ∧ WFr b w _ := ⟨hsame.1, HF.out.trans hsame.2⟩
      have HFIN := Lib.hid hfin
      have HC := Lib.hid h3.c0
      have HFZ := Lib.hid (h3.f 0)
      clear hsame hfin h3 hg h5
      go_enter Tryz.func158, Tryz.ntmps158
      go_wp2_with fail
      rw [HW1.out]
      refine (Tryz.Buffer_tryGrow_room_at b 0 (some ⟨g, 0, none⟩) l.length cap 0 _ HC.out HFZ.out h1 h2 (Nat.zero_le _)).mono ?_
      rintro e w3 ⟨rfl, hw3⟩
      have d0 : w3.cell? ⟨b, 0, none⟩ = some (.slice (some ⟨g, 0, none⟩) l.length cap) := by rw [hw3]; exact World.cell?_setCell_same w1 _ _ HC.out
      rw [Nat.add_zero] at hw3
      rw [← hw3] at HFIN
      clear hw3
      unfold maxLen at h2
      by_cases hcl : cap = l.length
      · subst hcl
        go_wp2
        go_ret2
        exact ⟨_, rfl, HFIN.out⟩
      · go_wp2
        go_ret2
        exact ⟨_, rfl, HFIN.out⟩
end Go.Proofs.YtmodolighoojoaaGreatDoor
