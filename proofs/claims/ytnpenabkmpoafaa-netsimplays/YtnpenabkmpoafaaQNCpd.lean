/- The walks of copied and CopyInts. -/
import Derived.Test.YtnpenabkmpoafaaQNMem
set_option linter.unusedSimpArgs false
set_option linter.unusedVariables false
namespace Go.Proofs.Ytnpenabkmpoafaa
open Go.RowKit
set_option maxRecDepth 100000 in
set_option maxHeartbeats 4000000 in
theorem copyInts_any (l : List Int) (v : Value) (w : World) (hv : Ints w v l) (hl : l.length ≤ 17592186044416) :
    Calls Try.prog 26 #[v] w fun e w' => ∃ v', e = .returned v' ∧ w'.ownsRow w.heap.size 3 1 v' l.length (l.map (Value.int .i64)) ∧ Kept w w' := by
  obtain ⟨A, c, rfl, hc1, hc2, hcs⟩ := hv
  unfold maxLen at hc2
  obtain ⟨i, hi, hz, hs, hb⟩ := info_int
  obtain ⟨w1, hmk, hrow, hgr⟩ := run_make_full (P := Try.prog) w w.heap.size 37 3 i (.int .i64 0) 1 Try.underlying37 hi hz hs .i64 .i64 l.length (by rw [hb]; omega) (by unfold maxLen; omega) (Nat.le_refl _)
  have hk1 : Kept w w1 := (Chg.of_grown (F := no) hgr (fun g hg => by cases hg)).to_kept
  obtain ⟨cur, hcur, hcs2⟩ : ∃ cur : Array Value, w1.heap[w.heap.size]? = some (.cells cur 3 (0, 0)) ∧ cur.size = l.length := by
    rcases hrow.2 with ⟨e, -⟩ | ⟨g, cap, cur, e, -, h1, -, -, h2, -⟩
    · cases e
    · obtain ⟨rfl, rfl⟩ : w.heap.size = g ∧ l.length = cap := by simpa using e
      exact ⟨cur, h1, by simpa using h2⟩
  have HCUR := Lib.hid hcur
  have HCS := Lib.hid hcs
  have HCS2 := Lib.hid hcs2
  have HML := Lib.hid (show (l.map (Value.int .i64)).length = l.length by simp)
  clear hrow hgr hcur hcs hcs2 hi hz hs hb
  go_enter Try.func26, Try.ntmps26
  go_wp2_with (refine wpList_copy_splice (o := ⟨some 9, _, _, _, _, _⟩) rfl (.tmp 7) (.tmp 8) 37 37 rfl 3 Try.underlying37 size_int (some ⟨w.heap.size, 0, none⟩) A l.length l.length l.length c rfl rfl w.heap.size 0 cur.toList 3 (by simpa using HCUR.out) (l.map (Value.int .i64)) ?_ ?_ ?_ ?_ w.heap.size w hk1 (Nat.le_refl _) ?_)
  · rw [HML.out]; exact (Nat.min_self _).symm
  · intro hp
    obtain ⟨b, o, rfl, hc⟩ := HCS.out hp
    refine ⟨_, rfl, fun j x hx => ?_⟩
    have e : ((⟨b, o, none⟩ : Addr).add j) = ⟨b, o + j, none⟩ := by unfold Addr.add; split <;> simp_all
    rw [e]
    exact hk1.cell (hc j x hx)
  · rw [HML.out]; simp [HCS2.out]
  · intro u hu
    obtain ⟨x, -, rfl⟩ := List.mem_map.1 hu
    rfl
  · intro w2 hg2 hb2
    have HG2 := hg2
    clear hg2
    go_wp2
    go_ret
    refine ⟨_, rfl, ⟨by simp, .inr ⟨w.heap.size, l.length, _, rfl, Nat.le_refl _, HG2.out, Nat.le_refl _, by unfold maxLen; omega, ?_, ?_⟩⟩, hb2⟩
    · simp [splice, HCS2.out]
    · simp [splice, HCS2.out]
set_option maxRecDepth 100000 in
set_option maxHeartbeats 4000000 in
theorem copied_any (ls : List (List UInt8)) (v : Value) (w : World) (hv : Parts w v ls) (hl : ls.length ≤ 5864062014805) (hs : ∀ l ∈ ls, l.length ≤ 140737488355328) :
    Calls Try.prog 14 #[v] w fun e w' => ∃ v', e = .returned v' ∧ RecsAt w' v' ls (fresh w w') ∧ Kept w w' := by
  have HV := Lib.hid hv
  have HS := Lib.hid hs
  obtain ⟨A, c, hvv, hc1, hc2, -⟩ := hv
  subst hvv
  unfold maxLen at hc2
  clear hs
  go_enter Try.func14, Try.ntmps14
  go_wp2
  go_loopw [3, 8] (fun t i W => ∃ k : Nat, i = .int .i64 (k : Int) ∧ k ≤ ls.length ∧ RecsAt W t (ls.take k) (fresh w W) ∧ Kept w W) (fun _ i _ => ls.length - (intOf i).toNat)
  case atStart => exact ⟨0, rfl, Nat.zero_le _, RecsAt.nil _ _, Kept.refl w⟩
  case round =>
    obtain ⟨k, rfl, hk, hR, hK⟩ := hrel
    obtain ⟨A3, c3, hv3, hd1, hd2⟩ := hR.form
    have hkl : (ls.take k).length = k := by simp; omega
    rw [hkl] at hv3
    subst hv3
    have HR := Lib.hid hR
    clear hR
    by_cases hlt : k < ls.length
    · obtain ⟨b, o, u, hA, hcell, hbu⟩ := (HV.out.kept hK).at hlt
      subst hA
      have HBU := Lib.hid hbu
      obtain ⟨Au, cu, hu, -, -, -⟩ := hbu
      subst hu
      have g1 : (k : Int) < (ls.length : Int) := by omega
      have hsl := HS.out ls[k] (List.getElem_mem hlt)
      have HTS := Lib.hid (show ls.take (k + 1) = ls.take k ++ [ls[k]] from List.take_succ_eq_append_getElem hlt)
      generalize hr : ls[k] = r at *
      clear hr
      go_wp2_with fail
      refine (copy_any r _ wr HBU.out hsl).mono ?_
      rintro e w4 ⟨v4, rfl, ho4, k4⟩
      obtain ⟨A4, c4, hv4⟩ := own_form ho4
      subst hv4
      have HO4 := Lib.hid ho4
      have hK4 := hK.trans k4
      have hR4 : RecsAt w4 (.slice A3 k c3) (ls.take k) (fresh w w4) := (HR.out.kept k4).mono (fun g hg => by
        have hs4 := k4.size
        rcases hg with x | x
        · exact x.elim
        · exact .inr ⟨x.1, by omega⟩)
      obtain ⟨us, hus1, hus2, hus3⟩ := hR4
      have HUS := Lib.hid hus1
      have HU2 := Lib.hid hus2
      have HU3 := Lib.hid hus3
      clear ho4 hus1 hus2 hus3
      go_wp2_with (at_builtin; refine wpList_append_one elemB rfl _ _ rfl 0 _ _ us [.slice A4 r.length c4] w4.heap.size 1 rfl rfl (own_kept (by have := HUS.out; rw [hkl] at this; exact this) ((Kept.refl w4).alloc _)) rfl (cell_new1 w4 _ _) (one_cell rfl) (by omega) (by unfold maxLen; omega) (Nat.zero_le _) ?_; intro v5 w5 a1 a2 a3)
      go_roundw
      case rel =>
        have hs4 := k4.size
        have hwr := hK.size
        obtain ⟨r1, r2⟩ := RecsAt.more HUS.out HU2.out HU3.out (own_base' HO4.out (Nat.zero_le _)) (fun g hg => .inr ⟨by have := (HO4.out.lt g hg).1; omega, (HO4.out.lt g hg).2⟩) a2 (by rw [hkl]; exact a1) a3
        refine ⟨k + 1, by go_num, by omega, ?_, r2.kept hK4 (fun g hg => ?_)⟩
        · rw [HTS.out]
          exact r1.mono (fun g hg => by
            rcases hg with (x | x) | x
            · exact x.elim
            · exact .inr ⟨x.1, by have := r2.size; omega⟩
            · exact .inr ⟨by omega, x.2⟩)
        · obtain ⟨us', -, h2, -⟩ := HR.out
          rcases h2 g hg with x | x
          · exact x.elim
          · exact x.1
      case measure => simp [intOf]; omega
    · obtain rfl : k = ls.length := by omega
      rw [List.take_length] at HR
      go_wp2
      go_ret
      exact ⟨_, rfl, HR.out, hK⟩
end Go.Proofs.Ytnpenabkmpoafaa
