/- The walks of removeAll, and of the two that call it. The walks of removeIfThere, write and switchTo. The walks of write and switchTo. -/
import Derived.Test.YtngbgngfdklnlaaGreatDoorGSTb4
set_option linter.unusedSimpArgs false
set_option linter.unusedVariables false
namespace Go.Proofs.YtngbgngfdklnlaaGreatDoor
open Go.RowKit
theorem strCells_app (a b : List Nm) : strCells (a ++ b) = strCells a ++ strCells b := by unfold strCells; rw [List.map_append]
theorem filter_take (p : Nm → Bool) (l : List Nm) {k : Nat} (hk : k < l.length) : (l.take (k + 1)).filter p = (l.take k).filter p ++ if p l[k] then [l[k]] else [] := by
  rw [List.take_succ_eq_append_getElem hk, List.filter_append]
  congr 1
  rw [List.filter_cons, List.filter_nil]
theorem Disk.wide {w W w' : World} {d : Value} {cap : Nat} {fs : Fls} {F : Nat → Prop} (h : Disk w' d cap fs (ext F W w')) (k : w.heap.size ≤ W.heap.size) : Disk w' d cap fs (ext F w w') := h.mono (fun g x => by
  rcases x with x | x
  · exact .inl x
  · exact .inr ⟨by have := x.1; omega, x.2⟩)
theorem own_len {w : World} {b : Nat} {e : TypeId} {n : Nat} {v : Value} {xs : List Value} (h : w.ownsRow b e 1 v n xs) : n = xs.length := by have := h.1; omega
set_option maxRecDepth 100000 in
set_option maxHeartbeats 4000000 in
theorem removeAll1_any (b1 : Nat) (d : Value) (nm : Nm) (p : Nm → Bool) (cap : Nat) (fs : Fls) (F : Nat → Prop) (w1 : World) (h : Disk w1 d cap fs F) (hF : ∀ g, F g → g < w1.heap.size)
    (hf : ∀ W, Kept w1 W → ∀ x ∈ namesA fs, Calls Tryz.prog 87 #[.string ⟨x.toArray⟩, Value.pointer (some ⟨b1, 0, none⟩)] W fun e w' => e = .returned (.bool (p x)) ∧ Kept W w') :
    Calls Tryz.prog 86 #[.agg #[d, .string ⟨nm.toArray⟩], .func (.func 87) #[] #[Value.pointer (some ⟨b1, 0, none⟩)]] w1 fun e w' => e = .returned (.int .i64 0) ∧ Disk w' d cap (dropF p fs) (ext F w1 w') ∧ Chg F w1 w' := by
  obtain ⟨db, rfl⟩ := h.form
  have hk0 := (Kept.refl w1).alloc (.cells #[.pointer (some ⟨db, 0, none⟩), .string ⟨nm.toArray⟩] 90)
  have hb := heap_alloc_new w1 (.cells #[.pointer (some ⟨db, 0, none⟩), .string ⟨nm.toArray⟩] 90)
  have HFI := Lib.hid (files_any cap fs _ _ _ (h.kept hk0))
  have HH := Lib.hid h
  have HF := Lib.hid hf
  have hgood := h.good
  have HRE := Lib.hid (rem_names p fs)
  have HAL := Lib.hid (all_names hgood.1 p)
  have hlen : (namesA fs).length = fs.length := by unfold namesA; simp
  have hfl := hgood.2.2.2
  have HLO := Lib.hid hF
  generalize hNL : namesA fs = nl at *
  rw [← hlen] at hfl
  clear h hf hgood hlen hF
  go_enter Tryz.func86, Tryz.ntmps86
  go_wp2_with fail
  refine HFI.out.mono ?_
  rintro e w2 ⟨v2, rfl, ht2, k2⟩
  have hb2 := k2.block' hb
  have hkk := hk0.trans k2
  have HT2 := Lib.hid ht2
  obtain ⟨A2, c2, rfl, hc1, hc2⟩ := ht2.form
  unfold maxLen at hc2
  have HB2 := Lib.hid hb2
  generalize w1.alloc (.cells #[.pointer (some ⟨db, 0, none⟩), .string ⟨nm.toArray⟩] 90) = w1a at *
  clear ht2 hb hb2 HFI
  go_wp2
  go_loopw [5, 12] (fun t i W => ∃ k : Nat, i = .int .i64 (k : Int) ∧ k ≤ nl.length ∧ W.ownsRow w2.heap.size 9 1 t ((nl.take k).filter p).length (strCells ((nl.take k).filter p)) ∧ Kept w2 W) (fun _ i _ => nl.length - (intOf i).toNat)
  case atStart => exact ⟨0, rfl, Nat.zero_le _, World.ownsRow_nil _ _ _ _, Kept.refl w2⟩
  case round =>
    obtain ⟨k, rfl, hkl, hO, hK⟩ := hrel
    by_cases hlt : k < nl.length
    · obtain ⟨b, o, rfl, hcell⟩ := (HT2.out.kept hK).at (k := k) hlt
      have HFT := Lib.hid (filter_take p nl hlt)
      have HC := Lib.hid (HF.out wr (hkk.trans hK) nl[k] (List.getElem_mem hlt))
      have hsl : ((nl.take k).filter p).length ≤ k := Nat.le_trans (List.length_filter_le _ _) (by rw [List.length_take]; omega)
      generalize (nl.take k).filter p = ft at *
      generalize nl[k] = x at *
      have g1 : (k : Int) < (nl.length : Int) := by omega
      obtain ⟨A3, c3, hv3⟩ := own_form hO
      subst hv3
      have HO := Lib.hid hO
      cases hp : p x with
      | false =>
        rw [hp] at HC HFT
        clear hO hp
        go_wp2_with fail
        refine HC.out.mono ?_
        rintro e w3 ⟨rfl, k3⟩
        have HO3 := Lib.hid (own_kept HO.out k3)
        have hK3 := hK.trans k3
        go_wp2
        go_roundw
        case rel =>
          refine ⟨k + 1, by go_num, by omega, ?_, hK3⟩
          rw [HFT.out, if_neg (by simp), List.append_nil]
          exact HO3.out
        case measure => simp [intOf]; omega
      | true =>
        rw [hp] at HC HFT
        clear hO hp
        go_wp2_with fail
        refine HC.out.mono ?_
        rintro e w3 ⟨rfl, k3⟩
        have HO3 := Lib.hid (own_kept HO.out k3)
        have hK3 := hK.trans k3
        have hs3 := hK3.size
        go_wp2_with (at_builtin; refine wpList_append_one elemT rfl _ _ rfl w2.heap.size _ _ _ [.string ⟨x.toArray⟩] w3.heap.size 1 rfl rfl (own_kept HO3.out ((Kept.refl w3).alloc _)) rfl (cell_new1 w3 _ _) (one_cell rfl) (by omega) (by unfold maxLen; omega) (by simp; omega) ?_; intro v5 w5 a1 a2 a3)
        go_roundw
        case rel =>
          refine ⟨k + 1, by go_num, by omega, ?_, (hK3.alloc _).grown a2 (own_ge HO3.out)⟩
          rw [HFT.out, if_pos trivial, strCells_app, List.length_append]
          exact a1
        case measure => simp [intOf]; omega
    · obtain rfl : k = nl.length := by omega
      rw [List.take_length] at hO
      have u0 := cell_at (hK.block' HB2.out) 0
      simp only [List.getElem?_toArray, List.getElem?_cons_zero, List.getElem?_cons_succ] at u0
      have HTX := Lib.hid (Txts.of_own hO)
      have hge := hkk.size
      have HO := Lib.hid hO
      obtain ⟨A3, c3, hv3⟩ := own_form hO
      subst hv3
      clear hO
      go_wp2_with fail
      refine (remove_any (nl.filter p) _ _ cap fs F wr (HH.out.kept (hkk.trans hK)) (fun W c => Txts.of_own (own_chg HO.out c (fun g hg x => by have := own_ge HO.out g hg; have := HLO.out g x; omega)))).mono ?_
      rintro e w4 ⟨rfl, h4, c4⟩
      rw [HAL.out, if_pos rfl, HRE.out] at h4
      go_wp2
      go_ret
      exact ⟨congrArg (fun z => Ending.returned (.int .i64 z)) HAL.out, h4.wide (hkk.trans hK).size, (Chg.of_kept (hkk.trans hK)).trans c4 (fun _ _ x => x)⟩
set_option maxRecDepth 100000 in
set_option maxHeartbeats 4000000 in
theorem removeAll2_any (b1 b2 : Nat) (d : Value) (nm : Nm) (p : Nm → Bool) (cap : Nat) (fs : Fls) (F : Nat → Prop) (w1 : World) (h : Disk w1 d cap fs F) (hF : ∀ g, F g → g < w1.heap.size)
    (hf : ∀ W, Kept w1 W → ∀ x ∈ namesA fs, Calls Tryz.prog 93 #[.string ⟨x.toArray⟩, Value.pointer (some ⟨b1, 0, none⟩), Value.pointer (some ⟨b2, 0, none⟩)] W fun e w' => e = .returned (.bool (p x)) ∧ Kept W w') :
    Calls Tryz.prog 86 #[.agg #[d, .string ⟨nm.toArray⟩], .func (.func 93) #[] #[Value.pointer (some ⟨b1, 0, none⟩), Value.pointer (some ⟨b2, 0, none⟩)]] w1 fun e w' => e = .returned (.int .i64 0) ∧ Disk w' d cap (dropF p fs) (ext F w1 w') ∧ Chg F w1 w' := by
  obtain ⟨db, rfl⟩ := h.form
  have hk0 := (Kept.refl w1).alloc (.cells #[.pointer (some ⟨db, 0, none⟩), .string ⟨nm.toArray⟩] 90)
  have hb := heap_alloc_new w1 (.cells #[.pointer (some ⟨db, 0, none⟩), .string ⟨nm.toArray⟩] 90)
  have HFI := Lib.hid (files_any cap fs _ _ _ (h.kept hk0))
  have HH := Lib.hid h
  have HF := Lib.hid hf
  have hgood := h.good
  have HRE := Lib.hid (rem_names p fs)
  have HAL := Lib.hid (all_names hgood.1 p)
  have hlen : (namesA fs).length = fs.length := by unfold namesA; simp
  have hfl := hgood.2.2.2
  have HLO := Lib.hid hF
  generalize hNL : namesA fs = nl at *
  rw [← hlen] at hfl
  clear h hf hgood hlen hF
  go_enter Tryz.func86, Tryz.ntmps86
  go_wp2_with fail
  refine HFI.out.mono ?_
  rintro e w2 ⟨v2, rfl, ht2, k2⟩
  have hb2 := k2.block' hb
  have hkk := hk0.trans k2
  have HT2 := Lib.hid ht2
  obtain ⟨A2, c2, rfl, hc1, hc2⟩ := ht2.form
  unfold maxLen at hc2
  have HB2 := Lib.hid hb2
  generalize w1.alloc (.cells #[.pointer (some ⟨db, 0, none⟩), .string ⟨nm.toArray⟩] 90) = w1a at *
  clear ht2 hb hb2 HFI
  go_wp2
  go_loopw [5, 12] (fun t i W => ∃ k : Nat, i = .int .i64 (k : Int) ∧ k ≤ nl.length ∧ W.ownsRow w2.heap.size 9 1 t ((nl.take k).filter p).length (strCells ((nl.take k).filter p)) ∧ Kept w2 W) (fun _ i _ => nl.length - (intOf i).toNat)
  case atStart => exact ⟨0, rfl, Nat.zero_le _, World.ownsRow_nil _ _ _ _, Kept.refl w2⟩
  case round =>
    obtain ⟨k, rfl, hkl, hO, hK⟩ := hrel
    by_cases hlt : k < nl.length
    · obtain ⟨b, o, rfl, hcell⟩ := (HT2.out.kept hK).at (k := k) hlt
      have HFT := Lib.hid (filter_take p nl hlt)
      have HC := Lib.hid (HF.out wr (hkk.trans hK) nl[k] (List.getElem_mem hlt))
      have hsl : ((nl.take k).filter p).length ≤ k := Nat.le_trans (List.length_filter_le _ _) (by rw [List.length_take]; omega)
      generalize (nl.take k).filter p = ft at *
      generalize nl[k] = x at *
      have g1 : (k : Int) < (nl.length : Int) := by omega
      obtain ⟨A3, c3, hv3⟩ := own_form hO
      subst hv3
      have HO := Lib.hid hO
      cases hp : p x with
      | false =>
        rw [hp] at HC HFT
        clear hO hp
        go_wp2_with fail
        refine HC.out.mono ?_
        rintro e w3 ⟨rfl, k3⟩
        have HO3 := Lib.hid (own_kept HO.out k3)
        have hK3 := hK.trans k3
        go_wp2
        go_roundw
        case rel =>
          refine ⟨k + 1, by go_num, by omega, ?_, hK3⟩
          rw [HFT.out, if_neg (by simp), List.append_nil]
          exact HO3.out
        case measure => simp [intOf]; omega
      | true =>
        rw [hp] at HC HFT
        clear hO hp
        go_wp2_with fail
        refine HC.out.mono ?_
        rintro e w3 ⟨rfl, k3⟩
        have HO3 := Lib.hid (own_kept HO.out k3)
        have hK3 := hK.trans k3
        have hs3 := hK3.size
        go_wp2_with (at_builtin; refine wpList_append_one elemT rfl _ _ rfl w2.heap.size _ _ _ [.string ⟨x.toArray⟩] w3.heap.size 1 rfl rfl (own_kept HO3.out ((Kept.refl w3).alloc _)) rfl (cell_new1 w3 _ _) (one_cell rfl) (by omega) (by unfold maxLen; omega) (by simp; omega) ?_; intro v5 w5 a1 a2 a3)
        go_roundw
        case rel =>
          refine ⟨k + 1, by go_num, by omega, ?_, (hK3.alloc _).grown a2 (own_ge HO3.out)⟩
          rw [HFT.out, if_pos trivial, strCells_app, List.length_append]
          exact a1
        case measure => simp [intOf]; omega
    · obtain rfl : k = nl.length := by omega
      rw [List.take_length] at hO
      have u0 := cell_at (hK.block' HB2.out) 0
      simp only [List.getElem?_toArray, List.getElem?_cons_zero, List.getElem?_cons_succ] at u0
      have HTX := Lib.hid (Txts.of_own hO)
      have hge := hkk.size
      have HO := Lib.hid hO
      obtain ⟨A3, c3, hv3⟩ := own_form hO
      subst hv3
      clear hO
      go_wp2_with fail
      refine (remove_any (nl.filter p) _ _ cap fs F wr (HH.out.kept (hkk.trans hK)) (fun W c => Txts.of_own (own_chg HO.out c (fun g hg x => by have := own_ge HO.out g hg; have := HLO.out g x; omega)))).mono ?_
      rintro e w4 ⟨rfl, h4, c4⟩
      rw [HAL.out, if_pos rfl, HRE.out] at h4
      go_wp2
      go_ret
      exact ⟨congrArg (fun z => Ending.returned (.int .i64 z)) HAL.out, h4.wide (hkk.trans hK).size, (Chg.of_kept (hkk.trans hK)).trans c4 (fun _ _ x => x)⟩
end Go.Proofs.YtngbgngfdklnlaaGreatDoor
set_option linter.unusedSimpArgs false
set_option linter.unusedVariables false
namespace Go.Proofs.YtngbgngfdklnlaaGreatDoor
open Go.RowKit
/-- Contains, at any texts. -/
theorem containsT_any (ls : List Nm) (x : Nm) (v : Value) (w : World) (hv : Txts w v ls) :
    Calls Tryz.prog 88 #[v, .string ⟨x.toArray⟩] w fun e w' => e = .returned (.bool (ls.contains x)) ∧ w = w' := by
  obtain ⟨A, c, rfl, h1, h2, h3⟩ := hv
  unfold maxLen at h2
  by_cases h0 : 0 < ls.length
  · obtain ⟨b, o, rfl, hc⟩ := h3 h0
    refine (Tryz.slices_Contains_string b o ls.length c (ls.map fun l => ⟨l.toArray⟩) ⟨x.toArray⟩ w (by simp) (by omega) (fun j hj => ?_)).mono ?_
    · have hj' : j < ls.length := by simpa using hj
      rw [hc j ls[j] (by simp [hj'])]
      simp [List.getD, hj']
    · rintro e w' ⟨rfl, rfl⟩
      refine ⟨ret_bool ?_, rfl⟩
      rw [Bool.eq_iff_iff, Lib.containsS_iff, List.take_of_length_le (by simp), List.mem_map, List.contains_iff_mem]
      constructor
      · rintro ⟨l, hl, e⟩
        have : l = x := by
          have := congrArg (fun s : ByteArray => s.data.toList) e
          simpa using this
        rw [← this]
        exact hl
      · exact fun h => ⟨x, h, rfl⟩
  · have hn : ls = [] := List.eq_nil_of_length_eq_zero (by omega)
    subst hn
    refine (Any.slices_Contains_string_empty Tryz.lays110 A c ⟨x.toArray⟩ w).mono ?_
    rintro e w' ⟨rfl, rfl⟩
    exact ⟨rfl, rfl⟩
set_option maxRecDepth 100000 in
set_option maxHeartbeats 1000000 in
theorem clos1_any (b1 : Nat) (v : Value) (ls : List Nm) (x : Nm) (w : World) (hc : w.cell? ⟨b1, 0, none⟩ = some v) (hv : Txts w v ls) :
    Calls Tryz.prog 87 #[.string ⟨x.toArray⟩, .pointer (some ⟨b1, 0, none⟩)] w fun e w' => e = .returned (.bool (ls.contains x)) ∧ Kept w w' := by
  have HC := Lib.hid (containsT_any ls x v w hv)
  obtain ⟨A, c, rfl, h1, h2⟩ := hv.form
  clear hv
  generalize ls.contains x = r at *
  go_enter Tryz.func87, Tryz.ntmps87
  go_wp2_with fail
  refine HC.out.mono ?_
  rintro e w1 ⟨rfl, rfl⟩
  go_wp2
  go_ret
  exact ⟨rfl, Kept.refl _⟩
set_option maxRecDepth 100000 in
set_option maxHeartbeats 4000000 in
theorem removeIf_any (d : Value) (nm : Nm) (ls : List Nm) (v : Value) (cap : Nat) (fs : Fls) (F : Nat → Prop) (w : World) (h : Disk w d cap fs F) (hF : ∀ g, F g → g < w.heap.size) (hv : Txts w v ls) :
    Calls Tryz.prog 40 #[.agg #[d, .string ⟨nm.toArray⟩], v] w fun e w' => e = .returned (.int .i64 0) ∧ Disk w' d cap (dropF (fun x => ls.contains x) fs) (ext F w w') ∧ Chg F w w' := by
  obtain ⟨db, rfl⟩ := h.form
  obtain ⟨A, c, hvv, h1, h2⟩ := hv.form
  subst hvv
  have hk0 := ((Kept.refl w).alloc (.cells #[.pointer (some ⟨db, 0, none⟩), .string ⟨nm.toArray⟩] 90)).alloc (.cells #[.slice A ls.length c] 46)
  have hz : (w.alloc (.cells #[.pointer (some ⟨db, 0, none⟩), .string ⟨nm.toArray⟩] 90)).heap.size = w.heap.size + 1 := by simp
  have hb1 := heap_alloc_new (w.alloc (.cells #[.pointer (some ⟨db, 0, none⟩), .string ⟨nm.toArray⟩] 90)) (.cells #[.slice A ls.length c] 46)
  rw [hz] at hb1
  have hs0 := hk0.size
  have HR := Lib.hid (removeAll1_any (w.heap.size + 1) _ nm (fun x => ls.contains x) cap fs F _ (h.kept hk0) (fun g x => Nat.lt_of_lt_of_le (hF g x) hs0) (fun W hW x _ => clos1_any _ _ ls x W (by
    have := cell_at (hW.block' hb1) 0
    simpa using this) (hv.kept (hk0.trans hW))))
  have HK := Lib.hid hk0
  clear h hF hv hb1
  go_enter Tryz.func40, Tryz.ntmps40
  go_wp2_with fail
  refine HR.out.mono ?_
  rintro e w1 ⟨rfl, hd, hc⟩
  go_wp2
  go_ret
  exact ⟨rfl, hd.wide HK.out.size, (Chg.of_kept HK.out).trans hc (fun _ _ x => x)⟩
end Go.Proofs.YtngbgngfdklnlaaGreatDoor
set_option linter.unusedSimpArgs false
set_option linter.unusedVariables false
namespace Go.Proofs.YtngbgngfdklnlaaGreatDoor
open Go.RowKit
/-- What write makes. -/
def wrtS (cap : Nat) (dn tn : Nm) (b m : List UInt8) (fs : Fls) : Int × Fls :=
  if cap < used fs + b.length then (32, fs)
  else if cap < used (appS dn b fs) + m.length then (32, cutA dn (appS dn b fs))
  else (0, syncS [dn, tn] (appS tn m (appS dn b fs)))
theorem okA_ok {cap : Nat} {k : Nm} (b : List UInt8) (fs : Fls) (hk : okN k = true) : okA cap k b fs = if cap < used fs + b.length then 32 else 0 := by
  unfold okA
  rw [if_neg (by simp [hk])]
theorem has_put {fs : Fls} (k : Nm) (f : Fl) (j : Nm) : hasA j (putA k f fs) = (j == k || hasA j fs) := by
  rw [Bool.eq_iff_iff]
  unfold hasA
  simp only [List.any_eq_true, Bool.or_eq_true, beq_iff_eq]
  constructor
  · rintro ⟨p, hp, rfl⟩
    rcases mem_put hp with rfl | ⟨h, -⟩
    · exact .inl rfl
    · exact .inr ⟨p, h, rfl⟩
  · intro h
    have hm : ∀ q, q ∈ (k, f) :: cutA k fs → q ∈ putA k f fs := fun q hq => (put_perm k f fs).symm.subset hq
    rcases h with rfl | ⟨p, hp, rfl⟩
    · exact ⟨(j, f), hm _ (by simp), rfl⟩
    · by_cases e : p.1 = k
      · exact ⟨(k, f), hm _ (by simp), e.symm⟩
      · exact ⟨p, hm _ (List.mem_cons_of_mem _ (by unfold cutA; rw [List.mem_filter]; exact ⟨hp, by simpa using e⟩)), rfl⟩
theorem has_app {fs : Fls} (k : Nm) (b : List UInt8) (j : Nm) : hasA j (appS k b fs) = (j == k || hasA j fs) := has_put _ _ _
theorem all_two {fs : Fls} {a c : Nm} (ha : okN a = true) (hc : okN c = true) (h1 : hasA a fs = true) (h2 : hasA c fs = true) : allS [a, c] fs = 0 := by
  unfold allS
  simp [ha, hc, h1, h2]
theorem all_one {fs : Fls} {a : Nm} (ha : okN a = true) (h1 : hasA a fs = true) : allS [a] fs = 0 := by
  unfold allS
  simp [ha, h1]
theorem app_len (k : Nm) (b : List UInt8) (fs : Fls) : (appS k b fs).length ≤ fs.length + 1 := length_put _ _ _
theorem Txts.fresh1 {F : Nat → Prop} (w : World) (l : Nm) (t : TypeId) (hF : ¬ F w.heap.size) : ∀ W, Chg F (w.alloc (.cells #[.string ⟨l.toArray⟩] t)) W → Txts W (.slice (some ⟨w.heap.size, 0, none⟩) 1 1) [l] := by
  intro W c
  refine ⟨_, 1, rfl, Nat.le_refl _, by decide, fun _ => ⟨_, 0, rfl, fun k x hx => ?_⟩⟩
  have hb := c.block' (heap_alloc_new w _) hF
  match k, hx with
  | 0, hx =>
    obtain rfl : l = x := by simpa using hx
    rw [cell_at hb]
    simp
theorem Txts.fresh2 {F : Nat → Prop} (w : World) (l m : Nm) (t : TypeId) (hF : ¬ F w.heap.size) : ∀ W, Chg F (w.alloc (.cells #[.string ⟨l.toArray⟩, .string ⟨m.toArray⟩] t)) W → Txts W (.slice (some ⟨w.heap.size, 0, none⟩) 2 2) [l, m] := by
  intro W c
  refine ⟨_, 2, rfl, Nat.le_refl _, by decide, fun _ => ⟨_, 0, rfl, fun k x hx => ?_⟩⟩
  have hb := c.block' (heap_alloc_new w _) hF
  match k, hx with
  | 0, hx =>
    obtain rfl : l = x := by simpa using hx
    rw [cell_at hb]
    simp
  | 1, hx =>
    obtain rfl : m = x := by simpa using hx
    rw [cell_at hb]
    simp
theorem allS_get' {k : Nm} {fs : Fls} (hk : okN k = true) : allS [k] fs = if (getA k fs).isSome then 0 else 31 := by
  unfold allS
  simp only [List.all_cons, List.all_nil, Bool.and_true, hk, hasA_get]
  cases getA k fs <;> simp
end Go.Proofs.YtngbgngfdklnlaaGreatDoor
