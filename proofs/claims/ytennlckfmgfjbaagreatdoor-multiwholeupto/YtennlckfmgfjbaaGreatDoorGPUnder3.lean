/- The walk of Under. The walk of Join. The walk of Parts, over the library's Split. -/
import Derived.Test.YtennlckfmgfjbaaGreatDoorQPTold
import Derived.Test.YtennlckfmgfjbaaGreatDoorGPStrs2
import Derived.Lib.SplitLaws
import Derived.Lib.IndexBytes
import Derived.Laws.OwnMore
namespace Go.Proofs.YtennlckfmgfjbaaGreatDoor
open Go.RowKit
/-- Are both paths? -/
def bothP (p q : List UInt8) : Bool := (names p).isSome && (names q).isSome
theorem under_some {p q : List UInt8} {a b : List (List UInt8)} (ha : names p = some a) (hb : names q = some b) : under p q = ((p == [47]) || (p == q) || (p ++ [47]).isPrefixOf q) := by
  obtain ⟨h1, h2⟩ := names_some ha
  obtain ⟨h3, h4⟩ := names_some hb
  unfold under
  rw [ha, hb]
  simp only
  rw [under_iff h1 h3, ← h2, ← h4]

set_option maxHeartbeats 1000000 in
theorem under_any (p q : List UInt8) (w : World) :
    Calls Tryz.prog 39 #[.string ⟨p.toArray⟩, .string ⟨q.toArray⟩] w fun e w' => e = .returned (.tuple #[.bool (under p q), .int .i64 (errB (bothP p q))]) ∧ Kept w w' := by
  have HC := Lib.hid (check_any p w)
  have HC2 := Lib.hid fun w => check_any q w
  cases ha : names p with
  | none =>
    have h1 : under p q = false := by unfold under; rw [ha]
    have h2 : bothP p q = false := by unfold bothP; rw [ha]; rfl
    rw [h1, h2]
    have hc := chk_none ha
    rw [hc] at HC
    clear ha h1 h2 hc
    go_enter Tryz.func39, Tryz.ntmps39
    go_wp2_with fail
    refine HC.out.mono ?_
    rintro e w' ⟨rfl, hk⟩
    go_wp2
    go_ret2
    exact ⟨rfl, hk⟩
  | some a =>
    have hc := chk_some ha
    rw [hc] at HC
    cases hb : names q with
    | none =>
      have h1 : under p q = false := by unfold under; rw [ha, hb]
      have h2 : bothP p q = false := by unfold bothP; rw [hb]; simp
      rw [h1, h2]
      have hc2 := chk_none hb
      rw [hc2] at HC2
      clear ha hb h1 h2 hc hc2
      go_enter Tryz.func39, Tryz.ntmps39
      go_wp2_with fail
      refine HC.out.mono ?_
      rintro e w' ⟨rfl, hk⟩
      go_wp2_with fail
      refine (HC2.out _).mono ?_
      rintro e w1 ⟨rfl, hk1⟩
      have hk2 := hk.trans hk1
      clear hk hk1
      go_wp2
      go_ret2
      exact ⟨rfl, hk2⟩
    | some b =>
      have hc2 := chk_some hb
      rw [hc2] at HC2
      have hu := under_some ha hb
      have h2 : bothP p q = true := by unfold bothP; rw [ha, hb]; rfl
      rw [h2]
      have hpl := (names_len ha).2
      clear ha hb hc hc2 h2
      by_cases h3 : p = [47]
      · subst h3
        have hu' : under [47] q = true := by rw [hu]; simp
        rw [hu']
        clear hu hu'
        go_enter Tryz.func39, Tryz.ntmps39
        go_wp2_with fail
        refine HC.out.mono ?_
        rintro e w' ⟨rfl, hk⟩
        go_wp2_with fail
        refine (HC2.out _).mono ?_
        rintro e w1 ⟨rfl, hk1⟩
        have hk2 := hk.trans hk1
        clear hk hk1
        go_wp2
        go_ret2
        exact ⟨rfl, hk2⟩
      by_cases h4 : p = q
      · subst h4
        have hu' : under p p = true := by rw [hu]; simp
        rw [hu']
        have t0 : (p == [47]) = false := by simpa using h3
        clear hu hu' h3
        go_enter Tryz.func39, Tryz.ntmps39
        go_wp2_with fail
        refine HC.out.mono ?_
        rintro e w' ⟨rfl, hk⟩
        go_wp2_with fail
        refine (HC2.out _).mono ?_
        rintro e w1 ⟨rfl, hk1⟩
        have hk2 := hk.trans hk1
        clear hk hk1
        go_wp2
        go_ret2
        exact ⟨rfl, hk2⟩
      have t0 : (p == [47]) = false := by simpa using h3
      have t1 : (p == q) = false := by simpa using h4
      rw [t0, t1, Bool.false_or, Bool.false_or] at hu
      rw [hu]
      clear hu h3 h4
      have HX := Lib.hid fun w => hasPrefix_any q (p ++ [47]) w
      generalize (p ++ [47]).isPrefixOf q = x at *
      go_enter Tryz.func39, Tryz.ntmps39
      go_wp2_with fail
      refine HC.out.mono ?_
      rintro e w' ⟨rfl, hk⟩
      go_wp2_with fail
      refine (HC2.out _).mono ?_
      rintro e w1 ⟨rfl, hk1⟩
      have hk2 := hk.trans hk1
      clear hk hk1
      go_wp2_with fail
      rw [str_snoc]
      refine (HX.out _).mono ?_
      rintro e w2 ⟨rfl, rfl⟩
      go_wp2
      go_ret2
      exact ⟨rfl, hk2⟩
end Go.Proofs.YtennlckfmgfjbaaGreatDoor
namespace Go.Proofs.YtennlckfmgfjbaaGreatDoor
open Go.RowKit
/-- The path with names behind it. -/
def joinOf (l : List UInt8) (ns : List (List UInt8)) : Option (List UInt8) := match names l with
  | some ls => if okNames (ls ++ ns) = true then some (mk (ls ++ ns)) else none
  | none => none
theorem chk_mk (ls : List (List UInt8)) (h : ∀ x ∈ ls, isName x = true) : chk (mk ls) = if okNames ls = true then 0 else 20 := by
  unfold chk
  rw [names_mk ls h]
  by_cases hk : okNames ls = true
  · rw [if_pos hk, if_pos hk]; rfl
  · rw [if_neg hk, if_neg hk]; rfl
theorem mk_snoc (ls : List (List UInt8)) (x : List UInt8) : mk (ls ++ [x]) = if mk ls = [47] ∧ ls = [] then mk ls ++ x else mk ls ++ (47 :: x) := by
  rw [mk_ne (by simp), flat_append, flat_one]
  by_cases h : ls = []
  · subst h; simp [mk, flat]
  · rw [if_neg (by simp [h]), mk_ne h]

set_option maxRecDepth 100000 in
set_option maxHeartbeats 1000000 in
theorem pjoin_any (l : List UInt8) (ns : List (List UInt8)) (v : Value) (w : World) (hv : Txts w v ns) :
    Calls Tryz.prog 50 #[.string ⟨l.toArray⟩, v] w fun e w' => e = .returned (.tuple #[.string ⟨(strO (joinOf l ns)).toArray⟩, .int .i64 (errO (joinOf l ns))]) ∧ Kept w w' := by
  have HV := Lib.hid hv
  obtain ⟨A, c, rfl, hc1, hc2⟩ := hv.form
  clear hv
  unfold maxLen at hc2
  have HC := Lib.hid (check_any l w)
  cases h : names l with
  | none =>
    have hp : joinOf l ns = none := by unfold joinOf; rw [h]
    rw [hp]
    have hc := chk_none h
    rw [hc] at HC
    clear hp h hc
    go_enter Tryz.func50, Tryz.ntmps50
    go_wp2_with fail
    refine HC.out.mono ?_
    rintro e w' ⟨rfl, hk⟩
    go_wp2
    go_ret2
    exact ⟨rfl, hk⟩
  | some ls =>
    have hp : joinOf l ns = if okNames (ls ++ ns) = true then some (mk (ls ++ ns)) else none := by unfold joinOf; rw [h]
    have HP := Lib.hid hp
    obtain ⟨hok, hmk⟩ := names_some h
    have HM := Lib.hid hmk
    have HOK := Lib.hid hok
    have hc := chk_some h
    rw [hc] at HC
    have hlen := (names_len h).2
    clear hp h hc hok hmk
    go_enter Tryz.func50, Tryz.ntmps50
    go_wp2_with fail
    refine HC.out.mono ?_
    rintro e w1 ⟨rfl, hk1⟩
    go_wp2_with fail
    refine (clone_any l _ (by omega)).mono ?_
    rintro e w2 ⟨rfl, hk2⟩
    have hk3 := hk1.trans hk2
    clear hk1 hk2
    go_wp2
    go_loopw [7, 20] (fun t i W => ∃ (k : Nat) (j : List UInt8), i = .int .i64 (k : Int) ∧ t = .string ⟨j.toArray⟩ ∧ k ≤ ns.length ∧ j = mk (ls ++ ns.take k) ∧ okNames (ls ++ ns.take k) = true ∧ Kept w W) (fun _ i _ => ns.length - (intOf i).toNat)
    case atStart => exact ⟨0, l, rfl, rfl, Nat.zero_le _, by simpa using HM.out, by simpa using HOK.out, hk3⟩
    case round =>
      obtain ⟨k, j, rfl, rfl, hk, hj, hO, hK⟩ := hrel
      by_cases hlt : k < ns.length
      · have hjl : j.length ≤ 128 := by rw [hj]; exact (mk_len hO).2
        obtain ⟨b, o, rfl, hcell⟩ := (HV.out.kept hK).at hlt
        have hts : ls ++ ns.take (k + 1) = (ls ++ ns.take k) ++ [ns[k]] := by rw [List.take_succ_eq_append_getElem hlt, List.append_assoc]
        cases hn : isName ns[k] with
        | false =>
          have hno : joinOf l ns = none := by
            rw [HP.out, if_neg]
            intro hx
            have := (okNames_all hx).1 ns[k] (by simp)
            rw [hn] at this
            cases this
          have HNO := Lib.hid hno
          have HN := Lib.hid (show ∀ w, _ from fun w => name_any ns[k] w)
          rw [hn] at HN
          clear hno hn hts hj hO
          generalize ns[k] = x at *
          go_wp2_with fail
          refine (HN.out _).mono ?_
          rintro e w4 ⟨rfl, hk4⟩
          have hk5 := hK.trans hk4
          clear hk4
          go_wp2
          go_ret2
          exact ⟨by rw [HNO.out]; rfl, hk5⟩
        | true =>
          have hall : ∀ x ∈ ls ++ ns.take (k + 1), isName x = true := by
            rw [hts]
            intro x hx
            rcases List.mem_append.1 hx with h1 | h1
            · exact (okNames_all hO).1 x h1
            · rw [List.mem_singleton.1 h1]; exact hn
          have hxl := (isName_len hn).2
          have hck := chk_mk _ hall
          have HN := Lib.hid (show ∀ w, _ from fun w => name_any ns[k] w)
          rw [hn] at HN
          have hnew := mk_snoc (ls ++ ns.take k) ns[k]
          rw [← hts, ← hj] at hnew
          have hroot : j = [47] ↔ ls ++ ns.take k = [] := by rw [hj]; exact mk_root hO
          have hnone : okNames (ls ++ ns.take (k + 1)) ≠ true → joinOf l ns = none := by
            intro hx
            rw [HP.out, if_neg]
            intro hy
            apply hx
            rw [← List.take_append_drop (k + 1) ns, ← List.append_assoc] at hy
            exact okNames_prefix hy
          have HNONE := Lib.hid hnone
          have HCK := Lib.hid hck
          clear hn hj hnone hck hts hall hO
          by_cases hj47 : j = [47]
          · rw [if_pos ⟨hj47, hroot.1 hj47⟩, hj47, List.cons_append, List.nil_append] at hnew
            have HNEW := Lib.hid hnew
            clear hnew hroot
            subst hj47
            generalize ns[k] = x at *
            go_wp2_with fail
            refine (HN.out _).mono ?_
            rintro e w4 ⟨rfl, hk4⟩
            have hk5 := hK.trans hk4
            clear hk4
            go_wp2_with fail
            rw [str_cons]
            have hcy : chk (47 :: x) = if okNames (ls ++ ns.take (k + 1)) = true then 0 else 20 := by rw [← HNEW.out]; exact HCK.out
            have HCY := Lib.hid (show ∀ w, _ from fun w => check_any (47 :: x) w)
            rw [hcy] at HCY
            clear hcy
            cases hok : okNames (ls ++ ns.take (k + 1)) with
            | true =>
              rw [hok, if_pos rfl] at HCY
              have HO2 := Lib.hid hok
              clear hok
              refine (HCY.out _).mono ?_
              rintro e w6 ⟨rfl, hk6⟩
              have hk7 := hk5.trans hk6
              clear hk5 hk6
              go_wp2
              go_roundw
              case rel => exact ⟨k + 1, 47 :: x, by go_num, rfl, by omega, HNEW.out.symm, HO2.out, hk7⟩
              case measure => simp [intOf]; omega
            | false =>
              have HNO := Lib.hid (HNONE.out (by rw [hok]; simp))
              rw [hok, if_neg (by simp)] at HCY
              clear hok
              refine (HCY.out _).mono ?_
              rintro e w6 ⟨rfl, hk6⟩
              have hk7 := hk5.trans hk6
              clear hk5 hk6
              go_wp2
              go_ret2
              exact ⟨by rw [HNO.out]; rfl, hk7⟩
          · have t0 : (j == [47]) = false := by simpa using hj47
            rw [if_neg (fun hx => hj47 hx.1)] at hnew
            have HNEW := Lib.hid hnew
            clear hnew hroot hj47
            generalize ns[k] = x at *
            go_wp2_with fail
            refine (HN.out _).mono ?_
            rintro e w4 ⟨rfl, hk4⟩
            have hk5 := hK.trans hk4
            clear hk4
            go_wp2_with fail
            rw [str_snoc, str_append, List.append_assoc, List.cons_append, List.nil_append]
            have hcy : chk (j ++ 47 :: x) = if okNames (ls ++ ns.take (k + 1)) = true then 0 else 20 := by rw [← HNEW.out]; exact HCK.out
            have HCY := Lib.hid (show ∀ w, _ from fun w => check_any (j ++ 47 :: x) w)
            rw [hcy] at HCY
            clear hcy
            cases hok : okNames (ls ++ ns.take (k + 1)) with
            | true =>
              rw [hok, if_pos rfl] at HCY
              have HO2 := Lib.hid hok
              clear hok
              refine (HCY.out _).mono ?_
              rintro e w6 ⟨rfl, hk6⟩
              have hk7 := hk5.trans hk6
              clear hk5 hk6
              go_wp2
              go_roundw
              case rel => exact ⟨k + 1, j ++ 47 :: x, by go_num, rfl, by omega, HNEW.out.symm, HO2.out, hk7⟩
              case measure => simp [intOf]; omega
            | false =>
              have HNO := Lib.hid (HNONE.out (by rw [hok]; simp))
              rw [hok, if_neg (by simp)] at HCY
              clear hok
              refine (HCY.out _).mono ?_
              rintro e w6 ⟨rfl, hk6⟩
              have hk7 := hk5.trans hk6
              clear hk5 hk6
              go_wp2
              go_ret2
              exact ⟨by rw [HNO.out]; rfl, hk7⟩
      · obtain rfl : k = ns.length := by omega
        rw [List.take_length] at hj hO
        have hp : joinOf l ns = some j := by rw [HP.out, if_pos hO, hj]
        have HJ := Lib.hid hp
        clear hp hj hO
        go_wp2
        go_ret2
        exact ⟨by rw [HJ.out]; rfl, hK⟩
end Go.Proofs.YtennlckfmgfjbaaGreatDoor
namespace Go.Proofs.YtennlckfmgfjbaaGreatDoor
open Go.RowKit
theorem split_sp (k : Nat) : ∀ r : List UInt8, Lib.countB ⟨r.toArray⟩ ⟨#[47]⟩ = k → Lib.splitB ⟨#[47]⟩ 0 k ⟨r.toArray⟩ = (sp r).map fun l => (⟨l.toArray⟩ : ByteArray) := by
  induction k with
  | zero =>
    intro r h
    have h1 : r.count 47 = 0 := by rw [← Lib.count_one]; exact h
    have h2 : (47 : UInt8) ∉ r := fun hm => by have := List.count_pos_iff.2 hm; omega
    rw [Lib.splitB_zero, sp_free r h2]
    rfl
  | succ k ih =>
    intro r h
    have h1 : r.count 47 = k + 1 := by rw [← Lib.count_one]; exact h
    have hc : cutC r = true := by
      have : (47 : UInt8) ∈ r := List.count_pos_iff.1 (by omega)
      simpa [cutC] using this
    have hix : Lib.indexB ⟨r.toArray⟩ ⟨#[47]⟩ = ((cutA r).length : Int) := by
      show Lib.index r [47] = _
      rw [Lib.index_one, index_cut, if_pos hc]
    have hlen := cutB_len r hc
    obtain ⟨e1, e2⟩ := cut_take r hc
    have e3 : (⟨r.toArray⟩ : ByteArray).extract ((cutA r).length + (⟨#[47]⟩ : ByteArray).size) (⟨r.toArray⟩ : ByteArray).size = ⟨(cutB r).toArray⟩ := by
      rw [str_extract, str_size, show (⟨#[47]⟩ : ByteArray).size = 1 from rfl, e2, List.take_of_length_le (by omega)]
    have hcnt := Lib.countB_hit ⟨r.toArray⟩ ⟨#[47]⟩ (cutA r).length (by decide) hix
    rw [e3, h] at hcnt
    rw [Lib.splitB_hit _ _ _ _ _ hix, e3, ih (cutB r) (by omega), sp_true r hc, List.map_cons, str_extract, Nat.add_zero, Nat.sub_zero, List.drop_zero, e1]
theorem own_baseS {w : World} {b b' : Nat} {e : TypeId} {s n : Nat} {v : Value} {xs : List Value} (h : w.ownsRow b e s v n xs) (hb : b' ≤ b) : w.ownsRow b' e s v n xs := by
  obtain ⟨h1, h2⟩ := h
  refine ⟨h1, ?_⟩
  rcases h2 with h2 | ⟨g, cap, cur, a1, a2, a3⟩
  · exact .inl h2
  · exact .inr ⟨g, cap, cur, a1, Nat.le_trans hb a2, a3⟩
theorem split_any (r : List UInt8) (m : Int) (w : World) (hm : w.cell? ⟨1, 0, none⟩ = some (.int .i64 m)) (hr : r.length ≤ 1000) :
    Calls Tryz.prog 120 #[.string ⟨r.toArray⟩, .string ⟨#[47]⟩] w fun e w' => ∃ v, e = .returned v ∧ w'.ownsRow w.heap.size 9 1 v (sp r).length (strCells (sp r)) ∧ Kept w w' := by
  refine (Tryz.strings_Split ⟨r.toArray⟩ ⟨#[47]⟩ m w (by rw [str_size]; omega) hm (by decide)).mono ?_
  rintro e w' ⟨rfl, rfl⟩
  have hs := split_sp _ r rfl
  have hl : (sp r).length = Lib.countB ⟨r.toArray⟩ ⟨#[47]⟩ + 1 := by
    have := Lib.splitB_all ⟨#[47]⟩ (by decide) 0 _ ⟨r.toArray⟩ rfl
    rw [hs, List.length_map] at this
    exact this
  refine ⟨_, rfl, ?_, (Kept.refl w).alloc _⟩
  rw [hs, ← hl]
  have hsz : (sp r).length ≤ maxLen := by
    have h1 := congrArg List.length (flat_sp r)
    have h2 : ∀ ls : List (List UInt8), ls.length ≤ (flat ls).length := by
      intro ls
      induction ls with
      | nil => simp
      | cons x t ih => rw [flat_cons]; simp; omega
    have h3 := h2 (sp r)
    simp at h1
    unfold maxLen
    omega
  have := World.ownsRow_lit (e := 9) (size := 1) (base := w.heap.size) w (strCells (sp r)).toArray (sp r).length (Nat.le_refl _) hsz (by simp [strCells_length])
  rw [show ((sp r).map fun l => (⟨l.toArray⟩ : ByteArray)).map Value.string = strCells (sp r) by simp [strCells]]
  exact this
def partsOf (l : List UInt8) : List (List UInt8) := (names l).getD []
/-- The walk's end. -/
def QDone (l : List UInt8) (w : World) (e : Ending) (w' : World) : Prop := ∃ v, e = .returned (.tuple #[v, .int .i64 (chk l)]) ∧ Txts w' v (partsOf l) ∧ Kept w w'
theorem ret_perr {v : Value} {a b : Int} (h : a = b) : Ending.returned (.tuple #[v, .int .i64 a]) = .returned (.tuple #[v, .int .i64 b]) := by rw [h]
set_option maxRecDepth 100000 in
set_option maxHeartbeats 1000000 in
theorem parts_any (l : List UInt8) (m : Int) (w : World) (hm : w.cell? ⟨1, 0, none⟩ = some (.int .i64 m)) :
    Calls Tryz.prog 93 #[.string ⟨l.toArray⟩] w (QDone l w) := by
  have HC := Lib.hid (check_any l w)
  have HM := Lib.hid hm
  clear hm
  rcases path_cases l with h | rfl | ⟨init, b, h, hfl, hb, hi, hne⟩
  · rw [chk_none h] at HC
    have HK := Lib.hid (chk_none h)
    have hp : partsOf l = [] := by unfold partsOf; rw [h]; rfl
    have HP := Lib.hid hp
    clear h hp
    go_enter Tryz.func93, Tryz.ntmps93
    go_wp2_with fail
    refine HC.out.mono ?_
    rintro e w' ⟨rfl, hk⟩
    go_wp2
    go_ret2
    exact ⟨_, ret_perr HK.out.symm, by rw [HP.out]; exact Txts.nil _, hk⟩
  · rw [chk_root] at HC
    go_enter Tryz.func93, Tryz.ntmps93
    go_wp2_with fail
    refine HC.out.mono ?_
    rintro e w' ⟨rfl, hk⟩
    go_wp2
    go_ret2
    exact ⟨_, ret_perr chk_root.symm, Txts.nil _, hk⟩
  · have HK := Lib.hid (chk_some h)
    rw [chk_some h] at HC
    have t0 : (l == [47]) = false := by simpa using hne
    have hlen := (names_len h).2
    obtain ⟨hok, hmk⟩ := names_some h
    have hp : partsOf l = sp (l.drop 1) := by
      unfold partsOf
      rw [h, hmk, mk_ne (by simp), sp_flat _ (fun x hx => isName_free ((okNames_all hok).1 x hx)) (by simp)]
      rfl
    have hpl : (partsOf l).length ≤ 8 := by unfold partsOf; rw [h]; exact (okNames_all hok).2.1
    have hps : ∀ x ∈ partsOf l, x.length ≤ 32 := by
      unfold partsOf
      rw [h]
      exact fun x hx => (isName_len ((okNames_all hok).1 x hx)).2
    have HPS := Lib.hid hps
    have hdrop : (l.drop 1).take (l.length - 1) = l.drop 1 := List.take_of_length_le (by rw [List.length_drop]; omega)
    have HT := Lib.hid hdrop
    have HP := Lib.hid hp
    have hdl : (l.drop 1).length ≤ 1000 := by rw [List.length_drop]; omega
    have h1 : 1 ≤ l.length := (names_len h).1
    clear h hfl hne hdrop hps hmk hok hp
    go_enter Tryz.func93, Tryz.ntmps93
    go_wp2_with fail
    refine HC.out.mono ?_
    rintro e w1 ⟨rfl, hk1⟩
    go_wp2_with fail
    rw [str_extract, HT.out]
    refine (split_any (l.drop 1) m _ (hk1.cell HM.out) hdl).mono ?_
    rintro e w2 ⟨v2, rfl, ho2, hk2⟩
    rw [← HP.out] at ho2
    have ho3 := own_baseS ho2 hk1.size
    have hk3 := hk1.trans hk2
    obtain ⟨A, c, hv⟩ := own_formS ho2
    subst hv
    have HO := Lib.hid ho3
    clear ho2 ho3 hk1 hk2
    have HKW := Lib.hid hk3
    clear hk3
    generalize hpp : partsOf l = ps at *
    have HPP := Lib.hid hpp
    clear hpp
    go_wp2
    go_loopw [22] (fun i W => ∃ k : Nat, i = .int .i64 (k : Int) ∧ k ≤ ps.length ∧ W.ownsRow w.heap.size 9 1 (.slice A ps.length c) ps.length (strCells ps) ∧ Kept w W) (fun i _ => ps.length - (intOf i).toNat)
    case atStart => exact ⟨0, rfl, Nat.zero_le _, HO.out, HKW.out⟩
    case round =>
      obtain ⟨k, rfl, hk, hO, hK⟩ := hrel
      by_cases hlt : k < ps.length
      · obtain ⟨g, hA, hg⟩ : ∃ g, A = some ⟨g, 0, none⟩ ∧ w.heap.size ≤ g := by
          rcases hO.2 with ⟨h', h0⟩ | ⟨g, cap, cur, h', hb', -⟩
          · omega
          · exact ⟨g, by simp at h'; exact h'.1, hb'⟩
        subst hA
        have hc0 : wr.cell? ⟨g, k, none⟩ = some (.string ⟨ps[k].toArray⟩) := by
          rw [hO.cellAt k (by omega)]
          simp [strCells, hlt]
        have hxl := HPS.out ps[k] (List.getElem_mem hlt)
        have hset : (strCells ps).set k (.string ⟨ps[k].toArray⟩) = strCells ps := by
          have e : (strCells ps)[k]'(by rw [strCells_length]; exact hlt) = .string ⟨ps[k].toArray⟩ := by simp [strCells]
          rw [← e]
          exact List.set_getElem_self _
        have HS := Lib.hid hset
        have HO1 := Lib.hid hO
        clear hset hO
        generalize ps[k] = x at *
        go_wp2_with fail
        refine (clone_any x _ (by omega)).mono ?_
        rintro e w4 ⟨rfl, hk4⟩
        have ho4 := own_keptS HO1.out hk4
        have hc4 := hk4.cell hc0
        have hf4 := ho4.frozenAt k
        have hst := (ho4.stored k (.string ⟨x.toArray⟩)).1
        rw [HS.out] at hst
        have HST := Lib.hid hst
        have hk5 : Kept w (w4.setCell ⟨g, k, none⟩ (.string ⟨x.toArray⟩)) := Below.setCell (hK.trans hk4) hg _
        have HK5 := Lib.hid hk5
        clear ho4 hst hk5 hc0
        go_wp2
        go_roundw
        case rel => exact ⟨k + 1, by go_num, by omega, HST.out, HK5.out⟩
        case measure => simp [intOf]; omega
      · obtain rfl : k = ps.length := by omega
        have HO2 := Lib.hid (Txts.of_own hO)
        clear hO
        go_wp2
        go_ret2
        exact ⟨_, ret_perr HK.out.symm, by rw [HPP.out]; exact HO2.out, hK⟩

end Go.Proofs.YtennlckfmgfjbaaGreatDoor
