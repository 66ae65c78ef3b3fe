/- The walks of find, above, check, ofVersion and place. The walk of place. A tree in memory behind a new node, behind a change of a node, without a node. -/
import Derived.Test.YtennlckfmgfjbaaGreatDoorQZMem
import Derived.Test.YtennlckfmgfjbaaGreatDoorGPDig2
set_option linter.unusedSimpArgs false
set_option linter.unusedVariables false
namespace Go.Proofs.YtennlckfmgfjbaaGreatDoor
open Go.RowKit
theorem names_lenZ {p : Pth} (h : (names p).isSome = true) : p.length ≤ 128 := by
  obtain ⟨ls, hls⟩ := Option.isSome_iff_exists.1 h
  obtain ⟨h1, h2⟩ := names_some hls
  obtain ⟨-, -, h3⟩ := okNames_all h1
  rw [h2]
  unfold mk
  split
  · decide
  · exact h3
theorem parent_names {p up : Pth} (h : parentOf p = some up) : (names p).isSome = true ∧ (names up).isSome = true := by
  unfold parentOf at h
  cases hn : names p with
  | none => rw [hn] at h; cases h
  | some ls =>
    rw [hn] at h
    refine ⟨rfl, ?_⟩
    by_cases e : ls = []
    · simp [e] at h
    · simp only [e, if_false, Option.some.injEq] at h
      obtain ⟨h1, -⟩ := names_some hn
      have h2 : okNames ls.dropLast = true := by
        have e2 : ls = ls.dropLast ++ [ls.getLast e] := (List.dropLast_concat_getLast e).symm
        rw [e2] at h1
        exact okNames_prefix h1
      rw [← h, names_mk_ok h2]
      rfl
theorem chk_isSome {p : Pth} (h : (names p).isSome = true) : chk p = 0 := by unfold chk; rw [if_pos h]
theorem chk_isNone {p : Pth} (h : ¬ (names p).isSome = true) : chk p = 20 := by unfold chk; rw [if_neg h]
def findE (st : ZSt) (p : Pth) : Int := if (names p).isSome then (if hasZ p st then 0 else 70) else 20
def findV (st : ZSt) (p : Pth) : Value := if findE st p = 0 then valZ p st else .pointer none
section
variable {w : World} {tb mb : Nat} {st : ZSt} {lim : Nat} {F : Nat → Prop}
set_option maxRecDepth 100000 in
set_option maxHeartbeats 1000000 in
theorem zfind_any (h : TreeAt w tb mb st lim F) (p : Pth) :
    Calls Tryz.prog 44 #[.pointer (some ⟨tb, 0, none⟩), .string ⟨p.toArray⟩] w fun e w' => e = .returned (.tuple #[findV st p, .int .i64 (findE st p)]) ∧ Kept w w' := by
  have HC := Lib.hid (check_any p w)
  unfold findV findE
  by_cases hn : (names p).isSome = true
  · have hlen := names_lenZ hn
    rw [chk_isSome hn] at HC
    rw [if_pos hn]
    have HL := Lib.hid (show ∀ W, Kept w W → _ from fun W k => (h.kept k).owns.look_ok p (by unfold maxLen; omega))
    have HC0 := Lib.hid (show ∀ W, Kept w W → _ from fun W k => (h.kept k).c0)
    clear h hn
    generalize valZ p st = vz at *
    cases hh : hasZ p st with
    | true =>
      rw [hh] at HL
      clear hh
      go_enter Tryz.func44, Tryz.ntmps44
      go_wp2_with fail
      refine HC.out.mono ?_
      rintro e w1 ⟨rfl, hk⟩
      have c0 := HC0.out w1 hk
      have hl := HL.out w1 hk
      have HK := Lib.hid hk
      clear hk
      go_wp2
      go_ret2
      exact ⟨rfl, HK.out⟩
    | false =>
      rw [hh] at HL
      clear hh
      go_enter Tryz.func44, Tryz.ntmps44
      go_wp2_with fail
      refine HC.out.mono ?_
      rintro e w1 ⟨rfl, hk⟩
      have c0 := HC0.out w1 hk
      have hl := HL.out w1 hk
      have HK := Lib.hid hk
      clear hk
      go_wp2
      go_ret2
      exact ⟨rfl, HK.out⟩
  · rw [chk_isNone hn] at HC
    rw [if_neg hn]
    clear h hn
    go_enter Tryz.func44, Tryz.ntmps44
    go_wp2_with fail
    refine HC.out.mono ?_
    rintro e w1 ⟨rfl, hk⟩
    go_wp2
    go_ret2
    exact ⟨rfl, hk⟩
theorem findE_ok {p : Pth} {e : ZE} (hn : (names p).isSome = true) (hg : getZ p st = some e) : findE st p = 0 ∧ findV st p = ptrZ e.nb := by
  have h1 : findE st p = 0 := by
    unfold findE
    rw [if_pos hn, hasZ_get, hg]
    rfl
  refine ⟨h1, ?_⟩
  unfold findV valZ
  rw [if_pos h1, hg]
  rfl
theorem findE_no {p : Pth} (hn : (names p).isSome = true) (hg : getZ p st = none) : findE st p = 70 ∧ findV st p = .pointer none := by
  have h1 : findE st p = 70 := by
    unfold findE
    rw [if_pos hn, hasZ_get, hg]
    rfl
  refine ⟨h1, ?_⟩
  unfold findV
  rw [if_neg (by rw [h1]; decide)]
theorem findE_bad {p : Pth} (hn : ¬ (names p).isSome = true) : findE st p = 20 ∧ findV st p = .pointer none := by
  have h1 : findE st p = 20 := by
    unfold findE
    rw [if_neg hn]
  refine ⟨h1, ?_⟩
  unfold findV
  rw [if_neg (by rw [h1]; decide)]
/-- above: there is no such parent. -/
theorem above_bad (h : TreeAt w tb mb st lim F) (p : Pth) (hp : parentOf p = none) :
    Calls Tryz.prog 47 #[.pointer (some ⟨tb, 0, none⟩), .string ⟨p.toArray⟩] w fun e w' => e = .returned (.tuple #[.pointer none, .int .i64 20]) ∧ Kept w w' := by
  have HP := Lib.hid (parent_any p w)
  rw [hp] at HP
  clear h hp
  go_enter Tryz.func47, Tryz.ntmps47
  go_wp2_with fail
  refine HP.out.mono ?_
  rintro e w1 ⟨rfl, hk⟩
  go_wp2
  go_ret2
  exact ⟨rfl, hk⟩
theorem above_any (h : TreeAt w tb mb st lim F) (p up : Pth) (hp : parentOf p = some up) :
    Calls Tryz.prog 47 #[.pointer (some ⟨tb, 0, none⟩), .string ⟨p.toArray⟩] w fun e w' => e = .returned (.tuple #[findV st up, .int .i64 (findE st up)]) ∧ Kept w w' := by
  have HP := Lib.hid (parent_any p w)
  rw [hp] at HP
  have HF := Lib.hid (show ∀ W, Kept w W → _ from fun W k => zfind_any (h.kept k) up)
  clear h hp
  generalize findV st up = fv at *
  generalize findE st up = fe at *
  go_enter Tryz.func47, Tryz.ntmps47
  go_wp2_with fail
  refine HP.out.mono ?_
  rintro e w1 ⟨rfl, hk⟩
  have HK := Lib.hid hk
  clear hk
  go_wp2_with fail
  refine (HF.out w1 HK.out).mono ?_
  rintro e w2 ⟨rfl, hk2⟩
  go_wp2
  go_ret2
  exact ⟨rfl, HK.out.trans hk2⟩
def zcheckE (p : Pth) (dl : Nat) : Int := if (parentOf p).isNone then 20 else if 256 < dl then 75 else 0
theorem zcheck_any (p : Pth) (data : List UInt8) (v : Value) (hv : Bts w v data) :
    Calls Tryz.prog 46 #[.string ⟨p.toArray⟩, v] w fun e w' => e = .returned (.int .i64 (zcheckE p data.length)) ∧ Kept w w' := by
  have HP := Lib.hid (parent_any p w)
  unfold zcheckE
  obtain ⟨A, c, rfl, hc1, hc2, -⟩ := hv
  unfold maxLen at hc2
  cases hp : parentOf p with
  | none =>
    rw [hp] at HP
    clear hp
    go_enter Tryz.func46, Tryz.ntmps46
    go_wp2_with fail
    refine HP.out.mono ?_
    rintro e w1 ⟨rfl, hk⟩
    go_wp2
    go_ret
    exact ⟨rfl, hk⟩
  | some up =>
    rw [hp] at HP
    clear hp
    by_cases hd : 256 < data.length
    · have t1 : decide ((256 : Int) < (data.length : Int)) = true := by simp; omega
      rw [if_neg (by simp), if_pos hd]
      clear hd
      go_enter Tryz.func46, Tryz.ntmps46
      go_wp2_with fail
      refine HP.out.mono ?_
      rintro e w1 ⟨rfl, hk⟩
      go_wp2
      go_ret
      exact ⟨rfl, hk⟩
    · have t1 : decide ((256 : Int) < (data.length : Int)) = false := by simp; omega
      rw [if_neg (by simp), if_neg hd]
      clear hd
      go_enter Tryz.func46, Tryz.ntmps46
      go_wp2_with fail
      refine HP.out.mono ?_
      rintro e w1 ⟨rfl, hk⟩
      go_wp2
      go_ret
      exact ⟨rfl, hk⟩
/-- ofVersion: there is no such node. -/
theorem ofVersion_no (h : TreeAt w tb mb st lim F) (p : Pth) (v : Int) (hf : findE st p ≠ 0) :
    Calls Tryz.prog 69 #[.pointer (some ⟨tb, 0, none⟩), .string ⟨p.toArray⟩, .int .i64 v] w fun e w' => e = .returned (.tuple #[.pointer none, .int .i64 (findE st p)]) ∧ Kept w w' := by
  have HF := Lib.hid (zfind_any h p)
  have hv : findV st p = .pointer none := by unfold findV; rw [if_neg hf]
  rw [hv] at HF
  have h2 : findE st p = 20 ∨ findE st p = 70 := by
    unfold findE at *
    by_cases h1 : (names p).isSome = true
    · rw [if_pos h1] at hf ⊢
      by_cases h2 : hasZ p st = true
      · rw [if_pos h2] at hf; exact absurd rfl hf
      · rw [if_neg h2]; exact .inr rfl
    · rw [if_neg h1]; exact .inl rfl
  clear h hv hf
  generalize findE st p = fe at *
  rcases h2 with rfl | rfl
  all_goals
    go_enter Tryz.func69, Tryz.ntmps69
    go_wp2_with fail
    refine HF.out.mono ?_
    rintro e w1 ⟨rfl, hk⟩
    go_wp2
    go_ret2
    exact ⟨rfl, hk⟩
theorem ofVersion_any (h : TreeAt w tb mb st lim F) (p : Pth) (v : Int) (e : ZE) (hn : (names p).isSome = true) (hg : getZ p st = some e) :
    Calls Tryz.prog 69 #[.pointer (some ⟨tb, 0, none⟩), .string ⟨p.toArray⟩, .int .i64 v] w fun x w' => x = .returned (.tuple #[if verOK v e.nd then ptrZ e.nb else .pointer none, .int .i64 (if verOK v e.nd then 0 else 72)]) ∧ Kept w w' := by
  have HF := Lib.hid (zfind_any h p)
  rw [(findE_ok hn hg).1, (findE_ok hn hg).2] at HF
  have HN := Lib.hid (show ∀ W, Kept w W → _ from fun W k => cell_at ((h.kept k).get hg).1.1 0)
  clear h hn hg
  unfold verOK
  obtain ⟨nb, dv, nd⟩ := e
  simp only at HF HN ⊢
  have hlt : nb < nb + 1 := by omega
  unfold ptrZ at *
  by_cases h1 : v = -1
  · subst h1
    go_enter Tryz.func69, Tryz.ntmps69
    go_wp2_with fail
    refine HF.out.mono ?_
    rintro x w1 ⟨rfl, hk⟩
    go_wp2
    go_ret2
    exact ⟨rfl, hk⟩
  · have t1 : (v == -1) = false := by simpa using h1
    have t1' : decide (v = -1) = false := by simpa using h1
    by_cases h2 : v = nd.ver
    · have t2 : (v == (nd.ver : Int)) = true := by simpa using h2
      have t2' : decide (v = (nd.ver : Int)) = true := by simpa using h2
      have t3 : (v != (nd.ver : Int)) = false := by simpa using h2
      have t4 : (v != -1) = true := by simpa using h1
      rw [t1', t2']
      simp only [Bool.false_or, if_true]
      clear h1 h2
      go_enter Tryz.func69, Tryz.ntmps69
      go_wp2_with fail
      refine HF.out.mono ?_
      rintro x w1 ⟨rfl, hk⟩
      have c0 := HN.out w1 hk
      simp only [List.getElem?_toArray, List.getElem?_cons_zero] at c0
      have HK := Lib.hid hk
      clear hk
      go_wp2
      go_ret2
      exact ⟨rfl, HK.out⟩
    · have t2 : (v == (nd.ver : Int)) = false := by simpa using h2
      have t2' : decide (v = (nd.ver : Int)) = false := by simpa using h2
      have t3 : (v != (nd.ver : Int)) = true := by simpa using h2
      have t4 : (v != -1) = true := by simpa using h1
      rw [t1', t2']
      simp only [Bool.or_self, Bool.false_eq_true, if_false]
      clear h1 h2
      go_enter Tryz.func69, Tryz.ntmps69
      go_wp2_with fail
      refine HF.out.mono ?_
      rintro x w1 ⟨rfl, hk⟩
      have c0 := HN.out w1 hk
      simp only [List.getElem?_toArray, List.getElem?_cons_zero] at c0
      have HK := Lib.hid hk
      clear hk
      go_wp2
      go_ret2
      exact ⟨rfl, HK.out⟩
end
end Go.Proofs.YtennlckfmgfjbaaGreatDoor
set_option linter.unusedSimpArgs false
set_option linter.unusedVariables false
namespace Go.Proofs.YtennlckfmgfjbaaGreatDoor
open Go.RowKit
def TbZ (w : World) : Prop := Lib.TabIs Tryz.prog w "internal/strconv.uint64pow10" .u64 Lib.pow10Tab
theorem TbZ.kept {w w' : World} (h : TbZ w) (k : Kept w w') : TbZ w' := Lib.tabBelow_of_tabIs h w' k
set_option maxRecDepth 100000 in
set_option maxHeartbeats 1000000 in
theorem place_any (e : ZE) (w : World) (p : Pth) (seq : Bool) (h : NodeAt w e) (htab : TbZ w) (hp : p.length ≤ 128) :
    Calls Tryz.prog 48 #[ptrZ e.nb, .string ⟨p.toArray⟩, .bool seq] w fun x w' => x = .returned (.tuple #[.string ⟨(placeQ e.nd p seq).2.toArray⟩, .int .i64 (placeQ e.nd p seq).1]) ∧ Kept w w' := by
  obtain ⟨nb, dv, nd⟩ := e
  have c1 := cell_at h.1 1
  have c2 := cell_at h.1 2
  simp only [List.getElem?_toArray, List.getElem?_cons_zero, List.getElem?_cons_succ] at c1 c2
  clear h
  unfold placeQ ptrZ
  simp only
  by_cases h1 : nd.own = 0
  · rw [h1] at c2
    rw [if_neg (by simp [h1])]
    by_cases h2 : 9999999999 < nd.ctr
    · have t2 : decide ((9999999999 : Int) < (nd.ctr : Int)) = true := by simp; omega
      rw [if_pos h2]
      clear h1 h2 htab
      go_enter Tryz.func48, Tryz.ntmps48
      go_wp2
      go_ret2
      exact ⟨rfl, Kept.refl _⟩
    · have t2 : decide ((9999999999 : Int) < (nd.ctr : Int)) = false := by simp; omega
      rw [if_neg h2]
      cases seq with
      | true =>
        have HS := Lib.hid (suffix_any p (nd.ctr : Int) w htab)
        simp only [if_true]
        clear h1 h2 htab
        generalize sufOf p (nd.ctr : Int) = so at *
        cases so with
        | none =>
          go_enter Tryz.func48, Tryz.ntmps48
          go_wp2_with fail
          refine HS.out.mono ?_
          rintro e w1 ⟨rfl, hk⟩
          go_wp2
          go_ret2
          exact ⟨rfl, hk⟩
        | some q =>
          go_enter Tryz.func48, Tryz.ntmps48
          go_wp2_with fail
          refine HS.out.mono ?_
          rintro e w1 ⟨rfl, hk⟩
          go_wp2
          go_ret2
          exact ⟨rfl, hk⟩
      | false =>
        have HS := Lib.hid (clone_any p w (by omega))
        simp only [Bool.false_eq_true, if_false]
        clear h1 h2 htab
        go_enter Tryz.func48, Tryz.ntmps48
        go_wp2_with fail
        refine HS.out.mono ?_
        rintro e w1 ⟨rfl, hk⟩
        go_wp2
        go_ret2
        exact ⟨rfl, hk⟩
  · have t1 : ((nd.own : Int) == 0) = false := by simpa using h1
    have t1' : ((nd.own : Int) != 0) = true := by simpa using h1
    rw [if_pos h1]
    clear h1 htab
    go_enter Tryz.func48, Tryz.ntmps48
    go_wp2
    go_ret2
    exact ⟨rfl, Kept.refl _⟩
end Go.Proofs.YtennlckfmgfjbaaGreatDoor
set_option linter.unusedSimpArgs false
set_option linter.unusedVariables false
namespace Go.Proofs.YtennlckfmgfjbaaGreatDoor
open Go.RowKit
/-- The entry at a path is another one. -/
def setZ {α : Type} (k : Pth) (e : α) (st : List (Pth × α)) : List (Pth × α) := st.map fun x => if x.1 = k then (k, e) else x
theorem names_setZ {α : Type} (k : Pth) (e : α) (st : List (Pth × α)) : namesZ (setZ k e st) = namesZ st := by
  unfold namesZ setZ
  rw [List.map_map]
  refine List.map_congr_left fun x _ => ?_
  simp only [Function.comp]
  by_cases h : x.1 = k
  · rw [if_pos h, h]
  · rw [if_neg h]
theorem srt_namesZ {α β : Type} {m : List (Pth × α)} {m' : List (Pth × β)} (h : namesZ m = namesZ m') (hs : SrtZ m) : SrtZ m' := by
  unfold SrtZ at *
  have h1 : (namesZ m).Pairwise (fun a b => bytesBefore a b = true) := List.pairwise_map.2 hs
  rw [h] at h1
  exact List.pairwise_map.1 h1
theorem length_setZ {α : Type} (k : Pth) (e : α) (st : List (Pth × α)) : (setZ k e st).length = st.length := by unfold setZ; rw [List.length_map]
theorem mem_setZ {α : Type} {k : Pth} {e : α} {st : List (Pth × α)} {p : Pth × α} (h : p ∈ setZ k e st) : p = (k, e) ∨ (p ∈ st ∧ p.1 ≠ k) := by
  obtain ⟨x, hx, rfl⟩ := List.mem_map.1 h
  by_cases e1 : x.1 = k
  · rw [if_pos e1]; exact .inl rfl
  · rw [if_neg e1]; exact .inr ⟨hx, e1⟩
theorem mapZ_setZ {α β : Type} (g : α → β) (k : Pth) (e : α) (st : List (Pth × α)) : mapZ g (setZ k e st) = setZ k (g e) (mapZ g st) := by
  unfold mapZ setZ
  rw [List.map_map, List.map_map]
  refine List.map_congr_left fun x _ => ?_
  simp only [Function.comp]
  by_cases h : x.1 = k
  · rw [if_pos h, if_pos h]
  · rw [if_neg h, if_neg h]
theorem setZ_onZ {k : Pth} {n : ZN} {t : ZT} (hs : SrtZ t) (hg : getZ k t = some n) (f : ZN → ZN) : setZ k (f n) t = onZ k f t := by
  unfold setZ onZ
  refine List.map_congr_left fun x hx => ?_
  by_cases h : x.1 = k
  · rw [if_pos h, if_pos h]
    have h2 : getZ x.1 t = some x.2 := get_of_memZ hs hx
    rw [h, hg] at h2
    injection h2 with h2
    rw [h2, h]
  · rw [if_neg h, if_neg h]
theorem toDZ_setZ {k : Pth} {e e' : ZE} {st : ZSt} (hs : SrtZ st) (hg : getZ k st = some e) (hnb : e'.nb = e.nb) : toDZ (setZ k e' st) = toDZ st := by
  unfold toDZ setZ
  rw [List.map_map]
  congr 1
  refine List.map_congr_left fun x hx => ?_
  simp only [Function.comp]
  by_cases h : x.1 = k
  · rw [if_pos h]
    have h2 : getZ x.1 st = some x.2 := get_of_memZ hs hx
    rw [h, hg] at h2
    injection h2 with h2
    rw [h, ← h2, hnb]
  · rw [if_neg h]
section
variable {w w' : World} {tb mb : Nat} {st : ZSt} {lim : Nat} {F : Nat → Prop}
theorem TreeAt.nb_ne (h : TreeAt w tb mb st lim F) {p : Pth × ZE} (hp : p ∈ st) : p.2.nb ≠ mb := by
  obtain ⟨es, clock, hb, -⟩ := h.owns
  intro e
  have := (h.nodes p hp).1
  rw [e, hb] at this
  cases this
theorem TreeAt.tb_ne (h : TreeAt w tb mb st lim F) {p : Pth × ZE} (hp : p ∈ st) : tb ≠ p.2.nb := fun e => by
  have h1 := (h.nodes p hp).1
  have h2 := h.cells
  rw [e, h1] at h2
  simp only [Option.some.injEq, Obj.cells.injEq] at h2
  exact absurd h2.2.1 (by decide)
theorem TreeAt.tb_mb (h : TreeAt w tb mb st lim F) : tb ≠ mb := fun e => by
  obtain ⟨es, clock, hb, -⟩ := h.owns
  have h2 := h.cells
  rw [e, hb] at h2
  cases h2
theorem TreeAt.dv_ne (h : TreeAt w tb mb st lim F) {p q : Pth × ZE} (hp : p ∈ st) (hq : q ∈ st) {g : Nat} (hg : p.2.dv.ownBlock = some g) : g ≠ q.2.nb := fun e => by
  obtain ⟨cur, h1⟩ := own_type (h.nodes p hp).2 hg
  have h2 := (h.nodes q hq).1
  rw [← e, h1] at h2
  simp only [Option.some.injEq, Obj.cells.injEq] at h2
  exact absurd h2.2.1 (by decide)
theorem TreeAt.dv_mb (h : TreeAt w tb mb st lim F) {p : Pth × ZE} (hp : p ∈ st) {g : Nat} (hg : p.2.dv.ownBlock = some g) : g ≠ mb := fun e => by
  obtain ⟨cur, h1⟩ := own_type (h.nodes p hp).2 hg
  obtain ⟨es, clock, hb, -⟩ := h.owns
  rw [e, hb] at h1
  cases h1
theorem TreeAt.nb_lt (h : TreeAt w tb mb st lim F) {p : Pth × ZE} (hp : p ∈ st) : p.2.nb < w.heap.size := (Array.getElem?_eq_some_iff.1 (h.nodes p hp).1).1
theorem TreeAt.inj' (h : TreeAt w tb mb st lim F) {p q : Pth × ZE} (hp : p ∈ st) (hq : q ∈ st) (hne : p ≠ q) : p.2.nb ≠ q.2.nb := by
  obtain ⟨a, b, hab⟩ := List.append_of_mem hq
  have hi := h.inj
  rw [hab] at hi hp
  rcases List.mem_append.1 hp with hp | hp
  · exact (List.pairwise_append.1 hi).2.2 p hp q (by simp)
  · rcases List.mem_cons.1 hp with hp | hp
    · exact absurd hp hne
    · exact fun e => (List.pairwise_cons.1 (List.pairwise_append.1 hi).2.1).1 p hp e.symm
/-- A new node. -/
theorem TreeAt.put (h : TreeAt w tb mb st lim F) {k : Pth} {e : ZE} (hg : getZ k st = none) (ho : OwnsZ w' mb (putZ k e st)) (c : Chg (fun g => g = mb) w w') (hN : NodeAt w' e) (hnew : w.heap.size ≤ e.nb ∧ e.nb < w'.heap.size) (hd : ∀ g, e.dv.ownBlock = some g → w.heap.size ≤ g ∧ g < w'.heap.size) (hgood : GoodN (lim + 1) k e.nd) : TreeAt w' tb mb (putZ k e st) (lim + 1) (ext F w w') := by
  have hcut : cutZ k st = st := cut_noneZ hg
  have hl := length_putZ k e st
  refine ⟨c.block' h.cells (fun x => h.tb_mb x), ho, srt_putZ h.srt, fun p hp => ?_, ?_, by have := h.few; omega, fun p hp => ?_, .inl h.inT, .inl h.inM, fun p hp => ?_, fun p hp g hg => ?_⟩
  · rcases mem_putZ hp with rfl | ⟨hp, -⟩
    · exact hN
    · exact (h.nodes p hp).chg c (h.nb_ne hp) (fun g hg => h.dv_mb hp hg)
  · refine ((put_permZ k e st).pairwise_iff (fun h => Ne.symm h)).2 (List.pairwise_cons.2 ⟨fun p hp => ?_, ?_⟩)
    · have := h.nb_lt (mem_cutZ hp).1
      have := hnew.1
      show e.nb ≠ p.2.nb
      omega
    · rw [hcut]; exact h.inj
  · rcases mem_putZ hp with rfl | ⟨hp, -⟩
    · exact hgood
    · exact (h.good p hp).more (by omega)
  · rcases mem_putZ hp with rfl | ⟨hp, -⟩
    · exact .inr hnew
    · exact .inl (h.inN p hp)
  · rcases mem_putZ hp with rfl | ⟨hp, -⟩
    · exact .inr (hd g hg)
    · exact .inl (h.inD p hp g hg)
/-- A node is another one, in its block. -/
theorem TreeAt.on (h : TreeAt w tb mb st lim F) {k : Pth} {e e' : ZE} (hg : getZ k st = some e) (hnb : e'.nb = e.nb) (hN : NodeAt w' e') (c : Chg (fun g => g = e.nb) w w') {lim' : Nat} (hl : lim ≤ lim') (hgood : GoodN lim' k e'.nd) (hd : ∀ g, e'.dv.ownBlock = some g → ext F w w' g) : TreeAt w' tb mb (setZ k e' st) lim' (ext F w w') := by
  have hm : (k, e) ∈ st := getZ_mem hg
  have hne : ∀ p ∈ st, p.1 ≠ k → p.2.nb ≠ e.nb := fun p hp hk => h.inj' hp hm (fun x => hk (by rw [x]))
  have hlen := length_setZ k e' st
  refine ⟨c.block' h.cells (h.tb_ne hm), ?_, srt_namesZ (names_setZ k e' st).symm h.srt, fun p hp => ?_, ?_, by have := h.few; omega, fun p hp => ?_, .inl h.inT, .inl h.inM, fun p hp => ?_, fun p hp g hg => ?_⟩
  · unfold OwnsZ
    rw [toDZ_setZ h.srt hg hnb, hlen]
    exact map_chg h.owns c (fun x => h.nb_ne hm x.symm)
  · rcases mem_setZ hp with rfl | ⟨hp, hk⟩
    · exact hN
    · exact (h.nodes p hp).chg c (hne p hp hk) (fun g hg => h.dv_ne hp hm hg)
  · unfold setZ
    rw [List.pairwise_map]
    refine h.inj.imp_of_mem fun {a b} ha hb hab => ?_
    have key : ∀ x ∈ st, (if x.1 = k then (k, e') else x).2.nb = x.2.nb := fun x hx => by
      by_cases e1 : x.1 = k
      · rw [if_pos e1]
        have h2 : getZ x.1 st = some x.2 := get_of_memZ h.srt hx
        rw [e1, hg] at h2
        injection h2 with h2
        rw [← h2]
        exact hnb
      · rw [if_neg e1]
    rw [key a ha, key b hb]
    exact hab
  · rcases mem_setZ hp with rfl | ⟨hp, -⟩
    · exact hgood
    · exact (h.good p hp).more hl
  · rcases mem_setZ hp with rfl | ⟨hp, -⟩
    · show ext F w w' e'.nb
      rw [hnb]
      exact .inl (h.inN _ hm)
    · exact .inl (h.inN p hp)
  · rcases mem_setZ hp with rfl | ⟨hp, -⟩
    · exact hd g hg
    · exact .inl (h.inD p hp g hg)
/-- Without a node. -/
theorem TreeAt.cut (h : TreeAt w tb mb st lim F) {k : Pth} (ho : OwnsZ w' mb (cutZ k st)) (c : Chg (fun g => g = mb) w w') : TreeAt w' tb mb (cutZ k st) lim F := by
  have hl := length_cutZ k st
  exact ⟨c.block' h.cells (fun x => h.tb_mb x), ho, srt_cutZ h.srt, fun p hp => (h.nodes p (mem_cutZ hp).1).chg c (h.nb_ne (mem_cutZ hp).1) (fun g hg => h.dv_mb (mem_cutZ hp).1 hg), h.inj.filter _, by have := h.few; omega, fun p hp => h.good p (mem_cutZ hp).1, h.inT, h.inM, fun p hp => h.inN p (mem_cutZ hp).1, fun p hp => h.inD p (mem_cutZ hp).1⟩
end
end Go.Proofs.YtennlckfmgfjbaaGreatDoor
