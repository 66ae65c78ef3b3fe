/- The walk of one. The walk of do. -/
import Derived.Test.YtennlckfmgfjbaaGreatDoorGMRm4
import Derived.Test.YtennlckfmgfjbaaGreatDoorGMPl2
set_option linter.unusedSimpArgs false
set_option linter.unusedVariables false
namespace Go.Proofs.YtennlckfmgfjbaaGreatDoor
open Go.RowKit
section
variable {A : Nat → Prop} {w0 W : World} {wb tb : Nat} {h : Pth} {owner qn qb bad : Int} {m : WkM} {lim : Nat}
/-- What the four kinds do, as contracts. -/
structure Kinds (A : Nat → Prop) (w0 : World) (wb tb : Nat) (h : Pth) (owner qn qb bad : Int) (m : WkM) (lim : Nat) (o : OpM) (dv : Value) : Prop where
  c : ∀ W, Work A w0 W wb tb h owner qn qb bad m lim → Bts W dv o.data → Calls Tryz.prog 75 #[.pointer (some ⟨wb, 0, none⟩), opV o dv] W (OpTo A w0 wb tb h owner qn qb bad (createM owner qn qb m o) lim W)
  r : ∀ W, Work A w0 W wb tb h owner qn qb bad m lim → Calls Tryz.prog 76 #[.pointer (some ⟨wb, 0, none⟩), opV o dv] W (OpTo A w0 wb tb h owner qn qb bad (deleteM m o) lim W)
  s : ∀ W, Work A w0 W wb tb h owner qn qb bad m lim → Bts W dv o.data → Calls Tryz.prog 77 #[.pointer (some ⟨wb, 0, none⟩), opV o dv] W (OpTo A w0 wb tb h owner qn qb bad (setM qn qb m o) lim W)
  k : ∀ W, Work A w0 W wb tb h owner qn qb bad m lim → (names o.path).isSome = true → Calls Tryz.prog 78 #[.pointer (some ⟨wb, 0, none⟩), opV o dv] W (OpTo A w0 wb tb h owner qn qb bad (checkM m o) lim W)
theorem OpTo.lift {B : Nat → Prop} {r : Int × WkM} {W W' w' : World} {e : Ending} (hk : Kept W W') (hAB : ∀ g, A g → B g) (h1 : OpTo B w0 wb tb h owner qn qb bad r lim W' e w') : OpTo A w0 wb tb h owner qn qb bad r lim W e w' :=
  ⟨h1.1, h1.2.1.less hAB, (Apart.of_kept hk).trans (h1.2.2.less hAB)⟩
set_option maxRecDepth 100000 in
set_option maxHeartbeats 8000000 in
theorem one_any (k : Work A w0 W wb tb h owner qn qb bad m lim) (o : OpM) (dv : Value) (hdv : ∃ B n c, dv = .slice B n c) (hbt : Bts W dv o.data) (hK : Kinds A w0 wb tb h owner qn qb bad m lim o dv) {ml : Int} (hml : w0.cell? ⟨1, 0, none⟩ = some (.int .i64 ml)) :
    Calls Tryz.prog 53 #[.pointer (some ⟨wb, 0, none⟩), opV o dv] W (OpTo A w0 wb tb h owner qn qb bad (oneM h owner qn qb m o) lim W) := by
  have hka := (Kept.refl W).alloc (opO o dv)
  have hba := heap_alloc_new W (opO o dv)
  have HKW := Lib.hid (k.kept hka)
  have HIN := Lib.hid (within_any (k.kept hka) o dv hdv hml)
  have HK := Lib.hid hK
  have HVB := Lib.hid (show ∀ X, Kept (W.alloc (opO o dv)) X → Bts X dv o.data from fun X kX => hbt.kept (hka.trans kX))
  obtain ⟨r, hr⟩ : ∃ r, oneM h owner qn qb m o = r := ⟨_, rfl⟩
  have hr2 := hr
  rw [oneM_eq] at hr2
  have HWE := Lib.hid (withinE_eq h o)
  have HR := Lib.hid hr2
  have HNM := Lib.hid (show inE h o = 0 → (names o.path).isSome = true from fun hi => by
    unfold inE at hi
    cases hn : names o.path with
    | none => rw [hn] at hi; cases hi
    | some ls => rfl)
  rw [hr]
  have HLF := Lib.hid (fun e w' W' (k1 : Kept (W.alloc (opO o dv)) W') (h1 : OpTo A w0 wb tb h owner qn qb bad r lim W' e w') => OpTo.lift (hka.trans k1) (fun g x => x) h1)
  have HSM := Lib.hid (fun x W' (hx : r = (x, m)) (k1 : Kept (W.alloc (opO o dv)) W') => (show OpTo A w0 wb tb h owner qn qb bad r lim W (.returned (.int .i64 x)) W' from ⟨by rw [hx], by rw [hx]; exact ((k.kept hka).kept k1).more (Nat.le_succ _), Apart.of_kept (hka.trans k1)⟩))
  obtain ⟨B, dn, cd, rfl⟩ := hdv
  unfold opV at HIN ⊢
  have hopo : opO o (.slice B dn cd) = .cells #[.int .i64 o.kind, .string ⟨o.path.toArray⟩, .slice B dn cd, .int .i64 o.ver, .bool o.eph, .bool o.seq] 46 := rfl
  rw [hopo] at *
  obtain ⟨hc, hrm, hs, hck⟩ := HK.out
  have HC := Lib.hid hc
  have HRM := Lib.hid hrm
  have HS := Lib.hid hs
  have HCK := Lib.hid hck
  unfold opV at HC HRM HS HCK
  clear k hka hr hr2 hK HK hc hrm hs hck hbt
  generalize OpTo A w0 wb tb h owner qn qb bad r lim W = Q at *
  go_enter Tryz.func53, Tryz.ntmps53
  go_upto_region 1 with (fail)
  generalize W.alloc (.cells #[.int .i64 o.kind, .string ⟨o.path.toArray⟩, .slice B dn cd, .int .i64 o.ver, .bool o.eph, .bool o.seq] 46) = wa at *
  obtain ⟨kind, path, data, ver, eph, seq⟩ := o
  simp only at *
  have x0 := cell_at hba 0
  have x1 := cell_at hba 1
  have x2 := cell_at hba 2
  have x3 := cell_at hba 3
  have x4 := cell_at hba 4
  have x5 := cell_at hba 5
  simp only [List.getElem?_toArray, List.getElem?_cons_zero, List.getElem?_cons_succ] at x0 x1 x2 x3 x4 x5
  clear hba
  generalize inE h ⟨kind, path, data, ver, eph, seq⟩ = ie at *
  generalize withinE h ⟨kind, path, data, ver, eph, seq⟩ = we at *
  by_cases h1 : kind < 1
  · have t1 : decide (kind < 1) = true := decide_eq_true h1
    have hr := HR.out
    have hwe := HWE.out
    rw [if_pos (.inl h1)] at hwe
    subst hwe
    rw [if_pos (by decide)] at hr
    have HG := Lib.hid (HSM.out 80 wa hr.symm (Kept.refl wa))
    clear h1 hr
    go_wp2
    exact HG.out
  · have t1 : decide (kind < 1) = false := decide_eq_false h1
    by_cases h4 : 4 < kind
    · have t2 : decide ((4 : Int) < kind) = true := decide_eq_true h4
      have hr := HR.out
      have hwe := HWE.out
      rw [if_pos (.inr h4)] at hwe
      subst hwe
      rw [if_pos (by decide)] at hr
      have HG := Lib.hid (HSM.out 80 wa hr.symm (Kept.refl wa))
      clear h1 h4 hr
      go_wp2
      exact HG.out
    · have t2 : decide ((4 : Int) < kind) = false := decide_eq_false h4
      have hr := HR.out
      have hwe := HWE.out
      rw [if_neg (fun y => y.elim h1 h4)] at hwe
      rw [hwe] at hr
      clear hwe
      by_cases hi : ie = 0
      · subst hi
        rw [if_neg (show ¬ ((0 : Int) ≠ 0) by simp)] at hr
        by_cases k1 : kind = 1
        · have e1 : (kind == 1) = true := by simp [k1]
          rw [if_pos k1] at hr
          rw [hr] at HC
          clear hr h1 h4 k1
          go_wp2_with fail
          refine HIN.out.mono ?_
          rintro e w1 ⟨rfl, hk1⟩
          have HC1 := Lib.hid (HC.out w1 (HKW.out.kept hk1) (HVB.out _ hk1))
          have x0 := hk1.cell x0
          have x1 := hk1.cell x1
          have x2 := hk1.cell x2
          have x3 := hk1.cell x3
          have x4 := hk1.cell x4
          have x5 := hk1.cell x5
          have HK1 := Lib.hid hk1
          clear hk1
          go_wp2_with fail
          refine HC1.out.mono ?_
          intro e w2 h2
          obtain ⟨he, h3⟩ := id h2
          subst he
          have HG := Lib.hid (HLF.out _ w2 w1 HK1.out h2)
          clear h2 h3
          go_wp2
          exact HG.out
        · have e1 : (kind == 1) = false := by simpa using k1
          rw [if_neg k1] at hr
          by_cases k2 : kind = 2
          · have e2 : (kind == 2) = true := by simp [k2]
            rw [if_pos k2] at hr
            rw [hr] at HRM
            clear hr h1 h4 k1 k2
            go_wp2_with fail
            refine HIN.out.mono ?_
            rintro e w1 ⟨rfl, hk1⟩
            have HC1 := Lib.hid (HRM.out w1 (HKW.out.kept hk1))
            have x0 := hk1.cell x0
            have x1 := hk1.cell x1
            have x2 := hk1.cell x2
            have x3 := hk1.cell x3
            have x4 := hk1.cell x4
            have x5 := hk1.cell x5
            have HK1 := Lib.hid hk1
            clear hk1
            go_wp2_with fail
            refine HC1.out.mono ?_
            intro e w2 h2
            obtain ⟨he, h3⟩ := id h2
            subst he
            have HG := Lib.hid (HLF.out _ w2 w1 HK1.out h2)
            clear h2 h3
            go_wp2
            exact HG.out
          · have e2 : (kind == 2) = false := by simpa using k2
            rw [if_neg k2] at hr
            by_cases k3 : kind = 3
            · have e3 : (kind == 3) = true := by simp [k3]
              rw [if_pos k3] at hr
              rw [hr] at HS
              clear hr h1 h4 k1 k2 k3
              go_wp2_with fail
              refine HIN.out.mono ?_
              rintro e w1 ⟨rfl, hk1⟩
              have HC1 := Lib.hid (HS.out w1 (HKW.out.kept hk1) (HVB.out _ hk1))
              have x0 := hk1.cell x0
              have x1 := hk1.cell x1
              have x2 := hk1.cell x2
              have x3 := hk1.cell x3
              have x4 := hk1.cell x4
              have x5 := hk1.cell x5
              have HK1 := Lib.hid hk1
              clear hk1
              go_wp2_with fail
              refine HC1.out.mono ?_
              intro e w2 h2
              obtain ⟨he, h3⟩ := id h2
              subst he
              have HG := Lib.hid (HLF.out _ w2 w1 HK1.out h2)
              clear h2 h3
              go_wp2
              exact HG.out
            · have e3 : (kind == 3) = false := by simpa using k3
              rw [if_neg k3] at hr
              rw [hr] at HCK
              clear hr h1 h4 k1 k2 k3
              go_wp2_with fail
              refine HIN.out.mono ?_
              rintro e w1 ⟨rfl, hk1⟩
              have HC1 := Lib.hid (HCK.out w1 (HKW.out.kept hk1) (HNM.out (by first | trivial | rfl)))
              have x0 := hk1.cell x0
              have x1 := hk1.cell x1
              have x2 := hk1.cell x2
              have x3 := hk1.cell x3
              have x4 := hk1.cell x4
              have x5 := hk1.cell x5
              have HK1 := Lib.hid hk1
              clear hk1
              go_wp2_with fail
              refine HC1.out.mono ?_
              intro e w2 h2
              obtain ⟨he, h3⟩ := id h2
              subst he
              have HG := Lib.hid (HLF.out _ w2 w1 HK1.out h2)
              clear h2 h3
              go_wp2
              exact HG.out
      · have t3 : (ie != 0) = true := by rw [bne_iff_ne]; exact hi
        rw [if_pos hi] at hr
        have HG := Lib.hid (fun W' k1 => HSM.out ie W' hr.symm k1)
        clear hr h1 h4 hi
        go_wp2_with fail
        refine HIN.out.mono ?_
        rintro e w1 ⟨rfl, hk1⟩
        have HG1 := Lib.hid (HG.out w1 hk1)
        clear hk1
        go_wp2
        exact HG1.out
end
end Go.Proofs.YtennlckfmgfjbaaGreatDoor
set_option linter.unusedSimpArgs false
set_option linter.unusedVariables false
namespace Go.Proofs.YtennlckfmgfjbaaGreatDoor
open Go.RowKit
/-- What numbers work may hold behind c ops. -/
structure MildK (c : Nat) (m : WkM) : Prop where
  unL : -(100000000000000 + (c : Int)) ≤ m.un
  unH : m.un ≤ 100000000000000 + (c : Int)
  ubL : -(100000000000000000 + 1000 * (c : Int)) ≤ m.ub
  ubH : m.ub ≤ 100000000000000000 + 1000 * (c : Int)
  res : m.res.length ≤ c
  eff : m.eff.length ≤ c
theorem MildK.mild {c : Nat} {m : WkM} (h : MildK c m) (hc : c ≤ 900) : Mild m := ⟨by have := h.unL; omega, by have := h.unH; omega, by have := h.ubL; omega, by have := h.ubH; omega, by have := h.res; omega, by have := h.eff; omega⟩
theorem MildK.more {c c' : Nat} {m : WkM} (h : MildK c m) (hc : c ≤ c') : MildK c' m := ⟨by have := h.unL; omega, by have := h.unH; omega, by have := h.ubL; omega, by have := h.ubH; omega, by have := h.res; omega, by have := h.eff; omega⟩
theorem data_small {n : Nat} {t : ZT} (hb : WB n t) (p : Pth) : (dataOf t p).length ≤ 256 := by
  unfold dataOf
  cases hg : getZ p t with
  | none => exact Nat.zero_le _
  | some x => exact (hb.each _ (getZ_mem hg)).small
theorem oneM_mild {c n : Nat} {h : Pth} {owner qn qb : Int} {m : WkM} (hm : MildK c m) (hb : WB n m.t) (o : OpM) : MildK (c + 1) (oneM h owner qn qb m o).2 := by
  have h0 : MildK (c + 1) m := hm.more (Nat.le_succ _)
  obtain ⟨u1, u2, u3, u4, u5, u6⟩ := hm
  rw [oneM_eq]
  split
  · exact h0
  · split
    · unfold createM
      split
      · exact h0
      · rename_i hE
        obtain ⟨c1, c2⟩ := created_path (Decidable.not_not.1 hE)
        exact ⟨by simp only; omega, by simp only; omega, by simp only; omega, by simp only; omega, by simp only [List.length_append, List.length_singleton]; omega, by simp only [List.length_append, List.length_singleton]; omega⟩
    · split
      · unfold deleteM
        split
        · exact h0
        · rename_i hE
          have hE := Decidable.not_not.1 hE
          have hp : o.path.length ≤ 128 := by
            unfold deleteE at hE
            cases hp : parentOf o.path with
            | none => rw [hp] at hE; cases hE
            | some up => exact names_lenZ (parent_names hp).1
          have hd := data_small hb o.path
          exact ⟨by simp only; omega, by simp only; omega, by simp only; omega, by simp only; omega, by simp only [List.length_append, List.length_singleton]; omega, by simp only [List.length_append, List.length_singleton]; omega⟩
      · split
        · unfold setM
          split
          · exact h0
          · rename_i hE
            have hE := Decidable.not_not.1 hE
            have hp : o.data.length ≤ 256 := by
              unfold setE at hE
              cases hp : parentOf o.path with
              | none => rw [hp] at hE; cases hE
              | some up =>
                rw [hp] at hE
                simp only at hE
                by_cases h2 : 256 < o.data.length
                · rw [if_pos h2] at hE; cases hE
                · omega
            have hd := data_small hb o.path
            exact ⟨by simp only; omega, by simp only; omega, by simp only; omega, by simp only; omega, by simp only [List.length_append, List.length_singleton]; omega, by simp only [List.length_append, List.length_singleton]; omega⟩
        · unfold checkM
          split
          · exact h0
          · split
            · exact h0
            · exact ⟨by simp only; omega, by simp only; omega, by simp only; omega, by simp only; omega, by simp only [List.length_append, List.length_singleton]; omega, by simp only; omega⟩
/-- An op, as it lies in memory. -/
structure OpX where
  o : OpM
  dv : Value
def Ops8 (w : World) (v : Value) (xs : List OpX) : Prop :=
  ∃ A c, v = .slice A xs.length c ∧ xs.length ≤ c ∧ c ≤ maxLen ∧ (0 < xs.length → ∃ b o, A = some ⟨b, o, none⟩ ∧ ∀ k x, xs[k]? = some x →
    w.cell? ⟨b, o + k * 6, none⟩ = some (.int .i64 x.o.kind) ∧ w.cell? ⟨b, o + k * 6 + 1, none⟩ = some (.string ⟨x.o.path.toArray⟩) ∧ w.cell? ⟨b, o + k * 6 + 2, none⟩ = some x.dv ∧
    w.cell? ⟨b, o + k * 6 + 3, none⟩ = some (.int .i64 x.o.ver) ∧ w.cell? ⟨b, o + k * 6 + 4, none⟩ = some (.bool x.o.eph) ∧ w.cell? ⟨b, o + k * 6 + 5, none⟩ = some (.bool x.o.seq) ∧ Bts w x.dv x.o.data)
theorem Ops8.form {w : World} {v : Value} {xs : List OpX} (h : Ops8 w v xs) : ∃ A c, v = .slice A xs.length c ∧ xs.length ≤ c ∧ c ≤ maxLen := by
  obtain ⟨A, c, h1, h2, h3, -⟩ := h
  exact ⟨A, c, h1, h2, h3⟩
theorem Ops8.at {w : World} {A : Option Addr} {n c : Nat} {xs : List OpX} (h : Ops8 w (.slice A n c) xs) {k : Nat} (hk : k < xs.length) : ∃ b o, A = some ⟨b, o, none⟩ ∧
    w.cell? ⟨b, o + k * 6, none⟩ = some (.int .i64 xs[k].o.kind) ∧ w.cell? ⟨b, o + k * 6 + 1, none⟩ = some (.string ⟨xs[k].o.path.toArray⟩) ∧ w.cell? ⟨b, o + k * 6 + 2, none⟩ = some xs[k].dv ∧
    w.cell? ⟨b, o + k * 6 + 3, none⟩ = some (.int .i64 xs[k].o.ver) ∧ w.cell? ⟨b, o + k * 6 + 4, none⟩ = some (.bool xs[k].o.eph) ∧ w.cell? ⟨b, o + k * 6 + 5, none⟩ = some (.bool xs[k].o.seq) ∧ Bts w xs[k].dv xs[k].o.data := by
  obtain ⟨A', c', hv, -, -, h3⟩ := h
  obtain ⟨rfl, -, -⟩ : A = A' ∧ n = xs.length ∧ c = c' := by simpa using hv
  obtain ⟨b, o, e, hc⟩ := h3 (by omega)
  exact ⟨b, o, e, hc k xs[k] (by simp [hk])⟩
theorem Ops8.kept {w w' : World} {v : Value} {xs : List OpX} (h : Ops8 w v xs) (k : Kept w w') : Ops8 w' v xs := by
  obtain ⟨A, c, h1, h2, h3, h4⟩ := h
  refine ⟨A, c, h1, h2, h3, fun hp => ?_⟩
  obtain ⟨b, o, e, hc⟩ := h4 hp
  refine ⟨b, o, e, fun i x hx => ?_⟩
  obtain ⟨a0, a1, a2, a3, a4, a5, a6⟩ := hc i x hx
  exact ⟨k.cell a0, k.cell a1, k.cell a2, k.cell a3, k.cell a4, k.cell a5, a6.kept k⟩
abbrev plainO (xs : List OpX) : List OpM := xs.map OpX.o
def DoTo (A : Nat → Prop) (w0 : World) (wb tb : Nat) (h : Pth) (owner qn qb : Int) (r : Int × Int × WkM) (lim : Nat) (W : World) (e : Ending) (w' : World) : Prop :=
  e = .returned (.int .i64 r.1) ∧ Work A w0 w' wb tb h owner qn qb r.2.1 r.2.2 lim ∧ Apart A W w'
section
variable {A : Nat → Prop} {w0 W : World} {wb tb : Nat} {h : Pth} {owner qn qb bad : Int} {m : WkM} {lim : Nat}
theorem kinds_any (hm : Mild m) (o : OpM) (dv : Value) (hdv : ∃ B n c, dv = .slice B n c) (htab : TbZ w0) (hlim : lim + 2 < 4611686018427387903) : Kinds A w0 wb tb h owner qn qb bad m lim o dv :=
  ⟨fun W k hb => mcreate_any k hm o dv hb htab hlim, fun W k => mremove_any k hm o dv hdv hlim, fun W k hb => mset_any k hm o dv hb hlim, fun W k hn => mcheck_any k hm o dv hdv hn⟩
theorem doM_cons (i : Int) (w : WkM) (o : OpM) (r : List OpM) : doM h owner qn qb i w (o :: r) = if (oneM h owner qn qb w o).1 ≠ 0 then ((oneM h owner qn qb w o).1, i, (oneM h owner qn qb w o).2) else doM h owner qn qb (i + 1) (oneM h owner qn qb w o).2 r := rfl
set_option maxRecDepth 100000 in
set_option maxHeartbeats 8000000 in
theorem do_any (k : Work A w0 W wb tb h owner qn qb bad m lim) (hm : MildK 0 m) {nn : Nat} (hwf : WF m.t) (hwb : WB nn m.t) (xs : List OpX) (v : Value) (hv : ∀ X, Apart A W X → Ops8 X v xs) (hl : xs.length ≤ 16) (htab : TbZ w0) {ml : Int} (hml : w0.cell? ⟨1, 0, none⟩ = some (.int .i64 ml)) (hlim : lim + 100 < 4611686018427387903) :
    Calls Tryz.prog 21 #[.pointer (some ⟨wb, 0, none⟩), v] W (DoTo A w0 wb tb h owner qn qb (doM h owner qn qb 0 m (plainO xs)) (lim + xs.length) W) := by
  obtain ⟨B, c, rfl, hc1, hc2⟩ := (hv W (Apart.of_kept (Kept.refl W))).form
  unfold maxLen at hc2
  have HV := Lib.hid hv
  have HK := Lib.hid k
  have HM := Lib.hid hm
  have HWF := Lib.hid hwf
  have HWB := Lib.hid hwb
  have HTB := Lib.hid htab
  have HML := Lib.hid hml
  obtain ⟨r, hr⟩ : ∃ r, doM h owner qn qb 0 m (plainO xs) = r := ⟨_, rfl⟩
  rw [hr]
  have HR := Lib.hid hr
  have HQ := Lib.hid (show ∀ x bd mm lm W', Work A w0 W' wb tb h owner qn qb bd mm lm → lm ≤ lim + xs.length → Apart A W W' → (x, bd, mm) = r → DoTo A w0 wb tb h owner qn qb r (lim + xs.length) W (.returned (.int .i64 x)) W' from fun x bd mm lm W' h1 h2 h3 h4 => by subst h4; exact ⟨rfl, h1.more h2, h3⟩)
  generalize DoTo A w0 wb tb h owner qn qb r (lim + xs.length) W = Q at *
  clear k hm hwf hwb hv htab hml hr
  go_enter Tryz.func21, Tryz.ntmps21
  go_wp2
  go_loopw [10] (fun i X => ∃ (k : Nat) (m' : WkM) (bd : Int), i = .int .i64 (k : Int) ∧ k ≤ xs.length ∧ Work A w0 X wb tb h owner qn qb bd m' (lim + k) ∧ Apart A W X ∧ doM h owner qn qb (k : Int) m' ((plainO xs).drop k) = r ∧ MildK k m' ∧ WF m'.t ∧ WB (nn + k) m'.t) (fun i _ => xs.length - (intOf i).toNat)
  case atStart => exact ⟨0, m, bad, rfl, Nat.zero_le _, HK.out, Apart.of_kept (Kept.refl _), HR.out, HM.out, HWF.out, HWB.out⟩
  case round =>
    clear HK HM HWF HWB HR
    obtain ⟨k, m', bd, rfl, hk, hkw, hap, hr, hm, hwf, hwb⟩ := hrel
    have HKW := Lib.hid hkw
    have HAP := Lib.hid hap
    have HR := Lib.hid hr
    have HM := Lib.hid hm
    have HWF := Lib.hid hwf
    have HWB := Lib.hid hwb
    have HKR := Lib.hid hkw.old
    clear hkw hap hr hm hwf hwb
    by_cases hlt : k < xs.length
    · obtain ⟨b, o, rfl, a0, a1, a2, a3, a4, a5, hbt⟩ := (HV.out _ HAP.out).at hlt
      have g1 : (k : Int) < (xs.length : Int) := by omega
      have hr := HR.out
      have hdr : (plainO xs).drop k = xs[k].o :: (plainO xs).drop (k + 1) := by
        rw [List.drop_eq_getElem_cons (by simp [plainO]; exact hlt)]
        simp [plainO]
      rw [hdr, doM_cons] at hr
      have HRR := Lib.hid hr
      have HON := Lib.hid (oneM_keeps (h := h) (owner := owner) (qn := qn) (qb := qb) HWF.out HWB.out xs[k].o)
      have HOM := Lib.hid (oneM_mild (h := h) (owner := owner) (qn := qn) (qb := qb) HM.out HWB.out xs[k].o)
      have HBT := Lib.hid (show ∀ X, Apart A W X → Bts X xs[k].dv xs[k].o.data from fun X kX => ((HV.out X kX).at hlt).elim fun b1 h1 => h1.elim fun o1 h2 => h2.2.2.2.2.2.2.2)
      obtain ⟨Ad, cd, hdv⟩ := hbt.form
      rw [hdv] at a2 HBT
      clear hr hdr hbt
      generalize xs[k].o = x at *
      clear hdv
      go_upto_region 4 with (fail)
      have hKa : Kept wr (wr.alloc (opO x (.slice Ad x.data.length cd))) := (Kept.refl wr).alloc _
      have hba := heap_alloc_new wr (opO x (.slice Ad x.data.length cd))
      have hopo : opO x (.slice Ad x.data.length cd) = .cells #[.int .i64 x.kind, .string ⟨x.path.toArray⟩, .slice Ad x.data.length cd, .int .i64 x.ver, .bool x.eph, .bool x.seq] 46 := rfl
      rw [hopo] at *
      generalize wr.alloc (.cells #[.int .i64 x.kind, .string ⟨x.path.toArray⟩, .slice Ad x.data.length cd, .int .i64 x.ver, .bool x.eph, .bool x.seq] 46) = wa at *
      clear a0 a1 a2 a3 a4 a5
      have hwk := HKW.out.kept hKa
      obtain ⟨rv, ev, hblk, hnA⟩ := hwk.blk
      have y2 := cell_at hblk 2
      have f2 := frozen_at hblk 2
      have x0 := cell_at hba 0
      have x1 := cell_at hba 1
      have x2 := cell_at hba 2
      have x3 := cell_at hba 3
      have x4 := cell_at hba 4
      have x5 := cell_at hba 5
      simp only [List.getElem?_toArray, List.getElem?_cons_zero, List.getElem?_cons_succ] at x0 x1 x2 x3 x4 x5 y2
      have hwbl : wb < wr.heap.size := by
        obtain ⟨_, _, hb, -⟩ := HKW.out.blk
        exact (Array.getElem?_eq_some_iff.1 hb).1
      obtain ⟨k5, ap5⟩ := hwk.setBad (k : Int)
      have c5 : Chg (fun g => g = wb) wa (wa.setCell ⟨wb, 2, none⟩ (.int .i64 (k : Int))) := (Chg.refl _ wa).setCell _ (fun _ => rfl)
      have x0 := chg_cellS c5 x0 (fun y => by omega)
      have x1 := chg_cellS c5 x1 (fun y => by omega)
      have x2 := chg_cellS c5 x2 (fun y => by omega)
      have x3 := chg_cellS c5 x3 (fun y => by omega)
      have x4 := chg_cellS c5 x4 (fun y => by omega)
      have x5 := chg_cellS c5 x5 (fun y => by omega)
      have HAP5 := Lib.hid ((HAP.out.trans (Apart.of_kept hKa)).trans ap5)
      have HK5 := Lib.hid k5
      have HX := Lib.hid (show True ∧ True from ⟨trivial, trivial⟩)
      go_upto_region 5 with (fail)
      generalize wa.setCell ⟨wb, 2, none⟩ (.int .i64 (k : Int)) = w5 at *
      have hone := one_any HK5.out x (.slice Ad x.data.length cd) ⟨_, _, _, rfl⟩ (HBT.out _ HAP5.out) (kinds_any (HM.out.mild (by omega)) x _ ⟨_, _, _, rfl⟩ HTB.out (by omega)) HML.out
      unfold OpTo opV at hone
      have HON2 := Lib.hid hone
      clear hwk hblk y2 f2 hba k5 ap5 c5 hone hopo
      go_wp2_with fail
      refine HON2.out.mono ?_
      rintro e w6 ⟨rfl, k6, ap6⟩
      have HK6 := Lib.hid k6
      have HAP6 := Lib.hid (HAP5.out.trans ap6)
      clear k6 ap6 x0 x1 x2 x3 x4 x5
      have hrr := HRR.out
      generalize oneM h owner qn qb m' x = om at *
      obtain ⟨oe, om⟩ := om
      simp only at hrr
      by_cases he : oe = 0
      · subst he
        rw [if_neg (by simp)] at hrr
        have HR7 := Lib.hid hrr
        clear hrr
        go_wp2
        go_roundw
        case rel => exact ⟨k + 1, om, _, by go_num, by omega, HK6.out, HAP6.out, by rw [← HR7.out]; congr 1 <;> omega, HOM.out, HON.out.1, HON.out.2⟩
        case measure => simp [intOf]; omega
      · have t1 : (oe != 0) = true := by rw [bne_iff_ne]; exact he
        rw [if_pos he] at hrr
        have HG := Lib.hid (HQ.out oe _ om _ w6 HK6.out (by omega) HAP6.out hrr)
        clear hrr he
        go_wp2
        exact HG.out
    · obtain rfl : k = xs.length := by omega
      have hr := HR.out
      rw [List.drop_eq_nil_of_le (by simp [plainO])] at hr
      have hr2 : (0, -1, m') = r := hr
      obtain ⟨rv, ev, hblk, hnA⟩ := HKW.out.blk
      have y2 := cell_at hblk 2
      have f2 := frozen_at hblk 2
      simp only [List.getElem?_toArray, List.getElem?_cons_zero, List.getElem?_cons_succ] at y2
      obtain ⟨k5, ap5⟩ := HKW.out.setBad (-1)
      have HG := Lib.hid (HQ.out 0 (-1) m' _ _ k5 (by omega) (HAP.out.trans ap5) hr2)
      clear hr hr2 hblk k5 ap5
      go_wp2
      exact HG.out
end
end Go.Proofs.YtennlckfmgfjbaaGreatDoor
