/- A map of numbers by texts; what homes hold, as plain data. How often a home is asked for, what homes hold: bounds; all paths of a tree. The walk of Usage. -/
import Derived.Test.YtennlckfmgfjbaaGreatDoorGMOn2
set_option linter.unusedSimpArgs false
set_option linter.unusedVariables false
namespace Go.Proofs.YtennlckfmgfjbaaGreatDoor
open Go.RowKit
abbrev ISt := List (Pth × Int)
def toDI (st : ISt) : DataW Value := .map (st.map fun p => (.string p.1, .held (.int .i64 p.2)))
def valI (k : Pth) (st : ISt) : Int := (getZ k st).getD 0
theorem zeroIntI (w : World) : (zeroValue 3).run Tryz.prog w = .ok (.int .i64 0) w := by kernel_rfl
theorem toDI_at (k : Pth) (st : ISt) : (toDI st).atKey (.string k) (.held (.int .i64 0)) = .held (.int .i64 (valI k st)) := by
  unfold toDI DataW.atKey valI getZ
  simp only [List.find?_map]
  have e : ((fun p : Lit × DataW Value => p.1.sameKey (.string k)) ∘ fun p : Pth × Int => ((.string p.1 : Lit), (.held (.int .i64 p.2) : DataW Value))) = fun p => p.1 == k := by funext p; rfl
  rw [e]
  cases st.find? (fun p => p.1 == k) with
  | none => rfl
  | some p => rfl
theorem toDI_size (st : ISt) : Maps.size (toDI st) = st.length := by
  unfold toDI
  rw [Maps.size_eq, List.length_map]
theorem toDI_del (k : Pth) (st : ISt) : (toDI st).del (.string k) = toDI (cutZ k st) := by
  unfold toDI DataW.del cutZ
  simp only [List.filter_map]
  rfl
theorem toDI_ins (x : Pth × Int) (st : ISt) : DataW.insert ((.string x.1 : Lit), (.held (.int .i64 x.2) : DataW Value)) (st.map fun p => ((.string p.1 : Lit), (.held (.int .i64 p.2) : DataW Value))) = (insZ x st).map fun p => (.string p.1, .held (.int .i64 p.2)) := by
  induction st with
  | nil => rfl
  | cons y r ih =>
    rw [List.map_cons]
    unfold DataW.insert insZ
    by_cases hb : bytesBefore x.1 y.1 = true
    · rw [if_pos hb, if_pos (show (Lit.string x.1).before (Lit.string y.1) = true from hb)]; rfl
    · rw [if_neg hb, if_neg (show ¬ (Lit.string x.1).before (Lit.string y.1) = true from hb), List.map_cons, ih]
theorem toDI_put (k : Pth) (e : Int) (st : ISt) : (toDI st).put (.string k) (.held (.int .i64 e)) = toDI (putZ k e st) := by
  have h := toDI_del k st
  unfold toDI DataW.del at h
  simp only at h
  unfold DataW.put toDI
  simp only
  rw [show (st.map fun p => ((.string p.1 : Lit), (.held (.int .i64 p.2) : DataW Value))).filter (fun p => !p.1.sameKey (.string k)) = (cutZ k st).map fun p => ((.string p.1 : Lit), (.held (.int .i64 p.2) : DataW Value)) from by injection h]
  rw [toDI_ins (k, e)]
  rfl
def OwnsI (w : World) (mb : Nat) (st : ISt) : Prop := w.ownsMap Tryz.prog 9 rdV mb st.length (toDI st)
theorem OwnsI.tight {w : World} {mb n : Nat} {st : ISt} (h : w.ownsMap Tryz.prog 9 rdV mb n (toDI st)) : OwnsI w mb st := by
  obtain ⟨es, clock, hb, F, hs, hD⟩ := h
  refine ⟨es, clock, hb, F, ?_, hD⟩
  have : Maps.size (toDI st) = es.size := by rw [hD]; simp [Maps.size, length_sorted]
  rw [toDI_size] at this
  omega
theorem OwnsI.look {w : World} {mb : Nat} {st : ISt} (h : OwnsI w mb st) (k : Pth) (hk : k.length ≤ maxLen) : (Instr.lookup 115 (.map (some mb)) (.string ⟨k.toArray⟩) false).run Tryz.prog w = .ok (.int .i64 (valI k st)) w := by
  obtain ⟨v, ps, hrun, hv⟩ := World.ownsMap.lookup h keyLawZ Tryz.underlying115 (zeroIntI w) (zd := .held (.int .i64 0)) (zp := []) rfl (keySZ k hk)
  rw [toDI_at] at hv
  have : v = .int .i64 (valI k st) := by simpa [rdV] using congrArg (Option.map Prod.fst) hv
  rw [hrun, this]
theorem OwnsI.store {w : World} {mb : Nat} {st : ISt} (h : OwnsI w mb st) (hn : st.length < maxLen) (k : Pth) (hk : k.length ≤ maxLen) (e : Int) :
    ∃ w', (Instr.mapUpdate 115 (.map (some mb)) (.string ⟨k.toArray⟩) (.int .i64 e)).run Tryz.prog w = .ok () w' ∧ OwnsI w' mb (putZ k e st) ∧ w.grownBy w' (some mb) := by
  obtain ⟨w', hrun, h1, h2⟩ := World.ownsMap.update h keyLawZ Tryz.underlying115 hn (keySZ k hk) (val := .int .i64 e) (d := .held (.int .i64 e)) (ps := []) rfl
  rw [toDI_put k e] at h1
  exact ⟨w', hrun, OwnsI.tight h1, h2⟩
theorem OwnsI.drop {w : World} {mb : Nat} {st : ISt} (h : OwnsI w mb st) (k : Pth) (hk : k.length ≤ maxLen) (ty : TypeId) :
    ∃ w', (Builtin.delete_ #[115, 9] ty #[.map (some mb), .string ⟨k.toArray⟩]).run Tryz.prog w = .ok (.tuple #[]) w' ∧ OwnsI w' mb (cutZ k st) ∧ w.grownBy w' (some mb) := by
  obtain ⟨w', hrun, h1, h2⟩ := World.ownsMap.drop h keyLawZ Tryz.underlying115 (keySZ k hk) ty
  rw [toDI_del] at h1
  exact ⟨w', hrun, OwnsI.tight h1, h2.grown⟩
theorem OwnsI.kept {w w' : World} {mb : Nat} {st : ISt} (h : OwnsI w mb st) (k : Kept w w') : OwnsI w' mb st := map_chg h (Chg.of_kept (F := no) k) (fun x => x)
/-- How often each home is asked for. -/
def ask1 (st : ISt) (h : Pth) : ISt := putZ h (valI h st + 1) st
def asked (hs : List Pth) : ISt := cutZ [] (hs.foldl ask1 [])
def timesI (hs : List Pth) (p : Pth) : Int := valI (strO (homeOf p)) (asked hs)
/-- What they hold together. -/
def useNL (hs : List Pth) (t : ZT) : Int := (t.map fun x => timesI hs x.1).sum
def useBL (hs : List Pth) (t : ZT) : Int := (t.map fun x => timesI hs x.1 * ((x.1.length : Int) + (x.2.data.length : Int))).sum
theorem times_one (h p : Pth) : timesI [h] p = if inH h p then 1 else 0 := by
  unfold timesI asked ask1
  simp only [List.foldl_cons, List.foldl_nil]
  have e0 : putZ h (valI h [] + 1) ([] : ISt) = [(h, 1)] := rfl
  rw [e0]
  have hhome : strO (homeOf p) = match names p with | some (x :: _) => x | _ => [] := by
    unfold homeOf
    cases names p with
    | none => rfl
    | some ls => cases ls with
      | nil => rfl
      | cons x r => rfl
  rw [hhome]
  unfold inH
  cases hn : names p with
  | none =>
    simp only
    unfold valI
    rw [getZ_cut_same]
    rfl
  | some ls =>
    cases ls with
    | nil =>
      simp only
      unfold valI
      rw [getZ_cut_same]
      rfl
    | cons x r =>
      simp only
      have hx : x ≠ [] := fun e => by
        have h1 := (okNames_all (names_some hn).1).1 x (by simp)
        rw [e] at h1
        revert h1
        decide
      unfold valI
      rw [getZ_cut_other hx]
      by_cases e : x = h
      · subst e
        rw [if_pos (by simp)]
        simp [getZ]
      · rw [if_neg (by simpa using e)]
        simp [getZ, Ne.symm e]
theorem use_one (h : Pth) (t : ZT) : useNL [h] t = useN h t ∧ useBL [h] t = useB h t := by
  unfold useNL useBL useN useB sumB filt
  simp only [times_one]
  induction t with
  | nil => exact ⟨rfl, rfl⟩
  | cons x r ih =>
    obtain ⟨i1, i2⟩ := ih
    simp only [List.map_cons, List.sum_cons, List.filter_cons]
    cases inH h x.1 with
    | true =>
      simp only [if_true, List.length_cons, List.map_cons, List.sum_cons]
      rw [i1, i2]
      constructor
      · omega
      · push_cast
        omega
    | false =>
      simp only [Bool.false_eq_true, if_false]
      rw [i1, i2]
      constructor <;> omega
end Go.Proofs.YtennlckfmgfjbaaGreatDoor
set_option linter.unusedSimpArgs false
set_option linter.unusedVariables false
namespace Go.Proofs.YtennlckfmgfjbaaGreatDoor
open Go.RowKit
theorem valI_put (k : Pth) (e : Int) {st : ISt} (hs : SrtZ st) (p : Pth) : valI p (putZ k e st) = if p = k then e else valI p st := by
  unfold valI
  by_cases h : p = k
  · subst h
    rw [if_pos rfl, getZ_put_same p e st hs]
    rfl
  · rw [if_neg h, getZ_put_other h]
theorem valI_cut (k : Pth) (st : ISt) (p : Pth) : valI p (cutZ k st) = if p = k then 0 else valI p st := by
  unfold valI
  by_cases h : p = k
  · subst h
    rw [if_pos rfl, getZ_cut_same]
    rfl
  · rw [if_neg h, getZ_cut_other h]
theorem ask_fold (l : List Pth) : ∀ (st : ISt) (n : Nat), SrtZ st → st.length ≤ n → (∀ p, 0 ≤ valI p st ∧ valI p st ≤ (n : Int)) → SrtZ (l.foldl ask1 st) ∧ (l.foldl ask1 st).length ≤ n + l.length ∧ ∀ p, 0 ≤ valI p (l.foldl ask1 st) ∧ valI p (l.foldl ask1 st) ≤ ((n + l.length : Nat) : Int) := by
  induction l with
  | nil => intro st n h1 h2 h3; exact ⟨h1, h2, h3⟩
  | cons x r ih =>
    intro st n h1 h2 h3
    obtain ⟨i1, i2, i3⟩ := ih (ask1 st x) (n + 1) (srt_putZ h1) (by have := length_putZ x (valI x st + 1) st; unfold ask1; omega) (fun p => by
      unfold ask1
      rw [valI_put x _ h1]
      have := h3 p
      have := h3 x
      split <;> constructor <;> omega)
    refine ⟨i1, ?_, fun p => ?_⟩
    · simp only [List.foldl_cons, List.length_cons]; omega
    · have := i3 p
      simp only [List.foldl_cons, List.length_cons]
      constructor <;> omega
theorem ask_ok (l : List Pth) : SrtZ (l.foldl ask1 []) ∧ (l.foldl ask1 []).length ≤ l.length ∧ ∀ p, 0 ≤ valI p (l.foldl ask1 []) ∧ valI p (l.foldl ask1 []) ≤ (l.length : Int) := by
  obtain ⟨h1, h2, h3⟩ := ask_fold l [] 0 List.Pairwise.nil (Nat.zero_le _) (fun p => ⟨Int.le_refl _, Int.le_refl _⟩)
  exact ⟨h1, by omega, fun p => by have := h3 p; constructor <;> omega⟩
theorem times_ok (hs : List Pth) (p : Pth) : 0 ≤ timesI hs p ∧ timesI hs p ≤ (hs.length : Int) := by
  unfold timesI asked
  rw [valI_cut]
  have := (ask_ok hs).2.2 (strO (homeOf p))
  split <;> constructor <;> omega
theorem sum_ok {α : Type} (f : α → Int) (l : List α) (h : ∀ x ∈ l, 0 ≤ f x ∧ f x ≤ 402653184) : 0 ≤ (l.map f).sum ∧ (l.map f).sum ≤ (l.length : Int) * 402653184 := by
  induction l with
  | nil => simp
  | cons x r ih =>
    obtain ⟨i1, i2⟩ := ih (fun y hy => h y (.tail _ hy))
    have := h x (.head _)
    simp only [List.map_cons, List.sum_cons, List.length_cons]
    constructor <;> omega
/-- What is held once the first k nodes are counted. -/
def useNk (hs : List Pth) (t : ZT) (k : Nat) : Int := ((t.take k).map fun x => timesI hs x.1).sum
def useBk (hs : List Pth) (t : ZT) (k : Nat) : Int := ((t.take k).map fun x => timesI hs x.1 * ((x.1.length : Int) + (x.2.data.length : Int))).sum
theorem sum_snoc {α : Type} (f : α → Int) (l : List α) {k : Nat} (h : k < l.length) : ((l.take (k + 1)).map f).sum = ((l.take k).map f).sum + f l[k] := by
  rw [take_snoc l k h, List.map_append, List.sum_append]
  simp
theorem mul_ok {a b : Int} (h1 : 0 ≤ a) (h2 : a ≤ 1048576) (h3 : 0 ≤ b) (h4 : b ≤ 384) : 0 ≤ a * b ∧ a * b ≤ 402653184 :=
  ⟨Int.mul_nonneg h1 h3, Int.le_trans (Int.mul_le_mul h2 h4 h3 (by decide)) (by decide)⟩
theorem useNk_ok {hs : List Pth} (hn : hs.length ≤ 1048576) (t : ZT) (ht : t.length ≤ 8388608) (k : Nat) : 0 ≤ useNk hs t k ∧ useNk hs t k ≤ 3377699720527872 := by
  have h := sum_ok (fun x : Pth × ZN => timesI hs x.1) (t.take k) (fun x _ => by have := times_ok hs x.1; constructor <;> omega)
  have : (t.take k).length ≤ t.length := by rw [List.length_take]; exact Nat.min_le_right _ _
  unfold useNk
  constructor <;> omega
theorem useBk_ok {hs : List Pth} (hn : hs.length ≤ 1048576) (t : ZT) (ht : t.length ≤ 8388608) (hb : ∀ x ∈ t, x.1.length ≤ 128 ∧ x.2.data.length ≤ 256) (k : Nat) : 0 ≤ useBk hs t k ∧ useBk hs t k ≤ 3377699720527872 := by
  have h := sum_ok (fun x : Pth × ZN => timesI hs x.1 * ((x.1.length : Int) + (x.2.data.length : Int))) (t.take k) (fun x hx => by
    have h1 := times_ok hs x.1
    have h2 := hb x (List.mem_of_mem_take hx)
    exact mul_ok h1.1 (by omega) (by omega) (by omega))
  have : (t.take k).length ≤ t.length := by rw [List.length_take]; exact Nat.min_le_right _ _
  unfold useBk
  constructor <;> omega
theorem useNk_succ (hs : List Pth) (t : ZT) {k : Nat} (h : k < t.length) : useNk hs t (k + 1) = useNk hs t k + timesI hs t[k].1 := sum_snoc _ t h
theorem useBk_succ (hs : List Pth) (t : ZT) {k : Nat} (h : k < t.length) : useBk hs t (k + 1) = useBk hs t k + timesI hs t[k].1 * ((t[k].1.length : Int) + (t[k].2.data.length : Int)) := sum_snoc _ t h
theorem useNk_all (hs : List Pth) (t : ZT) : useNk hs t t.length = useNL hs t := by unfold useNk useNL; rw [List.take_length]
theorem useBk_all (hs : List Pth) (t : ZT) : useBk hs t t.length = useBL hs t := by unfold useBk useBL; rw [List.take_length]
theorem under_root {q : Pth} (h : (names q).isSome = true) : under [47] q = true := by
  obtain ⟨ls, hl⟩ := Option.isSome_iff_exists.1 h
  unfold under
  rw [hl, show names [47] = some [] by decide]
  rfl
theorem pick_root {t : ZT} (h : ∀ x ∈ t, (names x.1).isSome = true) : pickL (fun q _ => under [47] q) t = namesZ t := by
  unfold pickL namesZ
  congr 1
  exact List.filter_eq_self.2 fun x hx => under_root (h x hx)
theorem plain_facts {w : World} {tb mb : Nat} {st : ZSt} {lim : Nat} {F : Nat → Prop} (h : TreeAt w tb mb st lim F) : (∀ x ∈ plainZ st, (names x.1).isSome = true ∧ x.1.length ≤ 128 ∧ x.2.data.length ≤ 256) ∧ ∀ x ∈ plainZ st, getZ x.1 (plainZ st) = some x.2 := by
  have hs : SrtZ (plainZ st) := by
    unfold plainZ mapZ SrtZ
    rw [List.pairwise_map]
    exact h.srt
  refine ⟨fun x hx => ?_, fun x hx => mem_get hs hx⟩
  obtain ⟨y, hy, rfl⟩ := List.mem_map.1 hx
  have g := h.good y hy
  exact ⟨g.path, names_lenZ g.path, g.small⟩
end Go.Proofs.YtennlckfmgfjbaaGreatDoor
set_option linter.unusedSimpArgs false
set_option linter.unusedVariables false
namespace Go.Proofs.YtennlckfmgfjbaaGreatDoor
open Go.RowKit
theorem home_len (p : Pth) : (strO (homeOf p)).length ≤ maxLen := by
  unfold maxLen
  unfold homeOf
  cases hn : names p with
  | none => exact Nat.zero_le _
  | some ls =>
    cases ls with
    | nil => exact Nat.zero_le _
    | cons x r =>
      have h := (isName_len ((okNames_all (names_some hn).1).1 x (by simp))).2
      show x.length ≤ _
      omega
set_option maxRecDepth 100000 in
set_option maxHeartbeats 4000000 in
theorem usage_any {w : World} {tb mb : Nat} {st : ZSt} {lim : Nat} {F : Nat → Prop} (hT : TreeAt w tb mb st lim F) (hlim : lim ≤ 8000000000000) (hfew : st.length ≤ 8388608) (hs : List Pth) (v : Value) (hv : Txts w v hs) (hn : hs.length ≤ 1048576) (hl : ∀ h ∈ hs, h.length ≤ maxLen) :
    Calls Tryz.prog 20 #[.pointer (some ⟨tb, 0, none⟩), v] w fun e w' => e = .returned (.agg #[.int .i64 (useNL hs (plainZ st)), .int .i64 (useBL hs (plainZ st))]) ∧ Kept w w' := by
  have hmm := @run_makeMap Tryz.prog
  have hpl : (plainZ st).length = st.length := length_mapZ _ _
  have k1 := (Kept.refl w).alloc (.cells #[.int .i64 0, .int .i64 0] 25)
  have s1 : (w.alloc (.cells #[.int .i64 0, .int .i64 0] 25)).heap.size = w.heap.size + 1 := by simp
  have k2 := (Kept.refl (w.alloc (.cells #[.int .i64 0, .int .i64 0] 25))).alloc (.map #[] 0)
  have hq : OwnsI ((w.alloc (.cells #[.int .i64 0, .int .i64 0] 25)).alloc (.map #[] 0)) (w.heap.size + 1) [] := by
    have := World.ownsMap_made (w.alloc (.cells #[.int .i64 0, .int .i64 0] 25)) Tryz.prog 9 rdV
    rw [s1] at this
    exact this
  have hna := k2.block' (heap_alloc_new w (.cells #[.int .i64 0, .int .i64 0] 25))
  have HQ := Lib.hid hq
  have HNA := Lib.hid hna
  have HK0 := Lib.hid (k1.trans k2)
  have HT := Lib.hid hT
  have HV := Lib.hid hv
  have HHL := Lib.hid hl
  have hs2 : w.heap.size + 2 ≤ ((w.alloc (.cells #[.int .i64 0, .int .i64 0] 25)).alloc (.map #[] 0)).heap.size := by simp
  have HASK := Lib.hid (fun l => ask_ok l)
  obtain ⟨Av, cv, rfl, hv1, hv2⟩ := hv.form
  obtain ⟨pf1, pf2⟩ := plain_facts hT
  have HP1 := Lib.hid pf1
  have HP2 := Lib.hid pf2
  have HPA := Lib.hid (fun X (kX : Kept w X) => paths_any X tb mb st lim F (hT.kept kX) [47] hlim)
  have HGE := Lib.hid (fun X (kX : Kept w X) p => get_any (hT.kept kX) p)
  have HPR := Lib.hid (pick_root (t := plainZ st) (fun x hx => (pf1 x hx).1))
  unfold PathsTo at HPA
  simp only [HPR.out, show (names [47]).isSome = true by decide, if_true] at HPA
  have HNM := Lib.hid (show (namesZ (plainZ st)).length = (plainZ st).length by unfold namesZ; rw [List.length_map])
  have hfew2 : (plainZ st).length ≤ 8388608 := by omega
  clear hq hna k1 k2 hT hv hl pf1 pf2 hpl HPR
  generalize plainZ st = t at *
  go_enter Tryz.func20, Tryz.ntmps20
  go_upto_region 2 with (fail)
  rw [s1] at *
  generalize (w.alloc (.cells #[.int .i64 0, .int .i64 0] 25)).alloc (.map #[] 0) = w2 at *
  clear s1
  go_wp2
  go_loopw [22] (fun i X => ∃ k : Nat, i = .int .i64 (k : Int) ∧ k ≤ hs.length ∧ OwnsI X (w.heap.size + 1) ((hs.take k).foldl ask1 []) ∧ Chg (fun g => g = w.heap.size + 1) w2 X) (fun i _ => hs.length - (intOf i).toNat)
  case atStart => exact ⟨0, rfl, Nat.zero_le _, HQ.out, Chg.refl _ _⟩
  case round =>
    obtain ⟨k, rfl, hk, ho, hc⟩ := hrel
    have HO := Lib.hid ho
    have HC := Lib.hid hc
    have hkw : Kept w wr := Chg.kept HK0.out hc (fun g x => by omega)
    have HKW := Lib.hid hkw
    clear ho hc hkw
    by_cases hlt : k < hs.length
    · have g1 : decide ((k : Int) < (hs.length : Int)) = true := decide_eq_true (by omega)
      obtain ⟨b, o, rfl, hcell⟩ := (HV.out.kept HKW.out).at hlt
      have hh := HHL.out hs[k] (List.getElem_mem hlt)
      have hst := HASK.out (hs.take k)
      have htk := take_snoc hs k hlt
      generalize hs[k] = h at *
      have hlook := HO.out.look h hh
      obtain ⟨w4, hrun, ho4, hg4⟩ := HO.out.store (by unfold maxLen; have := hst.2.1; rw [List.length_take] at this; omega) h hh (valI h ((hs.take k).foldl ask1 []) + 1)
      have hb1 := (hst.2.2 h).1
      have hb2 := (hst.2.2 h).2
      have hb3 : (hs.take k).length ≤ 1048576 := by rw [List.length_take]; omega
      have HO4 := Lib.hid (show OwnsI w4 (w.heap.size + 1) ((hs.take (k + 1)).foldl ask1 []) by rw [htk, List.foldl_append]; exact ho4)
      have HC4 := Lib.hid (HC.out.trans (Chg.of_grown (F := fun g => g = w.heap.size + 1) hg4 (fun g hg _ => by cases hg; rfl)) (fun g _ x => x))
      clear ho4 hg4 hst htk
      generalize valI h ((hs.take k).foldl ask1 []) = vi at *
      go_wp2
      go_roundw
      case rel => exact ⟨k + 1, by go_num, by omega, HO4.out, HC4.out⟩
      case measure => simp [intOf]; omega
    · obtain rfl : k = hs.length := by omega
      have ho := HO.out
      rw [List.take_length] at ho
      obtain ⟨w4, hrun, ho4, hg4⟩ := ho.drop [] (by decide) 0
      have hrun : (Builtin.delete_ #[115, 9] 0 #[.map (some (w.heap.size + 1)), .string ⟨#[]⟩]).run Tryz.prog wr = .ok (.tuple #[]) w4 := hrun
      have hc4 := HC.out.trans (Chg.of_grown (F := fun g => g = w.heap.size + 1) hg4 (fun g hg _ => by cases hg; rfl)) (fun g _ x => x)
      have HK4 := Lib.hid (Chg.kept HK0.out hc4 (fun g x => by omega))
      have hna4 := hc4.block' HNA.out (by omega)
      have HNA4 := Lib.hid hna4
      have HO4 := Lib.hid (show OwnsI w4 (w.heap.size + 1) (asked hs) from ho4)
      have HP4 := Lib.hid (HPA.out w4 HK4.out)
      clear ho hg4 hc4 hna4 ho4
      go_wp2_with fail
      refine HP4.out.mono ?_
      rintro e w5 ⟨v5, rfl, hr5, hk5⟩
      rw [HNM.out] at hr5
      obtain ⟨A5, c5, rfl⟩ := own_form hr5
      have hka := (Kept.refl w5).alloc (.cells #[.int .i64 0, .int .i64 0] 25)
      have hs5 := hk5.size
      have hs4 := HK4.out.size
      have HLT := Lib.hid (show ∀ g, (Value.slice A5 t.length c5).ownBlock = some g → g < w5.heap.size from fun g hg => (hr5.lt g hg).2)
      have HR6 := Lib.hid (own_kept hr5 hka)
      have HK6 := Lib.hid ((HK4.out.trans hk5).trans hka)
      have HNA6 := Lib.hid ((hk5.trans hka).block' HNA4.out)
      have HO6 := Lib.hid (HO4.out.kept (hk5.trans hka))
      have HQB := Lib.hid (heap_alloc_new w5 (.cells #[.int .i64 0, .int .i64 0] 25))
      have hs6 : (w5.alloc (.cells #[.int .i64 0, .int .i64 0] 25)).heap.size = w5.heap.size + 1 := by simp
      have hw4 : w.heap.size + 2 ≤ w5.heap.size := by have := HO4.out.lt; have := hk5.size; omega
      clear hr5 hk5 hka hrun
      go_upto_region 10 with (fail)
      generalize w5.alloc (.cells #[.int .i64 0, .int .i64 0] 25) = w6 at *
      go_wp2
      go_loopw [39] (fun i X => ∃ k : Nat, i = .int .i64 (k : Int) ∧ k ≤ t.length ∧ X.heap[w5.heap.size]? = some (.cells #[.int .i64 (useNk hs t k), .int .i64 (useBk hs t k)] 25 (0, 0)) ∧ Chg (fun g => g = w5.heap.size) w6 X) (fun i _ => t.length - (intOf i).toNat)
      case atStart => exact ⟨0, rfl, Nat.zero_le _, HQB.out, Chg.refl _ _⟩
      case round =>
        obtain ⟨k, rfl, hk, hb, hc⟩ := hrel
        have HB := Lib.hid hb
        have HC2 := Lib.hid hc
        have hkw : Kept w wr := Chg.kept HK6.out hc (fun g x => by omega)
        have HKW := Lib.hid hkw
        clear hb hc hkw
        by_cases hlt : k < t.length
        · have g1 : decide ((k : Int) < (t.length : Int)) = true := decide_eq_true (by omega)
          obtain ⟨g, rfl⟩ : ∃ g, A5 = some ⟨g, 0, none⟩ := by
            rcases HR6.out.2 with ⟨e, h0⟩ | ⟨g, cap, cur, e, -⟩
            · omega
            · injection e with e1 e2 e3
              exact ⟨g, e1⟩
          have hcell6 : w6.cell? ⟨g, k, none⟩ = some (.string ⟨t[k].1.toArray⟩) := by
            have h1 := HR6.out.cells (g := g) rfl k (.string ⟨t[k].1.toArray⟩) (by unfold strCells namesZ; rw [List.getElem?_map, List.getElem?_map, List.getElem?_eq_getElem hlt]; rfl)
            have e : ((⟨g, 0, none⟩ : Addr).add k) = ⟨g, 0 + k, none⟩ := by unfold Addr.add; split <;> simp_all
            rw [e, Nat.zero_add] at h1
            exact h1
          have hcell := chg_cellS HC2.out hcell6 (by have := HLT.out g rfl; omega)
          have hmem := List.getElem_mem hlt
          have hd := HP2.out _ hmem
          have hp1 := HP1.out _ hmem
          have HSN := Lib.hid (useNk_succ hs t hlt)
          have HSB := Lib.hid (useBk_succ hs t hlt)
          have hun := useNk_ok hn t hfew2 k
          have hub := useBk_ok hn t hfew2 (fun x hx => (HP1.out x hx).2) k
          have htm := times_ok hs t[k].1
          have HGT := Lib.hid (fun X (kX : Kept w X) => HGE.out X kX t[k].1)
          have hdl : (dataOf t t[k].1).length = t[k].2.data.length := by unfold dataOf; rw [hd]
          unfold GetTo at HGT
          rw [hdl] at HGT
          have hlk := fun X (kX : Kept wr X) => OwnsI.look (OwnsI.kept (st := asked hs) (map_chg HO6.out HC2.out (fun x => by omega)) kX) (strO (homeOf t[k].1)) (home_len _)
          rw [show valI (strO (homeOf t[k].1)) (asked hs) = timesI hs t[k].1 from rfl] at hlk
          have HLK := Lib.hid hlk
          have HHM := Lib.hid (home_any t[k].1 wr)
          have hp2 := hp1.2.1
          have hp3 := hp1.2.2
          clear hlk hd hp1 hmem hcell6 hdl
          generalize timesI hs t[k].1 = tv at *
          generalize strO (homeOf t[k].1) = hm at *
          generalize errO (homeOf t[k].1) = he at *
          generalize t[k].2.data.length = dl at *
          generalize t[k].1 = p at *
          obtain ⟨nk1, hnk1⟩ : ∃ x, useNk hs t (k + 1) = x := ⟨_, rfl⟩
          obtain ⟨bk1, hbk1⟩ : ∃ x, useBk hs t (k + 1) = x := ⟨_, rfl⟩
          rw [hnk1] at HSN
          rw [hbk1] at HSB
          generalize useNk hs t k = nk at *
          generalize useBk hs t k = bk at *
          go_wp2_with fail
          refine HHM.out.mono ?_
          rintro e w7 ⟨rfl, hk7⟩
          have hlook := HLK.out w7 hk7
          have HK7 := Lib.hid hk7
          clear hk7
          by_cases htv : 0 < tv
          · have g2 : decide ((0 : Int) < tv) = true := decide_eq_true htv
            have HG7 := Lib.hid (HGT.out w7 (HKW.out.trans HK7.out))
            go_wp2_with fail
            refine HG7.out.mono ?_
            rintro e w8 ⟨A8, c8, a8, b8, d8, k8, rfl, -, hk8⟩
            have hka := hk8.trans ((Kept.refl w8).alloc (.cells #[.int .i64 a8, .int .i64 b8, .int .i64 d8, .int .i64 k8] 60))
            have hb9 := (HK7.out.trans hka).block' HB.out
            have HK9 := Lib.hid (HK7.out.trans hka)
            clear hk8 hka hlook
            go_upto_region 17 with (fail)
            generalize w8.alloc (.cells #[.int .i64 a8, .int .i64 b8, .int .i64 d8, .int .i64 k8] 60) = w9 at *
            have hm2 := mul_ok (a := tv) (b := (p.length : Int) + (dl : Int)) htm.1 (by omega) (by omega) (by omega)
            have hC1 : Chg (fun g => g = w5.heap.size) w9 (w9.setCell ⟨w5.heap.size, 0, none⟩ (.int .i64 (nk + tv))) := (Chg.refl _ w9).setCell _ (fun _ => rfl)
            have hB1 := Lib.heap_setCell_same (i := 0) hb9 (.int .i64 (nk + tv))
            have hC2 : Chg (fun g => g = w5.heap.size) w9 ((w9.setCell ⟨w5.heap.size, 0, none⟩ (.int .i64 (nk + tv))).setCell ⟨w5.heap.size, 1, none⟩ (.int .i64 (bk + tv * ((p.length : Int) + (dl : Int))))) := hC1.setCell _ (fun _ => rfl)
            have hB2 := Lib.heap_setCell_same (i := 1) hB1 (.int .i64 (bk + tv * ((p.length : Int) + (dl : Int))))
            have q0 := cell_at hb9 0
            have f0 := frozen_at hb9 0
            have q1 := cell_at hB1 1
            have f1 := frozen_at hB1 1
            simp at q0 q1
            have HB2 := Lib.hid hB2
            have HCC := Lib.hid hC2
            clear hb9 hC1 hB1 hC2 hB2
            go_wp2
            go_roundw
            case rel =>
              refine ⟨k + 1, by go_num, by omega, ?_, (HC2.out.trans (Chg.of_kept (F := fun g => g = w5.heap.size) HK9.out) (fun g _ x => x)).trans HCC.out (fun g _ x => x)⟩
              rw [hnk1, hbk1, HSN.out, HSB.out]
              simpa using HB2.out
            case measure => simp [intOf]; omega
          · have g2 : decide ((0 : Int) < tv) = false := decide_eq_false htv
            obtain rfl : tv = 0 := by omega
            go_wp2
            go_roundw
            case rel =>
              refine ⟨k + 1, by go_num, by omega, ?_, HC2.out.trans (Chg.of_kept (F := fun g => g = w5.heap.size) HK7.out) (fun g _ x => x)⟩
              rw [hnk1, hbk1, HSN.out, HSB.out]
              simpa using HK7.out.block' HB.out
            case measure => simp [intOf]; omega
        · obtain rfl : k = t.length := by omega
          have hb := HB.out
          rw [useNk_all, useBk_all] at hb
          have hna7 := HC2.out.block' HNA6.out (by omega)
          obtain ⟨un, hun⟩ : ∃ x, useNL hs t = x := ⟨_, rfl⟩
          obtain ⟨ub, hub⟩ : ∃ x, useBL hs t = x := ⟨_, rfl⟩
          rw [hun, hub] at hb
          have HUN := Lib.hid hun
          have HUB := Lib.hid hub
          clear hun hub
          have q0 := cell_at hb 0
          have q1 := cell_at hb 1
          have e0 := cell_at hna7 0
          have e1 := cell_at hna7 1
          have f0 := frozen_at hna7 0
          have f1 := frozen_at hna7 1
          simp only [List.getElem?_toArray, List.getElem?_cons_zero, List.getElem?_cons_succ] at q0 q1 e0 e1
          have h51 := Lib.heap_setCell_same (i := 0) hna7 (.int .i64 un)
          have h52 := Lib.heap_setCell_same (i := 1) h51 (.int .i64 ub)
          have hcs : Chg (fun g => g = w.heap.size) wr ((wr.setCell ⟨w.heap.size, 0, none⟩ (.int .i64 un)).setCell ⟨w.heap.size, 1, none⟩ (.int .i64 ub)) := ((Chg.refl (fun g => g = w.heap.size) wr).setCell _ (fun _ => rfl)).setCell _ (fun _ => rfl)
          have HKF := Lib.hid (Chg.kept HKW.out hcs (fun g x => by omega))
          have H52 := Lib.hid h52
          clear h51 h52 hcs hb hna7
          go_wp2
          generalize (wr.setCell ⟨w.heap.size, 0, none⟩ (.int .i64 un)).setCell ⟨w.heap.size, 1, none⟩ (.int .i64 ub) = wz at *
          have hbz : wz.heap[w.heap.size]? = some (.cells #[.int .i64 un, .int .i64 ub] 25 (0, 0)) := by simpa using H52.out
          have d0 := cell_at hbz 0
          have d1 := cell_at hbz 1
          simp only [List.getElem?_toArray, List.getElem?_cons_zero, List.getElem?_cons_succ] at d0 d1
          (try simp only [Exit.inBlock, Exit.then])
          refine bodyPost_ret (v := .agg #[.int .i64 un, .int .i64 ub]) (by simp [results, Tryz.results20, go_sem, d0, d1]) rfl ?_
          exact ⟨by rw [HUN.out, HUB.out], HKF.out⟩
end Go.Proofs.YtennlckfmgfjbaaGreatDoor
