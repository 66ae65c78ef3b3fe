/- A snapshot's names as lists of bytes, its manifest, and what saving and loading make of a disk's files. No program in it. What a saved snapshot is behind a crash, and behind a later one, in plain lists. No program in it. -/
import Derived.Lib.ItoaLen
import Derived.Lib.AtoiAll
import Derived.Test.YtngbgngfdklnlaaGreatDoorGFrSpec7
import Derived.Test.YtngbgngfdklnlaaGreatDoorQRdr
import Derived.Test.YtngbgngfdklnlaaGreatDoorQWKit
set_option linter.unusedSimpArgs false
set_option linter.unusedVariables false
namespace Go.Proofs.YtngbgngfdklnlaaGreatDoor
def manN (nm : Nm) : Nm := nm ++ [46, 109, 97, 110]
def tmpN (nm : Nm) : Nm := nm ++ [46, 116, 109, 112]
def sN (nm : Nm) : Nm := nm ++ [46, 115]
def datN (nm : Nm) (n : Nat) : Nm := nm ++ [46, 115] ++ Lib.decDigits n
/-! ### digits -/
theorem dec_ne (n : Nat) : Lib.decDigits n ≠ [] := by
  rw [Lib.decDigits]
  split <;> simp
theorem dec_digit (n : Nat) : ∀ c ∈ Lib.decDigits n, 48 ≤ c.toNat ∧ c.toNat ≤ 57 := by
  induction n using Nat.strongRecOn with
  | _ n ih =>
    intro c hc
    rw [Lib.decDigits] at hc
    split at hc
    · rw [List.mem_singleton] at hc
      subst hc
      rw [UInt8.toNat_ofNat']
      omega
    · rw [List.mem_append, List.mem_singleton] at hc
      rcases hc with hc | rfl
      · exact ih (n / 10) (by omega) c hc
      · rw [UInt8.toNat_ofNat']
        omega
theorem dec_len (n : Nat) (h : n ≤ 4611686018427387903) : (Lib.decDigits n).length ≤ 20 := by
  rw [Lib.decDigits_length]
  exact Lib.nDigits_le20 n (by omega)
theorem puint_snoc (l : List UInt8) : ∀ acc u d : Nat, acc < 18446744073709551616 → d < 10 → Lib.parseUint10 acc l = .ok u → u * 10 + d < 18446744073709551616 → Lib.parseUint10 acc (l ++ [UInt8.ofNat (48 + d)]) = .ok (u * 10 + d) := by
  have hb : ∀ d : Nat, d < 10 → (UInt8.ofNat (48 + d)).toNat = 48 + d := fun d hd => by rw [UInt8.toNat_ofNat']; omega
  induction l with
  | nil =>
    intro acc u d _ hd h hu
    simp only [Lib.parseUint10, Lib.NumEnd.ok.injEq] at h
    subst h
    simp only [List.nil_append, Lib.parseUint10, hb d hd]
    rw [if_pos (by omega), if_neg (by omega), if_neg (by omega)]
    congr 1
    omega
  | cons c r ih =>
    intro acc u d ha hd h hu
    simp only [List.cons_append, Lib.parseUint10] at h ⊢
    split at h
    · rename_i h1
      rw [if_pos h1]
      split at h
      · cases h
      · rename_i h2
        rw [if_neg h2]
        split at h
        · cases h
        · rename_i h3
          rw [if_neg h3]
          exact ih _ u d (by omega) hd h hu
    · cases h
theorem puint_dec (n : Nat) (h : n ≤ 4611686018427387903) : Lib.parseUint10 0 (Lib.decDigits n) = .ok n := by
  induction n using Nat.strongRecOn with
  | _ n ih =>
    rw [Lib.decDigits]
    split
    · rename_i hs
      have := puint_snoc [] 0 0 n (by omega) hs rfl (by omega)
      simpa using this
    · rename_i hs
      have := puint_snoc (Lib.decDigits (n / 10)) 0 (n / 10) (n % 10) (by omega) (by omega) (ih (n / 10) (by omega) (by omega)) (by omega)
      rw [this]
      congr 1
      omega
theorem atoi_dec (n : Nat) (h : n ≤ 4611686018427387903) : Lib.atoiAll (Lib.decDigits n) = .ok (n : Int) := by
  have h1 := puint_dec n h
  have h2 := dec_digit n
  cases hd : Lib.decDigits n with
  | nil => exact absurd hd (dec_ne n)
  | cons c r =>
    rw [hd] at h1 h2
    have hc := h2 c (by simp)
    unfold Lib.atoiAll
    simp only
    rw [if_neg (by omega)]
    unfold Lib.parseMag
    rw [if_neg (by simp), h1]
    simp only
    rw [if_neg (by omega), if_neg (by omega), if_neg (by omega)]
theorem dec_inj {n m : Nat} (hn : n ≤ 4611686018427387903) (hm : m ≤ 4611686018427387903) (h : Lib.decDigits n = Lib.decDigits m) : n = m := by
  have h1 := puint_dec n hn
  have h2 := puint_dec m hm
  rw [h, h2] at h1
  injection h1 with h1
  exact h1.symm
/-! ### names -/
theorem datN_eq (nm : Nm) (n : Nat) : datN nm n = sN nm ++ Lib.decDigits n := rfl
theorem datN_inj {nm : Nm} {n m : Nat} (hn : n ≤ 4611686018427387903) (hm : m ≤ 4611686018427387903) (h : datN nm n = datN nm m) : n = m := dec_inj hn hm (by unfold datN at h; exact List.append_cancel_left h)
theorem man_tmp (nm : Nm) : manN nm ≠ tmpN nm := by
  intro h
  have := List.append_cancel_left h
  simp at this
theorem man_dat (nm : Nm) (n : Nat) : manN nm ≠ datN nm n := by
  intro h
  unfold manN datN at h
  rw [List.append_assoc] at h
  have := List.append_cancel_left h
  simp at this
theorem tmp_dat (nm : Nm) (n : Nat) : tmpN nm ≠ datN nm n := by
  intro h
  unfold tmpN datN at h
  rw [List.append_assoc] at h
  have := List.append_cancel_left h
  simp at this
/-- Is it a log's name? -/
def goodL (nm : Nm) : Bool := okN nm && (decide (nm.length ≤ 12) && !nm.contains 46)
theorem okN_app {a b : Nm} (h : okN a = true) (hl : a.length ≤ 12) (hb : b.length ≤ 28) (hc : ∀ c ∈ b, okC c = true) : okN (a ++ b) = true := by
  unfold okN at h ⊢
  simp only [Bool.and_eq_true, decide_eq_true_eq, List.length_append, List.all_append, List.all_eq_true] at h ⊢
  exact ⟨⟨by omega, by omega⟩, h.2, hc⟩
theorem goodL_ok {nm : Nm} (h : goodL nm = true) : okN nm = true ∧ nm.length ≤ 12 := by
  unfold goodL at h
  simp only [Bool.and_eq_true, decide_eq_true_eq] at h
  exact ⟨h.1, h.2.1⟩
theorem okN_man {nm : Nm} (h : goodL nm = true) : okN (manN nm) = true := okN_app (goodL_ok h).1 (goodL_ok h).2 (by simp) (by decide)
theorem okN_tmp {nm : Nm} (h : goodL nm = true) : okN (tmpN nm) = true := okN_app (goodL_ok h).1 (goodL_ok h).2 (by simp) (by decide)
theorem okC_dec (n : Nat) : ∀ c ∈ Lib.decDigits n, okC c = true := by
  intro c hc
  have := dec_digit n c hc
  unfold okC
  simp only [Bool.or_eq_true, Bool.and_eq_true, decide_eq_true_eq]
  exact .inl (.inl (.inr this))
theorem okN_dat {nm : Nm} (h : goodL nm = true) (n : Nat) (hn : n ≤ 4611686018427387903) : okN (datN nm n) = true := by
  unfold datN
  rw [List.append_assoc]
  refine okN_app (goodL_ok h).1 (goodL_ok h).2 (by have := dec_len n hn; simp; omega) ?_
  intro c hc
  rw [List.mem_append] at hc
  rcases hc with hc | hc
  · revert c; decide
  · exact okC_dec n c hc
open Classical in
/-- Is it the name of a data file? -/
noncomputable def isDat (nm f : Nm) : Bool := decide (∃ n : Nat, n ≤ 4611686018427387903 ∧ f = datN nm n)
theorem isDat_dat (nm : Nm) (n : Nat) (h : n ≤ 4611686018427387903) : isDat nm (datN nm n) = true := by
  unfold isDat
  rw [decide_eq_true_eq]
  exact ⟨n, h, rfl⟩
theorem isDat_man (nm : Nm) : isDat nm (manN nm) = false := by
  unfold isDat
  rw [decide_eq_false_iff_not]
  rintro ⟨n, -, h⟩
  exact man_dat nm n h
/-! ### the manifest -/
/-- A payload's three numbers, what is left behind them, and the error. -/
def three (p : List UInt8) : Nat × Nat × Nat × List UInt8 × Int :=
  ((rn p 0).1, (rn (p.drop (rn p 0).2.1) (rn p 0).2.2).1,
   (rn ((p.drop (rn p 0).2.1).drop (rn (p.drop (rn p 0).2.1) (rn p 0).2.2).2.1) (rn (p.drop (rn p 0).2.1) (rn p 0).2.2).2.2).1,
   ((p.drop (rn p 0).2.1).drop (rn (p.drop (rn p 0).2.1) (rn p 0).2.2).2.1).drop (rn ((p.drop (rn p 0).2.1).drop (rn (p.drop (rn p 0).2.1) (rn p 0).2.2).2.1) (rn (p.drop (rn p 0).2.1) (rn p 0).2.2).2.2).2.1,
   (rn ((p.drop (rn p 0).2.1).drop (rn (p.drop (rn p 0).2.1) (rn p 0).2.2).2.1) (rn (p.drop (rn p 0).2.1) (rn p 0).2.2).2.2).2.2)
/-- A manifest's stamp. -/
def parseM (b : List UInt8) : Option (Nat × Nat × Nat) :=
  if (unAt b 0).2.2 = 0 ∧ (unAt b 0).2.1 = (b.length : Int) then
    (if (three (unAt b 0).1).2.2.2.2 = 0 ∧ (three (unAt b 0).1).2.2.2.1 = [] then some ((three (unAt b 0).1).1, (three (unAt b 0).1).2.1, (three (unAt b 0).1).2.2.1) else none)
  else none
def manB (n l s : Nat) : List UInt8 := frameOf (put n ++ (put l ++ put s))
theorem rn_put (n : Nat) (h : n ≤ 4611686018427387903) (s : List UInt8) : rn (put n ++ s) 0 = (n, (put n).length, 0) := by
  unfold rn
  rw [if_pos rfl, numOf_put n h s]
  rfl
theorem three_put (n l s : Nat) (hn : n ≤ 4611686018427387903) (hl : l ≤ 4611686018427387903) (hs : s ≤ 4611686018427387903) : three (put n ++ (put l ++ put s)) = (n, l, s, [], 0) := by
  have h3 := rn_put s hs []
  rw [List.append_nil] at h3
  unfold three
  rw [rn_put n hn, List.drop_left, rn_put l hl, List.drop_left, h3, List.drop_length]
theorem manB_len (n l s : Nat) : (manB n l s).length ≤ 35 := by
  unfold manB
  rw [frameOf_len, List.length_append, List.length_append]
  have := put_len n
  have := put_len l
  have := put_len s
  omega
theorem parse_man (n l s : Nat) (hn : n ≤ 4611686018427387903) (hl : l ≤ 4611686018427387903) (hs : s ≤ 4611686018427387903) : parseM (manB n l s) = some (n, l, s) := by
  have hlen : (put n ++ (put l ++ put s)).length ≤ 65536 := by
    rw [List.length_append, List.length_append]
    have := put_len n
    have := put_len l
    have := put_len s
    omega
  have h := unAt_frame [] [] (put n ++ (put l ++ put s)) hlen
  rw [List.nil_append, List.append_nil] at h
  have h : unAt (manB n l s) 0 = _ := h
  unfold parseM
  rw [h]
  simp only
  rw [three_put n l s hn hl hs]
  simp only
  rw [if_pos ⟨trivial, by unfold manB; rw [frameOf_len]; simp⟩, if_pos ⟨trivial, trivial⟩]
theorem parseM_le {b : List UInt8} {n l s : Nat} (h : parseM b = some (n, l, s)) : n ≤ 4611686018427387903 ∧ l ≤ 4611686018427387903 ∧ s ≤ 4611686018427387903 := by
  have hr : ∀ p e, (rn p e).1 ≤ 4611686018427387903 := by
    intro p e
    rcases rn_cases p e with ⟨x, h, -⟩ | ⟨-, m, c, h, -, -, h2⟩
    · rw [h]; exact Nat.zero_le _
    · rw [h]; exact h2
  unfold parseM at h
  split at h
  · split at h
    · injection h with h
      injection h with h1 h2
      injection h2 with h2 h3
      subst h1; subst h2; subst h3
      exact ⟨hr _ _, hr _ _, hr _ _⟩
    · cases h
  · cases h
/-! ### what is loaded -/
/-- The data that a stamp was made of. -/
def fitS (m : Nat × Nat × Nat) (b : List UInt8) : Bool := decide (b.length = m.2.1) && decide (crc b = m.2.2)
def newS (nm : Nm) (fs : Fls) : Option (Nat × Nat × Nat) := (getA (manN nm) fs).bind fun f => parseM f.1
def datS (nm : Nm) (m : Nat × Nat × Nat) (fs : Fls) : Option (List UInt8) := (getA (datN nm m.1) fs).bind fun f => if fitS m f.1 then some f.1 else none
def loadS (nm : Nm) (fs : Fls) : Option (Nat × List UInt8) := (newS nm fs).bind fun m => (datS nm m fs).map fun b => (m.1, b)
/-- Is there a good manifest with this number or a higher one? -/
def reachS (nm : Nm) (n : Nat) (fs : Fls) : Bool := match loadS nm fs with
  | some (m, _) => decide (n ≤ m)
  | none => false
/-! ### what is saved -/
def dropF (p : Nm → Bool) (fs : Fls) : Fls := fs.filter fun f => !p f.1
theorem dropF_good {fs : Fls} (h : Good fs) (p : Nm → Bool) : Good (dropF p fs) := ⟨List.Pairwise.filter _ h.1, fun q hq => h.2 q ((List.mem_filter.1 hq).1)⟩
theorem cut_dropF (k : Nm) (fs : Fls) : cutA k fs = dropF (fun x => x == k) fs := rfl
theorem remS_drop (ls : List Nm) (fs : Fls) : remS ls fs = dropF (fun x => ls.contains x) fs := by
  unfold remS
  induction ls generalizing fs with
  | nil => exact (List.filter_eq_self.2 (fun _ _ => rfl)).symm
  | cons k r ih =>
    rw [List.foldl_cons, ih]
    unfold rem1 cutA dropF
    rw [List.filter_filter]
    congr 1
    funext f
    simp only [List.contains_cons, Bool.not_or]
    rw [Bool.and_comm]
theorem rem_names (p : Nm → Bool) (fs : Fls) : remS ((namesA fs).filter p) fs = dropF p fs := by
  rw [remS_drop]
  unfold dropF
  apply List.filter_congr
  intro f hf
  congr 1
  have hm : f.1 ∈ namesA fs := List.mem_map.2 ⟨f, hf, rfl⟩
  rw [Bool.eq_iff_iff, List.contains_iff_mem, List.mem_filter]
  exact ⟨fun h => h.2, fun h => ⟨hm, h⟩⟩
theorem hasA_mem {fs : Fls} {k : Nm} (h : k ∈ namesA fs) : hasA k fs = true := by
  unfold hasA
  rw [List.any_eq_true]
  obtain ⟨f, hf, rfl⟩ := List.mem_map.1 h
  exact ⟨f, hf, by simp⟩
theorem all_names {fs : Fls} (h : Good fs) (p : Nm → Bool) : allS ((namesA fs).filter p) fs = 0 := by
  unfold allS
  rw [if_neg, if_neg]
  · rw [Bool.not_eq_false, List.all_eq_true]
    exact fun k hk => hasA_mem ((List.mem_filter.1 hk).1)
  · rw [Bool.not_eq_false, List.all_eq_true]
    intro k hk
    obtain ⟨f, hf, rfl⟩ := List.mem_map.1 ((List.mem_filter.1 hk).1)
    exact (h.2 f hf).1
/-- Behind the removing of a data file and of a manifest that doesn't count. -/
def sav1 (nm : Nm) (n : Nat) (fs : Fls) : Fls := dropF (fun x => [datN nm n, tmpN nm].contains x) fs
def man1 (n : Nat) (b : List UInt8) : List UInt8 := manB n b.length (crc b)
def sav3 (nm : Nm) (n : Nat) (b : List UInt8) (fs : Fls) : Fls := appS (tmpN nm) (man1 n b) (appS (datN nm n) b (sav1 nm n fs))
noncomputable def sav5 (nm : Nm) (n : Nat) (b : List UInt8) (fs : Fls) : Fls :=
  dropF (fun x => !(x == datN nm n) && isDat nm x) (renS (tmpN nm) (manN nm) (syncS [datN nm n, tmpN nm] (sav3 nm n b fs)))
/-- Save's error, and the files behind it, where name, number and data may be saved. -/
noncomputable def saveT (cap : Nat) (nm : Nm) (n : Nat) (b : List UInt8) (fs : Fls) : Int × Fls :=
  if reachS nm n fs then (41, fs)
  else if cap < used (sav1 nm n fs) + b.length then (32, sav1 nm n fs)
  else if cap < used (appS (datN nm n) b (sav1 nm n fs)) + (man1 n b).length then (32, cutA (datN nm n) (appS (datN nm n) b (sav1 nm n fs)))
  else (0, sav5 nm n b fs)
noncomputable def saveS (cap : Nat) (nm : Nm) (n : Int) (b : List UInt8) (fs : Fls) : Int × Fls :=
  if goodL nm = false then (40, fs)
  else if n < 0 ∨ 4611686018427387903 < n then (10, fs)
  else if 1048576 < b.length then (14, fs)
  else saveT cap nm n.toNat b fs
end Go.Proofs.YtngbgngfdklnlaaGreatDoor
set_option linter.unusedSimpArgs false
set_option linter.unusedVariables false
namespace Go.Proofs.YtngbgngfdklnlaaGreatDoor
theorem getA_drop (p : Nm → Bool) (k : Nm) (fs : Fls) : getA k (dropF p fs) = if p k then none else getA k fs := by
  unfold getA dropF
  induction fs with
  | nil => simp
  | cons f r ih =>
    rw [List.filter_cons, List.find?_cons]
    by_cases h : f.1 = k
    · subst h
      by_cases hp : p f.1 = true
      · rw [if_neg (by simp [hp]), ih, if_pos hp, if_pos hp]
      · rw [if_pos (by simp [hp]), if_neg hp, List.find?_cons]
        simp
    · have hb : (f.1 == k) = false := by simpa using h
      rw [hb]
      simp only
      by_cases hp : p f.1 = true
      · rw [if_neg (by simp [hp]), ih]
      · rw [if_pos (by simp [hp]), List.find?_cons, hb]
        simp only
        exact ih
theorem getA_crash (cuts : List Int) (k : Nm) (f : List UInt8) (fs : Fls) (h : getA k fs = some (f, f.length)) : getA k (crashS cuts fs) = some (f, f.length) := by
  induction fs generalizing cuts with
  | nil => cases h
  | cons p r ih =>
    obtain ⟨j, g⟩ := p
    unfold getA at h
    rw [List.find?_cons] at h
    by_cases hj : j = k
    · subst hj
      simp only [beq_self_eq_true, Option.map_some, Option.some.injEq] at h
      subst h
      simp [crashS, getA]
    · have hb : (j == k) = false := by simpa using hj
      rw [hb] at h
      have ih' := fun c => ih c h
      have step : ∀ (g' : Fl) (c : List Int), getA k ((j, g') :: crashS c r) = some (f, f.length) := fun g' c => by
        unfold getA
        rw [List.find?_cons, hb]
        exact ih' c
      simp only [crashS]
      split
      · exact step _ _
      · exact step _ _
/-- The snapshot stands, and is safe. -/
def safeS (nm : Nm) (n : Nat) (b : List UInt8) (fs : Fls) : Prop := getA (manN nm) fs = some (man1 n b, (man1 n b).length) ∧ getA (datN nm n) fs = some (b, b.length)
theorem safeS.load {nm : Nm} {n : Nat} {b : List UInt8} {fs : Fls} (h : safeS nm n b fs) (hn : n ≤ 4611686018427387903) (hb : b.length ≤ 1048576) (hc : crc b ≤ 4611686018427387903) : loadS nm fs = some (n, b) := by
  unfold loadS newS
  rw [h.1]
  simp only [Option.bind_some]
  unfold man1
  rw [parse_man n b.length (crc b) hn (by omega) hc]
  simp only [Option.bind_some]
  unfold datS
  simp only
  rw [h.2]
  simp [fitS]
theorem safeS.crash {nm : Nm} {n : Nat} {b : List UInt8} {fs : Fls} (h : safeS nm n b fs) (cuts : List Int) : safeS nm n b (crashS cuts fs) := ⟨getA_crash cuts _ _ fs h.1, getA_crash cuts _ _ fs h.2⟩
theorem safeS.reach {nm : Nm} {n : Nat} {b : List UInt8} {fs : Fls} (h : safeS nm n b fs) (hn : n ≤ 4611686018427387903) (hb : b.length ≤ 1048576) (hc : crc b ≤ 4611686018427387903) (k : Nat) : reachS nm k fs = decide (k ≤ n) := by
  unfold reachS
  rw [h.load hn hb hc]
theorem Good.app {fs : Fls} (h : Good fs) {k : Nm} (b : List UInt8) (hk : okN k = true) : Good (appS k b fs) := by
  unfold appS
  refine h.put hk ?_
  have := h.getD k
  simp only [List.length_append]
  omega
theorem Good.ren {fs : Fls} (h : Good fs) {a c : Nm} (hc : okN c = true) : Good (renS a c fs) := by
  unfold renS
  split
  · exact h
  · exact (h.put hc (h.getD a)).cut a
theorem getA_app_same {fs : Fls} (h : Good fs) (k : Nm) (b : List UInt8) : getA k (appS k b fs) = some (((getA k fs).getD ([], 0)).1 ++ b, ((getA k fs).getD ([], 0)).2) := getA_put_same _ _ _ h.1
theorem getA_app_other {fs : Fls} {j k : Nm} (hne : j ≠ k) (b : List UInt8) : getA j (appS k b fs) = getA j fs := getA_put_other hne _ _
theorem getA_sync_same {fs : Fls} (h : Good fs) (k : Nm) : getA k (sync1 fs k) = some (((getA k fs).getD ([], 0)).1, ((getA k fs).getD ([], 0)).1.length) := getA_put_same _ _ _ h.1
theorem getA_sync_other {fs : Fls} {j k : Nm} (hne : j ≠ k) : getA j (sync1 fs k) = getA j fs := getA_put_other hne _ _
section
variable {nm : Nm} {n : Nat} {b : List UInt8} {fs : Fls}
theorem sav1_good (hg : Good fs) : Good (sav1 nm n fs) := dropF_good hg _
theorem sav1_dat : getA (datN nm n) (sav1 nm n fs) = none := by unfold sav1; rw [getA_drop, if_pos (by simp)]
theorem sav1_tmp : getA (tmpN nm) (sav1 nm n fs) = none := by unfold sav1; rw [getA_drop, if_pos (by simp)]
theorem sav1_other {k : Nm} (h1 : k ≠ datN nm n) (h2 : k ≠ tmpN nm) : getA k (sav1 nm n fs) = getA k fs := by unfold sav1; rw [getA_drop, if_neg (by simp [h1, h2])]
theorem sav3_good (hg : Good fs) (hnm : goodL nm = true) (hn : n ≤ 4611686018427387903) : Good (sav3 nm n b fs) := (((sav1_good hg).app b (okN_dat hnm n hn)).app _ (okN_tmp hnm))
theorem sav4_good (hg : Good fs) (hnm : goodL nm = true) (hn : n ≤ 4611686018427387903) : Good (syncS [datN nm n, tmpN nm] (sav3 nm n b fs)) := ((sav3_good hg hnm hn).sync1 (okN_dat hnm n hn)).sync1 (okN_tmp hnm)
theorem sav4_dat (hg : Good fs) (hnm : goodL nm = true) (hn : n ≤ 4611686018427387903) : getA (datN nm n) (syncS [datN nm n, tmpN nm] (sav3 nm n b fs)) = some (b, b.length) := by
  have h2 := (sav1_good (nm := nm) (n := n) hg).app b (okN_dat hnm n hn)
  show getA (datN nm n) (sync1 (sync1 (sav3 nm n b fs) (datN nm n)) (tmpN nm)) = _
  rw [getA_sync_other (tmp_dat nm n).symm, getA_sync_same (sav3_good hg hnm hn)]
  unfold sav3
  rw [getA_app_other (tmp_dat nm n).symm, getA_app_same (sav1_good hg), sav1_dat]
  simp
theorem sav4_tmp (hg : Good fs) (hnm : goodL nm = true) (hn : n ≤ 4611686018427387903) : getA (tmpN nm) (syncS [datN nm n, tmpN nm] (sav3 nm n b fs)) = some (man1 n b, (man1 n b).length) := by
  have h2 := (sav1_good (nm := nm) (n := n) hg).app b (okN_dat hnm n hn)
  show getA (tmpN nm) (sync1 (sync1 (sav3 nm n b fs) (datN nm n)) (tmpN nm)) = _
  rw [getA_sync_same ((sav3_good hg hnm hn).sync1 (okN_dat hnm n hn)), getA_sync_other (tmp_dat nm n)]
  unfold sav3
  rw [getA_app_same h2, getA_app_other (tmp_dat nm n), sav1_tmp]
  simp
theorem ren_good (hg : Good fs) (hnm : goodL nm = true) (hn : n ≤ 4611686018427387903) : Good (renS (tmpN nm) (manN nm) (syncS [datN nm n, tmpN nm] (sav3 nm n b fs))) := (sav4_good hg hnm hn).ren (okN_man hnm)
theorem sav5_safe (hg : Good fs) (hnm : goodL nm = true) (hn : n ≤ 4611686018427387903) : safeS nm n b (sav5 nm n b fs) := by
  have h4 := sav4_good (b := b) hg hnm hn
  unfold safeS sav5
  rw [getA_drop, if_neg (by simp [isDat_man]), getA_drop, if_neg (by simp)]
  unfold renS
  rw [if_neg (man_tmp nm).symm, getA_cut_other (man_tmp nm), getA_put_same _ _ _ h4.1, sav4_tmp hg hnm hn, getA_cut_other (tmp_dat nm n).symm, getA_put_other (man_dat nm n).symm, sav4_dat hg hnm hn]
  exact ⟨rfl, rfl⟩
/-- A save that fails leaves what stands. -/
theorem save_fails {cap m : Nat} {c : List UInt8} (h : safeS nm m c fs) (hne : n ≠ m) (hn : n ≤ 4611686018427387903) (hm : m ≤ 4611686018427387903) (he : (saveT cap nm n b fs).1 ≠ 0) : safeS nm m c (saveT cap nm n b fs).2 := by
  have hd : datN nm m ≠ datN nm n := fun e => hne (datN_inj hm hn e).symm
  have h1 : safeS nm m c (sav1 nm n fs) := ⟨by rw [sav1_other (man_dat nm n) (man_tmp nm)]; exact h.1, by rw [sav1_other hd (tmp_dat nm m).symm]; exact h.2⟩
  revert he
  unfold saveT
  split
  · exact fun _ => h
  · split
    · exact fun _ => h1
    · split
      · refine fun _ => ⟨?_, ?_⟩
        · show getA _ (cutA _ _) = _
          rw [getA_cut_other (man_dat nm n), getA_app_other (man_dat nm n)]
          exact h1.1
        · show getA _ (cutA _ _) = _
          rw [getA_cut_other hd, getA_app_other hd]
          exact h1.2
      · exact fun x => absurd rfl x
end
/-- A save that fails on an empty disk leaves it empty. -/
theorem save_empty (cap : Nat) (nm : Nm) (n : Nat) (b : List UInt8) (he : (saveT cap nm n b []).1 ≠ 0) : (saveT cap nm n b []).2 = [] := by
  revert he
  unfold saveT
  split
  · exact fun _ => rfl
  · split
    · exact fun _ => rfl
    · split
      · intro _
        show cutA (datN nm n) (appS (datN nm n) b []) = []
        rw [appS_nil]
        simp [cutA]
      · exact fun x => absurd rfl x
end Go.Proofs.YtngbgngfdklnlaaGreatDoor
