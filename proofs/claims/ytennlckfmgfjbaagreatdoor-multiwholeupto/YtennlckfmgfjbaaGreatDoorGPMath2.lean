/- Paths as lists of bytes: names, the parts of a text, and what the calls of the layer answer. No program in it. The walks of the program's fits and Name, and of the document's Name. -/
import Derived.Test.YtennlckfmgfjbaaGreatDoorProg
import Derived.Test.YtennlckfmgfjbaaGreatDoorGCrc3
import Derived.Laws.RangeAny
namespace Go.Proofs.YtennlckfmgfjbaaGreatDoor

def okB (c : UInt8) : Bool := (decide (97 ≤ c) && decide (c ≤ 122)) || (decide (48 ≤ c) && decide (c ≤ 57)) || c == 46 || c == 95 || c == 45
def isName (l : List UInt8) : Bool := decide (1 ≤ l.length) && decide (l.length ≤ 32) && (l != [46]) && (l != [46, 46]) && l.all okB
/-- The pieces between the slashes. -/
def sp : List UInt8 → List (List UInt8)
  | [] => [[]]
  | c :: r => if c = 47 then [] :: sp r else match sp r with
    | [] => [[c]]
    | h :: t => (c :: h) :: t
theorem sp_ne (l : List UInt8) : sp l ≠ [] := by
  cases l with
  | nil => simp [sp]
  | cons c r =>
    unfold sp
    split
    · simp
    · split <;> simp
theorem sp_free (a : List UInt8) (h : (47 : UInt8) ∉ a) : sp a = [a] := by
  induction a with
  | nil => rfl
  | cons c r ih =>
    have h1 : c ≠ 47 := fun e => h (by simp [e])
    have h2 : (47 : UInt8) ∉ r := fun e => h (by simp [e])
    simp [sp, h1, ih h2]
theorem sp_append (a b : List UInt8) : sp (a ++ 47 :: b) = sp a ++ sp b := by
  induction a with
  | nil => simp [sp]
  | cons c r ih =>
    rw [List.cons_append]
    by_cases h : c = 47
    · simp [sp, h, ih]
    · simp only [sp, h, if_false, ih]
      cases hs : sp r with
      | nil => exact absurd hs (sp_ne r)
      | cons x t => simp
theorem sp_cut (a b : List UInt8) (h : (47 : UInt8) ∉ a) : sp (a ++ 47 :: b) = a :: sp b := by rw [sp_append, sp_free a h]; rfl
/-- Names, each with a slash ahead. -/
def flat (ls : List (List UInt8)) : List UInt8 := ls.flatMap fun x => 47 :: x
theorem flat_nil : flat [] = [] := rfl
theorem flat_cons (x : List UInt8) (ls : List (List UInt8)) : flat (x :: ls) = 47 :: (x ++ flat ls) := by simp [flat]
theorem flat_append (ls ms : List (List UInt8)) : flat (ls ++ ms) = flat ls ++ flat ms := by simp [flat]
theorem flat_one (x : List UInt8) : flat [x] = 47 :: x := by simp [flat]
theorem flat_sp (r : List UInt8) : flat (sp r) = 47 :: r := by
  induction r with
  | nil => simp [sp, flat]
  | cons c r ih =>
    by_cases h : c = 47
    · subst h; simp [sp, flat_cons, ih]
    · simp only [sp, h, if_false]
      cases hs : sp r with
      | nil => exact absurd hs (sp_ne r)
      | cons x t =>
        rw [hs, flat_cons] at ih
        simp only [flat_cons]
        simpa using ih
theorem flat_eq_nil {ls : List (List UInt8)} (h : flat ls = []) : ls = [] := by
  cases ls with
  | nil => rfl
  | cons x t => rw [flat_cons] at h; cases h
theorem okB_slash : okB 47 = false := by decide
theorem isName_free {x : List UInt8} (h : isName x = true) : (47 : UInt8) ∉ x := by
  intro hm
  simp only [isName, Bool.and_eq_true, List.all_eq_true] at h
  have := h.2 47 hm
  rw [okB_slash] at this
  cases this
theorem isName_len {x : List UInt8} (h : isName x = true) : 1 ≤ x.length ∧ x.length ≤ 32 := by
  simp only [isName, Bool.and_eq_true, decide_eq_true_eq] at h
  exact ⟨h.1.1.1.1, h.1.1.1.2⟩
theorem sp_flat (ls : List (List UInt8)) (h : ∀ x ∈ ls, (47 : UInt8) ∉ x) : ls ≠ [] → sp ((flat ls).drop 1) = ls := by
  induction ls with
  | nil => intro h; exact absurd rfl h
  | cons x t ih =>
    intro _
    rw [flat_cons, List.drop_succ_cons, List.drop_zero]
    have hx := h x (by simp)
    cases t with
    | nil => rw [flat_nil, List.append_nil, sp_free x hx]
    | cons y u =>
      have := ih (fun z hz => h z (by simp [hz])) (by simp)
      rw [flat_cons] at this ⊢
      rw [List.drop_succ_cons, List.drop_zero] at this
      rw [sp_cut x _ hx, this]
/-- Are these names those of a path? -/
def okNames (ls : List (List UInt8)) : Bool := ls.all isName && decide (ls.length ≤ 8) && decide ((flat ls).length ≤ 128)
/-- Names as a path. -/
def mk (ls : List (List UInt8)) : List UInt8 := if ls = [] then [47] else flat ls
theorem mk_nil : mk [] = [47] := rfl
theorem mk_cons (x : List UInt8) (t : List (List UInt8)) : mk (x :: t) = flat (x :: t) := by simp [mk]
theorem mk_ne {ls : List (List UInt8)} (h : ls ≠ []) : mk ls = flat ls := by simp [mk, h]
/-- The names of a path; none: it is no path. -/
def names (l : List UInt8) : Option (List (List UInt8)) :=
  if l = [47] then some [] else if l.head? = some 47 ∧ okNames (sp (l.drop 1)) = true then some (sp (l.drop 1)) else none
theorem names_some {l : List UInt8} {ls : List (List UInt8)} (h : names l = some ls) : okNames ls = true ∧ l = mk ls := by
  unfold names at h
  split at h
  · rename_i e
    cases h
    exact ⟨by decide, by rw [e, mk_nil]⟩
  · split at h
    · rename_i hn e
      cases h
      refine ⟨e.2, ?_⟩
      cases l with
      | nil => simp at e
      | cons c r =>
        have hc : c = 47 := by simpa using e.1
        subst hc
        rw [mk_ne (sp_ne _), List.drop_succ_cons, List.drop_zero, flat_sp]
    · cases h
theorem okNames_all {ls : List (List UInt8)} (h : okNames ls = true) : (∀ x ∈ ls, isName x = true) ∧ ls.length ≤ 8 ∧ (flat ls).length ≤ 128 := by
  simp only [okNames, Bool.and_eq_true, decide_eq_true_eq, List.all_eq_true] at h
  exact ⟨h.1.1, h.1.2, h.2⟩
theorem okNames_mk {ls : List (List UInt8)} (h : ∀ x ∈ ls, isName x = true) (h1 : ls.length ≤ 8) (h2 : (flat ls).length ≤ 128) : okNames ls = true := by
  simp only [okNames, Bool.and_eq_true, decide_eq_true_eq, List.all_eq_true]
  exact ⟨⟨h, h1⟩, h2⟩
theorem flat_ne_root {ls : List (List UInt8)} (h : ∀ x ∈ ls, isName x = true) : flat ls ≠ [47] := by
  cases ls with
  | nil => simp [flat]
  | cons x t =>
    rw [flat_cons]
    have := isName_len (h x (by simp))
    intro e
    have e1 : x ++ flat t = [] := (List.cons.inj e).2
    rw [(List.append_eq_nil_iff.1 e1).1] at this
    simp at this
theorem names_mk (ls : List (List UInt8)) (hn : ∀ x ∈ ls, isName x = true) : names (mk ls) = if okNames ls = true then some ls else none := by
  cases ls with
  | nil => simp [mk, names, okNames, flat]
  | cons x t =>
    have h1 := sp_flat (x :: t) (fun y hy => isName_free (hn y hy)) (by simp)
    have h2 := flat_ne_root hn
    rw [mk_cons]
    unfold names
    rw [if_neg h2, h1]
    have h3 : (flat (x :: t)).head? = some 47 := by rw [flat_cons]; rfl
    simp [h3]
theorem names_mk_ok {ls : List (List UInt8)} (h : okNames ls = true) : names (mk ls) = some ls := by
  rw [names_mk ls (okNames_all h).1, if_pos h]
theorem mk_inj {a b : List (List UInt8)} (ha : okNames a = true) (hb : okNames b = true) (h : mk a = mk b) : a = b := by
  have h1 := names_mk_ok ha
  have h2 := names_mk_ok hb
  rw [h, h2] at h1
  exact (Option.some.inj h1).symm
theorem mk_len {ls : List (List UInt8)} (h : okNames ls = true) : 1 ≤ (mk ls).length ∧ (mk ls).length ≤ 128 := by
  cases ls with
  | nil => simp [mk]
  | cons x t =>
    have := (okNames_all h).2.2
    rw [mk_cons]
    exact ⟨by rw [flat_cons]; simp, this⟩
theorem names_len {l : List UInt8} {ls : List (List UInt8)} (h : names l = some ls) : 1 ≤ l.length ∧ l.length ≤ 128 := by
  obtain ⟨h1, rfl⟩ := names_some h
  exact mk_len h1
theorem names_head {l : List UInt8} {ls : List (List UInt8)} (h : names l = some ls) : ∃ r, l = 47 :: r := by
  obtain ⟨h1, rfl⟩ := names_some h
  cases ls with
  | nil => exact ⟨[], rfl⟩
  | cons x t => exact ⟨_, by rw [mk_cons, flat_cons]⟩
theorem mk_root {ls : List (List UInt8)} (h : okNames ls = true) : mk ls = [47] ↔ ls = [] := by
  constructor
  · intro e
    exact mk_inj h (by decide) (e.trans mk_nil.symm)
  · rintro rfl; rfl
/-- The error that Check tells. -/
def chk (l : List UInt8) : Int := if (names l).isSome then 0 else 20
theorem okNames_prefix {a b : List (List UInt8)} (h : okNames (a ++ b) = true) : okNames a = true := by
  obtain ⟨h1, h2, h3⟩ := okNames_all h
  rw [List.length_append] at h2
  rw [flat_append, List.length_append] at h3
  exact okNames_mk (fun x hx => h1 x (by simp [hx])) (by omega) (by omega)
/-- Under: is the first above the second? -/
def under (p q : List UInt8) : Bool := match names p, names q with
  | some a, some b => a.isPrefixOf b
  | _, _ => false
theorem under_iff {a b : List (List UInt8)} (ha : okNames a = true) (hb : okNames b = true) :
    a.isPrefixOf b = ((mk a == [47]) || (mk a == mk b) || (mk a ++ [47]).isPrefixOf (mk b)) := by
  rw [Bool.eq_iff_iff]
  simp only [Bool.or_eq_true, beq_iff_eq, List.isPrefixOf_iff_prefix]
  constructor
  · rintro ⟨c, rfl⟩
    by_cases h1 : a = []
    · exact .inl (.inl ((mk_root ha).2 h1))
    · by_cases h2 : c = []
      · subst h2; exact .inl (.inr (by rw [List.append_nil]))
      · right
        rw [mk_ne h1, mk_ne (by simp [h1]), flat_append]
        cases c with
        | nil => exact absurd rfl h2
        | cons y t => rw [flat_cons]; exact ⟨y ++ flat t, by simp⟩
  · rintro ((h | h) | ⟨t, h⟩)
    · rw [(mk_root ha).1 h]; exact List.nil_prefix
    · rw [mk_inj ha hb h]; exact List.prefix_refl _
    · by_cases h1 : a = []
      · rw [h1]; exact List.nil_prefix
      · by_cases h2 : b = []
        · subst h2
          have e := congrArg List.length h
          have := (mk_len ha).1
          rw [mk_nil] at e
          simp at e
          omega
        · rw [mk_ne h1, mk_ne h2] at h
          have e := congrArg (fun l : List UInt8 => sp (l.drop 1)) h
          rw [sp_flat b (fun x hx => isName_free ((okNames_all hb).1 x hx)) h2] at e
          have hpos : 1 ≤ (flat a).length := by
            cases a with
            | nil => exact absurd rfl h1
            | cons y t => rw [flat_cons]; simp
          rw [List.append_assoc, List.drop_append_of_le_length hpos, List.cons_append, List.nil_append, sp_append, sp_flat a (fun x hx => isName_free ((okNames_all ha).1 x hx)) h1] at e
          exact ⟨sp t, e⟩
end Go.Proofs.YtennlckfmgfjbaaGreatDoor
namespace Go.Proofs.YtennlckfmgfjbaaGreatDoor
open Go.RowKit
def okR (r : Int) : Bool := (decide (97 ≤ r) && decide (r ≤ 122)) || (decide (48 ≤ r) && decide (r ≤ 57)) || r == 46 || r == 95 || r == 45
theorem okR_byte (c : UInt8) : okR (c.toNat : Int) = okB c := by
  have h : ∀ k : Nat, k < 256 → (c = UInt8.ofNat k ↔ c.toNat = k) := fun k hk => by
    constructor
    · rintro rfl; rw [UInt8.toNat_ofNat']; omega
    · rintro h; rw [← h]; simp
  rw [Bool.eq_iff_iff]
  simp only [okR, okB, Bool.or_eq_true, Bool.and_eq_true, decide_eq_true_eq, beq_iff_eq, UInt8.le_iff_toNat_le]
  rw [show (46 : UInt8) = UInt8.ofNat 46 from rfl, show (95 : UInt8) = UInt8.ofNat 95 from rfl, show (45 : UInt8) = UInt8.ofNat 45 from rfl, h 46 (by decide), h 95 (by decide), h 45 (by decide)]
  simp
  omega
theorem okR_high (n : Nat) (h : 128 ≤ n) : okR (n : Int) = false := by
  simp only [okR, Bool.or_eq_false_iff, Bool.and_eq_false_iff, decide_eq_false_iff_not, beq_eq_false_iff_ne]
  omega
theorem ret_bool {a b : Bool} (h : a = b) : Ending.returned (.bool a) = .returned (.bool b) := by rw [h]
set_option maxHeartbeats 400000 in
theorem fits_any (r : Int) (w : World) : Calls Tryz.prog 88 #[.int .i32 r] w fun e w' => e = .returned (.bool (okR r)) ∧ w = w' := by
  go_enter Tryz.func88, Tryz.ntmps88
  go_wp2
  all_goals (go_ret; refine ⟨ret_bool ?_, rfl⟩; first | rfl | (rw [Bool.eq_iff_iff]; simp [okR]; omega))

theorem str_size (l : List UInt8) : (⟨l.toArray⟩ : ByteArray).size = l.length := by simp [ByteArray.size]
theorem str_get (l : List UInt8) (k : Nat) (h : k < (⟨l.toArray⟩ : ByteArray).size) : (⟨l.toArray⟩ : ByteArray)[k]'h = l[k]'(by rw [str_size] at h; exact h) := by
  show (l.toArray)[k] = _
  simp
theorem isName_short (l : List UInt8) (h : l = [] ∨ l = [46] ∨ l = [46, 46] ∨ 32 < l.length) : isName l = false := by
  rcases h with rfl | rfl | rfl | h
  · rfl
  · rfl
  · rfl
  · simp [isName]; omega
theorem isName_iff (l : List UInt8) (h0 : l ≠ []) (h1 : l ≠ [46]) (h2 : l ≠ [46, 46]) (h3 : l.length ≤ 32) : isName l = l.all okB := by
  have : 1 ≤ l.length := by
    cases l with
    | nil => exact absurd rfl h0
    | cons c r => simp
  simp [isName, h1, h2, h3, this]
theorem all_bad {l : List UInt8} {k : Nat} (hk : k < l.length) (h : okB l[k] = false) : l.all okB = false := by
  rw [List.all_eq_false]
  exact ⟨l[k], List.getElem_mem hk, by simp [h]⟩
theorem all_take {l : List UInt8} {k : Nat} (hk : k < l.length) (h : (l.take k).all okB = true) (hb : okB l[k] = true) : (l.take (k + 1)).all okB = true := by
  rw [List.take_succ_eq_append_getElem hk, List.all_append, h, Bool.true_and]
  simp [hb]

set_option maxRecDepth 100000 in
set_option maxHeartbeats 400000 in
theorem name_long (l : List UInt8) (w : World) (h0 : l ≠ []) (h1 : l ≠ [46]) (h2 : l ≠ [46, 46]) (h3 : l.length ≤ 32) :
    Calls Tryz.prog 65 #[.string ⟨l.toArray⟩] w fun e w' => e = .returned (.bool (isName l)) ∧ Kept w w' := by
  have HN := Lib.hid (isName_iff l h0 h1 h2 h3)
  have t0 : (l == []) = false := by simpa using h0
  have t1 : (l == [46]) = false := by simpa using h1
  have t2 : (l == [46, 46]) = false := by simpa using h2
  have t3 : decide ((32 : Int) < (l.length : Int)) = false := by simp; omega
  clear h0 h1 h2
  go_enter Tryz.func65, Tryz.ntmps65
  go_wp2
  go_loopw [4] (fun _ W => ∃ k : Nat, k ≤ l.length ∧ W = w.iter ⟨l.toArray⟩ k ∧ (l.take k).all okB = true) (fun _ W => l.length - W.iterPos w.heap.size)
  case atStart => exact ⟨0, Nat.zero_le _, rfl, rfl⟩
  case round =>
    obtain ⟨k, hk, rfl, hall⟩ := hrel
    have hkw : ∀ j, Kept w (w.iter ⟨l.toArray⟩ j) := fun j => (Kept.refl w).alloc _
    have HK := Lib.hid hkw
    clear hkw
    by_cases hlt : k < l.length
    · have hp : k < (⟨l.toArray⟩ : ByteArray).size := by rw [str_size]; exact hlt
      have HA := Lib.hid hall
      clear hall
      by_cases ha : ((⟨l.toArray⟩ : ByteArray)[k]'hp).toNat < 128
      · have hnx : ∀ ty, (Instr.next (.pointer (some ⟨w.heap.size, 0, none⟩)) true ty).run Tryz.prog (w.iter ⟨l.toArray⟩ k) = _ := fun ty => run_next_ascii w ⟨l.toArray⟩ k ty hp ha
        rw [str_get] at hnx
        clear ha
        go_wp2_with fail
        refine (fits_any _ _).mono ?_
        rintro e w' ⟨rfl, rfl⟩
        rw [okR_byte]
        cases hb : okB l[k] with
        | true =>
          have HB := Lib.hid hb
          clear hb
          go_wp2
          go_roundw
          case rel => exact ⟨k + 1, by omega, rfl, all_take hlt HA.out HB.out⟩
          case measure => simp; omega
        | false =>
          have HB := Lib.hid (all_bad hlt hb)
          clear hb
          go_wp2
          go_ret
          exact ⟨ret_bool (by rw [HN.out, HB.out]), HK.out _⟩
      · have hnx : ∀ ty, (Instr.next (.pointer (some ⟨w.heap.size, 0, none⟩)) true ty).run Tryz.prog (w.iter ⟨l.toArray⟩ k) = _ := fun ty => run_next_any w ⟨l.toArray⟩ k ty hp
        have hd := decode_high ⟨l.toArray⟩ k hp (by omega)
        have hb : okB l[k] = false := by
          rw [← okR_byte]; rw [str_get] at ha; exact okR_high _ (by omega)
        have HB := Lib.hid (all_bad hlt hb)
        clear hb ha
        obtain ⟨hd1, -⟩ := hd
        generalize Utf8.decode ⟨l.toArray⟩ k = d at *
        go_wp2_with fail
        refine (fits_any _ _).mono ?_
        rintro e w' ⟨rfl, rfl⟩
        rw [okR_high _ hd1]
        go_wp2
        go_ret
        exact ⟨ret_bool (by rw [HN.out, HB.out]), HK.out _⟩
    · obtain rfl : k = l.length := by omega
      rw [List.take_length] at hall
      have HA := Lib.hid hall
      clear hall
      have hnx : ∀ ty, (Instr.next (.pointer (some ⟨w.heap.size, 0, none⟩)) true ty).run Tryz.prog (w.iter ⟨l.toArray⟩ l.length) = _ := fun ty => run_next_end w ⟨l.toArray⟩ l.length ty (by rw [str_size]; omega)
      go_wp2
      go_ret
      exact ⟨ret_bool (by rw [HN.out, HA.out]), HK.out _⟩

set_option maxHeartbeats 400000 in
theorem name_any (l : List UInt8) (w : World) :
    Calls Tryz.prog 65 #[.string ⟨l.toArray⟩] w fun e w' => e = .returned (.bool (isName l)) ∧ Kept w w' := by
  by_cases h0 : l = []
  · subst h0
    go_enter Tryz.func65, Tryz.ntmps65
    go_wp2
    go_ret
    exact ⟨rfl, Kept.refl _⟩
  by_cases h1 : l = [46]
  · subst h1
    go_enter Tryz.func65, Tryz.ntmps65
    go_wp2
    go_ret
    exact ⟨rfl, Kept.refl _⟩
  by_cases h2 : l = [46, 46]
  · subst h2
    go_enter Tryz.func65, Tryz.ntmps65
    go_wp2
    go_ret
    exact ⟨rfl, Kept.refl _⟩
  by_cases h3 : l.length ≤ 32
  · exact name_long l w h0 h1 h2 h3
  · have HN := Lib.hid (isName_short l (.inr (.inr (.inr (by omega)))))
    have t0 : (l == []) = false := by simpa using h0
    have t1 : (l == [46]) = false := by simpa using h1
    have t2 : (l == [46, 46]) = false := by simpa using h2
    have t3 : decide ((32 : Int) < (l.length : Int)) = true := by simp; omega
    clear h0 h1 h2
    go_enter Tryz.func65, Tryz.ntmps65
    go_wp2
    go_ret
    exact ⟨ret_bool HN.out.symm, Kept.refl _⟩
end Go.Proofs.YtennlckfmgfjbaaGreatDoor
