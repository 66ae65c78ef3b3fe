/- What an index of commands knows, as plain data: which commands interfere, what is added, the greatest numbers. No program in it. -/
import Derived.Test.YtgmpbalibdlhdaaQZPure
set_option linter.unusedSimpArgs false
set_option linter.unusedVariables false
namespace Go.Proofs.Ytgmpbalibdlhdaa
/-- A command: its kind, its home, and where its data lie. -/
structure Cm where
  kind : Int
  home : Pth
  da : Option Addr
  dn : Nat
  dc : Nat
/-- A command with its instance and its sequence number. -/
structure It where
  c : Cm
  rep : Int
  num : Int
  seq : Int
def okK (k : Int) : Bool := decide (0 ≤ k ∧ k ≤ 2)
/-- Two commands of right kinds interfere. -/
def metC (a b : Cm) : Bool := !(a.kind == 0 || b.kind == 0) && (a.kind == 2 || b.kind == 2 || a.home == b.home)
def itf (a b : Cm) : Bool := okK a.kind && (okK b.kind && metC a b)
def okN (n : Nat) (x : It) : Bool := decide ((0 ≤ x.rep ∧ x.rep < n) ∧ (1 ≤ x.num ∧ x.num ≤ 4611686018427387903) ∧ 0 ≤ x.seq ∧ x.seq ≤ 4611686018427387902)
def addE (n : Nat) (x : It) : Int := if okK x.c.kind then (if okN n x then 0 else 10) else 100
def addL (n : Nat) (x : It) (L : List It) : List It := if addE n x = 0 then L ++ [x] else L
/-- What is known of several that were added. -/
def known (n : Nat) (xs : List It) : List It := xs.filter fun x => addE n x == 0
/-- Is it taken? -/
def okI (n : Nat) (x : It) : Prop := (0 ≤ x.c.kind ∧ x.c.kind ≤ 2) ∧ (0 ≤ x.rep ∧ x.rep < n) ∧ (1 ≤ x.num ∧ x.num ≤ 4611686018427387903) ∧ 0 ≤ x.seq ∧ x.seq ≤ 4611686018427387902
theorem okI_iff {n : Nat} {x : It} : addE n x = 0 ↔ okI n x := by
  unfold addE okI okK okN
  by_cases h1 : 0 ≤ x.c.kind ∧ x.c.kind ≤ 2
  · by_cases h2 : (0 ≤ x.rep ∧ x.rep < n) ∧ (1 ≤ x.num ∧ x.num ≤ 4611686018427387903) ∧ 0 ≤ x.seq ∧ x.seq ≤ 4611686018427387902
    · simp [h1, h2]
    · simp [h1, h2]
  · simp [h1]
theorem known_snoc (n : Nat) (xs : List It) (x : It) : known n (xs ++ [x]) = addL n x (known n xs) := by
  unfold known addL
  rw [List.filter_append]
  by_cases h : addE n x = 0
  · simp [h]
  · simp [h]
theorem known_len (n : Nat) (xs : List It) : (known n xs).length ≤ xs.length := List.length_filter_le _ _
theorem known_ok {n : Nat} {xs : List It} {x : It} (h : x ∈ known n xs) : okI n x := okI_iff.1 (by have := (List.mem_filter.1 h).2; simpa using this)
theorem known_mem {n : Nat} {xs : List It} {x : It} : x ∈ known n xs ↔ x ∈ xs ∧ okI n x := by
  unfold known
  rw [List.mem_filter, beq_iff_eq, okI_iff]
/-- The number of one at a place: its sequence number, then each replica's. -/
def un (x : It) (k : Nat) : Int := if k = 0 then x.seq else if x.rep = (k : Int) - 1 then x.num else 0
def mx (L : List It) (k : Nat) : Int := L.foldl (fun m x => max m (un x k)) 0
theorem mx_snoc (L : List It) (x : It) (k : Nat) : mx (L ++ [x]) k = max (mx L k) (un x k) := by unfold mx; simp
theorem mx_fold (L : List It) (k : Nat) : ∀ a m : Int, L.foldl (fun m x => max m (un x k)) a ≤ m ↔ a ≤ m ∧ ∀ x ∈ L, un x k ≤ m := by
  induction L with
  | nil => intro a m; simp
  | cons y L ih =>
    intro a m
    rw [List.foldl_cons, ih]
    constructor
    · rintro ⟨h1, h2⟩
      refine ⟨by omega, fun x hx => ?_⟩
      rcases List.mem_cons.1 hx with rfl | hx
      · omega
      · exact h2 x hx
    · rintro ⟨h1, h2⟩
      have := h2 y (by simp)
      exact ⟨by omega, fun x hx => h2 x (by simp [hx])⟩
theorem mx_le {L : List It} {k : Nat} {m : Int} : mx L k ≤ m ↔ 0 ≤ m ∧ ∀ x ∈ L, un x k ≤ m := mx_fold L k 0 m
theorem mx_pos (L : List It) (k : Nat) : 0 ≤ mx L k := (mx_le.1 (Int.le_refl (mx L k))).1
theorem mx_ge {L : List It} {x : It} (h : x ∈ L) (k : Nat) : un x k ≤ mx L k := (mx_le.1 (Int.le_refl (mx L k))).2 x h
theorem mx_ext {L M : List It} (h : ∀ x, x ∈ L ↔ x ∈ M) (k : Nat) : mx L k = mx M k := by
  have h1 : mx L k ≤ mx M k := mx_le.2 ⟨mx_pos M k, fun x hx => mx_ge ((h x).1 hx) k⟩
  have h2 : mx M k ≤ mx L k := mx_le.2 ⟨mx_pos L k, fun x hx => mx_ge ((h x).2 hx) k⟩
  omega
theorem mx_nil (k : Nat) : mx [] k = 0 := rfl
/-- The greatest numbers of those of a kind. -/
def tp (p : It → Bool) (L : List It) : Nat → Int := fun k => mx (L.filter p) k
theorem tp_pos (p : It → Bool) (L : List It) (k : Nat) : 0 ≤ tp p L k := mx_pos _ _
theorem tp_ext {p q : It → Bool} {L M : List It} (h : ∀ x, (x ∈ L ∧ p x = true) ↔ (x ∈ M ∧ q x = true)) : tp p L = tp q M := by
  funext k
  exact mx_ext (fun x => by rw [List.mem_filter, List.mem_filter]; exact h x) k
theorem un_le {n : Nat} {x : It} (h : okI n x) (k : Nat) : un x k ≤ 4611686018427387903 := by
  obtain ⟨-, -, h2, h3⟩ := h
  unfold un
  split
  · omega
  · split <;> omega
theorem un_le0 {n : Nat} {x : It} (h : okI n x) : un x 0 ≤ 4611686018427387902 := by
  obtain ⟨-, -, h2, h3⟩ := h
  show x.seq ≤ _
  omega
theorem tp_le {n : Nat} {p : It → Bool} {L : List It} (h : ∀ x ∈ L, okI n x) (k : Nat) : tp p L k ≤ 4611686018427387903 := mx_le.2 ⟨by omega, fun x hx => un_le (h x (List.mem_filter.1 hx).1) k⟩
theorem tp_le0 {n : Nat} {p : It → Bool} {L : List It} (h : ∀ x ∈ L, okI n x) : tp p L 0 ≤ 4611686018427387902 := mx_le.2 ⟨by omega, fun x hx => un_le0 (h x (List.mem_filter.1 hx).1)⟩
/-- One more. -/
def wiT (f : Nat → Int) (r m s : Int) : Nat → Int := fun k => if k = 0 then max (f 0) s else if r = (k : Int) - 1 then max (f k) m else f k
theorem tp_add {n : Nat} {p : It → Bool} {L : List It} {x : It} (h : okI n x) (hp : p x = true) : tp p (L ++ [x]) = wiT (tp p L) x.rep x.num x.seq := by
  funext k
  have h0 := tp_pos p L k
  unfold tp wiT at *
  rw [List.filter_append, List.filter_cons_of_pos hp, List.filter_nil, mx_snoc]
  unfold un
  by_cases e : k = 0
  · subst e; simp
  · rw [if_neg e, if_neg e]
    by_cases e1 : x.rep = (k : Int) - 1
    · rw [if_pos e1, if_pos e1]
    · rw [if_neg e1, if_neg e1]
      simp only
      omega
theorem tp_pass {p : It → Bool} {L : List It} {x : It} (hp : p x = false) : tp p (L ++ [x]) = tp p L := by
  funext k
  unfold tp
  rw [List.filter_append, List.filter_cons_of_neg (by simp [hp]), List.filter_nil, List.append_nil]
def pG (x : It) : Bool := x.c.kind == 2
def pA (x : It) : Bool := !(x.c.kind == 0)
def pH (h : Pth) (x : It) : Bool := x.c.kind == 1 && x.c.home == h
/-- The greatest of both. -/
def joT (f g : Nat → Int) : Nat → Int := fun k => max (f k) (g k)
theorem tp_or {p q r : It → Bool} {L : List It} (h : ∀ x ∈ L, r x = (p x || q x)) : joT (tp p L) (tp q L) = tp r L := by
  funext k
  unfold joT tp
  have h1 : mx (L.filter p) k ≤ mx (L.filter r) k := mx_le.2 ⟨mx_pos _ _, fun x hx => mx_ge (List.mem_filter.2 ⟨(List.mem_filter.1 hx).1, by rw [h x (List.mem_filter.1 hx).1, (List.mem_filter.1 hx).2]; rfl⟩) k⟩
  have h2 : mx (L.filter q) k ≤ mx (L.filter r) k := mx_le.2 ⟨mx_pos _ _, fun x hx => mx_ge (List.mem_filter.2 ⟨(List.mem_filter.1 hx).1, by rw [h x (List.mem_filter.1 hx).1, (List.mem_filter.1 hx).2]; simp⟩) k⟩
  have h3 : mx (L.filter r) k ≤ max (mx (L.filter p) k) (mx (L.filter q) k) := mx_le.2 ⟨by have := mx_pos (L.filter p) k; omega, fun x hx => by
    obtain ⟨a, b⟩ := List.mem_filter.1 hx
    rw [h x a, Bool.or_eq_true] at b
    rcases b with b | b
    · have := mx_ge (List.mem_filter.2 ⟨a, b⟩) k; omega
    · have := mx_ge (List.mem_filter.2 ⟨a, b⟩) k; omega⟩
  omega
def pC (c : Cm) (x : It) : Bool := metC c x.c
/-- What a command must come behind. -/
def ahT (c : Cm) (L : List It) : Nat → Int := tp (pC c) L
theorem aheadH {n : Nat} {c : Cm} {L : List It} (h : ∀ x ∈ L, okI n x) (hc : c.kind = 1) : joT (tp (pH c.home) L) (tp pG L) = ahT c L := by
  refine tp_or fun x hx => ?_
  have hk := (h x hx).1
  unfold pC metC pH pG
  rw [hc]
  have : x.c.kind = 0 ∨ x.c.kind = 1 ∨ x.c.kind = 2 := by omega
  rcases this with e | e | e <;> rw [e] <;> simp
  exact BEq.comm
theorem aheadG {c : Cm} {L : List It} (hc : c.kind = 2) : tp pA L = ahT c L := by
  refine tp_ext fun x => ?_
  unfold pC metC pA
  rw [hc]
  simp
theorem aheadN {c : Cm} {L : List It} (hc : c.kind = 0) : (fun _ => 0) = ahT c L := by
  funext k
  unfold ahT tp
  rw [show L.filter (pC c) = [] from List.filter_eq_nil_iff.2 (fun x _ => by unfold pC metC; rw [hc]; simp)]
  rfl
def seqT (c : Cm) (L : List It) : Int := ahT c L 0 + 1
def depT (n : Nat) (c : Cm) (L : List It) : List Int := (List.range n).map fun r => ahT c L (r + 1)
theorem depT_len (n : Nat) (c : Cm) (L : List It) : (depT n c L).length = n := by unfold depT; simp
theorem depT_at {n : Nat} {c : Cm} {L : List It} {r : Nat} (h : r < n) : (depT n c L).getD r 0 = ahT c L (r + 1) := by
  unfold depT
  rw [List.getD_eq_getElem?_getD, List.getElem?_map, List.getElem?_range h]
  rfl
theorem ah_ge {n : Nat} {c : Cm} {L : List It} {x : It} (hx : x ∈ L) (hm : metC c x.c = true) (k : Nat) : un x k ≤ ahT c L k := mx_ge (List.mem_filter.2 ⟨hx, hm⟩) k
theorem itf_met {n : Nat} {c : Cm} {x : It} (hc : okK c.kind = true) (hx : okI n x) : itf c x.c = metC c x.c := by
  unfold itf
  rw [hc, show okK x.c.kind = true from decide_eq_true hx.1]
  simp
end Go.Proofs.Ytgmpbalibdlhdaa
