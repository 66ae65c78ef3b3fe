/- The program's network and the document's: plain data. -/
import Derived.Test.YtnpenabkmpoafaaQNNk
import Derived.Test.YtnpenabkmpoafaaGNRfA2
import Derived.Test.YtnpenabkmpoafaaQNRf6
import Derived.Test.YtnpenabkmpoafaaQNRf7
import Derived.Test.YtnpenabkmpoafaaQNRf9
set_option linter.unusedSimpArgs false
set_option linter.unusedVariables false
namespace Go.Proofs.Ytnpenabkmpoafaa
open Go.RowKit
def third (y : Int × Int × List UInt8) : List UInt8 := y.2.2
/-- Both are one network. -/
structure Rel (s : NS) (d : RS) : Prop where
  n : d.n = s.n
  room : d.room = s.room
  one : 1 ≤ s.n
  q : ∀ a b : Nat, a < s.n → b < s.n → (d.list.filter (isAt a b)).map third = s.q a b
  ends : ∀ y ∈ d.list, ∃ a b : Nat, y.1 = a ∧ y.2.1 = b ∧ a < s.n ∧ b < s.n
  cut : ∀ a b, a < s.n → b < s.n → d.cut a b = s.cut a b
  t : ∀ i, i < s.n → d.t i = s.t.getD i 0
  tlen : s.t.length = s.n
  late : ∀ i, d.t i ≤ 1099511627776
  emp : ∀ a b, a < s.n → b < s.n → s.cut a b = true → s.q a b = []
section
variable {s : NS} {d : RS}
theorem isAt_true {a b : Int} {y : Int × Int × List UInt8} : isAt a b y = true ↔ y.1 = a ∧ y.2.1 = b := by simp [isAt]
theorem Rel.two (h : Rel s d) (a b : Int) : (badR d a b = true ∧ chk s.n [a, b] = 60) ∨ ∃ a' b' : Nat, a = a' ∧ b = b' ∧ a' < s.n ∧ b' < s.n ∧ badR d a b = false ∧ chk s.n [a, b] = 0 := by
  cases hb : badR d a b with
  | true =>
    refine .inl ⟨rfl, ?_⟩
    unfold chk
    rw [if_neg]
    intro e
    unfold badR at hb
    rw [h.n] at hb
    simp only [List.all_cons, List.all_nil, Bool.and_true] at e
    rw [e] at hb
    cases hb
  | false =>
    obtain ⟨a', b', rfl, rfl, ha, hb'⟩ := badR_false hb
    rw [h.n] at ha hb'
    exact .inr ⟨a', b', rfl, rfl, ha, hb', rfl, chk_two ha hb'⟩
theorem Rel.cnt (h : Rel s d) {a b : Nat} (ha : a < s.n) (hb : b < s.n) : cntR d a b = (s.q a b).length := by
  rw [← h.q a b ha hb, List.length_map]
  rfl
theorem Rel.errs (h : Rel s d) (a b : Int) : errE d a b = chk s.n [a, b] := by
  unfold errE
  rcases h.two a b with ⟨h1, h2⟩ | ⟨a', b', rfl, rfl, ha, hb, h1, h2⟩
  · rw [h1, h2]; rfl
  · rw [h1, h2]; rfl
theorem Rel.count (h : Rel s d) (a b : Int) : cntE d a b = countE s a b := by
  unfold cntE countE
  rcases h.two a b with ⟨h1, h2⟩ | ⟨a', b', rfl, rfl, ha, hb, h1, h2⟩
  · rw [h1, h2]; rfl
  · rw [h1, h2, h.cnt ha hb]; rfl
theorem Rel.sendE (h : Rel s d) (a b : Int) (k : Nat) : rSendE d a b k = sendE s a b k := by
  unfold rSendE Go.Proofs.Ytnpenabkmpoafaa.sendE
  rcases h.two a b with ⟨h1, h2⟩ | ⟨a', b', rfl, rfl, ha, hb, h1, h2⟩
  · rw [h1, h2]; rfl
  · rw [h1, h2, h.cnt ha hb, h.room]
    simp only [Int.toNat_natCast, h.cut a' b' ha hb]
    simp
theorem filter_sent (a b : Nat) (a' b' : Nat) (ms : List (List UInt8)) : ((ms.map fun l => ((a : Int), (b : Int), l)).filter (isAt a' b')).map third = if a' = a ∧ b' = b then ms else [] := by
  induction ms with
  | nil => simp
  | cons l r ih =>
    rw [List.map_cons, List.filter_cons]
    by_cases e : a' = a ∧ b' = b
    · obtain ⟨rfl, rfl⟩ := e
      have ht : isAt (a' : Int) (b' : Int) ((a' : Int), (b' : Int), l) = true := isAt_true.2 ⟨rfl, rfl⟩
      rw [if_pos ht, List.map_cons, ih]
      simp [third]
    · have ht : ¬ isAt (a' : Int) (b' : Int) ((a : Int), (b : Int), l) = true := fun x => by
        obtain ⟨x1, x2⟩ := isAt_true.1 x
        have x1 : (a : Int) = a' := x1
        have x2 : (b : Int) = b' := x2
        omega
      rw [if_neg ht, ih, if_neg e, if_neg e]
theorem upd_at {α : Type} (f : Nat → Nat → α) (a b a' b' : Nat) (x : α) : upd f a b x a' b' = if a' = a ∧ b' = b then x else f a' b' := rfl
theorem sendS_bad {s : NS} {a b : Int} {ms : List (List UInt8)} (h : ¬ (chk s.n [a, b] = 0 ∧ s.cut a.toNat b.toNat = false ∧ (s.q a.toNat b.toNat).length + ms.length ≤ s.room)) : sendS s a b ms = s := by unfold sendS; rw [if_neg h]
theorem sendS_good {s : NS} {a b : Int} {ms : List (List UInt8)} (h : chk s.n [a, b] = 0 ∧ s.cut a.toNat b.toNat = false ∧ (s.q a.toNat b.toNat).length + ms.length ≤ s.room) : sendS s a b ms = s.turn a.toNat b.toNat (s.q a.toNat b.toNat ++ ms) := by unfold sendS; rw [if_pos h]
theorem Rel.send (h : Rel s d) (a b : Int) (ms : List (List UInt8)) : Rel (sendS s a b ms) (rSendS d a b ms) := by
  rcases h.two a b with ⟨h1, h2⟩ | ⟨a', b', rfl, rfl, ha, hb, h1, h2⟩
  · rw [sendS_bad (by rw [h2]; simp), show rSendS d a b ms = d by unfold rSendS; rw [if_pos h1]]
    exact h
  · cases hc : s.cut a' b' with
    | true =>
      rw [sendS_bad (by simp [hc]), show rSendS d a' b' ms = d by unfold rSendS; simp [h1, h.cut a' b' ha hb, hc]]
      exact h
    | false =>
      by_cases hf : s.room < (s.q a' b').length + ms.length
      · rw [sendS_bad (by rintro ⟨-, -, x⟩; simp only [Int.toNat_natCast] at x; omega), show rSendS d a' b' ms = d by unfold rSendS; simp [h1, h.cut a' b' ha hb, hc, h.cnt ha hb, h.room, hf]]
        exact h
      · rw [sendS_good ⟨h2, by simpa using hc, by simp only [Int.toNat_natCast]; omega⟩, show rSendS d a' b' ms = { d with list := d.list ++ ms.map fun l => ((a' : Int), (b' : Int), l) } by unfold rSendS; simp [h1, h.cut a' b' ha hb, hc, h.cnt ha hb, h.room, hf]]
        simp only [Int.toNat_natCast]
        refine ⟨h.n, h.room, h.one, fun i j hi hj => ?_, fun y hy => ?_, h.cut, h.t, h.tlen, h.late, fun i j hi hj hx => ?_⟩
        · show ((d.list ++ _).filter (isAt i j)).map third = upd s.q a' b' (s.q a' b' ++ ms) i j
          rw [List.filter_append, List.map_append, filter_sent, h.q i j hi hj, upd_at]
          by_cases e : i = a' ∧ j = b'
          · obtain ⟨rfl, rfl⟩ := e
            simp
          · rw [if_neg e, if_neg e, List.append_nil]
        · rcases List.mem_append.1 hy with hy | hy
          · exact h.ends y hy
          · obtain ⟨l, -, rfl⟩ := List.mem_map.1 hy
            exact ⟨a', b', rfl, rfl, ha, hb⟩
        · show upd s.q a' b' (s.q a' b' ++ ms) i j = []
          rw [upd_at]
          by_cases e : i = a' ∧ j = b'
          · obtain ⟨rfl, rfl⟩ := e
            have hx : s.cut i j = true := hx
            rw [hc] at hx
            cases hx
          · rw [if_neg e]
            exact h.emp i j hi hj hx
theorem Rel.wait (h : Rel s d) (a b i : Int) : rWait d a b i = waitE s a b i := by
  unfold rWait waitE
  rcases h.two a b with ⟨h1, h2⟩ | ⟨a', b', rfl, rfl, ha, hb, h1, h2⟩
  · rw [h1, h2]; rfl
  · rw [h1, h2, h.cnt ha hb]
    simp
theorem Rel.pick (h : Rel s d) (a b i : Int) (hw : waitE s a b i = 0) : rPick d a b i = msgS s a b i := by
  obtain ⟨a', b', i', rfl, rfl, rfl, ha, hb, hi⟩ := waitE_zero hw
  unfold rPick msgS
  rw [if_pos hw]
  simp only [Int.toNat_natCast, ← h.q a' b' ha hb]
  rw [List.getD_eq_getElem?_getD]
  rfl
theorem delNth_mem {α : Type} (p : α → Bool) : ∀ (l : List α) (i : Nat) (y : α), y ∈ delNth p l i → y ∈ l
  | [], _, _, h => h
  | x :: r, i, y, h => by
    unfold delNth at h
    split at h
    · cases i with
      | zero => exact List.mem_cons_of_mem _ h
      | succ i =>
        rcases List.mem_cons.1 h with rfl | h
        · simp
        · exact List.mem_cons_of_mem _ (delNth_mem p r i y h)
    · rcases List.mem_cons.1 h with rfl | h
      · simp
      · exact List.mem_cons_of_mem _ (delNth_mem p r i y h)
theorem delNth_same {α β : Type} (p : α → Bool) (f : α → β) : ∀ (l : List α) (i : Nat), ((delNth p l i).filter p).map f = ((l.filter p).map f).eraseIdx i
  | [], _ => rfl
  | x :: r, i => by
    unfold delNth
    cases hx : p x with
    | true =>
      cases i with
      | zero => simp [hx]
      | succ i => simp [hx, delNth_same p f r i]
    | false => simp [hx, delNth_same p f r i]
theorem delNth_other {α : Type} (p q : α → Bool) (hpq : ∀ y, p y = true → q y = false) : ∀ (l : List α) (i : Nat), (delNth p l i).filter q = l.filter q
  | [], _ => rfl
  | x :: r, i => by
    unfold delNth
    cases hx : p x with
    | true =>
      cases i with
      | zero => simp [hpq x hx]
      | succ i => simp [hpq x hx, delNth_other p q hpq r i]
    | false =>
      simp only [hx, Bool.false_eq_true, if_false, List.filter_cons, delNth_other p q hpq r i]
theorem Rel.del (h : Rel s d) (a b i : Int) : Rel (delS s a b i) (rDelS d a b i) := by
  unfold rDelS delS
  rw [h.wait]
  by_cases hw : waitE s a b i = 0
  · rw [if_pos hw, if_pos hw]
    obtain ⟨a', b', i', rfl, rfl, rfl, ha, hb, hi⟩ := waitE_zero hw
    simp only [Int.toNat_natCast]
    refine ⟨h.n, h.room, h.one, fun k j hk hj => ?_, fun y hy => h.ends y (delNth_mem _ _ _ _ hy), h.cut, h.t, h.tlen, h.late, fun k j hk hj hx => ?_⟩
    · show ((delNth (isAt a' b') d.list i').filter (isAt k j)).map third = upd s.q a' b' ((s.q a' b').eraseIdx i') k j
      rw [upd_at]
      by_cases e : k = a' ∧ j = b'
      · obtain ⟨rfl, rfl⟩ := e
        rw [if_pos ⟨rfl, rfl⟩, delNth_same, h.q k j hk hj]
      · rw [if_neg e, delNth_other, h.q k j hk hj]
        intro y hy
        obtain ⟨h1, h2⟩ := isAt_true.1 hy
        cases hz : isAt k j y with
        | false => rfl
        | true =>
          obtain ⟨h3, h4⟩ := isAt_true.1 hz
          omega
    · show upd s.q a' b' ((s.q a' b').eraseIdx i') k j = []
      rw [upd_at]
      have hx : s.cut k j = true := hx
      by_cases e : k = a' ∧ j = b'
      · obtain ⟨rfl, rfl⟩ := e
        have := h.emp k j hk hj hx
        rw [this] at hi
        simp at hi
      · rw [if_neg e]
        exact h.emp k j hk hj hx
  · rw [if_neg hw, if_neg hw]
    exact h
theorem Rel.rep (h : Rel s d) (a b i : Int) : rRepE d a b i = repE s a b i ∧ Rel (repS s a b i) (rRepS d a b i) := by
  unfold rRepS repS
  have he : rRepE d a b i = repE s a b i := by
    unfold rRepE repE
    rw [h.wait]
    by_cases hw : waitE s a b i = 0
    · rw [if_pos hw, if_pos hw]
      obtain ⟨a', b', i', rfl, rfl, rfl, ha, hb, hi⟩ := waitE_zero hw
      rw [h.cnt ha hb, h.room]
      have hc : s.cut a' b' = false := by
        cases hc : s.cut a' b' with
        | false => rfl
        | true => rw [h.emp a' b' ha hb hc] at hi; simp at hi
      unfold Go.Proofs.Ytnpenabkmpoafaa.sendE
      rw [chk_two ha hb]
      simp only [Int.toNat_natCast, hc]
      by_cases hf : s.room ≤ (s.q a' b').length
      · rw [if_pos hf, if_neg (by simp), if_neg (by simp), if_pos (by omega)]
      · rw [if_neg hf, if_neg (by simp), if_neg (by simp), if_neg (by omega)]
    · rw [if_neg hw, if_neg hw]
  refine ⟨he, ?_⟩
  by_cases hw : waitE s a b i = 0
  · have hs := h.send a b [msgS s a b i]
    rw [if_pos hw]
    have e : rSendS d a b [msgS s a b i] = if rRepE d a b i = 0 then { d with list := d.list ++ [(a, b, rPick d a b i)] } else d := by
      rw [h.pick a b i hw]
      unfold rRepE rSendS
      rw [h.wait, if_pos hw]
      obtain ⟨a', b', i', rfl, rfl, rfl, ha, hb, hi⟩ := waitE_zero hw
      have hc : s.cut a' b' = false := by
        cases hc : s.cut a' b' with
        | false => rfl
        | true => rw [h.emp a' b' ha hb hc] at hi; simp at hi
      have hbd : badR d a' b' = false := by
        rcases h.two a' b' with ⟨-, h2⟩ | ⟨_, _, _, _, _, _, h1, _⟩
        · rw [chk_two ha hb] at h2; cases h2
        · exact h1
      rw [hbd]
      simp only [Int.toNat_natCast, h.cut a' b' ha hb, hc, List.length_cons, List.length_nil]
      by_cases hf : d.room ≤ cntR d a' b'
      · rw [if_neg (by simp), if_neg (by simp), if_pos (by omega), if_pos hf, if_neg (by omega)]
      · rw [if_neg (by simp), if_neg (by simp), if_neg (by omega), if_neg hf, if_pos rfl]
        rfl
    rw [← e]
    exact hs
  · rw [if_neg hw, if_neg]
    · exact h
    · rw [he]
      unfold repE
      rw [if_neg hw]
      exact hw
theorem filter_filter_map (p q : Int × Int × List UInt8 → Bool) (l : List (Int × Int × List UInt8)) (b : Bool) (h : ∀ y ∈ l, q y = true → p y = b) : (l.filter p).filter q = if b then l.filter q else [] := by
  rw [List.filter_filter]
  cases b with
  | true =>
    rw [if_pos rfl]
    refine List.filter_congr fun y hy => ?_
    cases hq : q y with
    | false => simp
    | true => simp [h y hy hq]
  | false =>
    rw [if_neg (by simp), List.filter_eq_nil_iff]
    intro y hy
    cases hq : q y with
    | false => simp
    | true => simp [h y hy hq]
theorem Rel.cutE (h : Rel s d) (a b : Int) : rCutE d a b = chk s.n [a, b] := h.errs a b
theorem Rel.cutting (h : Rel s d) (a b : Int) : Rel (cutS s a b) (rCutS d a b) := by
  unfold rCutS cutS
  rcases h.two a b with ⟨h1, h2⟩ | ⟨a', b', rfl, rfl, ha, hb, h1, h2⟩
  · rw [h1, h2, if_pos rfl, if_neg (by decide)]
    exact h
  · rw [h1, h2, if_pos rfl, if_neg (by simp)]
    simp only [Int.toNat_natCast]
    have hq : ∀ i j, (cutN s a' b').q i j = if (i = a' ∧ j = b') ∨ (i = b' ∧ j = a') then [] else s.q i j := fun i j => by
      show upd (upd s.q a' b' []) b' a' [] i j = _
      rw [upd_at, upd_at]
      by_cases e1 : i = a' ∧ j = b'
      · by_cases e2 : i = b' ∧ j = a'
        · rw [if_pos e2, if_pos (.inl e1)]
        · rw [if_neg e2, if_pos e1, if_pos (.inl e1)]
      · by_cases e2 : i = b' ∧ j = a'
        · rw [if_pos e2, if_pos (.inr e2)]
        · rw [if_neg e2, if_neg e1, if_neg (by rintro (e | e); exact e1 e; exact e2 e)]
    have hcu : ∀ i j, (cutN s a' b').cut i j = if (i = a' ∧ j = b') ∨ (i = b' ∧ j = a') then true else s.cut i j := fun i j => by
      show upd (upd s.cut a' b' true) b' a' true i j = _
      rw [upd_at, upd_at]
      by_cases e1 : i = a' ∧ j = b'
      · by_cases e2 : i = b' ∧ j = a'
        · rw [if_pos e2, if_pos (.inl e1)]
        · rw [if_neg e2, if_pos e1, if_pos (.inl e1)]
      · by_cases e2 : i = b' ∧ j = a'
        · rw [if_pos e2, if_pos (.inr e2)]
        · rw [if_neg e2, if_neg e1, if_neg (by rintro (e | e); exact e1 e; exact e2 e)]
    refine ⟨h.n, h.room, h.one, fun i j hi hj => ?_, fun y hy => h.ends y (List.mem_filter.1 hy).1, fun i j hi hj => ?_, h.t, h.tlen, h.late, fun i j hi hj hx => ?_⟩
    · show ((d.list.filter (offPair a' b')).filter (isAt i j)).map third = (cutN s a' b').q i j
      rw [hq, filter_filter_map _ _ _ (!decide ((i = a' ∧ j = b') ∨ (i = b' ∧ j = a')))]
      · by_cases e : (i = a' ∧ j = b') ∨ (i = b' ∧ j = a')
        · rw [if_neg (by simp [e]), if_pos e]
          rfl
        · rw [if_pos (by rw [decide_eq_false e]; rfl), if_neg e, h.q i j hi hj]
      · intro y hy hz
        obtain ⟨h3, h4⟩ := isAt_true.1 hz
        unfold offPair
        congr 1
        rw [Bool.eq_iff_iff, Bool.or_eq_true, isAt_true, isAt_true, decide_eq_true_eq]
        omega
    · show upd (upd d.cut a' b' true) b' a' true i j = (cutN s a' b').cut i j
      show upd (upd d.cut a' b' true) b' a' true i j = upd (upd s.cut a' b' true) b' a' true i j
      simp only [upd_at]
      rw [h.cut i j hi hj]
    · have hx : (cutN s a' b').cut i j = true := hx
      rw [hcu] at hx
      show (cutN s a' b').q i j = []
      rw [hq]
      by_cases e : (i = a' ∧ j = b') ∨ (i = b' ∧ j = a')
      · rw [if_pos e]
      · rw [if_neg e] at hx ⊢
        exact h.emp i j hi hj hx
theorem Rel.heal (h : Rel s d) : Rel (healS s) (rHealS d) := ⟨h.n, h.room, h.one, h.q, h.ends, fun _ _ _ _ => rfl, h.t, h.tlen, h.late, fun _ _ _ _ hx => by cases hx⟩
theorem Rel.badL (h : Rel s d) (l : List Int) : badL d l = !(l.all (okI s.n)) := by
  unfold Go.Proofs.Ytnpenabkmpoafaa.badL
  induction l with
  | nil => rfl
  | cons x r ih =>
    rw [List.any_cons, List.all_cons, ih]
    have h0 : okI s.n 0 = true := by
      have := h.one
      simp [okI]
      omega
    unfold badR
    rw [h.n, h0]
    cases okI s.n x <;> simp
theorem Rel.loseE (h : Rel s d) (l : List Int) : rLoseE d l = chk s.n l := by
  unfold rLoseE chk
  rw [h.badL]
  cases l.all (okI s.n) <;> rfl
theorem Rel.lose (h : Rel s d) (l : List Int) : Rel (loseS s l) (rLoseS d l) := by
  unfold rLoseS loseS chk
  rw [h.badL]
  cases hl : l.all (okI s.n) with
  | false => exact h
  | true =>
    simp only [Bool.not_true, Bool.false_eq_true, if_false, if_true]
    refine ⟨h.n, h.room, h.one, fun i j hi hj => ?_, fun y hy => h.ends y (List.mem_filter.1 hy).1, h.cut, h.t, h.tlen, h.late, fun i j hi hj hx => ?_⟩
    · show ((d.list.filter (offL l)).filter (isAt i j)).map third = if hit l i j then [] else s.q i j
      rw [filter_filter_map _ _ _ (!hit l i j)]
      · cases hh : hit l i j with
        | true => simp
        | false => simp [h.q i j hi hj]
      · intro y hy hz
        obtain ⟨h3, h4⟩ := isAt_true.1 hz
        unfold offL hit
        rw [h3, h4]
        generalize l = m
        induction m with
        | nil => rfl
        | cons x r ih =>
          rw [List.all_cons, List.any_cons, ih]
          have e1 : decide ((i : Int) = x) = decide (x = (i : Int)) := decide_eq_decide.2 ⟨Eq.symm, Eq.symm⟩
          have e2 : decide ((j : Int) = x) = decide (x = (j : Int)) := decide_eq_decide.2 ⟨Eq.symm, Eq.symm⟩
          rw [e1, e2]
          cases decide (x = (i : Int)) <;> cases decide (x = (j : Int)) <;> simp
    · show (if hit l i j then [] else s.q i j) = []
      rw [h.emp i j hi hj hx]
      split <;> rfl
theorem getD_set (t : List Nat) (x v i : Nat) (hx : x < t.length) : (t.set x v).getD i 0 = if i = x then v else t.getD i 0 := by
  rw [List.getD_eq_getElem?_getD, List.getElem?_set, List.getD_eq_getElem?_getD]
  by_cases e : x = i
  · subst e
    rw [if_pos rfl, if_pos hx, if_pos rfl]
    rfl
  · rw [if_neg e, if_neg (fun x => e x.symm)]
theorem adv_rel {n : Nat} {tk : Int} (htk : 0 ≤ tk) : ∀ (l : List Int) (t : List Nat) (f : Nat → Nat), l.all (okI n) = true → t.length = n → (∀ i, i < n → f i = t.getD i 0) → (∀ i, f i ≤ 1099511627776) →
    (adv tk t l = none ∧ l.foldl (stepC tk) (some f) = none) ∨ ∃ t' f', adv tk t l = some t' ∧ l.foldl (stepC tk) (some f) = some f' ∧ t'.length = n ∧ (∀ i, i < n → f' i = t'.getD i 0) ∧ (∀ i, f' i ≤ 1099511627776) ∧ ∀ i, t.getD i 0 ≤ t'.getD i 0
  | [], t, f, _, h1, h2, h3 => .inr ⟨t, f, rfl, rfl, h1, h2, h3, fun i => Nat.le_refl _⟩
  | x :: r, t, f, hl, h1, h2, h3 => by
    rw [List.all_cons, Bool.and_eq_true] at hl
    obtain ⟨x', rfl, hx⟩ : ∃ x' : Nat, x = x' ∧ x' < n := by
      have := hl.1
      simp only [okI, Bool.and_eq_true, decide_eq_true_eq] at this
      exact ⟨x.toNat, by omega, by omega⟩
    have hfx := h2 x' hx
    have h3x := h3 x'
    have hstep : stepC tk (some f) (x' : Int) = if (1099511627776 : Int) - f x' < tk then none else some fun i => if i = x' then f i + tk.toNat else f i := rfl
    rw [List.foldl_cons, hstep]
    unfold adv
    simp only [Int.toNat_natCast, ← hfx]
    by_cases hov : (1099511627776 : Int) - f x' < tk
    · rw [if_pos hov, if_pos hov]
      exact .inl ⟨rfl, stepC_none tk r⟩
    · rw [if_neg hov, if_neg hov]
      have hxl : x' < t.length := by omega
      rcases adv_rel htk r (t.set x' (f x' + tk.toNat)) (fun i => if i = x' then f i + tk.toNat else f i) hl.2 (by rw [List.length_set]; exact h1) (fun i hi => by
        rw [getD_set _ _ _ _ hxl]
        show (if i = x' then f i + tk.toNat else f i) = _
        by_cases e : i = x'
        · subst e; rw [if_pos rfl, if_pos rfl]
        · rw [if_neg e, if_neg e, h2 i hi]) (fun i => by
        show (if i = x' then f i + tk.toNat else f i) ≤ _
        by_cases e : i = x'
        · subst e; rw [if_pos rfl]; omega
        · rw [if_neg e]; exact h3 i) with hr | ⟨t', f', q1, q2, q3, q4, q5, q6⟩
      · exact .inl hr
      · refine .inr ⟨t', f', q1, q2, q3, q4, q5, fun i => ?_⟩
        have := q6 i
        rw [getD_set _ _ _ _ hxl] at this
        by_cases e : i = x'
        · subst e
          rw [if_pos rfl] at this
          omega
        · rw [if_neg e] at this
          exact this
theorem badK_badL (d : RS) (l : List Int) : badK d l = badL d l := rfl
theorem Rel.adv (h : Rel s d) (tk : Int) (l : List Int) : rAdvE d tk l = advE s tk l ∧ Rel (advS s tk l) (rAdvS d tk l) := by
  unfold advS rAdvS rAdvE
  rw [badK_badL, h.badL]
  have hchk : chk s.n l = if l.all (okI s.n) then 0 else 60 := rfl
  cases hl : l.all (okI s.n) with
  | false =>
    have e : advE s tk l = 60 := by
      unfold advE
      rw [hchk, hl]
      rfl
    rw [e]
    simp only [Bool.not_false, if_true]
    rw [if_neg (by decide)]
    exact ⟨trivial, h⟩
  | true =>
    simp only [Bool.not_true, Bool.false_eq_true, if_false, if_true]
    by_cases hneg : tk < 0
    · have e : advE s tk l = 63 := by
        unfold advE
        rw [hchk, hl, if_neg (by simp), if_pos hneg]
      rw [e, if_pos hneg, if_pos hneg, if_neg (by decide)]
      exact ⟨rfl, h⟩
    · rw [if_neg hneg, if_neg hneg]
      have e : advE s tk l = if (Go.Proofs.Ytnpenabkmpoafaa.adv tk s.t l).isNone then 63 else 0 := by
        unfold advE
        rw [hchk, hl, if_neg (by simp), if_neg hneg]
      rcases adv_rel (n := s.n) (tk := tk) (by omega) l s.t d.t hl h.tlen h.t h.late with ⟨h1, h2⟩ | ⟨t', f', q1, q2, q3, q4, q5, -⟩
      · have hc : rAdvC d tk l = none := h2
        rw [e, h1, hc]
        simp only [Option.isNone_none, if_true, Option.isSome_none, Bool.false_eq_true, if_false, Option.getD_none]
        exact ⟨trivial, h⟩
      · have hc : rAdvC d tk l = some f' := q2
        rw [e, q1, hc]
        simp only [Option.isNone_some, Bool.false_eq_true, if_false, Option.isSome_some, if_true, Option.getD_some]
        exact ⟨trivial, ⟨h.n, h.room, h.one, h.q, h.ends, h.cut, q4, q3, q5, h.emp⟩⟩
/-- No clock goes back. -/
theorem advS_mono {s : NS} (htl : s.t.length = s.n) (hl : ∀ x ∈ s.t, x ≤ 1099511627776) (tk : Int) (l : List Int) (i : Nat) : s.t.getD i 0 ≤ (advS s tk l).t.getD i 0 := by
  unfold advS
  by_cases he : advE s tk l = 0
  · rw [if_pos he]
    have hall : l.all (okI s.n) = true := by
      cases ha : l.all (okI s.n) with
      | true => rfl
      | false =>
        exfalso
        unfold advE chk at he
        rw [ha] at he
        simp at he
    have hneg : ¬ tk < 0 := fun hn => by
      unfold advE chk at he
      rw [hall, if_neg (by simp), if_pos hn] at he
      cases he
    rcases adv_rel (n := s.n) (tk := tk) (by omega) l s.t (fun i => s.t.getD i 0) hall htl (fun i hi => rfl) (fun i => getD_le hl i) with ⟨h1, -⟩ | ⟨t', f', q1, -, -, -, -, q6⟩
    · exfalso
      unfold advE chk at he
      rw [hall, if_neg (by simp), if_neg hneg, h1] at he
      simp at he
    · show _ ≤ ((Go.Proofs.Ytnpenabkmpoafaa.adv tk s.t l).getD s.t).getD i 0
      rw [q1]
      exact q6 i
  · rw [if_neg he]
    exact Nat.le_refl _
end
def stepS (s : NS) (x : Op6) : NS :=
  if x.kind = 1 then sendS s x.a x.b x.list else if x.kind = 2 then delS s x.a x.b x.n else if x.kind = 3 then delS s x.a x.b x.n else if x.kind = 4 then repS s x.a x.b x.n
  else if x.kind = 5 then cutS s x.a x.b else if x.kind = 6 then healS s else if x.kind = 7 then loseS s x.nodes else if x.kind = 8 then advS s x.n x.nodes else s
def rStepS (d : RS) (x : Op6) : RS :=
  if x.kind = 1 then rSendS d x.a x.b x.list else if x.kind = 2 then rDelS d x.a x.b x.n else if x.kind = 3 then rDelS d x.a x.b x.n else if x.kind = 4 then rRepS d x.a x.b x.n
  else if x.kind = 5 then rCutS d x.a x.b else if x.kind = 6 then rHealS d else if x.kind = 7 then rLoseS d x.nodes else if x.kind = 8 then rAdvS d x.n x.nodes else d
theorem Rel.step {s : NS} {d : RS} (h : Rel s d) (x : Op6) : Rel (stepS s x) (rStepS d x) := by
  unfold stepS rStepS
  split
  · exact h.send _ _ _
  split
  · exact h.del _ _ _
  split
  · exact h.del _ _ _
  split
  · exact (h.rep _ _ _).2
  split
  · exact h.cutting _ _
  split
  · exact h.heal
  split
  · exact h.lose _
  split
  · exact (h.adv _ _).2
  · exact h
theorem sendS_nrt (s : NS) (a b : Int) (ms : List (List UInt8)) : (sendS s a b ms).n = s.n ∧ (sendS s a b ms).room = s.room ∧ (sendS s a b ms).t = s.t := by
  unfold sendS; split <;> exact ⟨rfl, rfl, rfl⟩
theorem stepS_n (s : NS) (x : Op6) : (stepS s x).n = s.n ∧ (stepS s x).room = s.room := by
  unfold stepS
  split
  · exact ⟨(sendS_nrt _ _ _ _).1, (sendS_nrt _ _ _ _).2.1⟩
  split
  · unfold delS; split <;> exact ⟨rfl, rfl⟩
  split
  · unfold delS; split <;> exact ⟨rfl, rfl⟩
  split
  · unfold repS
    split
    · exact ⟨(sendS_nrt _ _ _ _).1, (sendS_nrt _ _ _ _).2.1⟩
    · exact ⟨rfl, rfl⟩
  split
  · unfold cutS; split <;> exact ⟨rfl, rfl⟩
  split
  · exact ⟨rfl, rfl⟩
  split
  · unfold loseS; split <;> exact ⟨rfl, rfl⟩
  split
  · unfold advS; split <;> exact ⟨rfl, rfl⟩
  · exact ⟨rfl, rfl⟩
theorem stepS_mono {s : NS} (htl : s.t.length = s.n) (hl : ∀ x ∈ s.t, x ≤ 1099511627776) (x : Op6) (i : Nat) : s.t.getD i 0 ≤ (stepS s x).t.getD i 0 := by
  have same : ∀ {s' : NS}, s'.t = s.t → s.t.getD i 0 ≤ s'.t.getD i 0 := fun e => by rw [e]; exact Nat.le_refl _
  unfold stepS
  split
  · exact same (sendS_nrt _ _ _ _).2.2
  split
  · exact same (by unfold delS; split <;> rfl)
  split
  · exact same (by unfold delS; split <;> rfl)
  split
  · refine same ?_
    unfold repS
    split
    · exact (sendS_nrt _ _ _ _).2.2
    · rfl
  split
  · exact same (by unfold cutS; split <;> rfl)
  split
  · exact same rfl
  split
  · exact same (by unfold loseS; split <;> rfl)
  split
  · exact advS_mono htl hl _ _ _
  · exact Nat.le_refl _
end Go.Proofs.Ytnpenabkmpoafaa
