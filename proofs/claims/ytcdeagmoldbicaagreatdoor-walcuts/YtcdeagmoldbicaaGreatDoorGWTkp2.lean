/- What is taken of a log's files, and what the files are then, in plain lists. No program in it. The walk of restore. -/
import Derived.Test.YtcdeagmoldbicaaGreatDoorGWRew2
set_option linter.unusedSimpArgs false
set_option linter.unusedVariables false
namespace Go.Proofs.YtcdeagmoldbicaaGreatDoor
/-- The file that is a segment's, all of it safe. -/
def fo (s : Sg) : Nat × Fl := (s.num, (segBytes s.fst s.recs, (segBytes s.fst s.recs).length))
def Took : Ns → List Sg → Prop
  | _, [] => True
  | [], _ :: _ => False
  | p :: r, s :: ss => parseS p.1 p.2.1 = some s ∧ (ss = [] ∨ s.siz = p.2.1.length) ∧ Took r ss
/-- Each segment follows those ahead of it. -/
def Linked (ss : List Sg) : Prop := ∀ a s b, ss = a ++ s :: b → followS s a = true
theorem Linked.nil : Linked [] := fun a s b h => by simp at h
theorem Linked.snoc {ss : List Sg} (h : Linked ss) {s : Sg} (hf : followS s ss = true) : Linked (ss ++ [s]) := by
  intro a x b e
  rcases List.eq_nil_or_concat b with rfl | ⟨b', y, rfl⟩
  · have e2 := (List.append_inj' e rfl)
    obtain ⟨rfl, e3⟩ := e2
    obtain rfl : s = x := by simpa using e3
    exact hf
  · rw [List.concat_eq_append] at e
    have e2 : ss ++ [s] = (a ++ x :: b') ++ [y] := by rw [e]; simp
    obtain ⟨rfl, -⟩ := List.append_inj' e2 rfl
    exact h a x b' rfl
theorem Linked.left {a b : List Sg} (h : Linked (a ++ b)) : Linked a := fun x s y e => h x s (y ++ b) (by rw [e]; simp)
theorem takeF_spec (ns : Ns) : ∀ acc, Linked acc → ∃ ss, takeF ns acc = acc ++ ss ∧ Took ns ss ∧ Linked (acc ++ ss) := by
  induction ns with
  | nil => intro acc h; exact ⟨[], by simp [takeF], trivial, by simpa using h⟩
  | cons p r ih =>
    intro acc h
    cases hp : parseS p.1 p.2.1 with
    | none => exact ⟨[], by rw [takeF_none hp]; simp, trivial, by simpa using h⟩
    | some s =>
      cases hf : followS s acc with
      | false => exact ⟨[], by rw [takeF_no hp hf]; simp, trivial, by simpa using h⟩
      | true =>
        by_cases ht : s.siz < p.2.1.length
        · exact ⟨[s], takeF_torn hp hf ht, ⟨hp, .inl rfl, by cases r <;> trivial⟩, h.snoc hf⟩
        · obtain ⟨ss, h1, h2, h3⟩ := ih (acc ++ [s]) (h.snoc hf)
          refine ⟨s :: ss, by rw [takeF_go hp hf ht, h1]; simp, ⟨hp, .inr ?_, h2⟩, by simpa using h3⟩
          have := (parse_inv hp).2.1
          omega
/-- What makes a segment good. -/
def goodS (s : Sg) : Prop := s.fst ≤ 4611686018427387903 ∧ short s.recs ∧ s.siz = (segBytes s.fst s.recs).length
theorem goodS.of_parse {n : Nat} {b : List UInt8} {s : Sg} (h : parseS n b = some s) : goodS s := by
  obtain ⟨h1, h2, h3, h4, h5, h6⟩ := parse_inv h
  exact ⟨h4, h5, h6⟩
theorem Took.good {ns : Ns} {ss : List Sg} (h : Took ns ss) : (∀ s ∈ ss, goodS s) ∧ ss.length ≤ ns.length ∧ ss.map Sg.num = (ns.take ss.length).map Prod.fst := by
  induction ss generalizing ns with
  | nil => exact ⟨fun s hs => by simp at hs, Nat.zero_le _, by simp⟩
  | cons s ss ih =>
    cases ns with
    | nil => exact h.elim
    | cons p r =>
      obtain ⟨h1, h2, h3⟩ := h
      obtain ⟨i1, i2, i3⟩ := ih h3
      refine ⟨fun x hx => ?_, by simpa using i2, ?_⟩
      · rcases List.mem_cons.1 hx with rfl | hx
        · exact goodS.of_parse h1
        · exact i1 x hx
      · rw [List.map_cons, List.length_cons, List.take_succ_cons, List.map_cons, i3, (parse_inv h1).1]
/-- The files, when they have been made just what was taken. -/
theorem Took.files {ns : Ns} {ss : List Sg} (h : Took ns ss) (hne : ss ≠ []) : ∃ a p sa q, ns.take ss.length = a ++ [p] ∧ ss = sa ++ [q] ∧ parseS p.1 p.2.1 = some q ∧ q.num = p.1 ∧ q.siz ≤ p.2.1.length ∧ (a ++ [trimmed p q.siz]).map synced = ss.map fo ∧ ss.map (fun s => fileN s.num) = (a ++ [trimmed p q.siz]).map (fun p => fileN p.1) := by
  induction ss generalizing ns with
  | nil => exact absurd rfl hne
  | cons s ss ih =>
    cases ns with
    | nil => exact h.elim
    | cons p r =>
      obtain ⟨h1, h2, h3⟩ := h
      obtain ⟨i1, i2, i3, i4, i5, i6⟩ := parse_inv h1
      by_cases he : ss = []
      · subst he
        have ht1 : (trimmed p s.siz).1 = p.1 := by unfold trimmed; split <;> rfl
        have ht2 : (trimmed p s.siz).2.1 = segBytes s.fst s.recs := by
          unfold trimmed
          split
          · rename_i e
            rw [e, List.take_length] at i3
            exact i3
          · exact i3
        refine ⟨[], p, [], s, by simp, rfl, h1, i1, i2, ?_, ?_⟩
        · simp only [List.nil_append, List.map_cons, List.map_nil, synced, fo, ht1, ht2, i1]
        · simp only [List.nil_append, List.map_cons, List.map_nil, ht1, i1]
      · have hs : s.siz = p.2.1.length := by
          rcases h2 with x | x
          · exact absurd x he
          · exact x
        obtain ⟨a, q, sa, t, e1, e2, e0, e3, e4, e5, e6⟩ := ih h3 he
        refine ⟨p :: a, q, s :: sa, t, by rw [List.length_cons, List.take_succ_cons, e1]; rfl, by rw [e2]; rfl, e0, e3, e4, ?_, ?_⟩
        · rw [List.cons_append, List.map_cons, e5, List.map_cons]
          congr 1
          rw [hs, List.take_length] at i3
          unfold synced fo
          rw [← i3, i1]
        · rw [List.map_cons, e6, List.cons_append, List.map_cons, i1]
theorem parse_fo {s : Sg} (h : goodS s) : parseS (fo s).1 (fo s).2.1 = some s := by
  unfold fo
  rw [parse_whole _ _ _ h.1 h.2.1, ← h.2.2]
/-- What was made so is taken whole again. -/
theorem take_fo (b a : List Sg) (h : Linked (a ++ b)) (hg : ∀ s ∈ b, goodS s) : takeF (b.map fo) a = a ++ b := by
  induction b generalizing a with
  | nil => simp [takeF]
  | cons s b ih =>
    have hs := hg s (by simp)
    rw [List.map_cons, takeF_go (parse_fo hs) (h a s b rfl) (by rw [hs.2.2]; exact Nat.lt_irrefl _)]
    have := ih (a ++ [s]) (by rw [List.append_assoc]; exact h) (fun x hx => hg x (by simp [hx]))
    rw [this]
    simp
/-- Whole files ahead, then others. -/
theorem take_fo_app (b a : List Sg) (r : Ns) (h : Linked (a ++ b)) (hg : ∀ s ∈ b, goodS s) : takeF (b.map fo ++ r) a = takeF r (a ++ b) := by
  induction b generalizing a with
  | nil => simp
  | cons s b ih =>
    have hs := hg s (by simp)
    rw [List.map_cons, List.cons_append, takeF_go (parse_fo hs) (h a s b rfl) (by rw [hs.2.2]; exact Nat.lt_irrefl _)]
    have := ih (a ++ [s]) (by rw [List.append_assoc]; exact h) (fun x hx => hg x (by simp [hx]))
    rw [this]
    simp
/-- Linked segments have rising numbers. -/
theorem Linked.nums {ss : List Sg} (h : Linked ss) : ∀ i (hi : i < ss.length), ss[i].num = (ss[0]'(by omega)).num + i := by
  intro i
  induction i with
  | zero => intro hi; rfl
  | succ i ih =>
    intro hi
    have h1 := ih (by omega)
    have e : ss = (ss.take i ++ [ss[i]]) ++ ss[i + 1] :: ss.drop (i + 2) := by
      rw [← List.take_succ_eq_append_getElem (by omega), ← List.drop_eq_getElem_cons hi, List.take_append_drop]
    have h2 := h _ _ _ e
    rw [follow_snoc] at h2
    simp only [Bool.and_eq_true, decide_eq_true_eq] at h2
    omega
end Go.Proofs.YtcdeagmoldbicaaGreatDoor
set_option linter.unusedSimpArgs false
set_option linter.unusedVariables false
namespace Go.Proofs.YtcdeagmoldbicaaGreatDoor
open Go.RowKit
theorem from_ints (A : Option Addr) (l : List Int) (c k : Nat) (hk : k ≤ l.length) (hc : l.length ≤ c) :
    ∃ SV, (∀ W, (Instr.sliceAt 42 (.slice A l.length c) (some (.int .i64 (k : Int))) none none).run Tryz.prog W = .ok SV W) ∧ ∀ W, Ints W (.slice A l.length c) l → Ints W SV (l.drop k) := by
  obtain ⟨i, z, hi, hz, hs, hb, hzs⟩ := elemI.info
  refine ⟨sliced A k l.length c 1, fun W => ?_, fun W hb => ?_⟩
  · have hel : Tryz.prog.elem 42 = 3 := by kernel_rfl
    have hu : Tryz.prog.underlying 42 = some (.slice (Tryz.prog.elem 42)) := by rw [hel]; exact Tryz.underlying42
    rw [run_sliceAt_slice W _ _ _ _ _ hu, run_slice_l W _ A l.length c hu .i64 _ (by omega) (by omega), hel]
    simp [sizeOf, typeInfo, hi, hs]
  · unfold sliced
    obtain ⟨A', c', hv, h1, h2, h3⟩ := hb
    obtain ⟨rfl, rfl⟩ : A = A' ∧ c = c' := by simpa using hv
    have hl : (l.drop k).length = l.length - k := by simp
    refine ⟨_, c - k, by rw [hl], by rw [hl]; omega, by omega, fun hp => ?_⟩
    rw [hl] at hp
    obtain ⟨b, o, rfl, hcell⟩ := h3 (by omega)
    refine ⟨b, o + k, ?_, fun j y hy => ?_⟩
    · rw [if_neg (by omega)]
      have : ((⟨b, o, none⟩ : Addr).add k) = ⟨b, o + k, none⟩ := by unfold Addr.add; split <;> simp_all
      simp [this]
    · rw [List.getElem?_drop] at hy
      rw [show o + k + j = o + (k + j) by omega]
      exact hcell _ _ hy
theorem set_log4 {w : World} {lb : Nat} {d n a b c v : Value} {t : TypeId} (h : w.heap[lb]? = some (.cells #[d, n, a, b, c] t (0, 0))) : (w.setCell ⟨lb, 4, none⟩ v).heap[lb]? = some (.cells #[d, n, a, b, v] t (0, 0)) := by
  have := Lib.heap_setCell_same (i := 4) h v
  simpa using this
theorem set_log3 {w : World} {lb : Nat} {d n a b c v : Value} {t : TypeId} (h : w.heap[lb]? = some (.cells #[d, n, a, b, c] t (0, 0))) : (w.setCell ⟨lb, 3, none⟩ v).heap[lb]? = some (.cells #[d, n, a, v, c] t (0, 0)) := by
  have := Lib.heap_setCell_same (i := 3) h v
  simpa using this
theorem used_take_le (ns : Ns) (k : Nat) : used (dsk (ns.take k)) ≤ used (dsk ns) := by
  have e : dsk ns = dsk (ns.take k) ++ dsk (ns.drop k) := by rw [← dsk_app, List.take_append_drop]
  rw [e, used_app]
  omega
theorem NsOk.take {ns : Ns} (h : NsOk ns) (k : Nat) : NsOk (ns.take k) := NsOk.left (b := ns.drop k) (by rw [List.take_append_drop]; exact h)
/-- trim, whatever was taken. -/
theorem trim_both (ns : Ns) (ss : List Sg) (ps : Ps) (lb : Nat) (sv d : Value) (lim safe cap : Nat) (F G : Nat → Prop) (w : World) (h : Lgm w lb sv ps d lim safe G) (hd : Disk w d cap (dsk (ns.take ss.length)) F) (hF : ∀ g, F g → g < w.heap.size) (hFG : ∀ g, G g → ¬ F g)
    (hns : NsOk ns) (hT : Tb w) (hlen : ns.length ≤ 1000000) (hsg : sgs ps = ss) (htk : Took ns ss) (hroom : 2 * used (dsk ns) ≤ cap ∨ ∀ p ∈ ns, ∀ s, parseS p.1 p.2.1 = some s → s.siz = p.2.1.length) :
    Calls Tryz.prog 75 #[.pointer (some ⟨lb, 0, none⟩)] w fun e w' => e = .returned (.int .i64 0) ∧ (∃ ms, Disk w' d cap (dsk ms) (ext F w w') ∧ NsOk ms ∧ ms.map synced = ss.map fo ∧ ss.map (fun s => fileN s.num) = ms.map (fun p => fileN p.1)) ∧ Chg F w w' := by
  by_cases he : ss = []
  · subst he
    have hp : ps = [] := by
      have := congrArg List.length hsg
      rw [sgs_len] at this
      exact List.eq_nil_of_length_eq_zero (by simpa using this)
    subst hp
    refine (trim_none lb sv d lim safe G w h).mono ?_
    rintro e w' ⟨rfl, k⟩
    exact ⟨rfl, ⟨[], (hd.kept k).mono (fun g x => .inl x), ⟨List.Pairwise.nil, fun p hp => by simp at hp⟩, rfl, rfl⟩, Chg.of_kept k⟩
  · obtain ⟨a, p, sa, q, e1, e2, e0, e3, e4, e5, e6⟩ := htk.files he
    have hnk := hns.take ss.length
    obtain ⟨i1, i2, i3⟩ := htk.good
    have hul := used_take_le ns ss.length
    rw [e1] at hd hnk hul
    rcases List.eq_nil_or_concat ps with rfl | ⟨pa, r, rfl⟩
    · have : ss = [] := by rw [← hsg]; rfl
      exact absurd this he
    · rw [List.concat_eq_append] at *
      have hr : r.1 = q := by
        rw [sgs_snoc, e2] at hsg
        have := (List.append_inj' hsg rfl).2
        simpa using this
      subst hr
      have hal : a.length ≤ 1000000 := by
        have := congrArg List.length e1
        simp at this
        omega
      have hpu : p.2.1.length ≤ used (dsk (a ++ [p])) := by
        have := used_get hd.good.1.1 (fileN p.1)
        rw [get_dsk hnk (p := p) (by simp)] at this
        simpa using this
      have hpm : p ∈ ns := List.mem_of_mem_take (i := ss.length) (by rw [e1]; simp)
      have hparse : ∃ s, parseS p.1 p.2.1 = some s ∧ s.siz = r.1.siz := by
        exact ⟨r.1, e0, rfl⟩
      refine (trimL_any a p pa r lb sv d lim safe cap F G w h hd hF hFG hnk hT hal e3 e4 ?_).mono ?_
      · rcases hroom with x | x
        · right; omega
        · left
          obtain ⟨s, h1, h2⟩ := hparse
          rw [← h2]
          exact x p hpm s h1
      · rintro e w' ⟨rfl, hd', hC⟩
        refine ⟨rfl, ⟨_, hd', ?_, e5, e6⟩, hC⟩
        exact hnk.turn (by unfold trimmed; split <;> rfl)
/-- The log's own block is none of its rows. -/
theorem Segs.other_lb {w w' : World} {sv : Value} {ps : Ps} {G : Nat → Prop} (h : Segs w sv ps G) {lb : Nat} (c : Chg (fun g => g = lb) w w') {cs : Array Value} (hb : w.heap[lb]? = some (.cells cs 84 (0, 0))) : Segs w' sv ps G := by
  have hne : ∀ {e : TypeId} {s n : Nat} {v : Value} {xs : List Value}, w.ownsRow 0 e s v n xs → e ≠ 84 → ∀ g, v.ownBlock = some g → ¬ g = lb := by
    rintro e s n v xs ho hne g hg rfl
    obtain ⟨cur, hc⟩ := own_type ho hg
    rw [hb] at hc
    injection hc with hc
    injection hc with _ hc
    exact hne hc.symm
  refine ⟨own_chg h.row c (hne h.row (by decide)), fun p hp => ?_, h.apart, h.rowG⟩
  obtain ⟨us, a1, a2, a3⟩ := h.recs p hp
  refine ⟨us, own_chg a1 c (hne a1 (by decide)), a2, fun k hk => ?_⟩
  obtain ⟨u, b1, b2, b3⟩ := a3 k hk
  exact ⟨u, b1, own_chg b2 c (hne b2 (by decide)), b3⟩
/-- Sync of all files. -/
theorem sync_many (ms : Ns) (v d : Value) (cap : Nat) (F : Nat → Prop) (W : World) (hx : Disk W d cap (dsk ms) F) (hms : NsOk ms) (hv : ∀ W', Chg F W W' → Txts W' v (ms.map fun p => fileN p.1)) :
    Calls Tryz.prog 47 #[d, v] W fun e w' => e = .returned (.int .i64 0) ∧ Disk w' d cap (dsk (ms.map synced)) (ext F W w') ∧ Chg F W w' := by
  have hall : allS (ms.map fun p => fileN p.1) (dsk ms) = 0 := all_names hms (fun x hx => by
    obtain ⟨p, hp, rfl⟩ := List.mem_map.1 hx
    exact ⟨p, hp, rfl⟩)
  have hsyn := sync_dsk ms [] (by rw [List.nil_append]; exact hms)
  rw [List.nil_append, List.nil_append] at hsyn
  generalize ms.map (fun p => fileN p.1) = ls at *
  refine (sync_any ls v d cap (dsk ms) F W hx hv).mono ?_
  rintro e w' ⟨h1, h2, h3⟩
  rw [hall] at h1 h2
  rw [if_pos rfl, hsyn] at h2
  exact ⟨h1, h2, h3⟩
/-- What stands when a log has been opened. -/
structure Pair (w : World) (lb : Nat) (sv : Value) (ps : Ps) (d : Value) (cap : Nat) (fs : Fls) (lim safe : Nat) (F G : Nat → Prop) : Prop where
  log : Lgm w lb sv ps d lim safe G
  disk : Disk w d cap fs F
  apart : ∀ g, G g → ¬ F g
  inF : ∀ g, F g → g < w.heap.size
  inG : ∀ g, G g → g < w.heap.size
theorem Pair.kept {w w' : World} {lb : Nat} {sv : Value} {ps : Ps} {d : Value} {cap : Nat} {fs : Fls} {lim safe : Nat} {F G : Nat → Prop} (h : Pair w lb sv ps d cap fs lim safe F G) (k : Kept w w') : Pair w' lb sv ps d cap fs lim safe F G :=
  ⟨h.log.kept k, h.disk.kept k, h.apart, fun g x => Nat.lt_of_lt_of_le (h.inF g x) k.size, fun g x => Nat.lt_of_lt_of_le (h.inG g x) k.size⟩
set_option maxRecDepth 100000 in
set_option maxHeartbeats 8000000 in
theorem restore_any (ns : Ns) (lb : Nat) (d : Value) (lim cap : Nat) (F : Nat → Prop) (w0 w : World) (h : Lgm w lb (.slice none 0 0) [] d lim 0 (fun g => g = lb)) (hd : Disk w d cap (dsk ns) F) (hT : Tb w0) (hK0 : Kept w0 w) (hF : ∀ g, F g → w0.heap.size ≤ g ∧ g < w.heap.size) (hlb0 : w0.heap.size ≤ lb) (hlbF : ¬ F lb)
    (hns : NsOk ns) (hlen : ns.length ≤ 1000000) (hroom : 2 * used (dsk ns) ≤ cap ∨ ∀ p ∈ ns, ∀ s, parseS p.1 p.2.1 = some s → s.siz = p.2.1.length) :
    Calls Tryz.prog 35 #[.pointer (some ⟨lb, 0, none⟩)] w fun e w' => e = .returned (.int .i64 0) ∧ ∃ sv ps F' G', Pair w' lb sv ps d cap (dsk ((takeF ns []).map fo)) lim (nextS (takeF ns [])) F' G' ∧ sgs ps = takeF ns [] ∧ bounded ps ∧
      (∀ g, F' g → F g ∨ w.heap.size ≤ g) ∧ (∀ g, G' g → g = lb ∨ w.heap.size ≤ g) ∧ Chg (fun g => F g ∨ g = lb) w w' := by
  obtain ⟨db, rfl⟩ := hd.form
  have H := Lib.hid h
  have HD := Lib.hid hd
  have HNS := Lib.hid hns
  have HF := Lib.hid hF
  have c0 := h.c0
  have c1 := h.c1
  have hlb := h.lt
  have HN := Lib.hid (numbers_wal ns _ cap F w hd hns (hT.kept hK0) hlen)
  obtain ⟨ss, hts, htk, hlk⟩ := takeF_spec ns [] Linked.nil
  rw [List.nil_append] at hts hlk
  rw [hts]
  have HTS := Lib.hid hts
  have HTK := Lib.hid htk
  have HLK := Lib.hid hlk
  have HRM := Lib.hid hroom
  have HT := Lib.hid hT
  clear h hd hns hF hts htk hlk hroom hT
  go_enter Tryz.func35, Tryz.ntmps35
  go_wp2_with fail
  refine HN.out.mono ?_
  rintro e w1 ⟨v1, rfl, ho1, k1⟩
  have hi1 := Ints.of_nums ho1
  rw [List.map_map] at hi1
  have HI1 := Lib.hid (show Ints w1 v1 (ns.map fun p => (p.1 : Int)) from hi1)
  obtain ⟨A1, cc1, hv1⟩ := own_form ho1
  subst hv1
  have hcc1 : ns.length ≤ cc1 := by
    obtain ⟨A', c', e, h1, -⟩ := HI1.out
    rw [List.length_map] at e h1
    obtain ⟨-, rfl⟩ : A1 = A' ∧ cc1 = c' := by simpa using e
    exact h1
  have HO1 := Lib.hid ho1
  have d0 := k1.cell c0
  have d1 := k1.cell c1
  clear ho1 hi1
  go_wp2_with fail
  refine (take_any ns _ _ cap F w1 (HD.out.kept k1) HNS.out (HT.out.kept (hK0.trans k1)) hlen HI1.out).mono ?_
  rintro e w2 ⟨v2, ps, rfl, hs2, hsg, hbd, k2⟩
  rw [HTS.out] at hsg
  have hk12 := k1.trans k2
  have hb2 := hk12.block' H.out.cells
  have f4 := frozen_at hb2 4
  have e4 := cell_at hb2 4
  simp only [List.getElem?_toArray, List.getElem?_cons_zero, List.getElem?_cons_succ] at e4
  obtain ⟨A2, cc2, hv2, hl2, hm2⟩ := hs2.form
  subst hv2
  have HS2 := Lib.hid hs2
  have HSG := Lib.hid hsg
  have HBD := Lib.hid hbd
  have HB2 := Lib.hid hb2
  have HPL := Lib.hid (show ps.length = ss.length by rw [← hsg, sgs_len])
  clear hs2 hsg hbd hb2
  go_wp2
  have hb3 := set_log4 (v := .slice A2 ps.length cc2) HB2.out
  have hC3 : Chg (fun g => g = lb) w (w2.setCell ⟨lb, 4, none⟩ (.slice A2 ps.length cc2)) := (Chg.of_kept hk12).setCell _ (fun _ => rfl)
  have hC23 : Chg (fun g => g = lb) w2 (w2.setCell ⟨lb, 4, none⟩ (.slice A2 ps.length cc2)) := (Chg.refl _ w2).setCell _ (fun _ => rfl)
  generalize w2.setCell ⟨lb, 4, none⟩ (.slice A2 ps.length cc2) = w3 at *
  have hs12 := k1.size
  have hs22 := k2.size
  have hs3 := hC23.size
  have HSEG3 := Lib.hid (HS2.out.chg hC23 (fun g hg e => by
    rcases hg with x | x
    · exact x
    · omega))
  have hL3 : Lgm w3 lb (.slice A2 ps.length cc2) ps (.pointer (some ⟨db, 0, none⟩)) lim 0 (fun g => g = lb ∨ fresh w1 w2 g) := ⟨hb3, HSEG3.out.mono (fun g hg => .inr hg), .inl rfl⟩
  have HL3 := Lib.hid hL3
  have HD3 := Lib.hid (HD.out.chg hC3 (fun g hg e => hlbF (by rw [← e]; exact hg)))
  have u0 := hL3.c0
  have u1 := hL3.c1
  have u4 := hL3.c4
  have hK03 : Kept w0 w3 := hC3.kept hK0 (fun g e => by omega)
  have hF3 : ∀ g, F g → g < w3.heap.size := fun g hg => by have := (HF.out g hg).2; omega
  have HF3 := Lib.hid hF3
  have ho3 := own_chg (own_kept HO1.out k2) hC23 (fun g hg e => by have := (HO1.out.lt g hg).1; omega)
  have hiw3 : Ints w3 (.slice A1 ns.length cc1) (ns.map fun p => (p.1 : Int)) := by
    have := Ints.of_nums ho3
    rw [List.map_map] at this
    exact this
  clear ho3
  obtain ⟨SV, hsv, hsi⟩ := from_ints A1 (ns.map fun p => (p.1 : Int)) cc1 ps.length (by rw [List.length_map, HPL.out]; exact HTK.out.good.2.1) (by rw [List.length_map]; exact hcc1)
  rw [List.length_map] at hsv hsi
  rw [HPL.out, ← List.map_drop] at hsi
  have HSI := Lib.hid hsi
  have HIW3 := Lib.hid hiw3
  have hspl : ns.take ss.length ++ ns.drop ss.length = ns := List.take_append_drop ..
  have HDR := Lib.hid (show ∀ W, Kept w3 W → _ from fun W hW => drop_any (ns.take ss.length) (ns.drop ss.length) (.pointer (some ⟨db, 0, none⟩)) SV cap F W (by rw [hspl]; exact HD3.out.kept hW) (fun g hg => Nat.lt_of_lt_of_le (HF3.out g hg) hW.size) (by rw [hspl]; exact HNS.out) (HT.out.kept (hK03.trans hW)) (by rw [hspl]; exact hlen) (HSI.out W (HIW3.out.kept hW)))
  clear hL3 hF3 hiw3 hsi hspl hb3 d0 d1 e4 f4
  have hKr := (Kept.refl w3).drew
  go_region_held3 (fun W => W.cell? ⟨lb, 0, none⟩ = some (.pointer (some ⟨db, 0, none⟩)) ∧ W.cell? ⟨lb, 1, none⟩ = some (.string ⟨lg.toArray⟩) ∧ W.cell? ⟨lb, 4, none⟩ = some (.slice A2 ps.length cc2))
    (first | exact ⟨u0, u1, u4⟩ | exact ⟨y0, y1, y4⟩)
    (first
      | (go_at_call 74; refine (HDR.out _ hKr).mono ?_; rintro e w4 ⟨rfl, hd4, hC4⟩; have y0 := hC4.cell (hKr.cell u0) hlbF; have y1 := hC4.cell (hKr.cell u1) hlbF; have y4 := hC4.cell (hKr.cell u4) hlbF; have HD4 := Lib.hid hd4; clear hd4))
  have hww3 : w3.drew.heap.size = w3.heap.size := rfl
  have hC34 : Chg F w3 w4 := (Chg.of_kept hKr).trans hC4 (fun g _ x => x)
  have hs4 := hC34.size
  have hG3F : ∀ g, (g = lb ∨ fresh w1 w2 g) → ¬ F g := fun g hg x => by
    have := (HF.out g x).2
    rcases hg with rfl | y | y
    · exact hlbF x
    · exact y
    · omega
  have HL4 := Lib.hid (HL3.out.chg hC34 hG3F)
  have hK04 : Kept w0 w4 := hC34.kept hK03 (fun g x => (HF.out g x).1)
  have hF4b : ∀ g, ext F w3.drew w4 g → (w0.heap.size ≤ g ∧ g < w4.heap.size) ∧ ¬ (g = lb ∨ fresh w1 w2 g) := fun g hg => by
    have hw0 := hK03.size
    rcases hg with x | x
    · have := HF.out g x
      exact ⟨by omega, fun y => hG3F g y x⟩
    · refine ⟨by omega, fun y => ?_⟩
      rcases y with y | y | y
      · omega
      · exact y
      · omega
  have hF4c : ∀ g, ext F w3.drew w4 g → F g ∨ w.heap.size ≤ g := fun g hg => by
    rcases hg with x | x
    · exact .inl x
    · exact .inr (by omega)
  generalize ext F w3.drew w4 = F4 at *
  have HF4 := Lib.hid hF4b
  have HF4C := Lib.hid hF4c
  clear hF4b hF4c
  have HTR := Lib.hid (trim_both ns ss ps lb _ _ lim 0 cap _ _ w4 HL4.out HD4.out (fun g hg => (HF4.out g hg).1.2) (fun g hg x => (HF4.out g x).2 hg) HNS.out (HT.out.kept hK04) hlen HSG.out HTK.out HRM.out)
  go_wp2_with fail
  refine HTR.out.mono ?_
  rintro e w5 ⟨rfl, ⟨ms, hd5, hms, hm1, hm2⟩, hC5⟩
  have hs5 := hC5.size
  have HL5 := Lib.hid (HL4.out.chg hC5 (fun g hg x => (HF4.out g x).2 hg))
  have HD5 := Lib.hid hd5
  have hK05 : Kept w0 w5 := hC5.kept hK04 (fun g x => (HF4.out g x).1.1)
  have HMS := Lib.hid hms
  have HM1 := Lib.hid hm1
  have HM2 := Lib.hid hm2
  clear hd5 hms hm1 hm2
  have hF5b : ∀ g, ext F4 w4 w5 g → (w0.heap.size ≤ g ∧ g < w5.heap.size) ∧ ¬ (g = lb ∨ fresh w1 w2 g) := fun g hg => by
    have hw0 := hK04.size
    rcases hg with x | x
    · have := HF4.out g x
      exact ⟨by omega, this.2⟩
    · refine ⟨by omega, fun y => ?_⟩
      rcases y with y | y | y
      · omega
      · exact y
      · omega
  have hF5c : ∀ g, ext F4 w4 w5 g → F g ∨ w.heap.size ≤ g := fun g hg => by
    rcases hg with x | x
    · exact HF4C.out g x
    · exact .inr (by omega)
  generalize ext F4 w4 w5 = F5 at *
  have HF5 := Lib.hid hF5b
  have HF5C := Lib.hid hF5c
  clear hF5b hF5c
  have hpsn : ∀ p ∈ ps, p.1.num < 1000000 := fun p hp => (HBD.out p hp).1
  have hpsl : ps.length ≤ 1000000 := by rw [HPL.out]; have := HTK.out.good.2.1; omega
  have HFL := Lib.hid (show ∀ W, Kept w5 W → _ from fun W hW => files_wal (.slice A2 ps.length cc2) (.pointer (some ⟨db, 0, none⟩)) ps _ W (HL5.out.segs.kept hW) (HT.out.kept (hK05.trans hW)) hpsl hpsn)
  have hnames : ps.map (fun p => fileN p.1.num) = ms.map (fun p => fileN p.1) := by
    rw [← HM2.out, ← HSG.out]
    simp [sgs]
  rw [hnames] at HFL
  have HSY := Lib.hid (show ∀ (v : Value) W, Kept w5 W → _ → _ from fun v W hW hv => sync_many ms v (.pointer (some ⟨db, 0, none⟩)) cap F5 W (HD5.out.kept hW) HMS.out hv)
  rw [HM1.out] at HSY
  clear hpsn hnames y0 y1 y4 u0 u1 u4
  have u0 := HL5.out.c0
  have u1 := HL5.out.c1
  have u4 := HL5.out.c4
  go_wp2
  have hKr5 := (Kept.refl w5).drew
  go_region_held3 (fun W => W.cell? ⟨lb, 0, none⟩ = some (.pointer (some ⟨db, 0, none⟩)) ∧ W.cell? ⟨lb, 1, none⟩ = some (.string ⟨lg.toArray⟩) ∧ W.cell? ⟨lb, 4, none⟩ = some (.slice A2 ps.length cc2))
    (first | exact ⟨u0, u1, u4⟩ | exact ⟨hq6.cell u0, hq6.cell u1, hq6.cell u4⟩ | exact ⟨y0, y1, y4⟩)
    (first
      | (go_at_call 52; refine (HFL.out _ hKr5).mono ?_; rintro e w6 ⟨v6, rfl, ho6, hqf⟩; have hq6 : Kept w5 w6 := hKr5.trans hqf; have HO6 := Lib.hid ho6; clear ho6)
      | (go_at_call 47; refine (HSY.out _ _ hq6 (fun W' hW' => Txts.of_own (own_chg HO6.out hW' (fun g hg x => by have h1 := (HO6.out.lt g hg).1; have h2 := (HF5.out g x).1.2; have h3 : w5.drew.heap.size = w5.heap.size := rfl; omega)))).mono ?_; rintro e w7 ⟨rfl, hd7, hC7⟩; have y0 := hC7.cell (hq6.cell u0) (fun x => (HF5.out _ x).2 (.inl rfl)); have y1 := hC7.cell (hq6.cell u1) (fun x => (HF5.out _ x).2 (.inl rfl)); have y4 := hC7.cell (hq6.cell u4) (fun x => (HF5.out _ x).2 (.inl rfl)); have HD7 := Lib.hid hd7; clear hd7))
  have hs6 := hq6.size
  have hs7 := hC7.size
  have HL7 := Lib.hid ((HL5.out.kept hq6).chg hC7 (fun g hg x => (HF5.out g x).2 hg))
  have hnx : nextS (sgs ps) < 9000000000000000000 := by
    rcases List.eq_nil_or_concat ps with rfl | ⟨pa, r, rfl⟩
    · simp [sgs, nextS]
    · rw [List.concat_eq_append, sgs_snoc, nextS_snoc]
      have := HBD.out r (by simp)
      unfold Sg.next
      omega
  have HNX := Lib.hid (nextL_any lb _ ps _ lim 0 _ w7 HL7.out (by omega))
  rw [HSG.out] at HNX hnx
  go_wp2_with fail
  refine HNX.out.mono ?_
  rintro e w8 ⟨rfl, k8⟩
  have hb8 := k8.block' HL7.out.cells
  have f3 := frozen_at hb8 3
  have e3 := cell_at hb8 3
  simp only [List.getElem?_toArray, List.getElem?_cons_zero, List.getElem?_cons_succ] at e3
  have HB8 := Lib.hid hb8
  clear hb8
  go_wp2
  go_ret
  have hb9 := set_log3 (v := .int .i64 (nextS ss : Int)) HB8.out
  have hC9 : Chg (fun g => g = lb) w8 (w8.setCell ⟨lb, 3, none⟩ (.int .i64 (nextS ss : Int))) := (Chg.refl _ w8).setCell _ (fun _ => rfl)
  generalize w8.setCell ⟨lb, 3, none⟩ (.int .i64 (nextS ss : Int)) = w9 at *
  have hs8 := k8.size
  have hs9 := hC9.size
  have hseg4 := HSEG3.out.chg hC34 (fun g hg => hG3F g (.inr hg))
  have hseg5 := hseg4.chg hC5 (fun g hg x => (HF4.out g x).2 (.inr hg))
  have hseg7 := (hseg5.kept hq6).chg hC7 (fun g hg x => (HF5.out g x).2 (.inr hg))
  have hseg9 := (hseg7.kept k8).chg hC9 (fun g hg e => by
    rcases hg with x | x
    · exact x
    · omega)
  have hF7 : ∀ g, ext F5 w6 w7 g → g < w7.heap.size ∧ ¬ (g = lb ∨ fresh w1 w2 g) ∧ (F g ∨ w.heap.size ≤ g) := fun g hg => by
    rcases hg with x | x
    · have h1 := HF5.out g x
      exact ⟨by omega, h1.2, HF5C.out g x⟩
    · refine ⟨x.2, fun y => ?_, .inr (by omega)⟩
      rcases y with y | y | y
      · omega
      · exact y
      · omega
  have hd9 := (HD7.out.kept k8).chg hC9 (fun g hg e => (hF7 g hg).2.1 (.inl e))
  refine ⟨rfl, .slice A2 ps.length cc2, ps, ext F5 w6 w7, fun g => g = lb ∨ fresh w1 w2 g, ⟨⟨hb9, hseg9.mono (fun g hg => .inr hg), .inl rfl⟩, hd9, fun g hg x => (hF7 g x).2.1 hg, fun g hg => by have := (hF7 g hg).1; omega, fun g hg => ?_⟩, HSG.out, HBD.out, fun g hg => (hF7 g hg).2.2, fun g hg => ?_, ?_⟩
  · rcases hg with x | x | x
    · omega
    · exact x.elim
    · omega
  · rcases hg with x | x | x
    · exact .inl x
    · exact x.elim
    · exact .inr (by omega)
  · have c1 : Chg (fun g => F g ∨ g = lb) w w3 := hC3.mono (fun g _ x => .inr x)
    have c2 := c1.trans hC34 (fun g _ x => .inl x)
    have c3 := c2.trans hC5 (fun g hg x => by
      rcases HF4C.out g x with y | y
      · exact .inl y
      · omega)
    have c4 := (c3.then_kept hq6).trans hC7 (fun g hg x => by
      rcases HF5C.out g x with y | y
      · exact .inl y
      · omega)
    exact (c4.then_kept k8).trans hC9 (fun g _ x => .inr x)
end Go.Proofs.YtcdeagmoldbicaaGreatDoor
