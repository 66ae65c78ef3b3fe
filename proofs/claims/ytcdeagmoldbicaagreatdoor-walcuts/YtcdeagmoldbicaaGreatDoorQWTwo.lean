/- A log that is only read any more, beside its disk, on which another log is opened. -/
import Derived.Test.YtcdeagmoldbicaaGreatDoorQWMny
import Derived.Test.YtcdeagmoldbicaaGreatDoorQWCrs
set_option linter.unusedSimpArgs false
set_option linter.unusedVariables false
namespace Go.Proofs.YtcdeagmoldbicaaGreatDoor
open Go.RowKit
/-- A log's own memory. -/
def Lgo (w : World) (lb : Nat) (ss : List Sg) (G : Nat → Prop) : Prop :=
  ∃ sv ps d lim safe, Lgm w lb sv ps d lim safe G ∧ sgs ps = ss ∧ bounded ps ∧ Linked ss ∧ ps.length ≤ 1000000 ∧ short (recsOf ss)
theorem Lgo.chg {w w' : World} {lb : Nat} {ss : List Sg} {F G : Nat → Prop} (h : Lgo w lb ss G) (c : Chg F w w') (hF : ∀ g, G g → ¬ F g) : Lgo w' lb ss G := by
  obtain ⟨sv, ps, d, lim, safe, h1, h2⟩ := h
  exact ⟨sv, ps, d, lim, safe, h1.chg c hF, h2⟩
theorem Lgo.kept {w w' : World} {lb : Nat} {ss : List Sg} {G : Nat → Prop} (h : Lgo w lb ss G) (k : Kept w w') : Lgo w' lb ss G := h.chg (Chg.of_kept (F := no) k) (fun _ _ x => x)
theorem next_lgo {w : World} {lb : Nat} {ss : List Sg} {G : Nat → Prop} (h : Lgo w lb ss G) :
    Calls Tryz.prog 27 #[.pointer (some ⟨lb, 0, none⟩)] w fun e w' => e = .returned (.int .i64 (nextS ss : Int)) ∧ Kept w w' := by
  obtain ⟨sv, ps, d, lim, safe, h1, rfl, hbd, -⟩ := h
  refine nextL_any lb sv ps d lim safe G w h1 ?_
  rcases List.eq_nil_or_concat ps with rfl | ⟨pa, q, rfl⟩
  · simp [sgs, nextS]
  · rw [List.concat_eq_append, sgs_snoc, nextS_snoc]
    have := hbd q (by simp)
    unfold Sg.next
    omega
theorem Lgo.small {w : World} {lb : Nat} {ss : List Sg} {G : Nat → Prop} (h : Lgo w lb ss G) : nextS ss < 9000000000000000000 := by
  obtain ⟨sv, ps, d, lim, safe, h1, rfl, hbd, -⟩ := h
  rcases List.eq_nil_or_concat ps with rfl | ⟨pa, q, rfl⟩
  · simp [sgs, nextS]
  · rw [List.concat_eq_append, sgs_snoc, nextS_snoc]
    have := hbd q (by simp)
    unfold Sg.next
    omega
theorem first_lgo {w : World} {lb : Nat} {ss : List Sg} {G : Nat → Prop} (h : Lgo w lb ss G) :
    Calls Tryz.prog 28 #[.pointer (some ⟨lb, 0, none⟩)] w fun e w' => e = .returned (.int .i64 (firstS ss : Int)) ∧ Kept w w' := by
  obtain ⟨sv, ps, d, lim, safe, h1, rfl, hbd, -⟩ := h
  exact first_any lb sv ps d lim safe G w h1
theorem get_lgo {w : World} {lb : Nat} {ss : List Sg} {G : Nat → Prop} (h : Lgo w lb ss G) (i : Nat) (r : List UInt8) (h1 : firstS ss ≤ i) (hr : (recsOf ss)[i - firstS ss]? = some r) :
    Calls Tryz.prog 29 #[.pointer (some ⟨lb, 0, none⟩), .int .i64 (i : Int)] w fun e w' => ∃ v, e = .returned (.tuple #[v, .int .i64 0]) ∧ w'.ownsRow w.heap.size 5 1 v r.length (Lib.byteCells r) ∧ Kept w w' := by
  obtain ⟨sv, ps, d, lim, safe, h0, rfl, hbd, hL, hpl, hs⟩ := h
  have hlt := (List.getElem?_eq_some_iff.1 hr).1
  have hn := hL.next
  have := hs r (List.mem_of_getElem? hr)
  exact get_ok lb sv ps d lim safe G i r w h0 hL hbd hpl h1 (by omega) hr (by omega)
theorem getno_lgo {w : World} {lb : Nat} {ss : List Sg} {G : Nat → Prop} (h : Lgo w lb ss G) (i : Nat) (h1 : i < firstS ss ∨ nextS ss ≤ i) :
    Calls Tryz.prog 29 #[.pointer (some ⟨lb, 0, none⟩), .int .i64 (i : Int)] w fun e w' => e = .returned (.tuple #[.slice none 0 0, .int .i64 41]) ∧ Kept w w' := by
  obtain ⟨sv, ps, d, lim, safe, h0, rfl, hbd, -⟩ := h
  exact get_no lb sv ps d lim safe G i w h0 hbd h1
/-- A log and the disk that it was opened on, younger than a world. -/
def TwoSt (w0 w : World) (lb : Nat) (ss : List Sg) (d : Value) (cap : Nat) (ns : Ns) : Prop :=
  ∃ F G, Disk w d cap (dsk ns) F ∧ Lgo w lb ss G ∧ (∀ g, G g → ¬ F g) ∧ (∀ g, F g → w0.heap.size ≤ g ∧ g < w.heap.size) ∧ (∀ g, G g → w0.heap.size ≤ g ∧ g < w.heap.size) ∧ Kept w0 w
theorem len_of {ps : Ps} {safe : Nat} {ns : Ns} (a2 : Inv (sgs ps) safe ns) : ps.length ≤ 1000000 := by
  have h1 := a2.len
  rcases List.eq_nil_or_concat ps with rfl | ⟨pa, q, rfl⟩
  · simp
  · rw [List.concat_eq_append] at *
    have h2 := h1.2 q.1 (by rw [sgs_snoc]; simp)
    rw [sgs_len, sgs_snoc, lastNum_snoc] at h1
    omega
theorem TwoSt.of_lst {H : Nat → Prop} {w0 w : World} {lb : Nat} {d : Value} {cap lim safe : Nat} {ss : List Sg} {ns : Ns} (h : LSt H w0 w lb d cap lim safe ss ns) : TwoSt w0 w lb ss d cap ns := by
  obtain ⟨sv, ps, F, G, hP, rfl, a2, a3, a4, a5⟩ := h
  exact ⟨F, G, hP.disk, ⟨sv, ps, d, lim, safe, hP.log, rfl, bounded_of hP a2, a2.linked, len_of a2, recs_short a2.good⟩, hP.apart, fun g x => ⟨a4 g (a3 g (.inl x)), hP.inF g x⟩, fun g x => ⟨a4 g (a3 g (.inr x)), hP.inG g x⟩, a5⟩
theorem TwoSt.kept {w0 w w' : World} {lb : Nat} {ss : List Sg} {d : Value} {cap : Nat} {ns : Ns} (h : TwoSt w0 w lb ss d cap ns) (k : Kept w w') : TwoSt w0 w' lb ss d cap ns := by
  obtain ⟨F, G, h1, h2, h3, h4, h5, h6⟩ := h
  have := k.size
  exact ⟨F, G, h1.kept k, h2.kept k, h3, fun g x => ⟨(h4 g x).1, by have := (h4 g x).2; omega⟩, fun g x => ⟨(h5 g x).1, by have := (h5 g x).2; omega⟩, h6.trans k⟩
theorem TwoSt.dk {w0 w : World} {lb : Nat} {ss : List Sg} {d : Value} {cap : Nat} {ns : Ns} (h : TwoSt w0 w lb ss d cap ns) : DK w0 w d cap (dsk ns) := by
  obtain ⟨F, G, h1, h2, h3, h4, h5, h6⟩ := h
  exact ⟨h1.mono (fun g x => (h4 g x).1), h6⟩
theorem crash_two {w0 w : World} {lb : Nat} {ss : List Sg} {d : Value} {cap : Nat} {ns : Ns} (h : TwoSt w0 w lb ss d cap ns) :
    Calls Tryz.prog 19 #[d, .slice none 0 0] w fun e w' => e = .returned (.tuple #[]) ∧ TwoSt w0 w' lb ss d cap (crashN [] ns) := by
  obtain ⟨F, G, h1, h2, h3, h4, h5, h6⟩ := h
  refine (crash_any [] _ d cap _ F w h1 (fun W _ => ints_none W)).mono ?_
  rintro e w' ⟨rfl, hd, c⟩
  rw [crash_dsk] at hd
  have hs := c.size
  have h0 := h6.size
  refine ⟨rfl, ext F w w', G, hd, h2.chg c h3, fun g x y => ?_, fun g x => ?_, fun g x => ⟨(h5 g x).1, by have := (h5 g x).2; omega⟩, c.kept h6 (fun g x => (h4 g x).1)⟩
  · rcases y with y | y
    · exact h3 g x y
    · have := (h5 g x).2
      omega
  · rcases x with x | x
    · exact ⟨(h4 g x).1, by have := (h4 g x).2; omega⟩
    · exact ⟨by omega, x.2⟩
/-- Open beside a log. -/
theorem open_two {w0 w : World} {lb : Nat} {ss : List Sg} {d : Value} {cap : Nat} {ns : Ns} (lim : Nat) (h : TwoSt w0 w lb ss d cap ns) (hT : Tb w0) (hl1 : 16 ≤ lim) (hl2 : lim ≤ 1048576) (hns : NsOk ns) (hlen : ns.length ≤ 1000000) (hroom : 2 * used (dsk ns) ≤ cap ∨ ∀ p ∈ ns, ∀ s, parseS p.1 p.2.1 = some s → s.siz = p.2.1.length) :
    Calls Tryz.prog 10 #[d, .string ⟨lg.toArray⟩, .int .i64 (lim : Int)] w fun e w' => ∃ mb, e = .returned (.tuple #[.pointer (some ⟨mb, 0, none⟩), .int .i64 0]) ∧ (∃ G, Lgo w' lb ss G) ∧ (∃ G, Lgo w' mb (takeF ns []) G) ∧ DK w0 w' d cap (dsk ((takeF ns []).map fo)) ∧ Kept w0 w' := by
  obtain ⟨F, G, h1, h2, h3, h4, h5, h6⟩ := h
  refine (open_any ns d lim cap F w0 w h1 hT h6 h4 hl1 hl2 hns hlen hroom).mono ?_
  rintro e w' ⟨mb, sv, ps, F', G', rfl, hP, hsg, hbd, hF', hG', hC⟩
  have h0 := h6.size
  have hI := inv_of_take hns
  have hk : Kept w0 w' := hC.kept h6 (fun g x => (h4 g x).1)
  refine ⟨mb, rfl, ⟨G, h2.chg hC h3⟩, ⟨G', sv, ps, d, lim, _, hP.log, hsg, hbd, hI.linked, ?_, recs_short hI.good⟩, ⟨hP.disk.mono (fun g x => ?_), hk⟩, hk⟩
  · rw [← hsg] at hI
    exact len_of hI
  · rcases hF' g x with y | y
    · exact (h4 g y).1
    · show w0.heap.size ≤ g
      omega
end Go.Proofs.YtcdeagmoldbicaaGreatDoor
