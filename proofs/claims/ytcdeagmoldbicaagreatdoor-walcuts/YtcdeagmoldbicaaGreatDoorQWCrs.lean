/- What is taken of a log's files behind a crash, in plain lists. No program in it. -/
import Derived.Test.YtcdeagmoldbicaaGreatDoorGWWrt3
set_option linter.unusedSimpArgs false
set_option linter.unusedVariables false
namespace Go.Proofs.YtcdeagmoldbicaaGreatDoor
theorem segBytes_le (f : Nat) (rs : List (List UInt8)) {i j : Nat} (h : i ≤ j) : (segBytes f (rs.take i)).length ≤ (segBytes f (rs.take j)).length := by
  have := segBytes_take_le f (rs.take j) i
  rwa [List.take_take, Nat.min_eq_left h] at this
theorem segBytes_head (f : Nat) (rs : List (List UInt8)) : 8 + (put f).length ≤ (segBytes f rs).length := by
  unfold segBytes
  rw [List.length_append, frameOf_len]
  omega
/-- Where the last segment begins. -/
theorem Linked.last {sa : List Sg} {q : Sg} (h : Linked (sa ++ [q])) (h0 : firstS (sa ++ [q]) = 0) : firstS sa = 0 ∧ nextS sa = q.fst ∧ (recsOf sa).length = q.fst := by
  have hl := h.left.next
  have hf := h sa q [] rfl
  rcases List.eq_nil_or_concat sa with rfl | ⟨b, p, rfl⟩
  · have : q.fst = 0 := h0
    exact ⟨rfl, this.symm, this.symm⟩
  · rw [List.concat_eq_append] at *
    rw [firstS_snoc (by simp)] at h0
    rw [follow_snoc] at hf
    simp only [Bool.and_eq_true, decide_eq_true_eq] at hf
    refine ⟨h0, by rw [nextS_snoc]; exact hf.2.symm, ?_⟩
    rw [h0, nextS_snoc] at hl
    omega
theorem crash_inv {ss : List Sg} {safe : Nat} {ns : Ns} (h : Inv ss safe ns) (h0 : firstS ss = 0) (cuts : List Int) :
    NsOk (crashN cuts ns) ∧ (crashN cuts ns).length = ns.length ∧ used (dsk (crashN cuts ns)) ≤ used (dsk ns) ∧ safe ≤ nextS (takeF (crashN cuts ns) []) ∧ nextS (takeF (crashN cuts ns) []) ≤ nextS ss ∧ firstS (takeF (crashN cuts ns) []) = 0 ∧
      recsOf (takeF (crashN cuts ns) []) = (recsOf ss).take (nextS (takeF (crashN cuts ns) [])) := by
  rcases h.rep with ⟨rfl, rfl, rfl⟩ | ⟨sa, q, sf, j, rfl, rfl, hj, rfl, hsf⟩
  · simp [crashN, takeF, nextS, firstS, recsOf, h.ok]
  · obtain ⟨f0, fn, fl⟩ := h.linked.last h0
    have hg := h.good q (by simp)
    have hq := segBytes_take_le q.fst q.recs j
    have hle : sf ≤ (segBytes q.fst q.recs).length := by
      rcases hsf with ⟨e, -⟩ | e <;> omega
    obtain ⟨c, c1, c2, hc⟩ := crashN_one cuts (lastF q sf) hle
    have c1 : sf ≤ c := c1
    have c2 : c ≤ (segBytes q.fst q.recs).length := c2
    have hcr : crashN cuts (sa.map fo ++ [lastF q sf]) = sa.map fo ++ [(q.num, ((segBytes q.fst q.recs).take c, c))] := by
      rw [crashN_safe cuts _ _ (fun p hp => by
        obtain ⟨s, -, rfl⟩ := List.mem_map.1 hp
        rfl), hc]
      rfl
    rw [hcr]
    refine ⟨h.ok.of_nums (by simp [lastF]), by simp, ?_, ?_⟩
    · rw [used_dsk, used_dsk]
      simp only [List.map_append, List.map_cons, List.map_nil, List.sum_append, List.sum_cons, List.sum_nil, lastF, List.length_take]
      omega
    · rw [take_fo_app sa [] _ (by rw [List.nil_append]; exact h.linked.left) (fun s hs => h.good s (by simp [hs])), List.nil_append]
      rcases parse_torn q.num q.fst hg.1 q.recs hg.2.1 c c2 with ⟨p1, p2⟩ | ⟨k, k1, k2, k3, k4⟩
      · have e : takeF [(q.num, ((segBytes q.fst q.recs).take c, c))] sa = sa := takeF_none p2
        rw [e, fn]
        have hh := segBytes_head q.fst (q.recs.take j)
        refine ⟨?_, by rw [nextS_snoc]; unfold Sg.next; omega, f0, ?_⟩
        · rcases hsf with ⟨-, e⟩ | e <;> omega
        · rw [recsOf_snoc, List.take_append_of_le_length (by omega), List.take_of_length_le (by omega)]
      · have hfo : followS ⟨q.num, q.fst, (segBytes q.fst (q.recs.take k)).length, q.recs.take k⟩ sa = true := h.linked sa q [] rfl
        have e : takeF [(q.num, ((segBytes q.fst q.recs).take c, c))] sa = sa ++ [⟨q.num, q.fst, (segBytes q.fst (q.recs.take k)).length, q.recs.take k⟩] := by
          by_cases ht : (segBytes q.fst (q.recs.take k)).length < ((segBytes q.fst q.recs).take c).length
          · exact takeF_torn k2 hfo ht
          · rw [takeF_go k2 hfo ht]
            rfl
        have hkl : (q.recs.take k).length = k := by rw [List.length_take]; omega
        rw [e, nextS_snoc, nextS_snoc]
        unfold Sg.next
        simp only [hkl]
        refine ⟨?_, by omega, ?_, ?_⟩
        · rcases hsf with ⟨-, e⟩ | e
          · omega
          · by_cases hjk : j ≤ k
            · omega
            · have h1 := k4 (by omega)
              have h2 := segBytes_le q.fst q.recs (show k + 1 ≤ j by omega)
              omega
        · rcases List.eq_nil_or_concat sa with rfl | ⟨b, p, rfl⟩
          · exact h0
          · rw [List.concat_eq_append] at *
            rw [firstS_snoc (by simp)]
            exact f0
        · rw [recsOf_snoc, recsOf_snoc, List.take_append, List.take_of_length_le (show (recsOf sa).length ≤ q.fst + k by omega), fl, Nat.add_sub_cancel_left]
end Go.Proofs.YtcdeagmoldbicaaGreatDoor
