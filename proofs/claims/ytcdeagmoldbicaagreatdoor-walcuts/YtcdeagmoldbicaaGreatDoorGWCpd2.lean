/- The walk of the statements' copied. The calls of a log, for a log on its disk; awake. -/
import Derived.Test.YtcdeagmoldbicaaGreatDoorQWGet
import Derived.Lib.SlBytesConst
set_option linter.unusedSimpArgs false
set_option linter.unusedVariables false
namespace Go.Proofs.YtcdeagmoldbicaaGreatDoor
open Go.RowKit
/-- One record more behind a row of the call's own. -/
theorem RecsAt.more {w w' : World} {A : Option Addr} {n c : Nat} {rs : List (List UInt8)} {G : Nat → Prop} {us : List Value} (a1 : w.ownsRow 0 40 1 (.slice A n c) rs.length us) (a2 : ∀ g, (Value.slice A n c).ownBlock = some g → G g) (a3 : ∀ k (hk : k < rs.length), ∃ u, us[k]? = some u ∧ w.ownsRow 0 5 1 u rs[k].length (Lib.byteCells rs[k]) ∧ ∀ g, u.ownBlock = some g → G g) {o : Obj} {v' u : Value} {r : List UInt8} (hu : w.ownsRow 0 5 1 u r.length (Lib.byteCells r)) (huG : ∀ g, u.ownBlock = some g → G g) (hg : (w.alloc o).grownBy w' (Value.slice A n c).ownBlock)
    (hr : w'.ownsRow 0 40 1 v' (rs.length + 1) (us ++ [u])) (hv : v'.ownBlock = (Value.slice A n c).ownBlock ∨ v'.ownBlock = some (w.alloc o).heap.size) :
    RecsAt w' v' (rs ++ [r]) (ext G w w') ∧ Chg (fun g => (Value.slice A n c).ownBlock = some g) w w' := by
  have hC : Chg (fun g => (Value.slice A n c).ownBlock = some g) w w' := (Chg.of_kept ((Kept.refl w).alloc o)).trans (Chg.of_grown hg (fun g hg _ => hg)) (fun g _ x => x)
  have hus : us.length = rs.length := by have := a1.1; omega
  have hb : ∀ {x : Value} {l : List UInt8}, w.ownsRow 0 5 1 x l.length (Lib.byteCells l) → w'.ownsRow 0 5 1 x l.length (Lib.byteCells l) := fun hx => own_chg hx hC (fun g hg e => by
    obtain ⟨cur, h1⟩ := own_type hx hg
    obtain ⟨cur', h2⟩ := own_type a1 e
    rw [h1] at h2
    injection h2 with h2
    injection h2 with _ h2
    exact absurd h2 (by decide))
  refine ⟨⟨us ++ [u], by rw [List.length_append]; exact hr, fun g hg => ?_, fun k hk => ?_⟩, hC⟩
  · rcases hv with e | e
    · rw [e] at hg
      exact .inl (a2 g hg)
    · rw [hg] at e
      have e : g = (w.alloc o).heap.size := by simpa using e
      have := (hr.lt g hg).2
      exact .inr ⟨by rw [e]; simp, this⟩
  · by_cases hkr : k < rs.length
    · obtain ⟨x, b1, b2, b3⟩ := a3 k hkr
      refine ⟨x, by rw [List.getElem?_append_left (by omega)]; exact b1, ?_, fun g hg => .inl (b3 g hg)⟩
      rw [List.getElem_append_left hkr]
      exact hb b2
    · obtain rfl : k = rs.length := by simp at hk; omega
      have hrr : (rs ++ [r])[rs.length]'hk = r := by simp
      refine ⟨u, by rw [List.getElem?_append_right (by omega)]; simp [hus], by rw [hrr]; exact hb hu, fun g hg => .inl (huG g hg)⟩
set_option maxRecDepth 100000 in
set_option maxHeartbeats 4000000 in
theorem copied_any (ls : List (List UInt8)) (v : Value) (w : World) (hv : Parts w v ls) (hl : ls.length ≤ 1000000000) (hs : ∀ l ∈ ls, l.length ≤ 140737488355328) :
    Calls Tryz.prog 12 #[v] w fun e w' => ∃ v', e = .returned v' ∧ RecsAt w' v' ls (fresh w w') ∧ Kept w w' := by
  have HV := Lib.hid hv
  have HS := Lib.hid hs
  obtain ⟨A, c, hvv, hc1, hc2, -⟩ := hv
  subst hvv
  unfold maxLen at hc2
  clear hs
  go_enter Tryz.func12, Tryz.ntmps12
  go_wp2
  go_loopw [3, 8] (fun t i W => ∃ k : Nat, i = .int .i64 (k : Int) ∧ k ≤ ls.length ∧ RecsAt W t (ls.take k) (fresh w W) ∧ Kept w W) (fun _ i _ => ls.length - (intOf i).toNat)
  case atStart => exact ⟨0, rfl, Nat.zero_le _, RecsAt.nil _ _, Kept.refl w⟩
  case round =>
    obtain ⟨k, rfl, hk, hR, hK⟩ := hrel
    obtain ⟨A3, c3, hv3, hd1, hd2⟩ := hR.form
    have hkl : (ls.take k).length = k := by simp; omega
    rw [hkl] at hv3
    subst hv3
    have HR := Lib.hid hR
    clear hR
    by_cases hlt : k < ls.length
    · obtain ⟨b, o, u, hA, hcell, hbu⟩ := (HV.out.kept hK).at hlt
      subst hA
      have HBU := Lib.hid hbu
      obtain ⟨Au, cu, hu, -, -, -⟩ := hbu
      subst hu
      have g1 : (k : Int) < (ls.length : Int) := by omega
      have hsl := HS.out ls[k] (List.getElem_mem hlt)
      have HTS := Lib.hid (show ls.take (k + 1) = ls.take k ++ [ls[k]] from List.take_succ_eq_append_getElem hlt)
      generalize hr : ls[k] = r at *
      clear hr
      go_wp2_with fail
      refine (copy_any r _ wr HBU.out hsl).mono ?_
      rintro e w4 ⟨v4, rfl, ho4, k4⟩
      obtain ⟨A4, c4, hv4⟩ := own_form ho4
      subst hv4
      have HO4 := Lib.hid ho4
      have hK4 := hK.trans k4
      have hR4 : RecsAt w4 (.slice A3 k c3) (ls.take k) (fresh w w4) := (HR.out.kept k4).mono (fun g hg => by
        have hs4 := k4.size
        rcases hg with x | x
        · exact x.elim
        · exact .inr ⟨x.1, by omega⟩)
      obtain ⟨us, hus1, hus2, hus3⟩ := hR4
      have HUS := Lib.hid hus1
      have HU2 := Lib.hid hus2
      have HU3 := Lib.hid hus3
      clear ho4 hus1 hus2 hus3
      go_wp2_with (at_builtin; refine wpList_append_one elemB rfl _ _ rfl 0 _ _ us [.slice A4 r.length c4] w4.heap.size 1 rfl rfl (own_kept (by have := HUS.out; rw [hkl] at this; exact this) ((Kept.refl w4).alloc _)) rfl (cell_new1 w4 _ _) (one_cell rfl) (by omega) (by unfold maxLen; omega) (Nat.zero_le _) ?_; intro v5 w5 a1 a2 a3)
      go_roundw
      case rel =>
        have hs4 := k4.size
        have hwr := hK.size
        obtain ⟨r1, r2⟩ := RecsAt.more HUS.out HU2.out HU3.out (own_base' HO4.out (Nat.zero_le _)) (fun g hg => .inr ⟨by have := (HO4.out.lt g hg).1; omega, (HO4.out.lt g hg).2⟩) a2 (by rw [hkl]; exact a1) a3
        refine ⟨k + 1, by go_num, by omega, ?_, r2.kept hK4 (fun g hg => ?_)⟩
        · rw [HTS.out]
          exact r1.mono (fun g hg => by
            rcases hg with (x | x) | x
            · exact x.elim
            · exact .inr ⟨x.1, by have := r2.size; omega⟩
            · exact .inr ⟨by omega, x.2⟩)
        · obtain ⟨us', -, h2, -⟩ := HR.out
          rcases h2 g hg with x | x
          · exact x.elim
          · exact x.1
      case measure => simp [intOf]; omega
    · obtain rfl : k = ls.length := by omega
      rw [List.take_length] at HR
      go_wp2
      go_ret
      exact ⟨_, rfl, HR.out, hK⟩
end Go.Proofs.YtcdeagmoldbicaaGreatDoor
set_option linter.unusedSimpArgs false
set_option linter.unusedVariables false
namespace Go.Proofs.YtcdeagmoldbicaaGreatDoor
open Go.RowKit
theorem LSt.now {H : Nat → Prop} {w0 w : World} {lb : Nat} {d : Value} {cap lim safe : Nat} {ss : List Sg} {ns : Ns} (h : LSt H w0 w lb d cap lim safe ss ns) : LSt (mid w0 w) w0 w lb d cap lim safe ss ns := by
  obtain ⟨sv, ps, F, G, hP, a1, a2, a3, a4, a5⟩ := h
  refine ⟨sv, ps, F, G, hP, a1, a2, fun g x => ⟨a4 g (a3 g x), ?_⟩, fun g x => x.1, a5⟩
  rcases x with x | x
  · exact hP.inF g x
  · exact hP.inG g x
theorem LSt.dk {H : Nat → Prop} {w0 w : World} {lb : Nat} {d : Value} {cap lim safe : Nat} {ss : List Sg} {ns : Ns} (h : LSt H w0 w lb d cap lim safe ss ns) : DK w0 w d cap (dsk ns) := by
  obtain ⟨sv, ps, F, G, hP, a1, a2, a3, a4, a5⟩ := h
  exact ⟨hP.disk.mono (fun g x => a4 g (a3 g (.inl x))), a5⟩
theorem next_st {H : Nat → Prop} {w0 w : World} {lb : Nat} {d : Value} {cap lim safe : Nat} {ss : List Sg} {ns : Ns} (h : LSt H w0 w lb d cap lim safe ss ns) :
    Calls Tryz.prog 27 #[.pointer (some ⟨lb, 0, none⟩)] w fun e w' => e = .returned (.int .i64 (nextS ss : Int)) ∧ Kept w w' := by
  obtain ⟨sv, ps, F, G, hP, rfl, a2, a3, a4, a5⟩ := h
  refine nextL_any lb sv ps d lim safe G w hP.log ?_
  have hbd := bounded_of hP a2
  rcases List.eq_nil_or_concat ps with rfl | ⟨pa, q, rfl⟩
  · simp [sgs, nextS]
  · rw [List.concat_eq_append, sgs_snoc, nextS_snoc]
    have := hbd q (by simp)
    unfold Sg.next
    omega
theorem first_st {H : Nat → Prop} {w0 w : World} {lb : Nat} {d : Value} {cap lim safe : Nat} {ss : List Sg} {ns : Ns} (h : LSt H w0 w lb d cap lim safe ss ns) :
    Calls Tryz.prog 28 #[.pointer (some ⟨lb, 0, none⟩)] w fun e w' => e = .returned (.int .i64 (firstS ss : Int)) ∧ Kept w w' := by
  obtain ⟨sv, ps, F, G, hP, rfl, a2, a3, a4, a5⟩ := h
  exact first_any lb sv ps d lim safe G w hP.log
theorem safe_st {H : Nat → Prop} {w0 w : World} {lb : Nat} {d : Value} {cap lim safe : Nat} {ss : List Sg} {ns : Ns} (h : LSt H w0 w lb d cap lim safe ss ns) :
    Calls Tryz.prog 26 #[.pointer (some ⟨lb, 0, none⟩)] w fun e w' => e = .returned (.int .i64 (safe : Int)) ∧ Kept w w' := by
  obtain ⟨sv, ps, F, G, hP, rfl, a2, a3, a4, a5⟩ := h
  exact safeL_any lb sv ps d lim safe G w hP.log
theorem recs_short {ss : List Sg} (h : ∀ s ∈ ss, goodS s) : short (recsOf ss) := by
  intro r hr
  unfold recsOf at hr
  obtain ⟨l, hl, hrl⟩ := List.mem_flatten.1 hr
  obtain ⟨s, hs, rfl⟩ := List.mem_map.1 hl
  exact (h s hs).2.1 r hrl
theorem get_st {H : Nat → Prop} {w0 w : World} {lb : Nat} {d : Value} {cap lim safe : Nat} {ss : List Sg} {ns : Ns} (h : LSt H w0 w lb d cap lim safe ss ns) (i : Nat) (r : List UInt8) (h1 : firstS ss ≤ i) (hr : (recsOf ss)[i - firstS ss]? = some r) :
    Calls Tryz.prog 29 #[.pointer (some ⟨lb, 0, none⟩), .int .i64 (i : Int)] w fun e w' => ∃ v, e = .returned (.tuple #[v, .int .i64 0]) ∧ w'.ownsRow w.heap.size 5 1 v r.length (Lib.byteCells r) ∧ Kept w w' := by
  obtain ⟨sv, ps, F, G, hP, rfl, a2, a3, a4, a5⟩ := h
  have hlt := (List.getElem?_eq_some_iff.1 hr).1
  have hn := a2.linked.next
  have hm := List.mem_of_getElem? hr
  have hs := recs_short a2.good r hm
  have hpl : ps.length ≤ 1000000 := by
    have h1 := a2.len
    rcases List.eq_nil_or_concat ps with rfl | ⟨pa, q, rfl⟩
    · simp
    · rw [List.concat_eq_append] at *
      have h2 := h1.2 q.1 (by rw [sgs_snoc]; simp)
      rw [sgs_len, sgs_snoc, lastNum_snoc] at h1
      omega
  exact get_ok lb sv ps d lim safe G i r w hP.log a2.linked (bounded_of hP a2) hpl h1 (by omega) hr (by omega)
theorem getno_st {H : Nat → Prop} {w0 w : World} {lb : Nat} {d : Value} {cap lim safe : Nat} {ss : List Sg} {ns : Ns} (h : LSt H w0 w lb d cap lim safe ss ns) (i : Nat) (h1 : i < firstS ss ∨ nextS ss ≤ i) :
    Calls Tryz.prog 29 #[.pointer (some ⟨lb, 0, none⟩), .int .i64 (i : Int)] w fun e w' => e = .returned (.tuple #[.slice none 0 0, .int .i64 41]) ∧ Kept w w' := by
  obtain ⟨sv, ps, F, G, hP, rfl, a2, a3, a4, a5⟩ := h
  exact get_no lb sv ps d lim safe G i w hP.log (bounded_of hP a2) h1
theorem sync_st {H : Nat → Prop} {w0 w : World} {lb : Nat} {d : Value} {cap lim safe : Nat} {ss : List Sg} {ns : Ns} (h : LSt H w0 w lb d cap lim safe ss ns) (hT : Tb w0) :
    Calls Tryz.prog 15 #[.pointer (some ⟨lb, 0, none⟩)] w fun e w' => e = .returned (.int .i64 0) ∧ LSt (ext H w w') w0 w' lb d cap lim (nextS ss) ss (ss.map fo) ∧ Chg H w w' := by
  obtain ⟨sv, ps, F, G, hP, rfl, a2, a3, a4, a5⟩ := h
  refine (sync_both ps ns lb sv d lim safe cap F G w hP a2 (hT.kept a5) (bounded_of hP a2)).mono ?_
  rintro e w' ⟨rfl, F', hP', hO⟩
  exact ⟨rfl, LSt.of_out a5 a3 a4 hP' rfl a2.synced hO⟩
/-- What is opened is in order. -/
theorem inv_of_take {ns : Ns} (hns : NsOk ns) : Inv (takeF ns []) (nextS (takeF ns [])) ((takeF ns []).map fo) := by
  obtain ⟨ss, h1, h2, h3⟩ := takeF_spec ns [] Linked.nil
  rw [List.nil_append] at h1 h3
  rw [h1]
  refine ⟨Rep.whole ss, h3, h2.good.1, ?_⟩
  have hk := hns.take ss.length
  refine hk.of_nums ?_
  rw [← h2.good.2.2]
  simp [fo, Function.comp_def]
theorem open_st (ns : Ns) (d : Value) (lim cap : Nat) (w0 w : World) (h : DK w0 w d cap (dsk ns)) (hT : Tb w0) (hl1 : 16 ≤ lim) (hl2 : lim ≤ 1048576) (hns : NsOk ns) (hlen : ns.length ≤ 1000000) (hroom : 2 * used (dsk ns) ≤ cap ∨ ∀ p ∈ ns, ∀ s, parseS p.1 p.2.1 = some s → s.siz = p.2.1.length) :
    Calls Tryz.prog 10 #[d, .string ⟨lg.toArray⟩, .int .i64 (lim : Int)] w fun e w' => ∃ lb, e = .returned (.tuple #[.pointer (some ⟨lb, 0, none⟩), .int .i64 0]) ∧ LSt (mid w0 w') w0 w' lb d cap lim (nextS (takeF ns [])) (takeF ns []) ((takeF ns []).map fo) ∧ Chg (mid w0 w) w w' := by
  refine (open_any ns d lim cap (fun g => w0.heap.size ≤ g ∧ g < w.heap.size) w0 w h.1.tight hT h.2 (fun g x => x) hl1 hl2 hns hlen hroom).mono ?_
  rintro e w' ⟨lb, sv, ps, F', G', rfl, hP, hsg, hbd, hF', hG', hC⟩
  have hs := h.2.size
  refine ⟨lb, rfl, ⟨sv, ps, F', G', hP, hsg, inv_of_take hns, fun g x => ?_, fun g x => x.1, hC.kept h.2 (fun g x => x.1)⟩, hC⟩
  rcases x with x | x
  · refine ⟨?_, hP.inF g x⟩
    rcases hF' g x with y | y
    · exact y.1
    · omega
  · exact ⟨by have := hG' g x; omega, hP.inG g x⟩
theorem openbad_dk (ns : Ns) (d : Value) (lim : Int) (cap : Nat) (w0 w : World) (h : DK w0 w d cap (dsk ns)) (hl : lim < 16 ∨ 1048576 < lim) :
    Calls Tryz.prog 10 #[d, .string ⟨lg.toArray⟩, .int .i64 lim] w fun e w' => e = .returned (.tuple #[.pointer none, .int .i64 40]) ∧ Kept w w' := open_bad ns d lim cap _ w h.1 hl
/-! ### awake -/
theorem seg1_len (r : List UInt8) : (segBytes 0 [r]).length = 17 + r.length := by
  rw [segBytes_one, List.length_append, frameOf_len, frameOf_len]
  have : (put 0).length = 1 := by decide
  omega
theorem two_steps (a b : List UInt8) (lim : Nat) (h : 17 + a.length < lim) : ([a, b] : List (List UInt8)).foldl (stepS lim) ([], 0) = ([⟨1, 0, (segBytes 0 [a]).length + (frameOf b).length, [a] ++ [b]⟩], 0) := by
  have e1 : stepS lim ([], 0) a = ([⟨1, 0, (segBytes 0 [a]).length, [a]⟩], 0) := rfl
  rw [List.foldl_cons, e1, List.foldl_cons, List.foldl_nil]
  unfold stepS
  rw [if_neg]
  · rfl
  · show ¬ decide (lim ≤ (segBytes 0 [a]).length) = true
    rw [seg1_len]
    simp
    omega
set_option maxRecDepth 100000 in
set_option maxHeartbeats 4000000 in
theorem awake_any (w : World) (hT : Tb w) : Calls Tryz.prog 9 #[] w fun e w' => e = .returned (.bool true) ∧ Kept w w' := by
  have HT := Lib.hid hT
  have HN := Lib.hid (new_dk 999 w w (Kept.refl w) (by omega))
  have kc := fun (w : World) (C : Array Value) (n c : Nat) => Lib.run_convert_bytes_const (P := Tryz.prog) w 40 5 C n c Tryz.underlying40 Tryz.underlying5
  clear hT
  go_enter Tryz.func9, Tryz.ntmps9
  go_wp2_with fail
  refine HN.out.mono ?_
  rintro e w1 ⟨db, rfl, h1⟩
  have H1 := Lib.hid (show DK w w1 (.pointer (some ⟨db, 0, none⟩)) 999 (dsk []) from h1)
  clear h1
  go_wp2_with fail
  refine (open_st [] _ 100 999 w w1 H1.out HT.out (by omega) (by omega) ⟨List.Pairwise.nil, fun p hp => by simp at hp⟩ (by simp) (.inr (fun p hp => by simp at hp))).mono ?_
  rintro e w2 ⟨lb, rfl, h2, -⟩
  have H2 := Lib.hid (show LSt (mid w w2) w w2 lb (.pointer (some ⟨db, 0, none⟩)) 999 100 0 [] [] from h2)
  have hza : ∀ m, (w2.alloc (.cells #[.int .u8 97] 5 m)).heap.size = w2.heap.size + 1 := fun m => by simp
  have kc2 := kc (w2.alloc (.cells #[.int .u8 97] 5 (1, 2))) #[.int .u8 98] 1 1
  rw [hza] at kc2
  have k3 : Kept w2 (((w2.alloc (.cells #[.int .u8 97] 5 (1, 2))).alloc (.cells #[.int .u8 98] 5 (1, 2))).alloc (.cells #[.slice (some ⟨w2.heap.size, 0, none⟩) 1 1, .slice (some ⟨w2.heap.size + 1, 0, none⟩) 1 1] 40)) := (((Kept.refl w2).alloc _).alloc _).alloc _
  have hb1 : ((((w2.alloc (.cells #[.int .u8 97] 5 (1, 2))).alloc (.cells #[.int .u8 98] 5 (1, 2))).alloc (.cells #[.slice (some ⟨w2.heap.size, 0, none⟩) 1 1, .slice (some ⟨w2.heap.size + 1, 0, none⟩) 1 1] 40))).heap[w2.heap.size]? = some (.cells #[.int .u8 97] 5 (1, 2)) := (((Kept.refl _).alloc _).alloc _).block' (heap_alloc_new w2 _)
  have hb2 : ((((w2.alloc (.cells #[.int .u8 97] 5 (1, 2))).alloc (.cells #[.int .u8 98] 5 (1, 2))).alloc (.cells #[.slice (some ⟨w2.heap.size, 0, none⟩) 1 1, .slice (some ⟨w2.heap.size + 1, 0, none⟩) 1 1] 40))).heap[w2.heap.size + 1]? = some (.cells #[.int .u8 98] 5 (1, 2)) := by
    have := ((Kept.refl ((w2.alloc (.cells #[.int .u8 97] 5 (1, 2))).alloc (.cells #[.int .u8 98] 5 (1, 2)))).alloc (.cells #[.slice (some ⟨w2.heap.size, 0, none⟩) 1 1, .slice (some ⟨w2.heap.size + 1, 0, none⟩) 1 1] 40)).block' (heap_alloc_new (w2.alloc (.cells #[.int .u8 97] 5 (1, 2))) (.cells #[.int .u8 98] 5 (1, 2)))
    rw [hza] at this
    exact this
  have hb3 : ((((w2.alloc (.cells #[.int .u8 97] 5 (1, 2))).alloc (.cells #[.int .u8 98] 5 (1, 2))).alloc (.cells #[.slice (some ⟨w2.heap.size, 0, none⟩) 1 1, .slice (some ⟨w2.heap.size + 1, 0, none⟩) 1 1] 40))).heap[w2.heap.size + 2]? = some (.cells #[.slice (some ⟨w2.heap.size, 0, none⟩) 1 1, .slice (some ⟨w2.heap.size + 1, 0, none⟩) 1 1] 40 (0, 0)) := by
    have := heap_alloc_new ((w2.alloc (.cells #[.int .u8 97] 5 (1, 2))).alloc (.cells #[.int .u8 98] 5 (1, 2))) (.cells #[.slice (some ⟨w2.heap.size, 0, none⟩) 1 1, .slice (some ⟨w2.heap.size + 1, 0, none⟩) 1 1] 40)
    have hz2 : ((w2.alloc (.cells #[.int .u8 97] 5 (1, 2))).alloc (.cells #[.int .u8 98] 5 (1, 2))).heap.size = w2.heap.size + 2 := by simp
    rw [hz2] at this
    exact this
  have HB1 := Lib.hid hb1
  have HB2 := Lib.hid hb2
  have HB3 := Lib.hid hb3
  have HK3 := Lib.hid k3
  clear h2 hb1 hb2 hb3 k3
  go_wp2_with fail
  generalize ((w2.alloc (.cells #[.int .u8 97] 5 (1, 2))).alloc (.cells #[.int .u8 98] 5 (1, 2))).alloc (.cells #[.slice (some ⟨w2.heap.size, 0, none⟩) 1 1, .slice (some ⟨w2.heap.size + 1, 0, none⟩) 1 1] 40) = w3 at *
  have hbt : ∀ (W : World) (b : Nat) (x : UInt8) (m : Nat × Nat), W.heap[b]? = some (.cells #[.int .u8 (x.toNat : Int)] 5 m) → Bts W (.slice (some ⟨b, 0, none⟩) 1 1) [x] := fun W b x m hb => ⟨_, 1, rfl, Nat.le_refl _, by decide, fun _ => ⟨_, 0, rfl, fun k y hy => by
    match k, hy with
    | 0, hy =>
      obtain rfl : x = y := by simpa using hy
      rw [cell_at hb]
      simp⟩⟩
  have hPK : PartsK (mid w w2) w3 (.slice (some ⟨w2.heap.size + 2, 0, none⟩) 2 2) [[97], [98]] := by
    refine ⟨_, 2, rfl, Nat.le_refl _, by decide, fun _ => ⟨_, 0, rfl, fun k hk => ?_⟩⟩
    match k, hk with
    | 0, _ => exact ⟨.slice (some ⟨w2.heap.size, 0, none⟩) 1 1, fun W c => ⟨by rw [cell_at (c.block' HB3.out (fun x => by have := x.2; omega))]; rfl, hbt W _ 97 _ (c.block' HB1.out (fun x => by have := x.2; omega))⟩⟩
    | 1, _ => exact ⟨.slice (some ⟨w2.heap.size + 1, 0, none⟩) 1 1, fun W c => ⟨by rw [cell_at (c.block' HB3.out (fun x => by have := x.2; omega))]; rfl, hbt W _ 98 _ (c.block' HB2.out (fun x => by have := x.2; omega))⟩⟩
  refine (append_st (mid w w2) w w3 lb _ _ 999 100 0 [] [] [[97], [98]] (H2.out.kept HK3.out) HT.out hPK (by simp [lastNum]) (by simp [nextS]) (by simp [recsOf])).mono ?_
  rintro e w4 (⟨hns, -⟩ | ⟨-, x, j, ss', safe', ns', rfl, hwr, hst, hC⟩)
  · exact absurd (fun r hr => by
      simp only [List.mem_cons, List.not_mem_nil, or_false] at hr
      rcases hr with rfl | rfl <;> simp) hns
  rcases hwr.done with ⟨rfl, -⟩ | ⟨-, -, hro⟩
  rotate_left
  · exfalso
    have : costs (([[97], [98]] : List (List UInt8)).take (j + 1)) ≤ 52 := by
      have h1 : j + 1 = 1 ∨ 2 ≤ j + 1 := by omega
      rcases h1 with h1 | h1
      · rw [h1]; simp [costs]
      · rw [List.take_of_length_le (by simpa using h1)]; simp [costs]
    have h0 : used (dsk []) = 0 := rfl
    rw [h0] at hro
    omega
  have hdet := hwr.det rfl
  rw [two_steps [97] [98] 100 (by simp)] at hdet
  obtain ⟨rfl, rfl⟩ : ss' = _ ∧ safe' = 0 := by simpa using hdet
  have HST := Lib.hid hst
  have hK4 := hst.inv.2.1
  clear hst hwr hdet hC
  have HNX := Lib.hid (next_st HST.out)
  rw [show nextS [(⟨1, 0, (segBytes 0 [[97]]).length + (frameOf [98]).length, [[97], [98]]⟩ : Sg)] = 2 from rfl] at HNX
  go_wp2_with fail
  refine HNX.out.mono ?_
  rintro e w5 ⟨rfl, k5⟩
  have HGE := Lib.hid (get_st (HST.out.kept k5) 1 [98] (Nat.zero_le _) rfl)
  have HSA := Lib.hid (show ∀ W, Kept w5 W → _ from fun W hW => safe_st ((HST.out.kept k5).kept hW))
  go_wp2_with fail
  refine HGE.out.mono ?_
  rintro e w6 ⟨v6, rfl, h6, k6⟩
  have hc := conv_run (Bts.of_own h6)
  obtain ⟨A6, c6, rfl⟩ := own_form h6
  have hc : (convert 40 9 (.slice A6 1 c6)).run Tryz.prog w6 = .ok (.string ⟨#[98]⟩) w6 := hc
  clear h6
  go_wp2_with fail
  refine (HSA.out w6 k6).mono ?_
  rintro e w7 ⟨rfl, k7⟩
  go_wp2
  go_ret
  exact ⟨rfl, ((hK4.trans k5).trans k6).trans k7⟩
end Go.Proofs.YtcdeagmoldbicaaGreatDoor
