/- What a log takes of its files, and the walk of take. The walks of drop and rewrite. -/
import Derived.Test.YtcdeagmoldbicaaGreatDoorQWFul
set_option linter.unusedSimpArgs false
set_option linter.unusedVariables false
namespace Go.Proofs.YtcdeagmoldbicaaGreatDoor
open Go.RowKit
def takeF : Ns → List Sg → List Sg
  | [], acc => acc
  | p :: r, acc => match parseS p.1 p.2.1 with
    | none => acc
    | some s => if followS s acc = false then acc else if s.siz < p.2.1.length then acc ++ [s] else takeF r (acc ++ [s])
theorem takeF_none {p : Nat × Fl} {r : Ns} {acc : List Sg} (h : parseS p.1 p.2.1 = none) : takeF (p :: r) acc = acc := by simp only [takeF, h]
theorem takeF_no {p : Nat × Fl} {r : Ns} {acc : List Sg} {s : Sg} (h : parseS p.1 p.2.1 = some s) (hf : followS s acc = false) : takeF (p :: r) acc = acc := by simp only [takeF, h, hf, if_true]
theorem takeF_torn {p : Nat × Fl} {r : Ns} {acc : List Sg} {s : Sg} (h : parseS p.1 p.2.1 = some s) (hf : followS s acc = true) (ht : s.siz < p.2.1.length) : takeF (p :: r) acc = acc ++ [s] := by simp only [takeF, h, hf]; simp [ht]
theorem takeF_go {p : Nat × Fl} {r : Ns} {acc : List Sg} {s : Sg} (h : parseS p.1 p.2.1 = some s) (hf : followS s acc = true) (ht : ¬ s.siz < p.2.1.length) : takeF (p :: r) acc = takeF r (acc ++ [s]) := by simp only [takeF, h, hf]; simp [ht]
theorem recBytes_ge (rs : List (List UInt8)) : rs.length ≤ (recBytes rs).length := by
  induction rs with
  | nil => simp
  | cons r rs ih => rw [recBytes_cons, List.length_append, frameOf_len, List.length_cons]; omega
theorem parse_bound {n : Nat} {b : List UInt8} {s : Sg} (h : parseS n b = some s) (hb : b.length ≤ 1073741824) : s.num = n ∧ s.fst ≤ 4611686018427387903 ∧ s.recs.length ≤ 1073741824 ∧ s.siz ≤ 1073741824 := by
  obtain ⟨h1, h2, h3, h4, h5, h6⟩ := parse_inv h
  have := recBytes_ge s.recs
  unfold segBytes at h6
  rw [List.length_append] at h6
  exact ⟨h1, h4, by omega, by omega⟩
theorem cell_new4 (w : World) (a b c u : Value) (t : TypeId) : ∀ j x, ([a, b, c, u] : List Value)[j]? = some x → (w.alloc (.cells #[a, b, c, u] t)).cell? ⟨w.heap.size, j, none⟩ = some x := by
  intro j x hx
  rw [cell_at (heap_alloc_new w _)]
  simpa using hx
theorem four_cell (A : Option Addr) (s : Sg) (c : Nat) : ∀ x ∈ sc s (.slice A s.recs.length c), x.oneCell' = true := by
  intro x hx
  simp only [sc, List.mem_cons, List.not_mem_nil, or_false] at hx
  rcases hx with rfl | rfl | rfl | rfl <;> rfl
/-- A cell of a block that is younger than the row reads as it did. -/
theorem take_cell {w6 w7 : World} {o : Obj} {b i : Nat} {x : Value} {row : Option Nat} (h : (w6.alloc o).grownBy w7 row) (hc : w6.cell? ⟨b, i, none⟩ = some x) (hr : row ≠ some b) : w7.cell? ⟨b, i, none⟩ = some x := by
  have hb := World.block_lt_of_cell? _ _ hc
  have h1 := ((Kept.refl w6).alloc o).cell hc
  have h2 := h.block b (by simp at hb ⊢; omega) (fun e => hr e.symm)
  rw [World.cell?_of_block (a := ⟨b, i, none⟩) h2]
  exact h1
/-- One segment more behind the row. -/
theorem Segs.more {w w' : World} {A : Option Addr} {n c : Nat} {ps : Ps} {G : Nat → Prop} (h : Segs w (.slice A n c) ps G) {o : Obj} {v' : Value} {s : Sg} {rv : Value} (hr : RecsAt w rv s.recs G) (hg : (w.alloc o).grownBy w' (Value.slice A n c).ownBlock)
    (hrow : w'.ownsRow 0 104 4 v' (ps.length + 1) (scs ps ++ sc s rv)) (hv : v'.ownBlock = (Value.slice A n c).ownBlock ∨ v'.ownBlock = some (w.alloc o).heap.size) (hap : ∀ p ∈ ps, ∀ g, p.2.ownBlock = some g → rv.ownBlock ≠ some g) :
    Segs w' v' (ps ++ [(s, rv)]) (ext G w w') ∧ Chg (fun g => (Value.slice A n c).ownBlock = some g) w w' := by
  have hC : Chg (fun g => (Value.slice A n c).ownBlock = some g) w w' := (Chg.of_kept ((Kept.refl w).alloc o)).trans (Chg.of_grown hg (fun g hg _ => hg)) (fun g _ x => x)
  have hty : ∀ g, (Value.slice A n c).ownBlock = some g → ∃ cur, w.heap[g]? = some (.cells cur 104 (0, 0)) := fun g hg => own_type h.row hg
  have hrec : ∀ (q : Value) (rs : List (List UInt8)), RecsAt w q rs G → RecsAt w' q rs (ext G w w') := by
    intro q rs hq
    refine (hq.other hC (fun g hg x => ?_) (fun g hg cur hc => ?_)).mono (fun g hg => .inl hg)
    · obtain ⟨cur, h1⟩ := hty g x
      obtain ⟨-, cur', h2⟩ := hq.ok hg
      rw [h1] at h2
      injection h2 with h2
      injection h2 with _ h2
      exact absurd h2 (by decide)
    · obtain ⟨cur', h1⟩ := hty g hg
      rw [h1] at hc
      injection hc with hc
      injection hc with _ hc
      exact absurd hc (by decide)
  refine ⟨⟨by rw [List.length_append, scs_app]; exact hrow, fun p hp => ?_, ?_, fun g hg => ?_⟩, hC⟩
  · rcases List.mem_append.1 hp with hp | hp
    · exact hrec _ _ (h.recs p hp)
    · obtain rfl : p = (s, rv) := by simpa using hp
      exact hrec _ _ hr
  · refine List.pairwise_append.2 ⟨h.apart, by simp, fun p hp q hq g hg => ?_⟩
    obtain rfl : q = (s, rv) := by simpa using hq
    exact hap p hp g hg
  · rcases hv with e | e
    · rw [e] at hg
      exact .inl (h.rowG g hg)
    · rw [hg] at e
      have e : g = (w.alloc o).heap.size := by simpa using e
      have := (hrow.lt g hg).2
      exact .inr ⟨by rw [e]; simp, this⟩
def bounded (ps : Ps) : Prop := ∀ p ∈ ps, p.1.num < 1000000 ∧ p.1.fst ≤ 4611686018427387903 ∧ p.1.recs.length ≤ 1073741824 ∧ p.1.siz ≤ 1073741824
set_option maxRecDepth 100000 in
set_option maxHeartbeats 8000000 in
theorem take_any (ns : Ns) (d v : Value) (cap : Nat) (F : Nat → Prop) (w : World) (hd : Disk w d cap (dsk ns) F) (hns : NsOk ns) (hT : Tb w) (hlen : ns.length ≤ 1000000) (hv : Ints w v (ns.map fun p => (p.1 : Int))) :
    Calls Tryz.prog 73 #[.agg #[d, .string ⟨lg.toArray⟩], v] w fun e w' => ∃ v ps, e = .returned v ∧ Segs w' v ps (fresh w w') ∧ sgs ps = takeF ns [] ∧ bounded ps ∧ Kept w w' := by
  obtain ⟨db, rfl⟩ := hd.form
  have hk0 := (Kept.refl w).alloc (.cells #[.pointer (some ⟨db, 0, none⟩), .string ⟨lg.toArray⟩] 81)
  have HD := Lib.hid hd
  have HV := Lib.hid hv
  have HNS := Lib.hid hns
  have HFI := Lib.hid (show ∀ (n : Nat) W, n < 1000000 → Kept w W → _ from fun n W hn hW => file_any (.pointer (some ⟨db, 0, none⟩)) n W (hT.kept hW) hn)
  obtain ⟨A, c, hvv, hc1, hc2, -⟩ := hv
  subst hvv
  rw [List.length_map] at *
  unfold maxLen at hc2
  have hcap := hd.good.2.2.1
  have hus := hd.good.2.1
  clear hd hns hT
  go_enter Tryz.func73, Tryz.ntmps73
  go_wp2
  have hb0 := heap_alloc_new w (.cells #[.pointer (some ⟨db, 0, none⟩), .string ⟨lg.toArray⟩] 81)
  have HB0 := Lib.hid hb0
  have hz : (w.alloc (.cells #[.pointer (some ⟨db, 0, none⟩), .string ⟨lg.toArray⟩] 81)).heap.size = w.heap.size + 1 := by simp
  clear hb0
  generalize w.alloc (.cells #[.pointer (some ⟨db, 0, none⟩), .string ⟨lg.toArray⟩] 81) = w1 at *
  go_loopw [5, 14] (fun t i W => ∃ (k : Nat) (ps : Ps), i = .int .i64 (k : Int) ∧ k ≤ ns.length ∧ Segs W t ps (fresh w1 W) ∧ Kept w1 W ∧ takeF (ns.drop k) (sgs ps) = takeF ns [] ∧ bounded ps ∧ ps.length ≤ k) (fun _ i _ => ns.length - (intOf i).toNat)
  case atStart => exact ⟨0, [], rfl, Nat.zero_le _, Segs.nil _ _, Kept.refl w1, rfl, fun p hp => by simp at hp, Nat.zero_le _⟩
  case round =>
    obtain ⟨k, ps, rfl, hk, hS, hK, hTF, hB, hpk⟩ := hrel
    have HTF := Lib.hid hTF
    have HBD := Lib.hid hB
    have HSG := Lib.hid hS
    obtain ⟨A5, c5, hv5, hd1, hd2⟩ := hS.form
    subst hv5
    clear hTF hB hS
    by_cases hlt : k < ns.length
    · obtain ⟨b, o, hbo, hcell⟩ := (HV.out.kept (hk0.trans hK)).at' (k := k) (by simpa using hlt)
      subst hbo
      have hnm : (ns.map fun p => (p.1 : Int))[k]'(by simpa using hlt) = (ns[k].1 : Int) := by simp
      rw [hnm] at hcell
      have hnk := HNS.out.2 ns[k] (List.getElem_mem hlt)
      have hdr : ns.drop k = ns[k] :: ns.drop (k + 1) := List.drop_eq_getElem_cons hlt
      rw [hdr] at HTF
      have hall : allS [fileN ns[k].1] (dsk ns) = 0 := all_names HNS.out (fun x hx => ⟨ns[k], List.getElem_mem hlt, by simpa using hx⟩)
      have hget := get_dsk HNS.out (List.getElem_mem hlt)
      have hfl : ns[k].2.1.length ≤ 1073741824 := by
        have := used_get HD.out.good.1.1 (fileN ns[k].1)
        rw [hget] at this
        simp only [Option.getD_some] at this
        omega
      have HRD := Lib.hid (show ∀ W, Kept w W → _ from fun W hW => read_any (fileN ns[k].1) cap (dsk ns) F _ W (HD.out.kept hW))
      rw [hall, if_pos rfl, hget, Option.getD_some] at HRD
      generalize ns[k] = p at *
      obtain ⟨n, fb, fsf⟩ := p
      simp only at *
      have hbw := hK.block' HB0.out
      have p0 := cell_at hbw 0
      have p1 := cell_at hbw 1
      simp only [List.getElem?_toArray, List.getElem?_cons_zero, List.getElem?_cons_succ] at p0 p1
      have g1 : (k : Int) < (ns.length : Int) := by omega
      have hwl : w.heap.size < wr.heap.size := by have := hK.size; omega
      clear hnm hdr hall hget hbw
      go_wp2
      have hKr := (Kept.refl wr).drew
      go_region_held3 (fun W => W.cell? ⟨w.heap.size, 0, none⟩ = some (.pointer (some ⟨db, 0, none⟩)) ∧ W.cell? ⟨w.heap.size, 1, none⟩ = some (.string ⟨lg.toArray⟩))
        (first | exact ⟨p0, p1⟩ | exact ⟨hq1.cell p0, hq1.cell p1⟩ | exact ⟨hq2.cell p0, hq2.cell p1⟩)
        (first
          | (go_at_call 48; refine (HFI.out n _ hnk.2 ((hk0.trans hK).trans hKr)).mono ?_; rintro e w3 ⟨rfl, hq⟩; have hq1 := hKr.trans hq)
          | (go_at_call 64; refine (HRD.out _ ((hk0.trans hK).trans hq1)).mono ?_; rintro e w4 ⟨v4, rfl, ho4, hq4⟩; have hq2 := hq1.trans hq4; have HB4 := Lib.hid (Bts.of_own ho4); obtain ⟨A4, c4, rfl⟩ := own_form ho4; clear ho4))
      have hk4 : Kept w1 w4 := hK.trans hq2
      have HPA := Lib.hid (parse_any n fb _ w4 HB4.out hfl)
      have HSG4 := Lib.hid (HSG.out.kept hq2)
      clear hq hq1 hq4 p0 p1 hcell
      cases hps : parseS n fb with
      | none =>
        rw [takeF_none hps] at HTF
        rw [hps] at HPA
        unfold ParsePost at HPA
        simp only at HPA
        unfold noSeg at HPA
        clear hps
        go_wp2_with fail
        refine HPA.out.mono ?_
        rintro e w5 ⟨rfl, k5⟩
        have hk5 := hk4.trans k5
        have hsg5 := HSG4.out.kept k5
        have HSG5 := Lib.hid hsg5
        clear hsg5
        go_wp2
        go_ret
        have hs4 := hq2.size
        have hs5 := k5.size
        have hka := hk5.alloc (.cells #[.int .i64 0, .int .i64 0, .int .i64 0, .slice none 0 0] 104)
        exact ⟨_, ps, rfl, (HSG5.out.kept ((Kept.refl w5).alloc _)).mono (fun g hg => by
          rcases hg with x | x
          · exact x.elim
          · exact .inr ⟨by omega, by simp; omega⟩), HTF.out, HBD.out, hk0.trans hka⟩
      | some s =>
        rw [hps] at HPA
        unfold ParsePost at HPA
        simp only at HPA
        unfold segV at HPA
        have HBS := Lib.hid (parse_bound hps hfl)
        have HPS := Lib.hid hps
        clear hps
        go_wp2_with fail
        refine HPA.out.mono ?_
        rintro e w5 ⟨rv, rfl, hr5, k5⟩
        obtain ⟨rA, rc, hrv, hrc1, hrc2⟩ := hr5.form
        subst hrv
        have HR5 := Lib.hid hr5
        have hk5 := hk4.trans k5
        have hka := hk5.alloc (.cells #[.int .i64 (s.num : Int), .int .i64 (s.fst : Int), .int .i64 (s.siz : Int), .slice rA s.recs.length rc] 104)
        have k5a := k5.alloc (.cells #[.int .i64 (s.num : Int), .int .i64 (s.fst : Int), .int .i64 (s.siz : Int), .slice rA s.recs.length rc] 104)
        have HSG5 := Lib.hid (HSG4.out.kept k5a)
        have HFO := Lib.hid (follows_any s (.slice rA s.recs.length rc) _ ps _ _ HSG5.out rA s.recs.length rc rfl (fun p hp => by
          have := HBD.out p hp
          unfold Sg.next
          omega))
        unfold segV at HFO
        clear hr5
        cases hfo : followS s (sgs ps) with
        | false =>
          rw [hfo] at HFO
          rw [takeF_no HPS.out hfo] at HTF
          clear hfo
          go_wp2_with fail
          refine HFO.out.mono ?_
          rintro e w6 ⟨rfl, k6⟩
          have hk6 := hka.trans k6
          have hs4 := hq2.size
          have hs5 := k5a.size
          have hs6 := k6.size
          go_wp2
          go_ret
          exact ⟨_, ps, rfl, (HSG5.out.kept k6).mono (fun g hg => by
            rcases hg with x | x
            · exact x.elim
            · exact .inr ⟨by omega, by omega⟩), HTF.out, HBD.out, hk0.trans hk6⟩
        | true =>
          rw [hfo] at HFO
          have HFT := Lib.hid hfo
          clear hfo
          go_wp2_with fail
          refine HFO.out.mono ?_
          rintro e w6 ⟨rfl, k6⟩
          have hbs := k6.block' (heap_alloc_new w5 (.cells #[.int .i64 (s.num : Int), .int .i64 (s.fst : Int), .int .i64 (s.siz : Int), .slice rA s.recs.length rc] 104))
          have s0 := cell_at hbs 0
          have s1 := cell_at hbs 1
          have s2 := cell_at hbs 2
          have s3 := cell_at hbs 3
          simp only [List.getElem?_toArray, List.getElem?_cons_zero, List.getElem?_cons_succ] at s0 s1 s2 s3
          have hk6 := hka.trans k6
          have k56 := k5a.trans k6
          have HSG6 := Lib.hid (HSG5.out.kept k6)
          have hw56 : w5.heap.size < w6.heap.size := (Array.getElem?_eq_some_iff.1 hbs).1
          have HNE := Lib.hid (show ∀ g, (Value.slice A5 ps.length c5).ownBlock = some g → g ≠ w5.heap.size from fun g hg e => by
            have h1 := (HSG.out.row.lt g hg).2
            have h2 := hq2.size
            have h3 := k5.size
            omega)
          clear hbs
          by_cases htorn : s.siz < fb.length
          · rw [takeF_torn HPS.out HFT.out htorn] at HTF
            have t3 : decide ((s.siz : Int) < (fb.length : Int)) = true := by simp; omega
            go_wp2_with (at_builtin; refine wpList_append_one elemS rfl _ _ rfl 0 _ _ _ (sc s (.slice rA s.recs.length rc)) w6.heap.size 1 rfl rfl (own_kept HSG6.out.row ((Kept.refl w6).alloc _)) rfl (cell_new4 w6 _ _ _ _ _) (four_cell rA s rc) (by omega) (by unfold maxLen; omega) (Nat.zero_le _) ?_; intro v7 w7 a1 a2 a3; have HA1 := Lib.hid a1; have HA2 := Lib.hid a2; have HA3 := Lib.hid a3; obtain ⟨A7, c7, hv7⟩ := own_form a1; subst hv7; have s2' := take_cell a2 s2 (fun e => HNE.out _ e rfl); clear a1 a2 a3)
            go_ret
            have hs4 := hq2.size
            have hs5 := k5.size
            have hs6 := k56.size
            have hsz5 : (w5.alloc (.cells #[.int .i64 (s.num : Int), .int .i64 (s.fst : Int), .int .i64 (s.siz : Int), .slice rA s.recs.length rc] 104)).heap.size = w5.heap.size + 1 := by simp
            have hk46 : Kept wr w6 := hq2.trans k56
            have hR6 : RecsAt w6 (.slice rA s.recs.length rc) s.recs (fresh w1 w6) := ((HR5.out.kept ((Kept.refl w5).alloc _)).kept k6).mono (fun g hg => by
              rcases hg with x | x
              · exact x.elim
              · exact .inr ⟨by have := hk4.size; omega, by have := k6.size; omega⟩)
            obtain ⟨hS7, hC7⟩ := (HSG6.out.mono (G' := fresh w1 w6) (fun g hg => by
              rcases hg with x | x
              · exact x.elim
              · exact .inr ⟨x.1, by omega⟩)).more (s := s) hR6 HA2.out HA1.out HA3.out (fun p hp g hg e => by
                obtain ⟨hg1, -⟩ := (HSG.out.recs p hp).ok hg
                obtain ⟨hg2, -⟩ := HR5.out.ok e
                rcases hg1 with x | x
                · exact x
                · rcases hg2 with y | y
                  · exact y
                  · omega)
            have hs7 := hC7.size
            have hK7 : Kept w1 w7 := hC7.kept (hK.trans hk46) (fun g hg => by
              rcases HSG.out.rowG g hg with x | x
              · exact x.elim
              · exact x.1)
            have hS8 : Segs w7 (.slice A7 (ps.length + 1) c7) (ps ++ [(s, .slice rA s.recs.length rc)]) (fresh w1 w7) := hS7.mono (fun g hg => by
              rcases hg with (x | x) | x
              · exact x.elim
              · exact .inr ⟨x.1, by omega⟩
              · exact .inr ⟨by have := hk46.size; have := hK.size; omega, x.2⟩)
            have hB8 : bounded (ps ++ [(s, .slice rA s.recs.length rc)]) := fun p hp => by
              rcases List.mem_append.1 hp with hp | hp
              · exact HBD.out p hp
              · obtain rfl : p = (s, .slice rA s.recs.length rc) := by simpa using hp
                have := HBS.out
                simp only
                omega
            refine ⟨_, _, rfl, hS8.mono (fun g hg => ?_), by rw [sgs_snoc]; exact HTF.out, hB8, hk0.trans hK7⟩
            rcases hg with x | x
            · exact x.elim
            · exact .inr ⟨by have := hk0.size; omega, x.2⟩
          · rw [takeF_go HPS.out HFT.out htorn] at HTF
            have t3 : decide ((s.siz : Int) < (fb.length : Int)) = false := by simp; omega
            go_wp2_with (at_builtin; refine wpList_append_one elemS rfl _ _ rfl 0 _ _ _ (sc s (.slice rA s.recs.length rc)) w6.heap.size 1 rfl rfl (own_kept HSG6.out.row ((Kept.refl w6).alloc _)) rfl (cell_new4 w6 _ _ _ _ _) (four_cell rA s rc) (by omega) (by unfold maxLen; omega) (Nat.zero_le _) ?_; intro v7 w7 a1 a2 a3; have HA1 := Lib.hid a1; have HA2 := Lib.hid a2; have HA3 := Lib.hid a3; obtain ⟨A7, c7, hv7⟩ := own_form a1; subst hv7; have s2' := take_cell a2 s2 (fun e => HNE.out _ e rfl); clear a1 a2 a3)
            go_roundw
            case rel =>
              have hs4 := hq2.size
              have hs5 := k5.size
              have hs6 := k56.size
              have hsz5 : (w5.alloc (.cells #[.int .i64 (s.num : Int), .int .i64 (s.fst : Int), .int .i64 (s.siz : Int), .slice rA s.recs.length rc] 104)).heap.size = w5.heap.size + 1 := by simp
              have hk46 : Kept wr w6 := hq2.trans k56
              have hR6 : RecsAt w6 (.slice rA s.recs.length rc) s.recs (fresh w1 w6) := ((HR5.out.kept ((Kept.refl w5).alloc _)).kept k6).mono (fun g hg => by
                rcases hg with x | x
                · exact x.elim
                · exact .inr ⟨by have := hk4.size; omega, by have := k6.size; omega⟩)
              obtain ⟨hS7, hC7⟩ := (HSG6.out.mono (G' := fresh w1 w6) (fun g hg => by
                rcases hg with x | x
                · exact x.elim
                · exact .inr ⟨x.1, by omega⟩)).more (s := s) hR6 HA2.out HA1.out HA3.out (fun p hp g hg e => by
                  obtain ⟨hg1, -⟩ := (HSG.out.recs p hp).ok hg
                  obtain ⟨hg2, -⟩ := HR5.out.ok e
                  rcases hg1 with x | x
                  · exact x
                  · rcases hg2 with y | y
                    · exact y
                    · omega)
              have hs7 := hC7.size
              have hK7 : Kept w1 w7 := hC7.kept (hK.trans hk46) (fun g hg => by
                rcases HSG.out.rowG g hg with x | x
                · exact x.elim
                · exact x.1)
              have hS8 : Segs w7 (.slice A7 (ps.length + 1) c7) (ps ++ [(s, .slice rA s.recs.length rc)]) (fresh w1 w7) := hS7.mono (fun g hg => by
                rcases hg with (x | x) | x
                · exact x.elim
                · exact .inr ⟨x.1, by omega⟩
                · exact .inr ⟨by have := hk46.size; have := hK.size; omega, x.2⟩)
              have hB8 : bounded (ps ++ [(s, .slice rA s.recs.length rc)]) := fun p hp => by
                rcases List.mem_append.1 hp with hp | hp
                · exact HBD.out p hp
                · obtain rfl : p = (s, .slice rA s.recs.length rc) := by simpa using hp
                  have := HBS.out
                  simp only
                  omega

              exact ⟨k + 1, _, by go_num, by omega, hS8, hK7, by rw [sgs_snoc]; exact HTF.out, hB8, by simp; omega⟩
            case measure => simp [intOf]; omega
    · obtain rfl : k = ns.length := by omega
      rw [List.drop_length] at HTF
      have hTF : sgs ps = takeF ns [] := HTF.out
      have HT2 := Lib.hid hTF
      clear hTF
      go_wp2
      go_ret
      have hs := hK.size
      exact ⟨_, ps, rfl, HSG.out.mono (fun g hg => by
        rcases hg with x | x
        · exact x.elim
        · exact .inr ⟨by omega, x.2⟩), HT2.out, HBD.out, hk0.trans hK⟩
end Go.Proofs.YtcdeagmoldbicaaGreatDoor
set_option linter.unusedSimpArgs false
set_option linter.unusedVariables false
namespace Go.Proofs.YtcdeagmoldbicaaGreatDoor
open Go.RowKit
theorem cut_notin (ns : Ns) : cutN ∉ ns.map (fun p => fileN p.1) := by
  intro h
  obtain ⟨p, -, e⟩ := List.mem_map.1 h
  exact file_ne_cut _ e
set_option maxRecDepth 100000 in
set_option maxHeartbeats 8000000 in
theorem drop_any (a b : Ns) (d v : Value) (cap : Nat) (F : Nat → Prop) (w : World) (hd : Disk w d cap (dsk (a ++ b)) F) (hF : ∀ g, F g → g < w.heap.size) (hns : NsOk (a ++ b)) (hT : Tb w) (hlen : (a ++ b).length ≤ 1000000) (hv : Ints w v (b.map fun p => (p.1 : Int))) :
    Calls Tryz.prog 74 #[.agg #[d, .string ⟨lg.toArray⟩], v] w fun e w' => e = .returned (.int .i64 0) ∧ Disk w' d cap (dsk a) (ext F w w') ∧ Chg F w w' := by
  obtain ⟨db, rfl⟩ := hd.form
  have hk0 := (Kept.refl w).alloc (.cells #[.pointer (some ⟨db, 0, none⟩), .string ⟨lg.toArray⟩] 81)
  have HD := Lib.hid hd
  have HV := Lib.hid hv
  have HNS := Lib.hid hns
  have HF := Lib.hid (show ∀ W, Kept w W → _ from fun W hW => files_any cap (dsk (a ++ b)) F _ W (hd.kept hW))
  rw [names_dsk] at HF
  have HCU := Lib.hid (show ∀ W, _ from fun W => cutFile_any (.pointer (some ⟨db, 0, none⟩)) W)
  have HNC := Lib.hid (cut_notin (a ++ b))
  have HFI := Lib.hid (show ∀ (n : Nat) W, n < 1000000 → Kept w W → _ from fun n W hn hW => file_any (.pointer (some ⟨db, 0, none⟩)) n W (hT.kept hW) hn)
  have HFF := Lib.hid hF
  obtain ⟨A, c, hvv, hc1, hc2, -⟩ := hv
  subst hvv
  rw [List.length_map] at *
  unfold maxLen at hc2
  rw [List.length_append] at hlen
  clear hd hns hT hF
  go_enter Tryz.func74, Tryz.ntmps74
  go_wp2
  have hb0 := heap_alloc_new w (.cells #[.pointer (some ⟨db, 0, none⟩), .string ⟨lg.toArray⟩] 81)
  have HB0 := Lib.hid hb0
  have hz : (w.alloc (.cells #[.pointer (some ⟨db, 0, none⟩), .string ⟨lg.toArray⟩] 81)).heap.size = w.heap.size + 1 := by simp
  have p0 := cell_at hb0 0
  have p1 := cell_at hb0 1
  simp only [List.getElem?_toArray, List.getElem?_cons_zero, List.getElem?_cons_succ] at p0 p1
  clear hb0
  generalize w.alloc (.cells #[.pointer (some ⟨db, 0, none⟩), .string ⟨lg.toArray⟩] 81) = w1 at *
  have hKr := (Kept.refl w1).drew
  generalize hls : (a ++ b).map (fun p => fileN p.1) = ls at *
  clear hls
  go_region_held3 (fun W => W.cell? ⟨w.heap.size, 0, none⟩ = some (.pointer (some ⟨db, 0, none⟩)) ∧ W.cell? ⟨w.heap.size, 1, none⟩ = some (.string ⟨lg.toArray⟩))
    (first | exact ⟨p0, p1⟩ | exact ⟨hq1.cell p0, hq1.cell p1⟩ | exact ⟨hq2.cell p0, hq2.cell p1⟩ | exact ⟨hqz.cell p0, hqz.cell p1⟩)
    (first
      | (go_at_call 31; refine (HF.out _ (hk0.trans (by first | exact hq1 | exact hKr))).mono ?_; rintro e wf ⟨vf, rfl, htf, hqf⟩; have hq2 : Kept w1 wf := (by first | exact hq1.trans hqf | exact hKr.trans hqf); have HTX := Lib.hid htf; obtain ⟨Af, cf, rfl, hf1, hf2⟩ := htf.form; clear htf)
      | (go_at_call 96; refine (HCU.out _).mono ?_; rintro e wc ⟨rfl, hqc⟩; have hq1 : Kept w1 wc := (by first | exact hq2.trans hqc | exact hKr.trans hqc))
      | (go_at_call 95; refine (contains_any ls cutN _ _ (by first | exact HTX.out | exact HTX.out.kept hqc) HNC.out).mono ?_; rintro e wz ⟨rfl, hwz⟩; have hqz : Kept w1 wz := (by rw [← hwz]; first | exact hq1 | exact hq2); clear hwz))
  all_goals (
    clear hq1 hq2 hqf hqc HTX hf1 hf2
    go_wp2
    go_loopw [5, 21] (fun t i W => ∃ k : Nat, i = .int .i64 (k : Int) ∧ k ≤ b.length ∧ W.ownsRow w1.heap.size 9 1 t k (strCells ((b.take k).map fun p => fileN p.1)) ∧ Kept w1 W) (fun _ i _ => b.length - (intOf i).toNat)
    case atStart => exact ⟨0, rfl, Nat.zero_le _, World.ownsRow_nil _ _ _ _, hqz⟩
    case round =>
      obtain ⟨k, rfl, hk, hO, hK⟩ := hrel
      by_cases hlt : k < b.length
      · obtain ⟨bb, o, hbo, hcell⟩ := (HV.out.kept (hk0.trans hK)).at' (k := k) (by simpa using hlt)
        subst hbo
        have hnm : (b.map fun p => (p.1 : Int))[k]'(by simpa using hlt) = (b[k].1 : Int) := by simp
        rw [hnm] at hcell
        have hnk := HNS.out.2 b[k] (by simp)
        have HTS := Lib.hid (show (b.take (k + 1)).map (fun p => fileN p.1) = (b.take k).map (fun p => fileN p.1) ++ [fileN b[k].1] by rw [List.take_succ_eq_append_getElem hlt, List.map_append]; rfl)
        generalize b[k].1 = n at *
        have q0 := hK.cell p0
        have q1 := hK.cell p1
        have g1 : (k : Int) < (b.length : Int) := by omega
        obtain ⟨A3, c3, hv3⟩ := own_form hO
        subst hv3
        have HO := Lib.hid hO
        clear hO hnm
        go_wp2_with fail
        refine (HFI.out n _ hnk.2 (hk0.trans hK)).mono ?_
        rintro e w4 ⟨rfl, k4⟩
        have hK4 := hK.trans k4
        have hs4 := hK4.size
        have hO4 := own_kept HO.out k4
        have HO4 := Lib.hid hO4
        clear hO4
        go_wp2_with (at_builtin; refine wpList_append_txts rfl _ _ rfl w1.heap.size _ _ _ [fileN n] _ rfl rfl (own_kept HO4.out ((Kept.refl w4).alloc _)) (Txts.one w4 _ _) (by simp; omega) (by simp; omega) ?_; intro v5 w5 a1 a2 a3)
        go_roundw
        case rel =>
          refine ⟨k + 1, by go_num, by omega, ?_, (hK4.alloc _).grown a2 (own_ge HO4.out)⟩
          rw [HTS.out]
          exact a1
        case measure => simp [intOf]; omega
      · obtain rfl : k = b.length := by omega
        rw [List.take_length] at hO
        have HO := Lib.hid hO
        have q0 := hK.cell p0
        have hkk := hk0.trans hK
        have hsz := hK.size
        obtain ⟨A3, c3, hv3⟩ := own_form hO
        subst hv3
        have hall : allS (b.map fun p => fileN p.1) (dsk (a ++ b)) = 0 := all_names HNS.out (fun x hx => by
          obtain ⟨p, hp, rfl⟩ := List.mem_map.1 hx
          exact ⟨p, by simp [hp], rfl⟩)
        have HRM := Lib.hid (remove_any (b.map fun p => fileN p.1) _ _ cap (dsk (a ++ b)) F wr (HD.out.kept hkk) (fun W hW => Txts.of_own (own_chg HO.out hW (fun g hg x => by
          have h1 := (HO.out.lt g hg).1
          have h2 := HFF.out g x
          omega))))
        rw [hall, if_pos rfl, rem_dsk b a HNS.out] at HRM
        clear hO hall
        go_wp2_with fail
        refine HRM.out.mono ?_
        rintro e w6 ⟨rfl, hd6, hC6⟩
        have HD6 := Lib.hid hd6
        clear hd6
        go_wp2
        go_ret
        refine ⟨rfl, HD6.out.mono (fun g hg => ?_), (Chg.of_kept hkk).trans hC6 (fun g _ x => x)⟩
        rcases hg with x | x
        · exact .inl x
        · exact .inr ⟨by have := hkk.size; omega, x.2⟩)
end Go.Proofs.YtcdeagmoldbicaaGreatDoor
