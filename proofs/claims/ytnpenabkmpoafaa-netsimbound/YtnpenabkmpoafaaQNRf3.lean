/- The walks of the document's Count and Send. -/
import Derived.Test.YtnpenabkmpoafaaQNRf2
set_option linter.unusedSimpArgs false
set_option linter.unusedVariables false
namespace Go.Proofs.Ytnpenabkmpoafaa
open Go.RowKit
def cntE (d : RS) (a b : Int) : Int := if badR d a b then 0 else cntR d a b
def errE (d : RS) (a b : Int) : Int := if badR d a b then 60 else 0
set_option maxRecDepth 100000 in
set_option maxHeartbeats 1000000 in
theorem refCount_any (a b : Int) (w : World) (db : Nat) (Z : Array Value) (lv : Value) (vs : List Sent) (d : RS) (G : Nat → Prop) (h : RefAt w db Z lv vs d G) :
    Calls Try.prog 10 #[.pointer (some ⟨db, 0, none⟩), .int .i64 a, .int .i64 b] w fun e w' => e = .returned (.tuple #[.int .i64 (cntE d a b), .int .i64 (errE d a b)]) ∧ w' = w := by
  have HB := Lib.hid (bad_any a b w db d h.small h.c0)
  have HC := Lib.hid (countR_any a b w db Z lv vs d G h)
  unfold cntE errE
  clear h
  generalize cntR d a b = cn at *
  cases hb : badR d a b with
  | true =>
    rw [hb] at HB
    clear hb
    go_enter Try.func10, Try.ntmps10
    go_wp2_with fail
    refine HB.out.mono ?_
    rintro e w1 ⟨rfl, rfl⟩
    go_wp2
    go_ret2
    exact ⟨rfl, rfl⟩
  | false =>
    rw [hb] at HB
    clear hb
    go_enter Try.func10, Try.ntmps10
    go_wp2_with fail
    refine HB.out.mono ?_
    rintro e w1 ⟨rfl, rfl⟩
    go_wp2_with fail
    refine HC.out.mono ?_
    rintro e w1 ⟨rfl, rfl⟩
    go_wp2
    go_ret2
    exact ⟨rfl, rfl⟩
theorem badR_false {d : RS} {a b : Int} (h : badR d a b = false) : ∃ a' b' : Nat, a = a' ∧ b = b' ∧ a' < d.n ∧ b' < d.n := by
  unfold badR okI at h
  simp only [Bool.not_eq_false', Bool.and_eq_true, decide_eq_true_eq] at h
  exact ⟨a.toNat, b.toNat, by omega, by omega, by omega, by omega⟩
theorem RefAt.push {w w5 : World} {db : Nat} {Z : Array Value} {lv v6 bv : Value} {vs : List Sent} {d : RS} {G G' : Nat → Prop} {a b : Int} {l : List UInt8} (h : RefAt w db Z lv vs d G) (hC : Chg (fun g => lv.ownBlock = some g) w w5) (p1 : w5.ownsRow 0 81 3 v6 (vs.length + 1) (cells3 vs ++ [.int .i64 a, .int .i64 b, bv])) (p3 : v6.ownBlock = lv.ownBlock ∨ ∃ g, v6.ownBlock = some g ∧ w.heap.size ≤ g)
    (hb : w5.ownsRow 0 5 1 bv l.length (Lib.byteCells l)) (hbG : ∀ g, bv.ownBlock = some g → w.heap.size ≤ g) (hfew : vs.length + 1 ≤ 5000000) (hG : ∀ g, G g → G' g) (hnew : ∀ g, w.heap.size ≤ g → g < w5.heap.size → G' g) :
    RefAt (w5.setCell ⟨db, 2, none⟩ v6) db (Z.setIfInBounds 2 v6) v6 (vs ++ [(a, b, bv, l)]) { d with list := d.list ++ [(a, b, l)] } G' := by
  have hcs : Chg (fun g => g = db) w5 (w5.setCell ⟨db, 2, none⟩ v6) := (Chg.refl _ _).setCell _ (fun _ => rfl)
  have hdb : db < w.heap.size := (Array.getElem?_eq_some_iff.1 h.net).1
  have hnet := hC.block' h.net h.apart
  have hv6 : ∀ g, v6.ownBlock = some g → ¬ g = db := fun g hg e => by
    subst e
    rcases p3 with p | ⟨g', p, q⟩
    · exact h.apart (p ▸ hg)
    · rw [hg] at p
      injection p with p
      omega
  refine ⟨Lib.heap_setCell_same hnet v6, h.cells.setList _ _, ?_, fun y hy => ?_, ?_, h.small, h.roomy, ?_, hG _ h.inN, fun g hg => ?_, fun y hy g hg => ?_⟩
  · rw [List.length_append, cells3_app]
    exact own_chg p1 hcs hv6
  · rcases List.mem_append.1 hy with hy | hy
    · refine own_chg (own_chg (h.vals y hy) hC fun g hg e => ?_) hcs fun g hg e => ?_
      · obtain ⟨c1, h1⟩ := own_type (h.vals y hy) hg
        obtain ⟨c2, h2⟩ := own_type h.row e
        rw [h1] at h2
        simp only [Option.some.injEq, Obj.cells.injEq] at h2
        exact absurd h2.2.1 (by decide)
      · subst e
        obtain ⟨c1, h1⟩ := own_type (h.vals y hy) hg
        have h2 := h.net
        rw [h1] at h2
        simp only [Option.some.injEq, Obj.cells.injEq] at h2
        exact absurd h2.2.1 (by decide)
    · obtain rfl : y = (a, b, bv, l) := by simpa using hy
      exact own_chg hb hcs fun g hg e => by have := hbG g hg; omega
  · rw [List.map_append, h.same]; rfl
  · rw [List.length_append]; exact hfew
  · rcases p3 with p | ⟨g', p, q⟩
    · exact hG _ (h.inL g (p ▸ hg))
    · rw [hg] at p
      injection p with p
      exact hnew g (by omega) (p1.lt g hg).2
  · rcases List.mem_append.1 hy with hy | hy
    · exact hG _ (h.inV y hy g hg)
    · obtain rfl : y = (a, b, bv, l) := by simpa using hy
      exact hnew g (hbG g hg) (hb.lt g hg).2
set_option maxRecDepth 100000 in
set_option maxHeartbeats 1000000 in
theorem refSend_ok (a b : Nat) (ms : List (List UInt8)) (v : Value) (w : World) (db : Nat) (Z : Array Value) (lv : Value) (vs : List Sent) (d : RS) (G : Nat → Prop) (h : RefAt w db Z lv vs d G) (ha : a < d.n) (hb : b < d.n) (hbad : badR d a b = false) (hcut : d.cut a b = false)
    (hv : ∀ W, Chg G w W → Parts W v ms) (hms : ∀ x ∈ ms, x.length ≤ 140737488355328) (hfit : cntR d a b + ms.length ≤ d.room) (hfew : vs.length + ms.length ≤ 5000000) :
    Calls Try.prog 15 #[.pointer (some ⟨db, 0, none⟩), .int .i64 (a : Int), .int .i64 (b : Int), v] w fun e w' => e = .returned (.int .i64 0) ∧ (∃ Z' lv' vs', RefAt w' db Z' lv' vs' { d with list := d.list ++ ms.map fun l => ((a : Int), (b : Int), l) } (ext G w w')) ∧ Chg G w w' := by
  have hn := h.small
  have hrm := h.roomy
  have HB := Lib.hid (bad_any a b w db d hn h.c0)
  rw [hbad] at HB
  have HC := Lib.hid (show ∀ W, Kept w W → _ from fun W k => countR_any a b W db Z lv vs d G (h.kept k))
  have hv0 := hv w (Chg.refl _ _)
  have HV := Lib.hid hv
  have HMS := Lib.hid hms
  have H := Lib.hid h
  obtain ⟨A, c, rfl, hc1, hc2, -⟩ := hv0
  unfold maxLen at hc2
  have cc := h.cc (i := a) (j := b) (by omega) (by omega)
  rw [hcut] at cc
  have c1 := h.c1
  have t1 : decide ((d.room : Int) < (cntR d a b : Int) + (ms.length : Int)) = false := by simp; omega
  have h64 : IntKind.i64.wrap ((cntR d a b : Int) + (ms.length : Int)) = (cntR d a b : Int) + (ms.length : Int) := IntWalk.i64_in _ (by omega)
  clear hv hms h hbad hcut
  go_enter Try.func15, Try.ntmps15
  go_wp2_with fail
  refine HB.out.mono ?_
  rintro e w1 ⟨rfl, rfl⟩
  go_wp2_with fail
  have hkd := (Kept.refl w1).drew
  generalize hcn : cntR d a b = cn at *
  go_region_held3 (fun W => W.cell? ⟨db, 1, none⟩ = some (.int .i64 (d.room : Int)))
    (first | exact c1 | exact hkd.cell c1)
    (first | (go_at_call 32; refine (HC.out _ hkd).mono ?_; rintro e w2 ⟨rfl, rfl⟩))
  go_wp2
  go_loopw [9] (fun i W => ∃ (k : Nat) (Z' : Array Value) (lv' : Value) (vs' : List Sent), i = .int .i64 (k : Int) ∧ k ≤ ms.length ∧ RefAt W db Z' lv' vs' { d with list := d.list ++ (ms.take k).map fun l => ((a : Int), (b : Int), l) } (ext G w1 W) ∧ Chg G w1 W) (fun i _ => ms.length - (intOf i).toNat)
  case atStart => exact ⟨0, Z, lv, vs, rfl, Nat.zero_le _, by have := (H.out.kept hkd).mono (G := ext G w1 w1.drew) (fun g x => .inl x); simpa using this, Chg.of_kept hkd⟩
  case round =>
    obtain ⟨k, Z', lv', vs', rfl, hk, hr', hC⟩ := hrel
    have HR := Lib.hid hr'
    have hlen := hr'.len
    rw [List.length_append, List.length_map, List.length_take, ← H.out.len] at hlen
    obtain ⟨A5, c5, rfl⟩ := own_form hr'.row
    have c2 := hr'.c2
    have hdb : db < wr.heap.size := World.block_lt_of_cell? _ _ c2
    clear hr'
    by_cases hlt : k < ms.length
    · obtain ⟨b6, o6, u6, rfl, hcell, hbu⟩ := (HV.out wr hC).at hlt
      have HBU := Lib.hid hbu
      obtain ⟨Au, cu, hu, -, -, -⟩ := hbu
      subst hu
      have g1 : (k : Int) < (ms.length : Int) := by omega
      have hsl := HMS.out ms[k] (List.getElem_mem hlt)
      have HTS := Lib.hid (show ms.take (k + 1) = ms.take k ++ [ms[k]] from List.take_succ_eq_append_getElem hlt)
      generalize hrr : ms[k] = r at *
      clear hrr
      have hkr := (Kept.refl wr).drew
      have HCP := Lib.hid (show ∀ W, Kept wr W → _ from fun W kW => copy_any r (.slice Au r.length cu) W (HBU.out.kept kW) hsl)
      have hbnd : (vs'.length + 1) * 40 ≤ 140737488355328 := by omega
      have hle5 : vs'.length + 1 ≤ 5000000 := by omega
      clear hlen
      have f2 : wr.frozen? ⟨db, 2, none⟩ = false := frozen_at HR.out.net 2
      go_wp2_with fail
      go_region_law (first
        | (go_simp; go_at_call 36; refine (HCP.out _ hkr).mono ?_; rintro e w3 ⟨v3, rfl, ho3, k3⟩; obtain ⟨A3, c3, rfl⟩ := own_form ho3; have HO3 := Lib.hid ho3; have kk := hkr.trans k3; have z2 := kk.cell c2; have kn := kk.alloc (.cells #[.int .i64 (a : Int), .int .i64 (b : Int), .slice A3 r.length c3] 81); have y2 := kn.cell c2; clear ho3)
        | (refine step_append_one elemM (by rfl) _ _ (by rfl) 0 _ _ (cells3 vs') [.int .i64 (a : Int), .int .i64 (b : Int), .slice A3 r.length c3] w3.heap.size 1 (by rfl) (by rfl) (own_kept HR.out.row kn) (by rfl) (cell_new3 w3 _ _ _ _) (by intro u hu; simp at hu; rcases hu with rfl | rfl | rfl <;> rfl) (by omega) (by unfold maxLen; omega) (Nat.zero_le _) ?_; intro v5 w5 p1 p2 p3; obtain ⟨A6, c6, rfl⟩ := own_form p1; have P1 := Lib.hid p1; have P2 := Lib.hid p2; have P3 := Lib.hid p3; have hne := HR.out.apart; have hC5 : Chg (fun g => (Value.slice A5 vs'.length c5).ownBlock = some g) wr w5 := (Chg.of_kept kn).trans (Chg.of_grown p2 (fun g hg _ => hg)) (fun g _ x => x); have z5 := chg_cellS hC5 c2 hne; have HNT := Lib.hid (hC5.block' HR.out.net hne); have f5 : w5.frozen? ⟨db, 2, none⟩ = false := frozen_at HNT.out 2; clear p1 p2 p3))
      all_goals
        have hC6 : Chg (ext G w1 wr) wr (w5.setCell ⟨db, 2, none⟩ (.slice A6 (vs'.length + 1) c6)) := (hC5.mono fun g _ x => HR.out.inL g x).setCell _ (fun _ => HR.out.inN)
        have k3s := k3.size
        have hdr : wr.drew.heap.size = wr.heap.size := rfl
        have hbG : ∀ g, (Value.slice A3 r.length c3).ownBlock = some g → wr.heap.size ≤ g := fun g hg => (HO3.out.lt g hg).1
        have hC35 : Chg (fun g => (Value.slice A5 vs'.length c5).ownBlock = some g) w3 w5 := (Chg.of_kept ((Kept.refl w3).alloc _)).trans (Chg.of_grown P2.out (fun g hg _ => hg)) (fun g _ x => x)
        have HNW := Lib.hid (HR.out.push (G' := ext G w1 (w5.setCell ⟨db, 2, none⟩ (.slice A6 (vs'.length + 1) c6))) hC5 P1.out (P3.out.imp id fun e => ⟨_, e, by simp; omega⟩) (own_chg (own_base' HO3.out (Nat.zero_le _)) hC35 fun g hg e => by
          have h1 := hbG g hg
          have h2 := (HR.out.row.lt g e).2
          omega) hbG hle5 (fun g hg => ext_mono hC6.size hg) (fun g h1 h2 => .inr ⟨Nat.le_trans hC.size h1, by simpa using h2⟩))
        have HC6 := Lib.hid hC6
        clear hC6 hbG hC35 hC5 hne
        go_wp2
        go_roundw
        case rel =>
          refine ⟨k + 1, Z'.setIfInBounds 2 (.slice A6 (vs'.length + 1) c6), .slice A6 (vs'.length + 1) c6, vs' ++ [((a : Int), (b : Int), .slice A3 r.length c3, r)], by go_num, by omega, ?_, hC.chain HC6.out⟩
          have := HNW.out
          rw [HTS.out, List.map_append, ← List.append_assoc]
          exact this
        case measure => simp [intOf]; omega
    · obtain rfl : k = ms.length := by omega
      rw [List.take_length] at HR
      go_wp2
      go_ret
      exact ⟨rfl, ⟨Z', _, vs', HR.out⟩, hC⟩
end Go.Proofs.Ytnpenabkmpoafaa
