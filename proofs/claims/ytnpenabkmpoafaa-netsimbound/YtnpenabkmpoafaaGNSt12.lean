/- The walk of step: Send. The walk of step: Deliver. -/
import Derived.Test.YtnpenabkmpoafaaGNDuo2
import Derived.Test.YtnpenabkmpoafaaQNQr
import Derived.Deep.CutBlock
import Derived.Deep.DeepCutAuto
set_option linter.unusedSimpArgs false
set_option linter.unusedVariables false
namespace Go.Proofs.Ytnpenabkmpoafaa
open Go.RowKit
/-- The value is a row of rows of bytes, whatever they are. -/
def QRecs (w : World) (rv : Value) (us : List Value) (G : Nat → Prop) : Prop := w.ownsRow 0 54 1 rv us.length us ∧ (∀ g, rv.ownBlock = some g → G g) ∧ ∀ u ∈ us, ∃ A n c, u = .slice A n c ∧ n ≤ maxLen ∧ (0 < n → ∃ g, A = some ⟨g, 0, none⟩ ∧ G g ∧ QRow w g n)
theorem RecsAt.loose {w : World} {rv : Value} {rs : List (List UInt8)} {G : Nat → Prop} (h : RecsAt w rv rs G) : ∃ us, us.length = rs.length ∧ QRecs w rv us G := by
  obtain ⟨us, h1, h2, h3⟩ := h
  have hl : us.length = rs.length := by have := h1.1; omega
  refine ⟨us, hl, by rw [hl]; exact h1, h2, fun u hu => ?_⟩
  obtain ⟨k, hk, rfl⟩ := List.mem_iff_getElem.1 hu
  obtain ⟨u, a, b, c⟩ := h3 k (by omega)
  obtain rfl : us[k] = u := by
    rw [List.getElem?_eq_getElem hk] at a
    exact Option.some.inj a
  have hlen := (Bts.of_own b).len
  rcases b.2 with ⟨e, h0⟩ | ⟨g, cap, cur, e, -⟩
  · exact ⟨none, 0, 0, e, Nat.zero_le _, fun h => by omega⟩
  · exact ⟨_, _, _, e, hlen, fun _ => ⟨g, rfl, c g (by rw [e]; rfl), QRow.of_own (by rw [← e]; exact b)⟩⟩
theorem QRow.same {w : World} {g n i : Nat} {y : Nat} (h : QRow w g n) (g' : Nat) (hy : y < 256) : QRow (w.setCell ⟨g', i, none⟩ (.int .u8 (y : Int))) g n := by
  by_cases e : g' = g
  · subst e
    exact h.set_ i y hy
  · exact h.chg ((Chg.refl (fun k => k = g') w).setCell _ (fun _ => rfl)) (fun x => e x.symm)
theorem QRecs.set {w : World} {rv : Value} {us : List Value} {G : Nat → Prop} (h : QRecs w rv us G) {g n : Nat} (hq : QRow w g n) (i y : Nat) (hy : y < 256) : QRecs (w.setCell ⟨g, i, none⟩ (.int .u8 (y : Int))) rv us G := by
  obtain ⟨h1, h2, h3⟩ := h
  refine ⟨own_chg h1 ((Chg.refl (fun k => k = g) w).setCell _ (fun _ => rfl)) (fun k hk e => ?_), h2, fun u hu => ?_⟩
  · subst e
    obtain ⟨cur, hc⟩ := own_type h1 hk
    obtain ⟨cur', hc', -⟩ := hq
    rw [hc] at hc'
    simp only [Option.some.injEq, Obj.cells.injEq] at hc'
    exact absurd hc'.2.1 (by decide)
  · obtain ⟨A, n, c, e, hn, hp⟩ := h3 u hu
    exact ⟨A, n, c, e, hn, fun x => by
      obtain ⟨k, e1, e2, e3⟩ := hp x
      exact ⟨k, e1, e2, e3.same g hy⟩⟩
theorem QRecs.at {w : World} {A : Option Addr} {n c : Nat} {us : List Value} {G : Nat → Prop} (h : QRecs w (.slice A n c) us G) {k : Nat} (hk : k < us.length) : ∃ g Au nu cu, A = some ⟨g, 0, none⟩ ∧ w.cell? ⟨g, k, none⟩ = some (.slice Au nu cu) ∧ nu ≤ maxLen ∧ (0 < nu → ∃ g', Au = some ⟨g', 0, none⟩ ∧ G g' ∧ QRow w g' nu) ∧ .slice Au nu cu ∈ us := by
  obtain ⟨h1, h2, h3⟩ := h
  rcases h1.2 with ⟨e, h0⟩ | ⟨g, cap', cur, e, -⟩
  · omega
  · obtain ⟨rfl, -, rfl⟩ : A = some ⟨g, 0, none⟩ ∧ n = us.length ∧ c = cap' := by simpa using e
    have hrow := h1
    rw [e] at hrow
    have ha : ∀ j, ((⟨g, 0, none⟩ : Addr).add j) = ⟨g, j, none⟩ := fun j => by unfold Addr.add; split <;> simp_all
    have c1 := hrow.cells (g := g) rfl k us[k] (List.getElem?_eq_getElem hk)
    rw [ha] at c1
    obtain ⟨Au, nu, cu, e1, e2, e3⟩ := h3 us[k] (List.getElem_mem hk)
    refine ⟨g, Au, nu, cu, rfl, by rw [c1, e1], e2, e3, by rw [← e1]; exact List.getElem_mem hk⟩
set_option maxRecDepth 100000 in
set_option maxHeartbeats 4000000 in
theorem step_send (x : Op6) (A : Nat → Prop) (w0 w : World) (nb db : Nat) (s : NS) (d : RS) (lim : Nat) (h : Duo A w0 w nb db s d lim) (hk : x.kind = 1) (hl : lim + 2 < maxLen) (hx : x.Reads w0) (hf : x.Fits) (hfew : d.list.length + 4096 ≤ 5000000) :
    Calls Try.prog 8 #[.pointer (some ⟨nb, 0, none⟩), .pointer (some ⟨db, 0, none⟩), .agg #[.int .i64 x.kind, .int .i64 x.a, .int .i64 x.b, .int .i64 x.n, x.lv, x.nv]] w (StepTo A w0 w nb db s d lim x) := by
  have e1 : (x.kind == 1) = true := by simp [hk]
  have HS := Lib.hid (show stepS s x = sendS s x.a x.b x.list ∧ rStepS d x = rSendS d x.a x.b x.list by unfold stepS rStepS; simp [hk])
  clear hk
  have hKa : Kept w (w.alloc (.cells #[.int .i64 x.kind, .int .i64 x.a, .int .i64 x.b, .int .i64 x.n, x.lv, x.nv] 39)) := (Kept.refl w).alloc _
  have hba := heap_alloc_new w (.cells #[.int .i64 x.kind, .int .i64 x.a, .int .i64 x.b, .int .i64 x.n, x.lv, x.nv] 39)
  have hbz : w.heap.size < (w.alloc (.cells #[.int .i64 x.kind, .int .i64 x.a, .int .i64 x.b, .int .i64 x.n, x.lv, x.nv] 39)).heap.size := by simp
  have HD := Lib.hid (h.grow hKa (A' := fun g => A g ∨ g = w.heap.size) (fun g y => y.elim .inl (fun e => .inr (by subst e; exact ⟨Nat.le_refl _, hbz⟩))))
  have HKA := Lib.hid hKa
  have HOLD := Lib.hid h.old
  have HX := Lib.hid hx
  have HF := Lib.hid hf
  have HFW := Lib.hid hfew
  have hll : x.list.length ≤ 5864062014805 := hf.1
  obtain ⟨Al, cl, hlv, -, -, -⟩ := id hx.1
  have HLV := Lib.hid hlv
  clear h hx hf hfew hlv
  go_enter Try.func8, Try.ntmps8
  go_upto_region 1 with (fail)
  generalize w.alloc (.cells #[.int .i64 x.kind, .int .i64 x.a, .int .i64 x.b, .int .i64 x.n, x.lv, x.nv] 39) = wa at *
  have q0 := cell_at hba 0
  have q1 := cell_at hba 1
  have q2 := cell_at hba 2
  have q3 := cell_at hba 3
  have q4 := cell_at hba 4
  have q5 := cell_at hba 5
  simp only [List.getElem?_toArray, List.getElem?_cons_zero, List.getElem?_cons_succ] at q0 q1 q2 q3 q4 q5
  have HBA := Lib.hid hba
  clear hba
  rw [HLV.out] at q4
  clear q3 q5
  have HCP := Lib.hid (copied_any x.list (.slice Al x.list.length cl) wa (by rw [← HLV.out]; exact HX.out.1.kept (HOLD.out.trans HKA.out)) HF.out.1 HF.out.2.1)
  go_wp2_with fail
  refine HCP.out.mono ?_
  rintro e w3 ⟨v3, rfl, hr3, hk3⟩
  have HK3 := Lib.hid hk3
  have hs3 := hk3.size
  have HD3 := Lib.hid (HD.out.grow hk3 (A' := fun g => (A g ∨ g = w.heap.size) ∨ (wa.heap.size ≤ g ∧ g < w3.heap.size)) (fun g y => y))
  have HR3 := Lib.hid (hr3.mono (G' := fun g => (A g ∨ g = w.heap.size) ∨ (wa.heap.size ≤ g ∧ g < w3.heap.size)) (fun g y => by
    rcases y with y | y
    · exact y.elim
    · exact .inr y))
  have HR3b := Lib.hid hr3
  have u1 := hk3.cell q1
  have u2 := hk3.cell q2
  have u4 := hk3.cell q4
  have HN := Lib.hid (send_duo HD3.out x.a x.b x.list v3 HR3.out HF.out.2.1 hl)
  clear hr3 hk3 q0 q1 q2 q4
  go_wp2_with fail
  refine HN.out.mono ?_
  rintro e w4 ⟨rfl, hd4, hc4, hr4⟩
  have HD4 := Lib.hid hd4
  have HC4 := Lib.hid hc4
  have z1 := box_cell (.inl (.inr rfl)) u1 hc4
  have z2 := box_cell (.inl (.inr rfl)) u2 hc4
  have z4 := box_cell (.inl (.inr rfl)) u4 hc4
  have hr4b : RecsAt w4 v3 x.list (fun g => wa.heap.size ≤ g ∧ g < w3.heap.size) := (HR3b.out.mono (G' := fun g => wa.heap.size ≤ g ∧ g < w3.heap.size) (fun g y => y.elim (fun z => z.elim) id)).chg hc4 (fun g y z => z.2 (.inr y))
  obtain ⟨us, hul, hus⟩ := hr4b.loose
  obtain ⟨A3, c3, rfl⟩ := own_form hus.1
  have HUS := Lib.hid hus
  have hul2 : us.length ≤ 5864062014805 := by omega
  have HUL := Lib.hid hul
  have HER := Lib.hid (show ∃ er, sendE s x.a x.b x.list.length = er from ⟨_, rfl⟩)
  obtain ⟨er, her⟩ := HER.out
  simp only [her]
  have HE := Lib.hid her
  clear hd4 hc4 hr4 hr4b hus hul her HER u1 u2 u4
  have hbn : ∀ g, (wa.heap.size ≤ g ∧ g < w3.heap.size) → g ≠ w.heap.size := fun g y e => by omega
  have HBN := Lib.hid hbn
  clear hbn
  go_wp2
  go_loopw [36] (fun i W => ∃ k : Nat, i = .int .i64 (k : Int) ∧ k ≤ us.length ∧ QRecs W (.slice A3 us.length c3) us (fun g => wa.heap.size ≤ g ∧ g < w3.heap.size) ∧ Chg (fun g => wa.heap.size ≤ g ∧ g < w3.heap.size) w4 W) (fun i _ => us.length - (intOf i).toNat)
  case atStart => exact ⟨0, rfl, Nat.zero_le _, HUS.out, Chg.refl _ _⟩
  case round =>
    obtain ⟨k, rfl, hk, hQ, hW⟩ := hrel
    have HQ := Lib.hid hQ
    have HW := Lib.hid hW
    clear hQ hW
    by_cases hlt : k < us.length
    · obtain ⟨g, Au, nu, cu, rfl, hcell, hnu, hrow, -⟩ := HQ.out.at hlt
      unfold maxLen at hnu
      have g1 : (k : Int) < (us.length : Int) := by omega
      have HRW := Lib.hid hrow
      have HGQ := Lib.hid (show ∃ g', 0 < nu → Au = some ⟨g', 0, none⟩ ∧ (wa.heap.size ≤ g' ∧ g' < w3.heap.size) ∧ QRow wr g' nu from by
        by_cases e : 0 < nu
        · obtain ⟨g', e1, e2, e3⟩ := hrow e
          exact ⟨g', fun _ => ⟨e1, e2, e3⟩⟩
        · exact ⟨0, fun h => absurd h e⟩)
      obtain ⟨g', hgq⟩ := HGQ.out
      have HG := Lib.hid hgq
      clear hgq HGQ hrow
      go_wp2
      go_loopw [42] (fun j W => ∃ m : Nat, j = .int .i64 (m : Int) ∧ m ≤ nu ∧ (0 < nu → QRow W g' nu) ∧ QRecs W (.slice (some ⟨g, 0, none⟩) us.length c3) us (fun g => wa.heap.size ≤ g ∧ g < w3.heap.size) ∧ Chg (fun g => wa.heap.size ≤ g ∧ g < w3.heap.size) w4 W) (fun j _ => nu - (intOf j).toNat)
      case atStart => exact ⟨0, rfl, Nat.zero_le _, fun h => (HG.out h).2.2, HQ.out, HW.out⟩
      case round =>
        obtain ⟨m, rfl, hm, hq, hqs, hw⟩ := hrel
        have HQ2 := Lib.hid hq
        have HQS := Lib.hid hqs
        have HW2 := Lib.hid hw
        clear hq hqs hw
        by_cases hlt2 : m < nu
        · have hpos : 0 < nu := by omega
          obtain rfl := (HG.out hpos).1
          have hgb := (HG.out hpos).2.1
          have HGB := Lib.hid hgb
          obtain ⟨⟨y, hy0, hc⟩, hf⟩ := (HQ2.out hpos).at_ hlt2
          have hsg : IntKind.u8.signed = false := rfl
          have hb := u8_not y hy0
          have hy := xor255_lt y hy0
          have HQ3 := Lib.hid ((HQ2.out hpos).set_ m (255 ^^^ y) hy)
          have HQT := Lib.hid (HQS.out.set (HQ2.out hpos) m (255 ^^^ y) hy)
          have HW3 := Lib.hid (HW2.out.setCell (b := g') (o := m) (.int .u8 ((255 ^^^ y : Nat) : Int)) (fun _ => HGB.out))
          have g2 : (m : Int) < (nu : Int) := by omega
          clear hgb
          generalize 255 ^^^ y = yy at *
          go_wp2
          go_roundw
          case rel => exact ⟨m + 1, by go_num, by omega, fun _ => HQ3.out, HQT.out, HW3.out⟩
          case measure => simp [intOf]; omega
        · go_wp2
          go_roundw
          case rel => exact ⟨k + 1, by go_num, by omega, HQS.out, HW2.out⟩
          case measure => simp [intOf]; omega
    · have y1 := chg_cellS HW.out z1 (fun y => HBN.out _ y rfl)
      have y2 := chg_cellS HW.out z2 (fun y => HBN.out _ y rfl)
      have y4 := chg_cellS HW.out z4 (fun y => HBN.out _ y rfl)
      have HD5 := Lib.hid (HD4.out.chg (HW.out.mono fun g _ y => .inr y))
      have HRS := Lib.hid (refSend_duo HD5.out x.a x.b x.list (.slice Al x.list.length cl) (fun W hW => by rw [← HLV.out]; exact HX.out.1.kept hW) HF.out.2.1 (by omega) HFW.out)
      go_wp2_with fail
      refine HRS.out.mono ?_
      rintro e w6 ⟨rfl, hd6, hc6⟩
      have HD6 := Lib.hid hd6
      have HC6 := Lib.hid hc6
      clear hd6 hc6
      go_wp2
      go_ret
      refine ⟨_, rfl, fun hr => by rw [hr.sendE, HE.out]; simp, ?_, ?_⟩
      · rw [HS.out.1, HS.out.2]
        exact HD6.out.grow (Kept.refl _) fun g y => .inl (.inl (.inl y))
      · exact (((Chg.of_kept (F := offA A w0) (HKA.out.trans HK3.out)).trans HC4.out (fun g _ y => ⟨y.1, fun a => y.2 (.inl (.inl a))⟩)).trans HW.out (fun g hg y => by have := HKA.out.size; omega)).trans HC6.out (fun g _ y => ⟨y.1, fun a => y.2 (.inl (.inl a))⟩)
end Go.Proofs.Ytnpenabkmpoafaa
set_option linter.unusedSimpArgs false
set_option linter.unusedVariables false
namespace Go.Proofs.Ytnpenabkmpoafaa
open Go.RowKit
theorem Rel.told {s : NS} {d : RS} (hr : Rel s d) (a b i : Int) : msgS s a b i = if rWait d a b i = 0 then rPick d a b i else [] := by
  rw [hr.wait]
  by_cases e : waitE s a b i = 0
  · rw [if_pos e, hr.pick a b i e]
  · rw [if_neg e]
    unfold msgS
    rw [if_neg e]
set_option maxRecDepth 100000 in
set_option maxHeartbeats 4000000 in
theorem step_deliver (x : Op6) (A : Nat → Prop) (w0 w : World) (nb db : Nat) (s : NS) (d : RS) (lim : Nat) (h : Duo A w0 w nb db s d lim) (hk : x.kind = 2) (hl : lim + 2 < maxLen) :
    Calls Try.prog 8 #[.pointer (some ⟨nb, 0, none⟩), .pointer (some ⟨db, 0, none⟩), .agg #[.int .i64 x.kind, .int .i64 x.a, .int .i64 x.b, .int .i64 x.n, x.lv, x.nv]] w (StepTo A w0 w nb db s d lim x) := by
  have e1 : (x.kind == 1) = false := by simp [hk]
  have e2 : (x.kind == 2) = true := by simp [hk]
  have HS := Lib.hid (show stepS s x = delS s x.a x.b x.n ∧ rStepS d x = rDelS d x.a x.b x.n by unfold stepS rStepS; simp [hk])
  clear hk
  have hKa : Kept w (w.alloc (.cells #[.int .i64 x.kind, .int .i64 x.a, .int .i64 x.b, .int .i64 x.n, x.lv, x.nv] 39)) := (Kept.refl w).alloc _
  have hba := heap_alloc_new w (.cells #[.int .i64 x.kind, .int .i64 x.a, .int .i64 x.b, .int .i64 x.n, x.lv, x.nv] 39)
  have hbz : w.heap.size < (w.alloc (.cells #[.int .i64 x.kind, .int .i64 x.a, .int .i64 x.b, .int .i64 x.n, x.lv, x.nv] 39)).heap.size := by simp
  have HD := Lib.hid (h.grow hKa (A' := fun g => A g ∨ g = w.heap.size) (fun g y => y.elim .inl (fun e => .inr (by subst e; exact ⟨Nat.le_refl _, hbz⟩))))
  have HKA := Lib.hid hKa
  have HOLD := Lib.hid h.old
  clear h
  go_enter Try.func8, Try.ntmps8
  go_upto_region 1 with (fail)
  generalize w.alloc (.cells #[.int .i64 x.kind, .int .i64 x.a, .int .i64 x.b, .int .i64 x.n, x.lv, x.nv] 39) = wa at *
  have q0 := cell_at hba 0
  have q1 := cell_at hba 1
  have q2 := cell_at hba 2
  have q3 := cell_at hba 3
  have q4 := cell_at hba 4
  have q5 := cell_at hba 5
  simp only [List.getElem?_toArray, List.getElem?_cons_zero, List.getElem?_cons_succ] at q0 q1 q2 q3 q4 q5
  have HBA := Lib.hid hba
  clear hba
  have HC := Lib.hid (deliver_duo HD.out x.a x.b x.n hl)
  go_wp2_with fail
  refine HC.out.mono ?_
  rintro e w4 ⟨v, rfl, ho4, hv4, hd4, hc4⟩
  have HO4 := Lib.hid ho4
  have HV4 := Lib.hid hv4
  have HC4 := Lib.hid hc4
  have HTOLD := Lib.hid (fun hr : Rel s d => hr.told x.a x.b x.n)
  have z1 := box_cell (.inr rfl) q1 hc4
  have z2 := box_cell (.inr rfl) q2 hc4
  have z3 := box_cell (.inr rfl) q3 hc4
  obtain ⟨Av, cv, rfl⟩ := own_form ho4
  have HR := Lib.hid (refDeliver_duo hd4 x.a x.b x.n)
  clear ho4 hv4 hd4 hc4 q0 q1 q2 q3 q4 q5
  go_wp2_with fail
  refine HR.out.mono ?_
  rintro e w5 ⟨⟨mv, rfl, hm5⟩, hd5, hc5⟩
  have ho5 := own_chg HO4.out hc5 (fun g hg y => y.2 (.inr hg))
  have HO5 := Lib.hid ho5
  have HD5 := Lib.hid hd5
  have HC5 := Lib.hid hc5
  have HSM := Lib.hid (same_any _ _ _ _ w5 (Bts.of_own ho5) hm5)
  have hlen := (Bts.of_own ho5).len
  unfold maxLen at hlen
  clear ho5 hd5 hc5 hm5
  have HSB := Lib.hid (show ∃ sb : Bool, (msgS s x.a x.b x.n == if rWait d x.a x.b x.n = 0 then rPick d x.a x.b x.n else []) = sb from ⟨_, rfl⟩)
  obtain ⟨sb, hsb⟩ := HSB.out
  rw [hsb] at HSM
  have HSB2 := Lib.hid hsb
  clear hsb HSB
  have HML := Lib.hid (show ∃ ml, msgS s x.a x.b x.n = ml from ⟨_, rfl⟩)
  obtain ⟨ml, hml⟩ := HML.out
  rw [hml] at HO4 HO5 HSM hlen HSB2 HTOLD HV4 HD5 HC5
  simp only [hml]
  have HGQ := Lib.hid (show ∃ g, 0 < ml.length → Av = some ⟨g, 0, none⟩ ∧ QRow w5 g ml.length from by
    rcases HO5.out.2 with ⟨e, h0⟩ | ⟨g, cap, cur, e, -⟩
    · exact ⟨0, fun h => by omega⟩
    · injection e with e1 e2 e3
      exact ⟨g, fun _ => ⟨e1, QRow.of_own (by have h := HO5.out; rw [e1] at h; exact h)⟩⟩)
  obtain ⟨g, hgq⟩ := HGQ.out
  have HG := Lib.hid hgq
  clear hgq HGQ hml HML
  cases sb
  all_goals
    go_wp2_with fail
    refine HSM.out.mono ?_
    rintro e w6 ⟨rfl, rfl⟩
    go_wp2
    go_loopw [99] (fun i W => ∃ k : Nat, i = .int .i64 (k : Int) ∧ k ≤ ml.length ∧ (0 < ml.length → QRow W g ml.length) ∧ Chg (fun g' => (Value.slice Av ml.length cv).ownBlock = some g') w5 W) (fun i _ => ml.length - (intOf i).toNat)
    case atStart => exact ⟨0, rfl, Nat.zero_le _, fun h => (HG.out h).2, Chg.refl _ _⟩
    case round =>
      obtain ⟨k, rfl, hk, hQ, hW⟩ := hrel
      have HQ2 := Lib.hid hQ
      have HW := Lib.hid hW
      clear hQ hW
      by_cases hlt : k < ml.length
      · have hpos : 0 < ml.length := by omega
        obtain rfl := (HG.out hpos).1
        obtain ⟨⟨y, hy0, hc⟩, hf⟩ := (HQ2.out hpos).at_ hlt
        have hsg : IntKind.u8.signed = false := rfl
        have hb := u8_not y hy0
        have hy := xor255_lt y hy0
        have HQ3 := Lib.hid ((HQ2.out hpos).set_ k (255 ^^^ y) hy)
        have HW3 := Lib.hid (HW.out.setCell (b := g) (o := k) (.int .u8 ((255 ^^^ y : Nat) : Int)) (fun _ => rfl))
        have g1 : (k : Int) < (ml.length : Int) := by omega
        generalize 255 ^^^ y = yy at *
        go_wp2
        go_roundw
        case rel => exact ⟨k + 1, by go_num, by omega, fun _ => HQ3.out, HW3.out⟩
        case measure => simp [intOf]; omega
      · go_wp2
        go_ret
        refine ⟨_, rfl, fun hr => ?_, ?_, ?_⟩
        · first
            | (rw [hr.wait]; simp; done)
            | (exfalso; have h1 := HSB2.out; rw [← HTOLD.out hr] at h1; simp at h1)
        · rw [HS.out.1, HS.out.2]
          exact (HD5.out.chg (HW.out.mono fun g' _ y => .inr y)).grow (Kept.refl _) fun g' y => .inl (.inl (.inl y))
        · exact (((Chg.of_kept (F := offA A w0) HKA.out).trans HC4.out (fun g _ y => ⟨y.1, fun a => y.2 (.inl a)⟩)).trans HC5.out (fun g _ y => ⟨y.1, fun a => y.2 (.inl (.inl a))⟩)).trans HW.out (fun g' _ y => ⟨(HV4.out g' y).1, fun a => (HV4.out g' y).2 (.inl a)⟩)
end Go.Proofs.Ytnpenabkmpoafaa
