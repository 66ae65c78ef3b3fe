/- The walk of the document's Join. -/
import Derived.Test.YtoapfjcohnddaaaPRefUnder
import Derived.Test.YtoapfjcohnddaaaPJoin
import Derived.Deep.RegionHeld3
import Derived.Deep.AppendLies
namespace Go.Proofs.Ytoapfjcohnddaaa
open Go.RowKit
/-- append, at a step of a region that draws its order. -/
theorem step_append_txts {w : World} {ops : Array Oper} {o : Oper} {a : Act} {K : Act → World → Prop} {Q : Exit → Act → World → Prop} {E : Prop} (hgd : o.guard = none) (s x : Operand)
    (ho : o.op = .call { callee := .builtin .append, args := #[s, x], argTypes := #[22, 22] }) (base : Nat) (v : Value) (n : Nat) (l m : List (List UInt8)) (xv : Value) (hs : a.eval s = v) (hxe : a.eval x = xv)
    (hown : w.ownsRow base 9 1 v n (strCells l)) (hx : Txts w xv m) (hlim : n + m.length ≤ 8796093022208) (hbase : base ≤ w.heap.size)
    (h : ∀ v' w', w'.ownsRow base 9 1 v' (n + m.length) (strCells (l ++ m)) → w.grownBy w' v.ownBlock → (v'.ownBlock = v.ownBlock ∨ v'.ownBlock = some w.heap.size) → K (a.put o.dst v') w') :
    if Region.wanted o (yielded ops a.tmps) = true then Oper.wp Try.prog o a w K Q else E := by
  have hw : Region.wanted o (yielded ops a.tmps) = true := by simp [Region.wanted, hgd]
  rw [if_pos hw]
  obtain ⟨v', w', hrun, h2, h3, h4⟩ := append_runS o.type w base v n l m xv hown hx hlim hbase
  unfold Oper.wp execOp
  simp only [ho, resolve, invoke, builtin, Sem.run_bind, Sem.run_pure, Result.andThen_ok, List.map_toArray, List.map_cons, List.map_nil, hs, hxe, hrun]
  exact h v' w' h2 h3 h4
theorem okNames_flat {ls : List (List UInt8)} (h : ∀ x ∈ ls, isName x = true) : (flat ls).length ≤ 33 * ls.length := by
  induction ls with
  | nil => simp [flat]
  | cons x t ih =>
    have h1 := ih (fun y hy => h y (by simp [hy]))
    have h2 := isName_len (h x (by simp))
    rw [flat_cons]
    simp only [List.length_cons, List.length_append]
    omega

theorem heapA (w : World) (o : Obj) : (w.alloc o).drew.heap[w.heap.size]? = some o := heap_alloc_new w o
theorem heapB (w : World) (o o' : Obj) : ((w.alloc o).alloc o').drew.heap[w.heap.size]? = some o := (Lib.alloc_old (w.alloc o) o' w.heap.size (by simp)).trans (heap_alloc_new w o)
theorem heapC (w : World) (o o' : Obj) : ((w.alloc o').alloc o).drew.heap[w.heap.size + 1]? = some o := by
  have h := heap_alloc_new (w.alloc o') o
  rw [show (w.alloc o').heap.size = w.heap.size + 1 by simp] at h
  exact h
theorem own_empty {w0 : Nat} {w : World} {g : Nat} (hg : w.heap[g]? = some (.cells #[] 9 (0, 0))) (hb : w0 ≤ g) : w.ownsRow w0 9 1 (.slice (some ⟨g, 0, none⟩) 0 0) 0 (strCells []) :=
  ⟨rfl, .inr ⟨g, 0, #[], rfl, hb, hg, Nat.le_refl _, by decide, rfl, rfl⟩⟩
theorem Txts.cell1 {w : World} {g : Nat} {x : List UInt8} (h : w.cell? ⟨g, 0, none⟩ = some (.string ⟨x.toArray⟩)) : Txts w (.slice (some ⟨g, 0, none⟩) 1 1) [x] := by
  refine ⟨_, 1, rfl, Nat.le_refl _, by decide, fun _ => ⟨_, 0, rfl, fun k y hy => ?_⟩⟩
  match k, hy with
  | 0, hy =>
    obtain rfl : x = y := by simpa using hy
    simpa using h

set_option maxRecDepth 100000 in
set_option maxHeartbeats 4000000 in
theorem refJoin_any (l : List UInt8) (ns : List (List UInt8)) (v : Value) (w : World) (hv : Txts w v ns) :
    Calls Try.prog 6 #[.string ⟨l.toArray⟩, v] w fun e w' => e = .returned (.tuple #[.string ⟨(strO (joinOf l ns)).toArray⟩, .bool (joinOf l ns).isSome]) ∧ Kept w w' := by
  have HV := Lib.hid hv
  obtain ⟨A, c, rfl, hc1, hc2⟩ := hv.form
  clear hv
  unfold maxLen at hc2
  have HC := Lib.hid (refParts_any l w)
  go_enter Try.func6, Try.ntmps6
  go_wp2_with fail
  refine HC.out.mono ?_
  rintro e w1 ⟨v1, rfl, h1, k1⟩
  obtain ⟨A1, c1, hv1, d1, d2⟩ := h1.form
  subst hv1
  have H1 := Lib.hid h1
  clear h1
  cases hn : names l with
  | none =>
    have hp : joinOf l ns = none := by unfold joinOf; rw [hn]
    have HP := Lib.hid hp
    clear hp hn
    go_wp2
    go_ret2
    exact ⟨by rw [HP.out]; rfl, k1⟩
  | some ls =>
    have hp : joinOf l ns = if okNames (ls ++ ns) = true then some (mk (ls ++ ns)) else none := by unfold joinOf; rw [hn]
    have HP := Lib.hid hp
    obtain ⟨hok, hmk⟩ := names_some hn
    rw [hn] at H1 d1
    rw [Option.getD_some] at H1 d1
    rw [Option.getD_some, show (some ls : Option (List (List UInt8))).isSome = true from rfl]
    clear hp hn hmk
    have HOK := Lib.hid hok
    clear hok
    go_wp2
    go_loopw [6, 8] (fun t i W => ∃ (k : Nat), i = .int .i64 (k : Int) ∧ k ≤ ns.length ∧ (ls ++ ns.take k).length ≤ 8 ∧ (∀ x ∈ ls ++ ns.take k, isName x = true) ∧ Txts W t (ls ++ ns.take k) ∧ Kept w W) (fun _ i _ => ns.length - (intOf i).toNat)
    case atStart => exact ⟨0, rfl, Nat.zero_le _, by simpa using (okNames_all HOK.out).2.1, by simpa using (okNames_all HOK.out).1, by simpa using H1.out, k1⟩
    case round =>
      obtain ⟨k, rfl, hk, h8, hall, hT, hK⟩ := hrel
      obtain ⟨A6, c6, hv6, d3, d4⟩ := hT.form
      subst hv6
      unfold maxLen at d4
      have HT := Lib.hid hT
      have HA := Lib.hid hall
      clear hT hall
      by_cases hlt : k < ns.length
      · obtain ⟨b, o, rfl, hcell⟩ := (HV.out.kept hK).at hlt
        have g1 : (k : Int) < (ns.length : Int) := by omega
        have hts : ls ++ ns.take (k + 1) = (ls ++ ns.take k) ++ [ns[k]] := by rw [List.take_succ_eq_append_getElem hlt, List.append_assoc]
        have HTS := Lib.hid hts
        clear hts
        cases hn : isName ns[k] with
        | false =>
          have hno : joinOf l ns = none := by
            rw [HP.out, if_neg]
            intro hx
            have := (okNames_all hx).1 ns[k] (by simp)
            rw [hn] at this
            cases this
          have HNO := Lib.hid hno
          have HN := Lib.hid (show ∀ w, _ from fun w => refName_any ns[k] w)
          rw [hn] at HN
          clear hno hn
          generalize ns[k] = x at *
          go_wp2_with fail
          refine (HN.out _).mono ?_
          rintro e w4 ⟨rfl, rfl⟩
          go_wp2
          go_ret2
          exact ⟨by rw [HNO.out]; rfl, hK⟩
        | true =>
          have HN := Lib.hid (show ∀ w, _ from fun w => refName_any ns[k] w)
          rw [hn] at HN
          have HXN := Lib.hid hn
          clear hn
          by_cases hfull : (ls ++ ns.take k).length < 8
          · have t8 : decide ((8 : Int) ≤ ((ls ++ ns.take k).length : Int)) = false := by simp only [decide_eq_false_iff_not]; omega
            generalize hls : ls ++ ns.take k = ys at *
            have HLS := Lib.hid hls
            clear hls
            generalize ns[k] = x at *
            go_wp2_with fail
            refine (HN.out _).mono ?_
            rintro e w4 ⟨rfl, rfl⟩
            go_wp2
            have hKwr := Kept.refl wr
            go_region_held3 (fun w' => w'.cell? ⟨b, o + k, none⟩ = some (.string ⟨x.toArray⟩) ∧ Kept wr w')
              (refine ⟨Kept.cell ?_ hcell, ?_⟩ <;> repeat (first | exact Kept.refl _ | assumption | refine Kept.drew ?_ | refine Kept.alloc ?_ _))
              (first
                | (refine step_append_txts (by rfl) _ _ (by rfl) wr.heap.size _ 0 [] ys _ (by rfl) (by rfl) (own_empty (by first | exact heapA _ _ | exact heapB _ _ _ | exact heapC _ _ _) (by simp)) (HT.out.kept (by repeat (first | exact Kept.refl _ | assumption | refine Kept.drew ?_ | refine Kept.alloc ?_ _))) (by first | (simp; done) | (simp; omega)) (by first | (simp; done) | (simp; omega)) ?_; intro v1 q1 a1 a2 a3; have hq1 : Kept wr q1 := Kept.grownS (by repeat (first | exact Kept.refl _ | assumption | refine Kept.drew ?_ | refine Kept.alloc ?_ _)) a2 (fun g hg => by simp [Value.ownBlock] at hg; omega))
                | (refine step_append_txts (by rfl) _ _ (by rfl) wr.heap.size _ _ _ [x] _ (by rfl) (by rfl) (own_keptS a1 (by repeat (first | exact Kept.refl _ | assumption | refine Kept.drew ?_ | refine Kept.alloc ?_ _))) (Txts.cell1 (by first | (simp [go_sem]; done) | (rw [World.grownBy.cell_far a2 _ (by first | (simp; done) | (simp; omega)) (by first | (simp [Value.ownBlock]; done) | (simp [Value.ownBlock]; omega))]; simp [go_sem]; done))) (by first | (simp; done) | (simp; omega)) (by have := hq1.size; first | omega | (simp; omega)) ?_; intro v2 q2 b1 b2 b3; have hq2 : Kept wr q2 := Kept.grownS (by repeat (first | exact Kept.refl _ | assumption | refine Kept.drew ?_ | refine Kept.alloc ?_ _)) b2 (own_geS a1)))
            all_goals
              have HB := Lib.hid (Txts.of_own b1)
              have hKK := hK.trans hq2
              clear a1 a2 a3 b1 b2 b3
              go_wp2
              go_roundw
              case rel =>
                refine ⟨k + 1, by go_num, by omega, ?_, ?_, ?_, hKK⟩
                · rw [HTS.out, List.length_append]; simp; omega
                · rw [HTS.out]
                  intro y hy
                  rcases List.mem_append.1 hy with hy | hy
                  · exact HA.out y hy
                  · rw [List.mem_singleton.1 hy]; exact HXN.out
                · rw [HTS.out]; exact HB.out
              case measure => simp [intOf]; omega
          · have t8 : decide ((8 : Int) ≤ ((ls ++ ns.take k).length : Int)) = true := by simp only [decide_eq_true_eq]; omega
            have hno : joinOf l ns = none := by
              rw [HP.out, if_neg]
              intro hx
              have h9 := (okNames_all hx).2.1
              rw [List.length_append] at h9
              rw [List.length_append, List.length_take] at hfull
              omega
            have HNO := Lib.hid hno
            clear hno
            generalize ls ++ ns.take k = ys at *
            generalize ns[k] = x at *
            go_wp2_with fail
            refine (HN.out _).mono ?_
            rintro e w4 ⟨rfl, rfl⟩
            go_wp2
            go_ret2
            exact ⟨by rw [HNO.out]; rfl, hK⟩
      · obtain rfl : k = ns.length := by omega
        rw [List.take_length] at h8 d3 HT HA
        rw [List.take_length]
        generalize ls ++ ns = zs at *
        have hfl := okNames_flat HA.out
        have hck := names_mk zs HA.out
        have HCK := Lib.hid hck
        clear hck
        go_wp2_with fail
        refine (make_any zs _ _ HT.out (by omega)).mono ?_
        rintro e w5 ⟨rfl, rfl⟩
        go_wp2_with fail
        refine (refParts_any (mk zs) _).mono ?_
        rintro e w6 ⟨v6, rfl, -, k6⟩
        have hK6 := hK.trans k6
        rw [HCK.out]
        cases hok : okNames zs with
        | true =>
          rw [if_pos rfl]
          have hp := HP.out
          rw [if_pos hok] at hp
          have HP2 := Lib.hid hp
          clear hp hok k6
          generalize mk zs = z at *
          go_wp2
          go_ret2
          exact ⟨by rw [HP2.out]; rfl, hK6⟩
        | false =>
          rw [if_neg (by simp)]
          have hp := HP.out
          rw [if_neg (by rw [hok]; simp)] at hp
          have HP2 := Lib.hid hp
          clear hp hok k6
          generalize mk zs = z at *
          go_wp2
          go_ret2
          exact ⟨by rw [HP2.out]; rfl, hK6⟩
end Go.Proofs.Ytoapfjcohnddaaa
