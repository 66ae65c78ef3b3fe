/- The walk of the statement WireLists. -/
import Derived.Test.YtlkcooedlkhacaaDoorAwake
import Derived.Test.YtlkcooedlkhacaaDoorRefNum4
import Derived.Test.YtlkcooedlkhacaaDoorWri2
import Derived.Test.YtlkcooedlkhacaaDoorRdr2
namespace Go.Proofs.YtlkcooedlkhacaaDoor
open Go.RowKit
theorem rn_put (n : Nat) (h : n ≤ 4611686018427387903) (s : List UInt8) : rn (put n ++ s) 0 = (n, (put n).length, 0) := by
  unfold rn; rw [if_pos rfl, numOf_put n h s]; rfl
theorem rd_put (x s : List UInt8) (h : x.length ≤ 4611686018427387903) : rd (put x.length ++ (x ++ s)) 0 = (x, s, 0) := by
  unfold rd
  rw [rn_put _ h]
  simp only
  rw [if_pos (by simp), List.drop_append_of_le_length (Nat.le_refl _), List.drop_length, List.nil_append, List.take_append_of_le_length (Nat.le_refl _), List.take_length, ← List.drop_drop, List.drop_append_of_le_length (Nat.le_refl _), List.drop_length, List.nil_append, List.drop_append_of_le_length (Nat.le_refl _), List.drop_length, List.nil_append]
theorem putAll_cons (n : Int) (ns : List Int) (h : okNum n = true) : putAll (n :: ns) = put n.toNat ++ putAll ns := by
  unfold putAll; rw [List.filter_cons_of_pos h, List.flatMap_cons]
theorem blobAll_cons (x : List UInt8) (ls : List (List UInt8)) : blobAll (x :: ls) = put x.length ++ (x ++ blobAll ls) := by
  unfold blobAll; simp [List.flatMap_cons]
theorem drop_cons {α : Type} (l : List α) (k : Nat) (h : k < l.length) : l.drop k = l[k] :: l.drop (k + 1) := List.drop_eq_getElem_cons h
theorem Ints.at {w : World} {A : Option Addr} {n c : Nat} {ns : List Int} (h : Ints w (.slice A n c) ns) {k : Nat} (hk : k < ns.length) : ∃ b o, A = some ⟨b, o, none⟩ ∧ w.cell? ⟨b, o + k, none⟩ = some (.int .i64 ns[k]) := by
  obtain ⟨A', c', hv, -, -, h3⟩ := h
  obtain ⟨b, o, rfl, hc⟩ := h3 (by omega)
  simp only [Value.slice.injEq] at hv
  obtain ⟨rfl, -, -⟩ := hv
  exact ⟨b, o, rfl, hc k _ (by simp [hk])⟩
theorem Strs.at {w : World} {A : Option Addr} {n c : Nat} {ls : List (List UInt8)} (h : Strs w (.slice A n c) ls) {k : Nat} (hk : k < ls.length) : ∃ b o, A = some ⟨b, o, none⟩ ∧ w.cell? ⟨b, o + k, none⟩ = some (.string ⟨ls[k].toArray⟩) := by
  obtain ⟨A', c', hv, -, -, h3⟩ := h
  obtain ⟨b, o, rfl, hc⟩ := h3 (by omega)
  simp only [Value.slice.injEq] at hv
  obtain ⟨rfl, -, -⟩ := hv
  exact ⟨b, o, rfl, hc k _ (by simp [hk])⟩
theorem PartsU.at {w : World} {A : Option Addr} {n c : Nat} {us : List Value} {ls : List (List UInt8)} (h : PartsU w (.slice A n c) us ls) {k : Nat} (hk : k < ls.length) : ∃ b o u, A = some ⟨b, o, none⟩ ∧ us[k]? = some u ∧ w.cell? ⟨b, o + k, none⟩ = some u ∧ Bts w u ls[k] := by
  obtain ⟨hu, A', c', hv, -, -, h3⟩ := h
  obtain ⟨b, o, rfl, hc⟩ := h3 (by omega)
  simp only [Value.slice.injEq] at hv
  obtain ⟨rfl, -, -⟩ := hv
  have hku : k < us.length := by omega
  exact ⟨b, o, us[k], rfl, by simp [hku], hc k _ _ (by simp [hku]) (by simp [hk])⟩
theorem blobAll_drop (ls : List (List UInt8)) (k : Nat) : (blobAll (ls.drop k)).length ≤ (blobAll ls).length := by
  have := congrArg List.length (blobAll_append (ls.take k) (ls.drop k))
  rw [List.take_append_drop, List.length_append] at this
  omega
/-- Bytes that lie elsewhere than the reader's block stay. -/
theorem Bts.framedR {w w' : World} {b : Nat} {s l : List UInt8} {er : Int} {v : Value} (h : Bts w v l) (hR : IsR w b s er) (hF : RFr b w w') : Bts w' v l := by
  obtain ⟨A, c, rfl, h1, h2, h3⟩ := h
  refine ⟨A, c, rfl, h1, h2, fun hl => ?_⟩
  obtain ⟨b', o, rfl, hc⟩ := h3 hl
  refine ⟨b', o, rfl, fun k y hy => ?_⟩
  have hcell := hc k y hy
  have hne : b' ≠ b := fun e => by subst e; exact hR.not8 _ _ hcell
  exact (World.cell?_of_block (hF.block b' (World.block_lt_of_cell? _ _ hcell) hne)).trans hcell
theorem badAll_at {ns : List Int} (h : badAll ns = false) {k : Nat} (hk : k < ns.length) : okNum ns[k] = true := by
  unfold badAll at h
  rw [List.any_eq_false] at h
  simpa using h _ (List.getElem_mem hk)

set_option maxRecDepth 100000 in
set_option maxHeartbeats 4000000 in
theorem wireLists_walk (ns : List Int) (bs ts : List (List UInt8)) (us : List Value) (vn vb vt : Value) (w : World) (hn : Ints w vn ns) (hb : PartsU w vb us bs) (ht : Strs w vt ts) (zn : ns.length ≤ 1048576) (zb : (blobAll bs).length ≤ 35184372088832) (zt : (blobAll ts).length ≤ 35184372088832) :
    Calls Tryd.prog 10 #[vn, vb, vt] w fun e w' => e = .returned (.bool true) ∧ Kept w w' := by
  obtain ⟨An, cn, rfl⟩ := hn.form
  obtain ⟨Ab, cb, rfl⟩ : ∃ A c, vb = .slice A bs.length c := by obtain ⟨-, A, c, rfl, -⟩ := hb; exact ⟨A, c, rfl⟩
  obtain ⟨At, ct, rfl⟩ : ∃ A c, vt = .slice A ts.length c := by obtain ⟨A, c, rfl, -⟩ := ht; exact ⟨A, c, rfl⟩
  have hbl : bs.length ≤ 9223372036854775807 := by obtain ⟨-, A, c, -, h1, h2, -⟩ := id hb; unfold maxLen at h2; omega
  have htl : ts.length ≤ 9223372036854775807 := by obtain ⟨A, c, -, h1, h2, -⟩ := id ht; unfold maxLen at h2; omega
  have HN := Lib.hid hn
  have HB := Lib.hid hb
  have HT := Lib.hid ht
  clear hn hb ht
  have hpl := putAll_len ns
  go_enter Tryd.func10, Tryd.ntmps10
  go_wp2_with fail
  refine (newWriter_any w).mono ?_
  rintro e w1 ⟨rfl, hI1, hK1, hr1, hs1⟩
  go_wp2_with fail
  refine (copyInts_new ns _ _ (HN.out.kept hK1) zn).mono ?_
  rintro e w2 ⟨rfl, hi2, hk2⟩
  have hK2 := hK1.trans hk2
  have hI2 := hI1.after hk2
  have hr2 : rowOf w2 w.heap.size = none := by rw [hI1.rowAfter hk2]; exact hr1
  clear hk2 hr1 hI1 hK1
  go_wp2_with fail
  refine (nums_framed w.heap.size false [] ns _ _ (hi2.framed fun bi o n c e => by cases e; exact ⟨by omega, by rw [hr2]; intro h; cases h⟩) hI2 (by simp; omega)).mono ?_
  rintro e w3 ⟨rfl, hI3, hF3⟩
  have hro : ∀ i, rowOf w2 w.heap.size = some i → w.heap.size ≤ i := fun i hi => by rw [hr2] at hi; cases hi
  have hK3 := hF3.kept hK2 (Nat.le_refl _) hro
  have hr3 := hF3.rowKept hK2.size hro
  clear hro hr2 hI2 hi2 hF3
  rw [Bool.false_or, List.nil_append] at hI3
  go_wp2_with fail
  refine (blobs_any w.heap.size _ _ bs us _ _ (fun W hF => HB.out.kept (hF.kept hK3 (Nat.le_refl _) hr3)) hI3 (by omega)).mono ?_
  rintro e w4 ⟨rfl, hI4, hF4⟩
  have hK4 := hF4.kept hK3 (Nat.le_refl _) hr3
  have hr4 := hF4.rowKept hK3.size hr3
  clear hK3 hr3 hF4 hI3
  go_wp2_with fail
  refine (texts_any w.heap.size _ _ ts _ _ (fun W hF => HT.out.kept (hF.kept hK4 (Nat.le_refl _) hr4)) hI4 (by simp; omega)).mono ?_
  rintro e w5 ⟨rfl, hI5, hF5⟩
  have hK5 := hF5.kept hK4 (Nat.le_refl _) hr4
  clear hK4 hr4 hF5 hI4
  by_cases hbad : badAll ns = true
  · rw [hbad] at hI5
    have HBAD := Lib.hid hbad
    clear hbad
    go_wp2_with fail
    refine (out_bad _ _ _ hI5).mono ?_
    rintro e w6 ⟨rfl, rfl⟩
    have HK := Lib.hid hK5
    clear hK5 hI5
    go_wp2_with fail
    go_loopw [39] (fun t W => ∃ k : Nat, t = .int .i64 (k : Int) ∧ k ≤ ns.length ∧ W = w5 ∧ badAll (ns.take k) = false) (fun t _ => ns.length - (intOf t).toNat)
    case atStart => exact ⟨0, rfl, Nat.zero_le _, rfl, rfl⟩
    case round =>
      obtain ⟨k, rfl, hk, rfl, hg⟩ := hrel
      by_cases hlt : k < ns.length
      · obtain ⟨bi, oi, rfl, hc0⟩ := (HN.out.kept HK.out).at hlt
        have e1 : badAll (ns.take (k + 1)) = (badAll (ns.take k) || !okNum ns[k]) := by rw [take_snoc _ _ hlt, badAll_snoc]
        rw [hg, Bool.false_or] at e1
        have E1 := Lib.hid e1
        clear e1 hg
        generalize ns[k] = n at *
        go_wp2_with fail
        refine (bad_any _ _).mono ?_
        rintro e wx ⟨rfl, rfl⟩
        by_cases hok : okNum n = true
        · rw [hok]
          have HG : badAll (ns.take (k + 1)) = false := by rw [E1.out, hok]; rfl
          have HGG := Lib.hid HG
          clear HG hok
          go_wp2
          go_roundw
          case rel => exact ⟨k + 1, by go_num, by omega, by first | rfl | trivial, HGG.out⟩
          case measure => simp [intOf]; omega
        · have hok' : okNum n = false := by simpa using hok
          rw [hok']
          clear hok hok'
          have u1 : ((10 : Int) != 0) = true := by decide
          have u2 : ((0 : Int) == 0) = true := by decide
          go_wp2_with fail
          refine (awake_any _).mono ?_
          rintro e wz ⟨rfl, hkz⟩
          have hKz := HK.out.trans hkz
          clear hkz
          go_wp2
          go_ret
          exact ⟨rfl, hKz⟩
      · obtain rfl : k = ns.length := by omega
        rw [List.take_length] at hg
        exact absurd (HBAD.out.symm.trans hg) (by decide)
  · have hbad' : badAll ns = false := by simpa using hbad
    rw [hbad'] at hI5
    have HBAD := Lib.hid hbad'
    clear hbad hbad'
    go_wp2_with fail
    refine (out_good _ _ _ hI5 (by simp; omega)).mono ?_
    rintro e w6 ⟨v6, rfl, ho6, hk6⟩
    have hb6 := Bts.of_own ho6
    have hLl : (putAll ns ++ blobAll bs ++ blobAll ts).length ≤ 140737488355328 := by simp; omega
    clear ho6
    generalize hL : putAll ns ++ blobAll bs ++ blobAll ts = L at *
    have HL := Lib.hid hL
    clear hL
    obtain ⟨A6, c6, rfl⟩ := hb6.form
    have HK := Lib.hid (hK5.trans hk6)
    have HB6 := Lib.hid hb6
    clear hK5 hI5 hk6 hb6
    go_wp2_with fail
    go_loopw [39] (fun t W => ∃ k : Nat, t = .int .i64 (k : Int) ∧ k ≤ ns.length ∧ W = w6) (fun t _ => ns.length - (intOf t).toNat)
    case atStart => exact ⟨0, rfl, Nat.zero_le _, rfl⟩
    case round =>
      obtain ⟨k, rfl, hk, rfl⟩ := hrel
      by_cases hlt : k < ns.length
      · obtain ⟨bi, oi, rfl, hc0⟩ := (HN.out.kept HK.out).at hlt
        have hok := badAll_at HBAD.out hlt
        generalize ns[k] = n at *
        go_wp2_with fail
        refine (bad_any _ _).mono ?_
        rintro e wx ⟨rfl, rfl⟩
        rw [hok]
        clear hok
        go_wp2
        go_roundw
        case rel => exact ⟨k + 1, by go_num, by omega, by first | rfl | trivial⟩
        case measure => simp [intOf]; omega
      · obtain rfl : k = ns.length := by omega
        go_wp2_with fail
        refine (newReader_any _ _ _ HB6.out hLl).mono ?_
        rintro e w7 ⟨rb, rfl, hrb, hI7, hk7⟩
        have hK7 := HK.out.trans hk7
        have hrb2 := Nat.le_trans HK.out.size hrb
        clear hk7 HB6 HK hrb
        rw [← HL.out, List.append_assoc] at hI7
        clear HL hLl
        have hK7' := hK7
        go_wp2_with fail
        go_loopw [66] (fun t W => ∃ k : Nat, t = .int .i64 (k : Int) ∧ k ≤ ns.length ∧ IsR W rb (putAll (ns.drop k) ++ (blobAll bs ++ blobAll ts)) 0 ∧ Kept w W) (fun t _ => ns.length - (intOf t).toNat)
        case atStart => exact ⟨0, rfl, Nat.zero_le _, hI7, hK7⟩
        case round =>
          clear hI7 hK7 hK7'
          obtain ⟨k, rfl, hk, hI, hK⟩ := hrel
          by_cases hlt : k < ns.length
          · obtain ⟨bi, oi, rfl, hc0⟩ := (HN.out.kept hK).at hlt
            have hok := badAll_at HBAD.out hlt
            have hdl := putAll_len (ns.drop k)
            rw [List.length_drop] at hdl
            have hlim : (putAll (ns.drop k) ++ (blobAll bs ++ blobAll ts)).length ≤ 140737488355328 := by simp; omega
            rw [drop_cons ns k hlt, putAll_cons _ _ hok, List.append_assoc] at hI hlim
            clear hdl
            generalize ns[k] = n at *
            obtain ⟨m, rfl, hm⟩ : ∃ m : Nat, n = m ∧ m ≤ 4611686018427387903 := by
              unfold okNum at hok
              simp only [Bool.and_eq_true, decide_eq_true_eq] at hok
              exact ⟨n.toNat, by omega, by omega⟩
            clear hok
            rw [Int.toNat_natCast] at hI hlim
            go_wp2_with fail
            refine (rNum rb _ 0 _ hI hlim).mono ?_
            rintro e wx ⟨rfl, hI2, hF2⟩
            rw [rn_put m hm] at hI2 ⊢
            simp only [List.drop_append_of_le_length (Nat.le_refl _), List.drop_length, List.nil_append] at hI2
            have hKx := hF2.kept hK hrb2
            clear hF2 hK hI hlim
            have u1 : ((m : Int) != (m : Int)) = false := by simp
            go_wp2
            go_roundw
            case rel => exact ⟨k + 1, by go_num, by omega, hI2, hKx⟩
            case measure => simp [intOf]; omega
          · obtain rfl : k = ns.length := by omega
            rw [List.drop_length, show putAll [] = [] from rfl, List.nil_append] at hI
            have hI7 := hI
            have hK7 := hK
            clear hI hK
            go_wp2_with fail
            go_loopw [77] (fun t W => ∃ k : Nat, t = .int .i64 (k : Int) ∧ k ≤ bs.length ∧ IsR W rb (blobAll (bs.drop k) ++ blobAll ts) 0 ∧ Kept w W) (fun t _ => bs.length - (intOf t).toNat)
            case atStart => exact ⟨0, rfl, Nat.zero_le _, hI7, hK7⟩
            case round =>
              clear hI7 hK7
              obtain ⟨k, rfl, hk, hI, hK⟩ := hrel
              by_cases hlt : k < bs.length
              · obtain ⟨bi, oi, u, rfl, -, hc0, hu⟩ := (HB.out.kept hK).at hlt
                have hdl := blobAll_drop bs k
                have hlim : (blobAll (bs.drop k) ++ blobAll ts).length ≤ 140737488355328 := by simp; omega
                rw [drop_cons bs k hlt, blobAll_cons, List.append_assoc, List.append_assoc] at hI hlim
                clear hdl
                generalize bs[k] = x at *
                have hx : x.length ≤ 4611686018427387903 := by simp at hlim; omega
                obtain ⟨Au, cu, rfl⟩ := hu.form
                have HU := Lib.hid hu
                clear hu
                go_wp2_with fail
                refine (rBlob rb _ 0 _ hI hlim).mono ?_
                rintro e wx ⟨u2, rfl, hu2, hI2, hF2⟩
                rw [rd_put x _ hx] at hI2 hu2
                have hKx := hF2.kept hK hrb2
                have hux : Bts wx (.slice Au x.length cu) x := HU.out.framedR hI hF2
                clear hF2 hK hI hlim
                simp only at hI2 hu2
                go_wp2_with fail
                refine (same_any x x _ _ _ hu2 hux).mono ?_
                rintro e wy ⟨rfl, rfl⟩
                rw [beq_self_eq_true]
                clear hu2 hux
                go_wp2
                go_roundw
                case rel => exact ⟨k + 1, by go_num, by omega, hI2, hKx⟩
                case measure => simp [intOf]; omega
              · obtain rfl : k = bs.length := by omega
                rw [List.drop_length, show blobAll [] = [] from rfl, List.nil_append] at hI
                have hI7 := hI
                have hK7 := hK
                clear hI hK
                go_wp2_with fail
                go_loopw [89] (fun t W => ∃ k : Nat, t = .int .i64 (k : Int) ∧ k ≤ ts.length ∧ IsR W rb (blobAll (ts.drop k)) 0 ∧ Kept w W) (fun t _ => ts.length - (intOf t).toNat)
                case atStart => exact ⟨0, rfl, Nat.zero_le _, hI7, hK7⟩
                case round =>
                  clear hI7 hK7
                  obtain ⟨k, rfl, hk, hI, hK⟩ := hrel
                  by_cases hlt : k < ts.length
                  · obtain ⟨bi, oi, rfl, hc0⟩ := (HT.out.kept hK).at hlt
                    have hdl := blobAll_drop ts k
                    have hlim : (blobAll (ts.drop k)).length ≤ 140737488355328 := by omega
                    rw [drop_cons ts k hlt, blobAll_cons] at hI hlim
                    clear hdl
                    generalize ts[k] = x at *
                    have hx : x.length ≤ 4611686018427387903 := by simp at hlim; omega
                    go_wp2_with fail
                    refine (rText rb _ 0 _ hI hlim).mono ?_
                    rintro e wx ⟨rfl, hI2, hF2⟩
                    rw [rd_put x _ hx] at hI2 ⊢
                    have hKx := hF2.kept hK hrb2
                    clear hF2 hK hI hlim
                    simp only at hI2 ⊢
                    go_wp2
                    go_roundw
                    case rel => exact ⟨k + 1, by go_num, by omega, hI2, hKx⟩
                    case measure => simp [intOf]; omega
                  · obtain rfl : k = ts.length := by omega
                    rw [List.drop_length, show blobAll [] = [] from rfl] at hI
                    go_wp2_with fail
                    refine (rLeft rb _ 0 _ hI).mono ?_
                    rintro e wx ⟨rfl, rfl⟩
                    rw [List.length_nil]
                    have u2 : ((0 : Int) == 0) = true := by decide
                    go_wp2_with fail
                    refine (rErr rb _ 0 _ hI).mono ?_
                    rintro e wx ⟨rfl, rfl⟩
                    go_wp2_with fail
                    refine (awake_any _).mono ?_
                    rintro e wz ⟨rfl, hkz⟩
                    have hKz := hK.trans hkz
                    clear hkz hK hI
                    go_wp2
                    go_ret
                    exact ⟨rfl, hKz⟩
end Go.Proofs.YtlkcooedlkhacaaDoor
