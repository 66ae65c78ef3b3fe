/- The walks of the document's Bad, Put, Numbers, CopyInts. -/
import Derived.Test.YtlkcooedlkhacaaDoorNum
import Derived.Test.YtlkcooedlkhacaaDoorApp
import Derived.Test.YtlkcooedlkhacaaDoorMem2
namespace Go.Proofs.YtlkcooedlkhacaaDoor
open Go.RowKit

/-- A row of the call's own stays as it is where all that was there is kept. -/
theorem own_kept {w w' : World} {b : Nat} {e : TypeId} {s n : Nat} {v : Value} {xs : List Value} (h : w.ownsRow b e s v n xs) (k : Kept w w') : w'.ownsRow b e s v n xs := by
  obtain ⟨h1, h2⟩ := h
  refine ⟨h1, ?_⟩
  rcases h2 with h2 | ⟨g, cap, cur, a1, a2, a3, a4⟩
  · exact .inl h2
  · have hg : g < w.heap.size := (Array.getElem?_eq_some_iff.1 a3).1
    exact .inr ⟨g, cap, cur, a1, a2, (k.block g hg).trans a3, a4⟩

set_option maxRecDepth 100000 in
set_option maxHeartbeats 400000 in
theorem bad_any (n : Int) (w : World) : Calls Tryd.prog 26 #[.int .i64 n] w fun e w' => e = .returned (.bool (!okNum n)) ∧ w = w' := by
  by_cases h0 : n < 0
  · have hk : okNum n = false := by unfold okNum; simp; omega
    have HK := Lib.hid hk
    clear hk
    go_enter Tryd.func26, Tryd.ntmps26
    go_wp2
    go_ret
    exact ⟨by rw [HK.out]; rfl, rfl⟩
  · by_cases h1 : 4611686018427387903 < n
    · have hk : okNum n = false := by unfold okNum; simp; omega
      have HK := Lib.hid hk
      clear hk
      go_enter Tryd.func26, Tryd.ntmps26
      go_wp2
      go_ret
      exact ⟨by rw [HK.out]; rfl, rfl⟩
    · have hk : okNum n = true := by unfold okNum; simp; omega
      have HK := Lib.hid hk
      clear hk
      have t0 : decide (n < 0) = false := by simp; omega
      have t1 : decide ((4611686018427387903 : Int) < n) = false := by simp; omega
      go_enter Tryd.func26, Tryd.ntmps26
      go_wp2
      go_ret
      exact ⟨by rw [HK.out]; rfl, rfl⟩

theorem Bts.one (w : World) (x : Int) (h0 : 0 ≤ x) (h1 : x < 256) (t : TypeId) : Bts (w.alloc (.cells #[.int .u8 x] t)) (.slice (some ⟨w.heap.size, 0, none⟩) 1 1) [UInt8.ofNat x.toNat] := by
  refine ⟨_, 1, rfl, Nat.le_refl _, by decide, fun _ => ⟨_, 0, rfl, fun k y hy => ?_⟩⟩
  match k, hy with
  | 0, hy =>
    obtain rfl : UInt8.ofNat x.toNat = y := by simpa using hy
    have e : ((UInt8.ofNat x.toNat).toNat : Int) = x := by rw [UInt8.toNat_ofNat']; omega
    rw [e]
    simp [go_sem]

set_option maxRecDepth 100000 in
set_option maxHeartbeats 1000000 in
theorem refPut_any (n : Nat) (w : World) (hn : n < 9223372036854775808) :
    Calls Tryd.prog 29 #[.int .i64 (n : Int)] w fun e w' => ∃ v', e = .returned v' ∧ w'.ownsRow w.heap.size 5 1 v' (put n).length (Lib.byteCells (put n)) ∧ Kept w w' := by
  go_enter Tryd.func29, Tryd.ntmps29
  go_wp2
  go_loopw [0, 3] (fun t u W => ∃ k m : Nat, ∃ done : List UInt8, t = .int .i64 (m : Int) ∧ m < 128 ^ (k + 1) ∧ m ≤ n ∧ done.length + (k + 1) = 9 ∧ put n = done ++ putF (k + 1) m ∧ W.ownsRow w.heap.size 5 1 u done.length (Lib.byteCells done) ∧ Kept w W) (fun t _ _ => (intOf t).toNat)
  case atStart => exact ⟨8, n, [], rfl, by have : (128 : Nat) ^ (8 + 1) = 9223372036854775808 := by decide
                                           omega, Nat.le_refl _, rfl, rfl, World.ownsRow_lit w #[] 0 (Nat.le_refl _) (by decide) rfl, (Kept.refl w).alloc _⟩
  case round =>
    obtain ⟨k, m, done, rfl, hm, hmn, hd, hp, hO, hK⟩ := hrel
    have HP := Lib.hid hp
    have HM := Lib.hid hm
    have HD := Lib.hid hd
    have hd9 : done.length ≤ 8 := by omega
    have hsz := hK.size
    obtain ⟨A3, c3, hv3⟩ : ∃ A3 c3, u3 = .slice A3 done.length c3 := by
      rcases hO.2 with ⟨rfl, h0⟩ | ⟨g, cap, cur, rfl, -⟩
      · exact ⟨none, 0, by rw [h0]⟩
      · exact ⟨_, _, rfl⟩
    subst hv3
    have HO := Lib.hid hO
    have HK := Lib.hid hK
    clear hp hm hd hO hK
    by_cases hlt : m < 128
    · have hfin : done ++ [UInt8.ofNat m] = put n := by rw [HP.out, putF_short hlt]
      have HFIN := Lib.hid hfin
      clear hfin
      have hB := fun t => Bts.one wr (m : Int) (by omega) (by omega) t
      rw [Int.toNat_natCast] at hB
      have HB := Lib.hid hB
      clear hB
      go_wp2_with (at_builtin; refine wpList_append_bts rfl _ _ rfl w.heap.size _ _ done [UInt8.ofNat m] _ rfl rfl (HO.out.alloc _) (HB.out _) (by simp; omega) (by simp; omega) ?_; intro v' w' h1 h2 h3)
      go_ret
      rw [HFIN.out] at h1
      have hl : done.length + [UInt8.ofNat m].length = (put n).length := by rw [← HFIN.out, List.length_append]
      rw [hl] at h1
      exact ⟨v', rfl, h1, (HK.out.alloc _).grown h2 (own_ge HO.out)⟩
    · have hB := fun t => Bts.one wr (128 + (m : Int) % 128) (by omega) (by omega) t
      rw [show (128 + (m : Int) % 128).toNat = 128 + m % 128 by omega] at hB
      have HB := Lib.hid hB
      clear hB
      go_wp2_with (at_builtin; refine wpList_append_bts rfl _ _ rfl w.heap.size _ _ done [UInt8.ofNat (128 + m % 128)] _ rfl rfl (HO.out.alloc _) (HB.out _) (by simp; omega) (by simp; omega) ?_; intro v' w' h1 h2 h3)
      go_roundw
      case rel =>
        have hm := HM.out
        have hd := HD.out
        have hp := HP.out
        rw [putF_long hlt] at hp
        match k, hm, hd, hp with
        | 0, hm, _, _ => exact absurd hm (by simpa using hlt)
        | k + 1, hm, hd, hp => exact ⟨k, m / 128, done ++ [UInt8.ofNat (128 + m % 128)], by go_num, pow_step hm, by omega, by simp; omega, by rw [hp, List.append_assoc]; rfl, by rw [List.length_append]; exact h1, (HK.out.alloc _).grown h2 (own_ge HO.out)⟩
      case measure => simp [intOf]; omega

set_option maxRecDepth 100000 in
set_option maxHeartbeats 1000000 in
theorem refNumbers_any (ns : List Int) (v : Value) (w : World) (hv : Ints w v ns) (hlim : 9 * ns.length ≤ 140737488355328) :
    Calls Tryd.prog 13 #[v] w fun e w' => ∃ v', e = .returned (.tuple #[v', .int .i64 (numsErr ns)]) ∧ w'.ownsRow w.heap.size 5 1 v' (numsRes ns).length (Lib.byteCells (numsRes ns)) ∧ Kept w w' := by
  obtain ⟨A, c, rfl, hc1, hc2, hcs⟩ := hv
  unfold maxLen at hc2
  have HCS := Lib.hid hcs
  clear hcs
  go_enter Tryd.func13, Tryd.ntmps13
  go_wp2
  go_loopw [4, 5] (fun u i W => ∃ k : Nat, i = .int .i64 (k : Int) ∧ k ≤ ns.length ∧ badAll (ns.take k) = false ∧ W.ownsRow w.heap.size 5 1 u (putAll (ns.take k)).length (Lib.byteCells (putAll (ns.take k))) ∧ Kept w W) (fun _ i _ => ns.length - (intOf i).toNat)
  case atStart => exact ⟨0, rfl, Nat.zero_le _, rfl, World.ownsRow_lit w #[] 0 (Nat.le_refl _) (by decide) rfl, (Kept.refl w).alloc _⟩
  case round =>
    obtain ⟨k, rfl, hk, hbad, hO, hK⟩ := hrel
    have HBAD := Lib.hid hbad
    have hsz := hK.size
    have hlen := putAll_len (ns.take k)
    rw [List.length_take] at hlen
    obtain ⟨A4, c4, hv4⟩ : ∃ A4 c4, u4 = .slice A4 (putAll (ns.take k)).length c4 := by
      rcases hO.2 with ⟨rfl, h0⟩ | ⟨g, cap, cur, rfl, -⟩
      · exact ⟨none, 0, by rw [h0]⟩
      · exact ⟨_, _, rfl⟩
    subst hv4
    have HO := Lib.hid hO
    clear hbad hO
    by_cases hlt : k < ns.length
    · obtain ⟨bi, oi, rfl, hcell⟩ := HCS.out (by omega)
      have hc0 := hK.cell (hcell k ns[k] (by simp [hlt]))
      have e1 : badAll (ns.take (k + 1)) = (badAll (ns.take k) || !okNum ns[k]) := by rw [take_snoc _ _ hlt, badAll_snoc]
      have e2 : putAll (ns.take (k + 1)) = putAll (ns.take k) ++ if okNum ns[k] then put ns[k].toNat else [] := by rw [take_snoc _ _ hlt, putAll_snoc]
      have e3 : okNum ns[k] = false → badAll ns = true := fun h => by
        unfold badAll; rw [List.any_eq_true]; exact ⟨ns[k], List.getElem_mem hlt, by rw [h]; rfl⟩
      have E1 := Lib.hid e1
      have E2 := Lib.hid e2
      have E3 := Lib.hid e3
      have HCELL := Lib.hid hcell
      clear e1 e2 e3 hcell
      by_cases hok : okNum ns[k] = true
      · obtain ⟨n, hn⟩ : ∃ n : Nat, ns[k] = n ∧ n ≤ 4611686018427387903 := by
          unfold okNum at hok
          simp only [Bool.and_eq_true, decide_eq_true_eq] at hok
          exact ⟨ns[k].toNat, by omega, by omega⟩
        obtain ⟨hn1, hn2⟩ := hn
        have hc1' := HCELL.out k ns[k] (by simp [hlt])
        rw [hok] at E1 E2
        rw [hn1] at hc0 E2 hc1'
        simp only [Bool.not_true, Bool.or_false, if_true, Int.toNat_natCast] at E1 E2
        have HOK : Hid (okNum (n : Int) = true) := by rw [hn1] at hok; exact Lib.hid hok
        have HC1 := Lib.hid hc1'
        clear hok hn1 E3 HCELL hc1'
        go_wp2_with fail
        refine (bad_any (n : Int) _).mono ?_
        rintro e w1 ⟨rfl, rfl⟩
        rw [HOK.out, Bool.not_true]
        go_wp2_with fail
        refine (refPut_any n _ (by omega)).mono ?_
        rintro e w2 ⟨v2, rfl, ho2, hk2⟩
        have hb2 := Bts.of_own ho2
        obtain ⟨A2, c2, rfl, -, -, -⟩ := id hb2
        have hpl := putF_len 9 n
        have hO2 := own_kept HO.out hk2
        have HO2 := Lib.hid hO2
        have HB2 := Lib.hid hb2
        have hK2 := hK.trans hk2
        have hsz2 := hK2.size
        have hpl' : (put n).length ≤ 9 := hpl
        clear ho2 hb2 hO2 hpl
        go_wp2_with (at_builtin; refine wpList_append_bts rfl _ _ rfl w.heap.size _ _ (putAll (ns.take k)) (put n) _ rfl rfl HO2.out HB2.out (by omega) (by omega) ?_; intro v' w' h1 h2 h3)
        go_roundw
        case rel => exact ⟨k + 1, by go_num, by omega, by rw [E1.out, HBAD.out], by rw [E2.out, List.length_append]; exact h1, hK2.grown h2 (own_ge HO2.out)⟩
        case measure => simp [intOf]; omega
      · have hok' : okNum ns[k] = false := by simpa using hok
        have hfin := E3.out hok'
        have f1 : numsErr ns = 10 := by simp [numsErr, hfin]
        have f2 : numsRes ns = [] := by simp [numsRes, hfin]
        have F1 := Lib.hid f1
        have F2 := Lib.hid f2
        have HOK := Lib.hid hok'
        clear f1 f2 hfin hok hok' E1 E2 E3
        generalize ns[k] = n at *
        go_wp2_with fail
        refine (bad_any n _).mono ?_
        rintro e w1 ⟨rfl, rfl⟩
        rw [HOK.out, Bool.not_false]
        go_wp2
        go_ret2
        exact ⟨_, by rw [F1.out]; rfl, by rw [F2.out]; exact World.ownsRow_nil _ _ _ _, hK⟩
    · obtain rfl : k = ns.length := by omega
      have hb := HBAD.out
      have ho := HO.out
      rw [List.take_length] at hb ho
      have f1 : numsErr ns = 0 := by simp [numsErr, hb]
      have f2 : numsRes ns = putAll ns := by simp [numsRes, hb]
      have F1 := Lib.hid f1
      have F2 := Lib.hid f2
      have HO' := Lib.hid ho
      clear f1 f2 hb ho
      rw [List.take_length] at *
      go_wp2
      go_ret2
      exact ⟨_, by rw [F1.out]; rfl, by rw [F2.out]; exact HO'.out, hK⟩
end Go.Proofs.YtlkcooedlkhacaaDoor
