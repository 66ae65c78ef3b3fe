/- The walk of the document's Name. The walk of the document's Parts. -/
import Derived.Test.YtkgcllkocoojdaaGreatDoorGPMath2
import Derived.Test.YtkgcllkocoojdaaGreatDoorGPCheck2
import Derived.Test.YtkgcllkocoojdaaGreatDoorGPStrs2
namespace Go.Proofs.YtkgcllkocoojdaaGreatDoor
open Go.RowKit
set_option maxRecDepth 100000 in
set_option maxHeartbeats 1000000 in
theorem refName_long (l : List UInt8) (w : World) (h0 : l ≠ []) (h1 : l ≠ [46]) (h2 : l ≠ [46, 46]) (h3 : l.length ≤ 32) :
    Calls Tryz.prog 197 #[.string ⟨l.toArray⟩] w fun e w' => e = .returned (.bool (isName l)) ∧ w = w' := by
  have HN := Lib.hid (isName_iff l h0 h1 h2 h3)
  have hpos : 1 ≤ l.length := by
    cases l with
    | nil => exact absurd rfl h0
    | cons c r => simp
  have t1 : (l == [46]) = false := by simpa using h1
  have t2 : (l == [46, 46]) = false := by simpa using h2
  have t3 : decide ((32 : Int) < (l.length : Int)) = false := by simp; omega
  have t4 : decide ((l.length : Int) < 1) = false := by simp; omega
  clear h0 h1 h2
  go_enter Tryz.func197, Tryz.ntmps197
  go_wp2
  go_loop [3, 4] (fun i _ => ∃ k : Nat, k ≤ l.length ∧ i = .int .i64 (k : Int) ∧ (l.take k).all okB = true) (fun i _ => l.length - (intOf i).toNat)
  case atStart => exact ⟨0, Nat.zero_le _, rfl, rfl⟩
  case round =>
    obtain ⟨k, hk, rfl, hall⟩ := hrel
    have HA := Lib.hid hall
    clear hall
    by_cases hlt : k < l.length
    · have hp : k < (⟨l.toArray⟩ : ByteArray).size := by rw [str_size]; exact hlt
      have hbx : okR (((⟨l.toArray⟩ : ByteArray)[k]'hp).toNat : Int) = okB l[k] := by rw [okR_byte, str_get]
      have hcase : ((97 ≤ (((⟨l.toArray⟩ : ByteArray)[k]'hp).toNat : Int) ∧ (((⟨l.toArray⟩ : ByteArray)[k]'hp).toNat : Int) ≤ 122) ∧ okB l[k] = true)
          ∨ ((48 ≤ (((⟨l.toArray⟩ : ByteArray)[k]'hp).toNat : Int) ∧ (((⟨l.toArray⟩ : ByteArray)[k]'hp).toNat : Int) ≤ 57) ∧ okB l[k] = true)
          ∨ ((((⟨l.toArray⟩ : ByteArray)[k]'hp).toNat : Int) = 46 ∧ okB l[k] = true)
          ∨ ((((⟨l.toArray⟩ : ByteArray)[k]'hp).toNat : Int) = 95 ∧ okB l[k] = true)
          ∨ ((((⟨l.toArray⟩ : ByteArray)[k]'hp).toNat : Int) = 45 ∧ okB l[k] = true)
          ∨ (122 < (((⟨l.toArray⟩ : ByteArray)[k]'hp).toNat : Int) ∧ okB l[k] = false)
          ∨ ((57 < (((⟨l.toArray⟩ : ByteArray)[k]'hp).toNat : Int) ∧ (((⟨l.toArray⟩ : ByteArray)[k]'hp).toNat : Int) < 97 ∧ (((⟨l.toArray⟩ : ByteArray)[k]'hp).toNat : Int) ≠ 95) ∧ okB l[k] = false)
          ∨ (((((⟨l.toArray⟩ : ByteArray)[k]'hp).toNat : Int) < 48 ∧ (((⟨l.toArray⟩ : ByteArray)[k]'hp).toNat : Int) ≠ 46 ∧ (((⟨l.toArray⟩ : ByteArray)[k]'hp).toNat : Int) ≠ 45) ∧ okB l[k] = false) := by
        rw [← hbx]
        generalize (((⟨l.toArray⟩ : ByteArray)[k]'hp).toNat : Int) = x
        cases ho : okR x <;> simp [okR] at ho <;> simp <;> omega
      clear hbx
      rcases hcase with ⟨⟨c1, c2⟩, hb⟩ | ⟨⟨c1, c2⟩, hb⟩ | ⟨c1, hb⟩ | ⟨c1, hb⟩ | ⟨c1, hb⟩ | ⟨c1, hb⟩ | ⟨⟨c1, c2, c3⟩, hb⟩ | ⟨⟨c1, c2, c3⟩, hb⟩
      · have HB := Lib.hid hb
        clear hb
        go_wp2
        go_round
        case rel => exact ⟨k + 1, by omega, by go_num, all_take hlt HA.out HB.out⟩
        case measure => simp [intOf]; omega
      · have HB := Lib.hid hb
        clear hb
        go_wp2
        go_round
        case rel => exact ⟨k + 1, by omega, by go_num, all_take hlt HA.out HB.out⟩
        case measure => simp [intOf]; omega
      · have HB := Lib.hid hb
        clear hb
        go_wp2
        go_round
        case rel => exact ⟨k + 1, by omega, by go_num, all_take hlt HA.out HB.out⟩
        case measure => simp [intOf]; omega
      · have HB := Lib.hid hb
        clear hb
        go_wp2
        go_round
        case rel => exact ⟨k + 1, by omega, by go_num, all_take hlt HA.out HB.out⟩
        case measure => simp [intOf]; omega
      · have HB := Lib.hid hb
        clear hb
        go_wp2
        go_round
        case rel => exact ⟨k + 1, by omega, by go_num, all_take hlt HA.out HB.out⟩
        case measure => simp [intOf]; omega
      · have HB := Lib.hid (all_bad hlt hb)
        clear hb
        have e46 : ((((⟨l.toArray⟩ : ByteArray)[k]'hp).toNat : Int) == 46) = false := by rw [beq_eq_false_iff_ne]; omega
        have e95 : ((((⟨l.toArray⟩ : ByteArray)[k]'hp).toNat : Int) == 95) = false := by rw [beq_eq_false_iff_ne]; omega
        have e45 : ((((⟨l.toArray⟩ : ByteArray)[k]'hp).toNat : Int) == 45) = false := by rw [beq_eq_false_iff_ne]; omega
        have d1 : decide ((((⟨l.toArray⟩ : ByteArray)[k]'hp).toNat : Int) ≤ 122) = false := by simp only [decide_eq_false_iff_not]; omega
        have d2 : decide ((((⟨l.toArray⟩ : ByteArray)[k]'hp).toNat : Int) ≤ 57) = false := by simp only [decide_eq_false_iff_not]; omega
        go_wp2
        go_ret
        exact ⟨ret_bool (by rw [HN.out, HB.out]), rfl⟩
      · have HB := Lib.hid (all_bad hlt hb)
        clear hb
        have e46 : ((((⟨l.toArray⟩ : ByteArray)[k]'hp).toNat : Int) == 46) = false := by rw [beq_eq_false_iff_ne]; omega
        have e95 : ((((⟨l.toArray⟩ : ByteArray)[k]'hp).toNat : Int) == 95) = false := by rw [beq_eq_false_iff_ne]; omega
        have e45 : ((((⟨l.toArray⟩ : ByteArray)[k]'hp).toNat : Int) == 45) = false := by rw [beq_eq_false_iff_ne]; omega
        have d2 : decide ((((⟨l.toArray⟩ : ByteArray)[k]'hp).toNat : Int) ≤ 57) = false := by simp only [decide_eq_false_iff_not]; omega
        go_wp2
        go_ret
        exact ⟨ret_bool (by rw [HN.out, HB.out]), rfl⟩
      · have HB := Lib.hid (all_bad hlt hb)
        clear hb
        have e46 : ((((⟨l.toArray⟩ : ByteArray)[k]'hp).toNat : Int) == 46) = false := by rw [beq_eq_false_iff_ne]; omega
        have e95 : ((((⟨l.toArray⟩ : ByteArray)[k]'hp).toNat : Int) == 95) = false := by rw [beq_eq_false_iff_ne]; omega
        have e45 : ((((⟨l.toArray⟩ : ByteArray)[k]'hp).toNat : Int) == 45) = false := by rw [beq_eq_false_iff_ne]; omega
        go_wp2
        go_ret
        exact ⟨ret_bool (by rw [HN.out, HB.out]), rfl⟩
    · obtain rfl : k = l.length := by omega
      have HA' := HA.out
      rw [List.take_length] at HA'
      have HB := Lib.hid HA'
      clear HA HA'
      go_wp2
      go_ret
      exact ⟨ret_bool (by rw [HN.out, HB.out]), rfl⟩

set_option maxHeartbeats 400000 in
theorem refName_any (l : List UInt8) (w : World) :
    Calls Tryz.prog 197 #[.string ⟨l.toArray⟩] w fun e w' => e = .returned (.bool (isName l)) ∧ w = w' := by
  by_cases h0 : l = []
  · subst h0
    go_enter Tryz.func197, Tryz.ntmps197
    go_wp2
    go_ret
    exact ⟨rfl, rfl⟩
  by_cases h1 : l = [46]
  · subst h1
    go_enter Tryz.func197, Tryz.ntmps197
    go_wp2
    go_ret
    exact ⟨rfl, rfl⟩
  by_cases h2 : l = [46, 46]
  · subst h2
    go_enter Tryz.func197, Tryz.ntmps197
    go_wp2
    go_ret
    exact ⟨rfl, rfl⟩
  by_cases h3 : l.length ≤ 32
  · exact refName_long l w h0 h1 h2 h3
  · have HN := Lib.hid (isName_short l (.inr (.inr (.inr (by omega)))))
    have t1 : (l == [46]) = false := by simpa using h1
    have t2 : (l == [46, 46]) = false := by simpa using h2
    have t3 : decide ((32 : Int) < (l.length : Int)) = true := by simp; omega
    have t4 : decide ((l.length : Int) < 1) = false := by simp; omega
    clear h0 h1 h2
    go_enter Tryz.func197, Tryz.ntmps197
    go_wp2
    go_ret
    exact ⟨ret_bool HN.out.symm, rfl⟩
end Go.Proofs.YtkgcllkocoojdaaGreatDoor
namespace Go.Proofs.YtkgcllkocoojdaaGreatDoor
open Go.RowKit
theorem drop_slash {l : List UInt8} {f k : Nat} (hf : f ≤ k) (hk : k < l.length) (h : l[k] = 47) : l.drop f = (l.drop f).take (k - f) ++ 47 :: l.drop (k + 1) := by
  have h1 : l.drop f = (l.drop f).take (k - f) ++ (l.drop f).drop (k - f) := (List.take_append_drop _ _).symm
  rw [List.drop_drop, show f + (k - f) = k by omega, List.drop_eq_getElem_cons hk, h] at h1
  exact h1
theorem piece_snoc {l : List UInt8} {f k : Nat} (hf : f ≤ k) (hk : k < l.length) : (l.drop f).take (k + 1 - f) = (l.drop f).take (k - f) ++ [l[k]] := by
  rw [show k + 1 - f = (k - f) + 1 by omega, List.take_succ_eq_append_getElem (by rw [List.length_drop]; omega), List.getElem_drop]
  congr 2
  congr 1
  omega
/-- What is known as the loop goes on. -/
def PInv (l : List UInt8) (f k : Nat) (ds : List (List UInt8)) : Prop :=
  ds.all isName = true ∧ ((1 ≤ f ∧ f ≤ k ∧ k ≤ l.length ∧ sp (l.drop 1) = ds ++ sp (l.drop f) ∧ (47 : UInt8) ∉ (l.drop f).take (k - f)) ∨ (k = l.length + 1 ∧ sp (l.drop 1) = ds))
theorem PInv.len {l : List UInt8} {f k : Nat} {ds : List (List UInt8)} (h : PInv l f k ds) : ds.length ≤ l.length + 1 := by
  have hs : ∀ r : List UInt8, (sp r).length ≤ r.length + 1 := by
    intro r
    have := congrArg List.length (flat_sp r)
    have h2 : ∀ ls : List (List UInt8), ls.length ≤ (flat ls).length := by
      intro ls
      induction ls with
      | nil => simp
      | cons x t ih => rw [flat_cons]; simp; omega
    have := h2 (sp r)
    simp at *
    omega
  have h1 := hs (l.drop 1)
  rw [List.length_drop] at h1
  rcases h.2 with ⟨-, -, -, e, -⟩ | ⟨-, e⟩
  · rw [e, List.length_append] at h1; omega
  · rw [e] at h1; omega

theorem PInv.step {l : List UInt8} {f k : Nat} {ds : List (List UInt8)} (h : PInv l f k ds) (hk : k ≤ l.length) (hc : ∀ hlt : k < l.length, l[k] = 47) :
    f ≤ k ∧ (isName ((l.drop f).take (k - f)) = true → PInv l (k + 1) (k + 1) (ds ++ [(l.drop f).take (k - f)])) ∧ (l.drop f).take (k - f) ∈ sp (l.drop 1) := by
  obtain ⟨hall, ⟨h1, h2, h3, h4, h5⟩ | ⟨h1, -⟩⟩ := h
  · by_cases hlt : k < l.length
    · have e := drop_slash h2 hlt (hc hlt)
      have hs := sp_cut _ (l.drop (k + 1)) h5
      rw [← e] at hs
      rw [hs] at h4
      refine ⟨h2, fun hn => ⟨by simp [hall, hn], .inl ⟨by omega, by omega, by omega, by rw [h4]; simp, by simp⟩⟩, by rw [h4]; simp⟩
    · obtain rfl : k = l.length := by omega
      have e : (l.drop f).take (l.length - f) = l.drop f := List.take_of_length_le (by rw [List.length_drop]; omega)
      rw [e] at h5 ⊢
      rw [sp_free _ h5] at h4
      exact ⟨h2, fun hn => ⟨by simp [hall, hn], .inr ⟨rfl, h4⟩⟩, by rw [h4]; simp⟩
  · omega
theorem PInv.next {l : List UInt8} {f k : Nat} {ds : List (List UInt8)} (h : PInv l f k ds) (hk : k < l.length) (hc : l[k] ≠ 47) : PInv l f (k + 1) ds := by
  obtain ⟨hall, ⟨h1, h2, h3, h4, h5⟩ | ⟨h1, -⟩⟩ := h
  · refine ⟨hall, .inl ⟨h1, by omega, by omega, h4, ?_⟩⟩
    rw [piece_snoc h2 hk]
    intro hm
    rcases List.mem_append.1 hm with hm | hm
    · exact h5 hm
    · exact hc (List.mem_singleton.1 hm).symm
  · omega
theorem PInv.fin {l : List UInt8} {f k : Nat} {ds : List (List UInt8)} (h : PInv l f k ds) (hk : ¬ k ≤ l.length) : sp (l.drop 1) = ds ∧ ds.all isName = true := by
  obtain ⟨hall, ⟨h1, h2, h3, h4, h5⟩ | ⟨-, h1⟩⟩ := h
  · omega
  · exact ⟨h1, hall⟩
theorem Txts.oneX (w : World) (l : List UInt8) (f k : Nat) (t : TypeId) : Txts (w.alloc (.cells #[.string ((⟨l.toArray⟩ : ByteArray).extract f k)] t)) (.slice (some ⟨w.heap.size, 0, none⟩) 1 1) [(l.drop f).take (k - f)] := by
  rw [str_extract]
  exact Txts.one w _ t
theorem ret_parts {v : Value} {a b : Bool} (h : a = b) : Ending.returned (.tuple #[v, .bool a]) = .returned (.tuple #[v, .bool b]) := by rw [h]
/-- The walk's end. -/
def PDone (l : List UInt8) (w : World) (e : Ending) (w' : World) : Prop := ∃ v, e = .returned (.tuple #[v, .bool (names l).isSome]) ∧ Txts w' v ((names l).getD []) ∧ Kept w w'

set_option maxRecDepth 100000 in
set_option maxHeartbeats 2000000 in
theorem refParts_slash (r : List UInt8) (w : World) (h0 : r ≠ []) (hl : (47 :: r).length ≤ 128) :
    Calls Tryz.prog 148 #[.string ⟨(47 :: r).toArray⟩] w (PDone (47 :: r) w) := by
  have HF := Lib.hid (names_slash r h0 hl)
  have t0 : ((47 :: r) == [47]) = false := by simpa using h0
  have t1 : decide ((128 : Int) < ((47 :: r).length : Int)) = false := by simp at hl ⊢; omega
  have t2 : decide (((47 :: r).length : Int) < 1) = false := by simp; omega
  have hp0 : 0 < (⟨(47 :: r).toArray⟩ : ByteArray).size := by rw [str_size]; simp
  have t3 : (⟨(47 :: r).toArray⟩ : ByteArray)[0]'hp0 = 47 := by rw [str_get]; rfl
  have hd : (47 :: r).drop 1 = r := rfl
  have h1 : 1 ≤ (47 :: r).length := by simp
  generalize hg : (47 :: r) = l at *
  have HD := Lib.hid hd
  clear hd hg h0
  go_enter Tryz.func148, Tryz.ntmps148
  go_wp2
  go_loopw [4, 5, 6] (fun t f i W => ∃ (k fr : Nat) (ds : List (List UInt8)), f = .int .i64 (fr : Int) ∧ i = .int .i64 (k : Int) ∧ k ≤ l.length + 1 ∧ fr ≤ l.length + 1 ∧ PInv l fr k ds ∧ W.ownsRow w.heap.size 9 1 t ds.length (strCells ds) ∧ Kept w W) (fun _ _ i _ => l.length + 1 - (intOf i).toNat)
  case atStart => exact ⟨1, 1, [], rfl, rfl, by omega, by omega, ⟨rfl, .inl ⟨by omega, by omega, h1, rfl, by simp⟩⟩, World.ownsRow_nil _ _ _ _, Kept.refl _⟩
  case round =>
    obtain ⟨k, fr, ds, rfl, rfl, hk1, hfr, hI, hO, hK⟩ := hrel
    by_cases hk : k ≤ l.length
    · by_cases hlt : k < l.length
      · have hp : k < (⟨l.toArray⟩ : ByteArray).size := by rw [str_size]; exact hlt
        have s1 : ((k : Int) == (l.length : Int)) = false := by rw [beq_eq_false_iff_ne]; omega
        by_cases h47 : l[k] = 47
        · have s2 : (⟨l.toArray⟩ : ByteArray)[k]'hp = 47 := by rw [str_get]; exact h47
          have hc : ∀ hlt : k < l.length, l[k] = 47 := fun _ => h47
          clear h47
          obtain ⟨hfk, hyes, hmem⟩ := hI.step hk hc
          have hbx := hI.len
          have HY := Lib.hid hyes
          have HM := Lib.hid hmem
          have HO := Lib.hid hO
          have HI := Lib.hid hI
          clear hyes hmem hO hI hc
          obtain ⟨A4, c4, hv4⟩ := own_formS HO.out
          subst hv4
          go_wp2_with fail
          rw [str_extract]
          refine (refName_any ((l.drop fr).take (k - fr)) _).mono ?_
          rintro e w1 ⟨rfl, rfl⟩
          cases hn : isName ((l.drop fr).take (k - fr)) with
          | false =>
            have hnone : names l = none := by
              rw [HF.out, if_neg]
              intro hx
              have := List.all_eq_true.1 hx.1 _ (HD.out ▸ HM.out)
              rw [hn] at this
              cases this
            have HN := Lib.hid hnone
            clear hnone hn
            go_wp2
            go_ret2
            exact ⟨_, ret_parts (by rw [HN.out]; rfl), by rw [HN.out]; exact Txts.nil _, hK⟩
          | true =>
            have hI2 := HY.out hn
            have HI2 := Lib.hid hI2
            clear hn hI2
            have hsz := hK.size
            go_wp2_with (at_builtin; refine wpList_append_txts rfl _ _ rfl w.heap.size _ _ ds [(l.drop fr).take (k - fr)] _ rfl rfl (own_keptS HO.out ((Kept.refl _).alloc _)) (Txts.oneX _ _ _ _ _) (by simp; omega) (by simp; omega) ?_; intro v' w' g1 g2 g3)
            go_roundw
            case rel =>
              refine ⟨k + 1, k + 1, ds ++ [(l.drop fr).take (k - fr)], by go_num, by go_num, by omega, by omega, HI2.out, ?_, (hK.alloc _).grownS g2 (own_geS HO.out)⟩
              rw [List.length_append]; exact g1
            case measure => simp [intOf]; omega
        · have s2 : ((((⟨l.toArray⟩ : ByteArray)[k]'hp).toNat : Int) == 47) = false := by
            rw [beq_eq_false_iff_ne, str_get]
            intro e
            apply h47
            apply UInt8.toNat_inj.1
            have : ((47 : UInt8).toNat : Int) = 47 := rfl
            omega
          have HI := Lib.hid (hI.next hlt h47)
          have HO := Lib.hid hO
          clear h47 hI hO
          go_wp2
          go_roundw
          case rel => exact ⟨k + 1, fr, ds, rfl, by go_num, by omega, hfr, HI.out, HO.out, hK⟩
          case measure => simp [intOf]; omega
      · have hkl : k = l.length := by omega
        have hkle : l.length ≤ k := by omega
        clear hkl
        have hc : ∀ hlt : k < l.length, l[k] = 47 := fun h => absurd h hlt
        have s1 : ((k : Int) == (l.length : Int)) = true := by rw [beq_iff_eq]; omega
        obtain ⟨hfk, hyes, hmem⟩ := hI.step hk hc
        have hbx := hI.len
        have HY := Lib.hid hyes
        have HM := Lib.hid hmem
        have HO := Lib.hid hO
        have HI := Lib.hid hI
        clear hyes hmem hO hI hc
        obtain ⟨A4, c4, hv4⟩ := own_formS HO.out
        subst hv4
        go_wp2_with fail
        rw [str_extract]
        refine (refName_any ((l.drop fr).take (k - fr)) _).mono ?_
        rintro e w1 ⟨rfl, rfl⟩
        cases hn : isName ((l.drop fr).take (k - fr)) with
        | false =>
          have hnone : names l = none := by
            rw [HF.out, if_neg]
            intro hx
            have := List.all_eq_true.1 hx.1 _ (HD.out ▸ HM.out)
            rw [hn] at this
            cases this
          have HN := Lib.hid hnone
          clear hnone hn
          go_wp2
          go_ret2
          exact ⟨_, ret_parts (by rw [HN.out]; rfl), by rw [HN.out]; exact Txts.nil _, hK⟩
        | true =>
          have hI2 := HY.out hn
          have HI2 := Lib.hid hI2
          clear hn hI2
          have hsz := hK.size
          go_wp2_with (at_builtin; refine wpList_append_txts rfl _ _ rfl w.heap.size _ _ ds [(l.drop fr).take (k - fr)] _ rfl rfl (own_keptS HO.out ((Kept.refl _).alloc _)) (Txts.oneX _ _ _ _ _) (by simp; omega) (by simp; omega) ?_; intro v' w' g1 g2 g3)
          go_roundw
          case rel =>
            refine ⟨k + 1, k + 1, ds ++ [(l.drop fr).take (k - fr)], by go_num, by go_num, by omega, by omega, HI2.out, ?_, (hK.alloc _).grownS g2 (own_geS HO.out)⟩
            rw [List.length_append]; exact g1
          case measure => simp [intOf]; omega
    · obtain rfl : k = l.length + 1 := by omega
      obtain ⟨e1, e2⟩ := hI.fin hk
      have hbx := hI.len
      have HO := Lib.hid hO
      obtain ⟨A4, c4, hv4⟩ := own_formS HO.out
      subst hv4
      have HA := Lib.hid e2
      have HS := Lib.hid (HD.out ▸ e1)
      clear e1 e2 hI hO
      by_cases h8 : ds.length ≤ 8
      · have hsome : names l = some ds := by rw [HF.out, HS.out, if_pos ⟨HA.out, h8⟩]
        have HN := Lib.hid hsome
        clear hsome
        have s3 : decide ((8 : Int) < (ds.length : Int)) = false := by simp; omega
        go_wp2
        go_ret2
        exact ⟨_, ret_parts (by rw [HN.out]; rfl), by rw [HN.out]; exact Txts.of_own HO.out, hK⟩
      · have hnone : names l = none := by rw [HF.out, HS.out, if_neg (fun hx => h8 hx.2)]
        have HN := Lib.hid hnone
        clear hnone
        have s3 : decide ((8 : Int) < (ds.length : Int)) = true := by simp; omega
        go_wp2
        go_ret2
        exact ⟨_, ret_parts (by rw [HN.out]; rfl), by rw [HN.out]; exact Txts.nil _, hK⟩

theorem names_off (l : List UInt8) (h : l = [] ∨ 128 < l.length ∨ l.head? ≠ some 47) : names l = none := by
  cases hn : names l with
  | none => rfl
  | some ls =>
    have h1 := names_len hn
    obtain ⟨r, hr⟩ := names_head hn
    rcases h with rfl | h | h
    · cases hr
    · omega
    · exact absurd (by rw [hr]; rfl) h
set_option maxHeartbeats 400000 in
theorem refParts_any (l : List UInt8) (w : World) : Calls Tryz.prog 148 #[.string ⟨l.toArray⟩] w (PDone l w) := by
  by_cases h0 : l = [47]
  · subst h0
    go_enter Tryz.func148, Tryz.ntmps148
    go_wp2
    go_ret2
    exact ⟨_, rfl, Txts.nil _, Kept.refl _⟩
  have t0 : (l == [47]) = false := by simpa using h0
  by_cases h1 : l = []
  · subst h1
    go_enter Tryz.func148, Tryz.ntmps148
    go_wp2
    go_ret2
    exact ⟨_, rfl, Txts.nil _, Kept.refl _⟩
  have hpos : 1 ≤ l.length := by
    cases l with
    | nil => exact absurd rfl h1
    | cons c r => simp
  have t2 : decide ((l.length : Int) < 1) = false := by simp; omega
  by_cases h2 : 128 < l.length
  · have HN := Lib.hid (names_off l (.inr (.inl h2)))
    have t1 : decide ((128 : Int) < (l.length : Int)) = true := by simp; omega
    clear h0 h1
    go_enter Tryz.func148, Tryz.ntmps148
    go_wp2
    go_ret2
    exact ⟨_, ret_parts (by rw [HN.out]; rfl), by rw [HN.out]; exact Txts.nil _, Kept.refl _⟩
  have t1 : decide ((128 : Int) < (l.length : Int)) = false := by simp; omega
  cases l with
  | nil => exact absurd rfl h1
  | cons c r =>
    by_cases hc : c = 47
    · subst hc
      exact refParts_slash r w (fun e => h0 (by rw [e])) (by omega)
    · have HN := Lib.hid (names_off (c :: r) (.inr (.inr (by simpa using hc))))
      have hp : 0 < (⟨(c :: r).toArray⟩ : ByteArray).size := by rw [str_size]; exact hpos
      have s2 : ((((⟨(c :: r).toArray⟩ : ByteArray)[0]'hp).toNat : Int) == 47) = false := by
        rw [beq_eq_false_iff_ne, str_get]
        intro e
        apply hc
        apply UInt8.toNat_inj.1
        have : ((47 : UInt8).toNat : Int) = 47 := rfl
        have e2 : (c.toNat : Int) = 47 := e
        omega
      clear h0 h1 hc
      generalize (c :: r) = l at *
      go_enter Tryz.func148, Tryz.ntmps148
      go_wp2
      go_ret2
      exact ⟨_, ret_parts (by rw [HN.out]; rfl), by rw [HN.out]; exact Txts.nil _, Kept.refl _⟩
end Go.Proofs.YtkgcllkocoojdaaGreatDoor
