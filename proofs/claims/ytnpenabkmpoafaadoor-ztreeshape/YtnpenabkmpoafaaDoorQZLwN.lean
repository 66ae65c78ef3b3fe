/- The walk of ZtreeNames. -/
import Derived.Test.YtnpenabkmpoafaaDoorQZNm
import Derived.Deep.CutBlock
import Derived.Deep.DeepCutAuto
set_option linter.unusedSimpArgs false
set_option linter.unusedVariables false
namespace Go.Proofs.YtnpenabkmpoafaaDoor
open Go.RowKit
/-- The value is a slice of booleans that reads as l. -/
def Bls (w : World) (v : Value) (l : List Bool) : Prop :=
  ∃ A c, v = .slice A l.length c ∧ l.length ≤ c ∧ c ≤ maxLen ∧ (0 < l.length → ∃ b o, A = some ⟨b, o, none⟩ ∧ ∀ k x, l[k]? = some x → w.cell? ⟨b, o + k, none⟩ = some (.bool x))
theorem Bls.kept {w w' : World} {v : Value} {l : List Bool} (h : Bls w v l) (k : Kept w w') : Bls w' v l := by
  obtain ⟨A, c, rfl, h1, h2, h3⟩ := h
  refine ⟨A, c, rfl, h1, h2, fun hl => ?_⟩
  obtain ⟨b, o, rfl, hc⟩ := h3 hl
  exact ⟨b, o, rfl, fun i x hx => k.cell (hc i x hx)⟩
theorem Bls.at {w : World} {A : Option Addr} {n c : Nat} {l : List Bool} (h : Bls w (.slice A n c) l) {k : Nat} (hk : k < l.length) : ∃ b o, A = some ⟨b, o, none⟩ ∧ w.cell? ⟨b, o + k, none⟩ = some (.bool l[k]) := by
  obtain ⟨A', c', hv, -, -, h3⟩ := h
  obtain ⟨rfl, -, -⟩ : A = A' ∧ n = l.length ∧ c = c' := by simpa using hv
  obtain ⟨b, o, e, hc⟩ := h3 (by omega)
  exact ⟨b, o, e, hc k l[k] (by simp [hk])⟩
def LastIs (l : Pth) (k : Nat) (la : Pth) : Prop := (k = 0 ∧ la = []) ∨ ∃ j, k = j + 1 ∧ la = baseN l ++ dk 10 j
theorem LastIs.less {l la : Pth} {k : Nat} (h : LastIs l k la) (hk : k ≤ 9999999999) : Op.bytesLess (baseN l ++ dk 10 k) la = false ∧ ((baseN l ++ dk 10 k) == la) = false := by
  rcases h with ⟨rfl, rfl⟩ | ⟨j, rfl, rfl⟩
  · unfold baseN
    exact ⟨rfl, rfl⟩
  · obtain ⟨h1, h2, -⟩ := order_facts (baseN l) (j + 1) j hk (by omega)
    rw [h1, h2]
    simp
    omega
set_option maxRecDepth 100000 in
set_option maxHeartbeats 4000000 in
theorem ztreeNames_any (l : List UInt8) (gs : List Bool) (v : Value) (w : World) (hv : Bls w v gs) (htab : TbZ w) :
    Calls Tryd.prog 4 #[.string ⟨l.toArray⟩, v] w fun e w' => e = .returned (.bool true) ∧ Kept w w' := by
  have HN := Lib.hid (new_kt w)
  have HT := Lib.hid htab
  have HV := Lib.hid hv
  obtain ⟨A, c, rfl, hc1, hc2, -⟩ := hv
  unfold maxLen at hc2
  have HA := Lib.hid (show ∀ W, Kept w W → _ from fun W k => awakeZ_any W (HT.out.kept k))
  clear htab
  go_enter Tryd.func4, Tryd.ntmps4
  go_wp2_with fail
  refine HN.out.mono ?_
  rintro e w1 ⟨tb, rfl, h1⟩
  have hc := create_kt h1 [47, 113] [] (.slice none 0 0) 0 false (Bts.nil _) HT.out (by decide)
  rw [show createE newT [47, 113] ([] : List UInt8).length 0 false = 0 from (InvN.start l).1] at hc
  have HC := Lib.hid hc
  clear hc h1
  go_wp2_with fail
  refine HC.out.mono ?_
  rintro e w2 ⟨rfl, h2, -⟩
  have H2 := Lib.hid h2
  have HK2 := Lib.hid h2.old
  have HI := Lib.hid (InvN.start l).2
  have HNM := Lib.hid (refName_any l w2)
  clear h2
  by_cases hgood : isName l = true ∧ l.length ≤ 22 ∧ gs.length ≤ 500
  · obtain ⟨hn, hl, hg⟩ := hgood
    rw [hn] at HNM
    have HNN := Lib.hid hn
    have t1 : decide ((22 : Int) < (l.length : Int)) = false := by simp; omega
    have t2 : decide ((500 : Int) < (gs.length : Int)) = false := by simp; omega
    have hsz : (⟨l.toArray⟩ : ByteArray).size ≤ 22 := by rw [str_size]; exact hl
    clear hn
    go_wp2_with fail
    refine HNM.out.mono ?_
    rintro e w3 ⟨rfl, rfl⟩
    go_wp2
    clear t1 t2
    go_loopw [39, 8] (fun i s W => ∃ (k : Nat) (t : ZT) (la : Pth), i = .int .i64 (k : Int) ∧ s = .string ⟨la.toArray⟩ ∧ k ≤ gs.length ∧ LastIs l k la ∧ InvN l k t ∧ KT w W tb t (2 * k + 1)) (fun i _ _ => gs.length - (intOf i).toNat)
    case atStart => exact ⟨0, _, [], rfl, rfl, Nat.zero_le _, .inl ⟨rfl, rfl⟩, HI.out, H2.out⟩
    case round =>
      obtain ⟨k, t, la, rfl, rfl, hk, hla, hinv, hkt⟩ := hrel
      have HLA := Lib.hid hla
      have HIN := Lib.hid hinv
      have HKT := Lib.hid hkt
      have HKR := Lib.hid hkt.old
      clear hla hinv hkt
      by_cases hlt : k < gs.length
      · obtain ⟨b, o, rfl, hcell⟩ := (HV.out.kept HKR.out).at hlt
        have g1 : (k : Int) < (gs.length : Int) := by omega
        obtain ⟨c1, c2, c3, c4⟩ := HIN.out.create HNN.out hl (by omega)
        have hcr := create_kt HKT.out (baseN l) [] (.slice none 0 0) 0 true (Bts.nil _) HT.out (by omega)
        rw [show createE t (baseN l) ([] : List UInt8).length 0 true = 0 from c1, show createP t (baseN l) ([] : List UInt8).length 0 true = baseN l ++ dk 10 k from c2] at hcr
        have HCR := Lib.hid hcr
        have HI3 := Lib.hid c3
        have HG4 := Lib.hid c4
        have hcat : (⟨#[47, 113, 47]⟩ : ByteArray) ++ ⟨l.toArray⟩ = ⟨(baseN l).toArray⟩ := str_append [47, 113, 47] l
        clear hcr c1 c2 c3 c4
        generalize gs[k] = gk at *
        go_wp2_with fail
        refine HCR.out.mono ?_
        rintro e w4 ⟨rfl, h4, -⟩
        have H4 := Lib.hid h4
        have HK4 := Lib.hid h4.old
        have HDG := Lib.hid (digits_any k w4 (by omega))
        have hle := HLA.out.less (by omega)
        have hcat2 : (⟨(baseN l).toArray⟩ : ByteArray) ++ ⟨(dk 10 k).toArray⟩ = ⟨(baseN l ++ dk 10 k).toArray⟩ := str_append _ _
        have HDL := Lib.hid (show deleteE (createS t (baseN l) [] 0 true) (baseN l ++ dk 10 k) 0 = 0 ∧ InvN l (k + 1) (deleteS (createS t (baseN l) [] 0 true) (baseN l ++ dk 10 k) 0) from HI3.out.delete HNN.out hl (by omega) HG4.out)
        obtain ⟨sn, hsn⟩ : ∃ sn, baseN l ++ dk 10 k = sn := ⟨_, rfl⟩
        rw [hsn] at hle hcat2 HDL
        simp only [hsn]
        have HSN := Lib.hid hsn
        have hls := hle.1
        have hls2 := hle.2
        have hls3 : ¬ sn = la := fun e => by rw [e] at hls2; simp at hls2
        have hbl : (⟨(baseN l).toArray⟩ : ByteArray).size ≤ 32 := by rw [str_size]; unfold baseN; simp; omega
        have hdl : (⟨(dk 10 k).toArray⟩ : ByteArray).size ≤ 10 := by rw [str_size, dk_len]; exact Nat.le_refl _
        clear h4 hle hsn
        go_wp2_with fail
        refine HDG.out.mono ?_
        rintro e w5 ⟨rfl, hk5⟩
        have hkt5 := H4.out.kept hk5
        have HKT5 := Lib.hid hkt5
        have hd := delete_kt hkt5 sn 0 (by omega)
        rw [HDL.out.1] at hd
        have HD := Lib.hid hd
        clear hk5 hkt5 hd
        cases gk with
        | false =>
          go_wp2
          go_roundw
          case rel => exact ⟨k + 1, _, sn, by go_num, rfl, by omega, .inr ⟨k, rfl, HSN.out.symm⟩, HI3.out, HKT5.out.more (by omega)⟩
          case measure => simp [intOf]; omega
        | true =>
          go_wp2_with fail
          refine HD.out.mono ?_
          rintro e w6 ⟨rfl, h6, -⟩
          have H6 := Lib.hid h6
          clear h6
          go_wp2
          go_roundw
          case rel => exact ⟨k + 1, _, sn, by go_num, rfl, by omega, .inr ⟨k, rfl, HSN.out.symm⟩, HDL.out.2, H6.out.more (by omega)⟩
          case measure => simp [intOf]; omega
      · obtain rfl : k = gs.length := by omega
        go_wp2_with fail
        refine (HA.out _ HKR.out).mono ?_
        rintro e w9 ⟨rfl, k9⟩
        have hkk := HKR.out.trans k9
        go_wp2
        go_ret
        exact ⟨rfl, hkk⟩
  · have HAW := Lib.hid (HA.out)
    by_cases hn : isName l = true
    · rw [hn] at HNM
      by_cases hl : l.length ≤ 22
      · have t1 : decide ((22 : Int) < (l.length : Int)) = false := by simp; omega
        have t2 : decide ((500 : Int) < (gs.length : Int)) = true := by
          have : ¬ gs.length ≤ 500 := fun h => hgood ⟨hn, hl, h⟩
          simp
          omega
        clear hgood hn hl
        go_wp2_with fail
        refine HNM.out.mono ?_
        rintro e w3 ⟨rfl, rfl⟩
        go_wp2_with fail
        refine (HA.out _ HK2.out).mono ?_
        rintro e w9 ⟨rfl, k9⟩
        have hkk := HK2.out.trans k9
        go_wp2
        go_ret
        exact ⟨rfl, hkk⟩
      · have t1 : decide ((22 : Int) < (l.length : Int)) = true := by simp; omega
        clear hgood hn hl
        go_wp2_with fail
        refine HNM.out.mono ?_
        rintro e w3 ⟨rfl, rfl⟩
        go_wp2_with fail
        refine (HA.out _ HK2.out).mono ?_
        rintro e w9 ⟨rfl, k9⟩
        have hkk := HK2.out.trans k9
        go_wp2
        go_ret
        exact ⟨rfl, hkk⟩
    · have hn : isName l = false := by simpa using hn
      rw [hn] at HNM
      clear hgood hn
      go_wp2_with fail
      refine HNM.out.mono ?_
      rintro e w3 ⟨rfl, rfl⟩
      go_wp2_with fail
      refine (HA.out _ HK2.out).mono ?_
      rintro e w9 ⟨rfl, k9⟩
      have hkk := HK2.out.trans k9
      go_wp2
      go_ret
      exact ⟨rfl, hkk⟩
end Go.Proofs.YtnpenabkmpoafaaDoor
