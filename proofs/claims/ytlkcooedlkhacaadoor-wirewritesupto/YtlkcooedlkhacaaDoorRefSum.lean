/- The walk of the document's checksum. -/
import Derived.Test.YtlkcooedlkhacaaDoorProg
import Derived.Test.YtlkcooedlkhacaaDoorCrc
import Derived.Test.YtlkcooedlkhacaaDoorMem
namespace Go.Proofs.YtlkcooedlkhacaaDoor
open Go.RowKit

theorem crcBit_odd (s : Nat) (h : s % 2 = 1) : crcBit s = s / 2 ^^^ 3988292384 := by unfold crcBit; rw [h]
theorem crcBit_even (s : Nat) (h : s % 2 = 0) : crcBit s = s / 2 := by unfold crcBit; rw [h]; simp

theorem i64_poly (s : Nat) (h : s < 4294967296) : bits BinOp.xor IntKind.i64 ((s : Int) / 2) 3988292384 = ((s / 2 ^^^ 3988292384 : Nat) : Int) := by
  have hb := i64_xor_nat (s / 2) 3988292384 (by omega) (by decide)
  have e2 : ((s / 2 : Nat) : Int) = (s : Int) / 2 := by omega
  rw [e2] at hb
  exact hb

set_option maxHeartbeats 400000 in
theorem refSum_any (l : List UInt8) (v : Value) (w : World) (hv : Bts w v l) :
    Calls Tryd.prog 20 #[v] w fun e w' => e = .returned (.int .i64 (crc l : Nat)) ∧ w = w' := by
  obtain ⟨A, c, rfl, hc1, hc2, hcs⟩ := hv
  unfold maxLen at hc2
  go_enter Tryd.func20, Tryd.ntmps20
  go_wp2
  go_loop [3, 4] (fun t i => ∃ k : Nat, k ≤ l.length ∧ i = .int .i64 k ∧ t = .int .i64 (crcRun 4294967295 (l.take k) : Nat)) (fun _ i => l.length - (intOf i).toNat)
  case atStart => exact ⟨0, Nat.zero_le _, rfl, rfl⟩
  case round =>
    obtain ⟨k, hk, rfl, rfl⟩ := hrel
    have hm := crcRun_lt (l.take k) (s := 4294967295) (by decide)
    by_cases hlt : k < l.length
    · obtain ⟨b, o, rfl, hcell⟩ := hcs (by omega)
      have hcj := hcell k l[k] (by simp [hlt])
      have hx := i64_xor_nat (crcRun 4294967295 (l.take k)) l[k].toNat (by omega) (by have := l[k].toNat_lt; omega)
      have hsn : crcRun 4294967295 (l.take (k + 1)) = crcBits 8 (crcRun 4294967295 (l.take k) ^^^ l[k].toNat) := by
        rw [List.take_succ_eq_append_getElem hlt, crcRun_snoc]; rfl
      have HSN := Lib.hid hsn
      have hxl := xor_byte_lt hm l[k]
      have hbl := l[k].toNat_lt
      clear hsn hcell hcs
      generalize hx0 : l[k] = x0 at *
      clear hx0
      generalize hs0 : crcRun 4294967295 (l.take k) ^^^ x0.toNat = s0 at *
      clear hs0
      go_wp2
      go_loop [3, 5, 6] (fun t i _ => ∃ j : Nat, j ≤ 8 ∧ i = .int .i64 j ∧ t = .int .i64 (crcBits j s0 : Nat)) (fun _ i _ => 8 - (intOf i).toNat)
      case atStart => exact ⟨0, Nat.zero_le _, rfl, rfl⟩
      case round =>
        obtain ⟨j, hj, rfl, rfl⟩ := hrel
        have hmj := crcBits_lt j hxl
        by_cases hjl : j < 8
        · have hst := crcBits_snoc j s0
          have HST := Lib.hid hst
          clear hst
          generalize hs : crcBits j s0 = s at *
          clear hs
          by_cases hodd : s % 2 = 1
          · have hb := i64_poly s (by omega)
            have ht : (((s : Int) % 2) == 1) = true := by rw [beq_iff_eq]; omega
            have hcr := crcBit_odd s hodd
            have HCR := Lib.hid hcr
            clear hcr
            go_wp2
            go_round
            case rel => exact ⟨j + 1, by omega, by go_num, by rw [HST.out, HCR.out]⟩
            case measure => simp [intOf]; omega
          · have ht : (((s : Int) % 2) == 1) = false := by rw [beq_eq_false_iff_ne]; omega
            have hcr := crcBit_even s (by omega)
            have HCR := Lib.hid hcr
            clear hcr
            go_wp2
            go_round
            case rel => exact ⟨j + 1, by omega, by go_num, by rw [HST.out, HCR.out]; go_num⟩
            case measure => simp [intOf]; omega
        · obtain rfl : j = 8 := by omega
          go_wp2
          go_round
          case rel => exact ⟨k + 1, by omega, by go_num, by rw [HSN.out]⟩
          case measure => simp [intOf]; omega
    · have hcr : ((crc l : Nat) : Int) = 4294967295 - ((crcRun 4294967295 (l.take k) : Nat) : Int) := by unfold crc; rw [List.take_of_length_le (by omega)] at hm ⊢; omega
      have HC := Lib.hid hcr
      clear hcr
      go_wp2
      go_ret
      exact ⟨by rw [HC.out]; rfl, rfl⟩
end Go.Proofs.YtlkcooedlkhacaaDoor
