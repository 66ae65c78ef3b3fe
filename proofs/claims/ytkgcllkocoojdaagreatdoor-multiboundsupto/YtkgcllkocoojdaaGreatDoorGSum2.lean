/- The walks of the program's checksum (sumBits, sumOf, Sum) and of the document's. The walk of the document's checksum. -/
import Derived.Test.YtkgcllkocoojdaaGreatDoorProg
import Derived.Test.YtkgcllkocoojdaaGreatDoorGCrc3
namespace Go.Proofs.YtkgcllkocoojdaaGreatDoor
open Go.RowKit

set_option maxHeartbeats 400000 in
theorem sumBits_any (s : Nat) (w : World) (h1 : s < 4294967296) :
    Calls Tryz.prog 214 #[.int .u32 (s : Int)] w fun e w' => e = .returned (.int .u32 (crcBits 8 s : Nat)) ∧ w = w' := by
  go_enter Tryz.func214, Tryz.ntmps214
  go_wp2
  go_loop [0, 3] (fun t i => ∃ k : Nat, k ≤ 8 ∧ i = .int .i64 k ∧ t = .int .u32 (crcBits k s : Nat)) (fun _ i => 8 - (intOf i).toNat)
  case atStart => exact ⟨0, Nat.zero_le _, rfl, rfl⟩
  case round =>
    obtain ⟨k, hk, rfl, rfl⟩ := hrel
    have hm := crcBits_lt k h1
    by_cases hlt : k < 8
    · go_wp2
      go_round
      case rel => exact ⟨k + 1, by omega, by go_num, by rw [crcBits_snoc, ← u32_round _ hm]⟩
      case measure => simp [intOf]; omega
    · obtain rfl : k = 8 := by omega
      go_wp2
      go_ret
      exact ⟨rfl, rfl⟩

theorem take_flat {α : Type} (ls : List (List α)) (k : Nat) (h : k < ls.length) : (ls.take (k + 1)).flatten = (ls.take k).flatten ++ ls[k] := by
  rw [List.take_succ_eq_append_getElem h, List.flatten_append, List.flatten_cons, List.flatten_nil, List.append_nil]
theorem u32_byte_xor (s : Nat) (h : s < 4294967296) (b : UInt8) : bits BinOp.xor IntKind.u32 (s : Int) (b.toNat : Int) = ((s ^^^ b.toNat : Nat) : Int) :=
  u32_xor_nat s b.toNat h (by have := b.toNat_lt; omega)

set_option maxHeartbeats 400000 in
theorem sumOf_any (ls : List (List UInt8)) (v : Value) (w : World) (hp : Parts w v ls) :
    Calls Tryz.prog 176 #[v] w fun e w' => e = .returned (.int .i64 (crc ls.flatten : Nat)) ∧ w = w' := by
  obtain ⟨A, c, rfl, hc1, hc2, hcs⟩ := hp
  unfold maxLen at hc2
  go_enter Tryz.func176, Tryz.ntmps176
  go_wp2
  go_loop [3, 10] (fun t i => ∃ k : Nat, k ≤ ls.length ∧ i = .int .i64 k ∧ t = .int .u32 (crcRun 4294967295 (ls.take k).flatten : Nat)) (fun _ i => ls.length - (intOf i).toNat)
  case atStart => exact ⟨0, Nat.zero_le _, rfl, rfl⟩
  case round =>
    obtain ⟨k, hk, rfl, rfl⟩ := hrel
    have hm := crcRun_lt (ls.take k).flatten (s := 4294967295) (by decide)
    by_cases hlt : k < ls.length
    · obtain ⟨b, o, rfl, hcell⟩ := hcs (by omega)
      obtain ⟨u, hu, A2, c2, rfl, hd1, hd2, hds⟩ := hcell k ls[k] (by simp [hlt])
      unfold maxLen at hd2
      have hfl : (ls.take (k + 1)).flatten = (ls.take k).flatten ++ ls[k] := take_flat ls k hlt
      have HF := Lib.hid hfl
      clear hfl hcell
      generalize hl : ls[k] = l at *
      have HL := Lib.hid hl
      clear hl
      generalize hs0 : crcRun 4294967295 (ls.take k).flatten = s0 at *
      have HS := Lib.hid hs0
      clear hs0
      go_wp2
      go_loop [3, 16] (fun t i => ∃ j : Nat, j ≤ l.length ∧ i = .int .i64 j ∧ t = .int .u32 (crcRun s0 (l.take j) : Nat)) (fun _ i => l.length - (intOf i).toNat)
      case atStart => exact ⟨0, Nat.zero_le _, rfl, rfl⟩
      case round =>
        obtain ⟨j, hj, rfl, rfl⟩ := hrel
        have hmj := crcRun_lt (l.take j) hm
        by_cases hjl : j < l.length
        · obtain ⟨b2, o2, rfl, hcell2⟩ := hds (by omega)
          have hcj := hcell2 j l[j] (by simp [hjl])
          have hx := u32_byte_xor _ hmj l[j]
          have hsn : crcRun s0 (l.take (j + 1)) = crcBits 8 (crcRun s0 (l.take j) ^^^ l[j].toNat) := by
            rw [List.take_succ_eq_append_getElem hjl, crcRun_snoc]; rfl
          have HSN := Lib.hid hsn
          have hxl := xor_byte_lt hmj l[j]
          have hbl := l[j].toNat_lt
          clear hsn hcell2 hds
          generalize hx0 : l[j] = x0 at *
          clear hx0
          go_wp2_with fail
          refine (sumBits_any _ _ hxl).mono ?_
          rintro e w' ⟨rfl, rfl⟩
          go_wp2
          go_round
          case rel => exact ⟨j + 1, by omega, by go_num, by rw [HSN.out]⟩
          case measure => simp [intOf]; omega
        · go_wp2
          go_round
          case rel =>
            obtain rfl : j = l.length := by omega
            exact ⟨k + 1, by omega, by go_num, by rw [HF.out, crcRun_append, HS.out, List.take_length]⟩
          case measure => simp [intOf]; omega
    · have hsg : IntKind.u32.signed = false := rfl
      have hx := u32_not _ hm
      have hle : 4294967295 - crcRun 4294967295 (ls.take k).flatten ≤ 4294967295 := Nat.sub_le _ _
      have hcr : crc ls.flatten = 4294967295 - crcRun 4294967295 (ls.take k).flatten := by unfold crc; rw [List.take_of_length_le (by omega)]
      have HC := Lib.hid hcr
      clear hcr
      generalize hd : 4294967295 - crcRun 4294967295 (ls.take k).flatten = d at *
      clear hd
      go_wp2
      go_ret
      exact ⟨by rw [HC.out]; rfl, rfl⟩
set_option maxHeartbeats 400000 in
theorem sum_any (l : List UInt8) (v : Value) (w : World) (hv : Bts w v l) :
    Calls Tryz.prog 131 #[v] w fun e w' => e = .returned (.int .i64 (crc l : Nat)) ∧ Kept w w' := by
  obtain ⟨A, c, hv', -, -, -⟩ := id hv
  subst hv'
  go_enter Tryz.func131, Tryz.ntmps131
  go_wp2_with fail
  refine (sumOf_any [l] _ _ (Parts.one hv)).mono ?_
  rintro e w' ⟨rfl, rfl⟩
  rw [List.flatten_cons, List.flatten_nil, List.append_nil]
  go_wp2
  go_ret
  exact ⟨rfl, (Kept.refl w).alloc _⟩
end Go.Proofs.YtkgcllkocoojdaaGreatDoor
namespace Go.Proofs.YtkgcllkocoojdaaGreatDoor
open Go.RowKit

theorem crcBit_odd (s : Nat) (h : s % 2 = 1) : crcBit s = s / 2 ^^^ 3988292384 := by unfold crcBit; rw [h]
theorem crcBit_even (s : Nat) (h : s % 2 = 0) : crcBit s = s / 2 := by unfold crcBit; rw [h]; simp

theorem i64_poly (s : Nat) (h : s < 4294967296) : bits BinOp.xor IntKind.i64 ((s : Int) / 2) 3988292384 = ((s / 2 ^^^ 3988292384 : Nat) : Int) := by
  have hb := i64_xor_nat (s / 2) 3988292384 (by omega) (by decide)
  have e2 : ((s / 2 : Nat) : Int) = (s : Int) / 2 := by omega
  rw [e2] at hb
  exact hb

set_option maxHeartbeats 400000 in
theorem refSum_any (l : List UInt8) (v : Value) (w : World) (hv : Bts w v l) :
    Calls Tryz.prog 67 #[v] w fun e w' => e = .returned (.int .i64 (crc l : Nat)) ∧ w = w' := by
  obtain ⟨A, c, rfl, hc1, hc2, hcs⟩ := hv
  unfold maxLen at hc2
  go_enter Tryz.func67, Tryz.ntmps67
  go_wp2
  go_loop [3, 4] (fun t i => ∃ k : Nat, k ≤ l.length ∧ i = .int .i64 k ∧ t = .int .i64 (crcRun 4294967295 (l.take k) : Nat)) (fun _ i => l.length - (intOf i).toNat)
  case atStart => exact ⟨0, Nat.zero_le _, rfl, rfl⟩
  case round =>
    obtain ⟨k, hk, rfl, rfl⟩ := hrel
    have hm := crcRun_lt (l.take k) (s := 4294967295) (by decide)
    by_cases hlt : k < l.length
    · obtain ⟨b, o, rfl, hcell⟩ := hcs (by omega)
      have hcj := hcell k l[k] (by simp [hlt])
      have hx := i64_xor_nat (crcRun 4294967295 (l.take k)) l[k].toNat (by omega) (by have := l[k].toNat_lt; omega)
      have hsn : crcRun 4294967295 (l.take (k + 1)) = crcBits 8 (crcRun 4294967295 (l.take k) ^^^ l[k].toNat) := by
        rw [List.take_succ_eq_append_getElem hlt, crcRun_snoc]; rfl
      have HSN := Lib.hid hsn
      have hxl := xor_byte_lt hm l[k]
      have hbl := l[k].toNat_lt
      clear hsn hcell hcs
      generalize hx0 : l[k] = x0 at *
      clear hx0
      generalize hs0 : crcRun 4294967295 (l.take k) ^^^ x0.toNat = s0 at *
      clear hs0
      go_wp2
      go_loop [3, 5, 6] (fun t i _ => ∃ j : Nat, j ≤ 8 ∧ i = .int .i64 j ∧ t = .int .i64 (crcBits j s0 : Nat)) (fun _ i _ => 8 - (intOf i).toNat)
      case atStart => exact ⟨0, Nat.zero_le _, rfl, rfl⟩
      case round =>
        obtain ⟨j, hj, rfl, rfl⟩ := hrel
        have hmj := crcBits_lt j hxl
        by_cases hjl : j < 8
        · have hst := crcBits_snoc j s0
          have HST := Lib.hid hst
          clear hst
          generalize hs : crcBits j s0 = s at *
          clear hs
          by_cases hodd : s % 2 = 1
          · have hb := i64_poly s (by omega)
            have ht : (((s : Int) % 2) == 1) = true := by rw [beq_iff_eq]; omega
            have hcr := crcBit_odd s hodd
            have HCR := Lib.hid hcr
            clear hcr
            go_wp2
            go_round
            case rel => exact ⟨j + 1, by omega, by go_num, by rw [HST.out, HCR.out]⟩
            case measure => simp [intOf]; omega
          · have ht : (((s : Int) % 2) == 1) = false := by rw [beq_eq_false_iff_ne]; omega
            have hcr := crcBit_even s (by omega)
            have HCR := Lib.hid hcr
            clear hcr
            go_wp2
            go_round
            case rel => exact ⟨j + 1, by omega, by go_num, by rw [HST.out, HCR.out]; go_num⟩
            case measure => simp [intOf]; omega
        · obtain rfl : j = 8 := by omega
          go_wp2
          go_round
          case rel => exact ⟨k + 1, by omega, by go_num, by rw [HSN.out]⟩
          case measure => simp [intOf]; omega
    · have hcr : ((crc l : Nat) : Int) = 4294967295 - ((crcRun 4294967295 (l.take k) : Nat) : Int) := by unfold crc; rw [List.take_of_length_le (by omega)] at hm ⊢; omega
      have HC := Lib.hid hcr
      clear hcr
      go_wp2
      go_ret
      exact ⟨by rw [HC.out]; rfl, rfl⟩
end Go.Proofs.YtkgcllkocoojdaaGreatDoor
