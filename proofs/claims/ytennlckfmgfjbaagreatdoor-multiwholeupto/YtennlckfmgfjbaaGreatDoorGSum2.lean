/- The walks of the program's checksum (sumBits, sumOf, Sum) and of the document's. The walk of the document's checksum. -/
import Derived.Test.YtennlckfmgfjbaaGreatDoorProg
import Derived.Test.YtennlckfmgfjbaaGreatDoorGCrc3
namespace Go.Proofs.YtennlckfmgfjbaaGreatDoor
open Go.RowKit

theorem take_flat {α : Type} (ls : List (List α)) (k : Nat) (h : k < ls.length) : (ls.take (k + 1)).flatten = (ls.take k).flatten ++ ls[k] := by
  rw [List.take_succ_eq_append_getElem h, List.flatten_append, List.flatten_cons, List.flatten_nil, List.append_nil]
theorem u32_byte_xor (s : Nat) (h : s < 4294967296) (b : UInt8) : bits BinOp.xor IntKind.u32 (s : Int) (b.toNat : Int) = ((s ^^^ b.toNat : Nat) : Int) :=
  u32_xor_nat s b.toNat h (by have := b.toNat_lt; omega)

end Go.Proofs.YtennlckfmgfjbaaGreatDoor
namespace Go.Proofs.YtennlckfmgfjbaaGreatDoor
open Go.RowKit

theorem crcBit_odd (s : Nat) (h : s % 2 = 1) : crcBit s = s / 2 ^^^ 3988292384 := by unfold crcBit; rw [h]
theorem crcBit_even (s : Nat) (h : s % 2 = 0) : crcBit s = s / 2 := by unfold crcBit; rw [h]; simp

theorem i64_poly (s : Nat) (h : s < 4294967296) : bits BinOp.xor IntKind.i64 ((s : Int) / 2) 3988292384 = ((s / 2 ^^^ 3988292384 : Nat) : Int) := by
  have hb := i64_xor_nat (s / 2) 3988292384 (by omega) (by decide)
  have e2 : ((s / 2 : Nat) : Int) = (s : Int) / 2 := by omega
  rw [e2] at hb
  exact hb

end Go.Proofs.YtennlckfmgfjbaaGreatDoor
