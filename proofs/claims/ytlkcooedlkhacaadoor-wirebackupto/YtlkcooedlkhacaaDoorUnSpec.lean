/- Opening a frame, as plain arithmetic. -/
import Derived.Test.YtlkcooedlkhacaaDoorFrm
namespace Go.Proofs.YtlkcooedlkhacaaDoor
def unOf (s : List UInt8) (a : Int) : List UInt8 × Int × Int :=
  if s.length < 8 then ([], 0, 12) else if 65536 < val4 s then ([], 0, 14) else if s.length < 8 + val4 s then ([], 0, 12)
  else if crc (s.take 4 ++ (s.drop 8).take (val4 s)) = val4 (s.drop 4) then ((s.drop 8).take (val4 s), a + 8 + (val4 s : Nat), 0) else ([], 0, 15)
/-- What Unframe tells at a place: the payload, the place behind it, the error. -/
def unAt (l : List UInt8) (a : Int) : List UInt8 × Int × Int := if a < 0 ∨ (l.length : Int) < a then ([], 0, 11) else unOf (l.drop a.toNat) a
theorem unAt_bad {l : List UInt8} {a : Int} (h : a < 0 ∨ (l.length : Int) < a) : unAt l a = ([], 0, 11) := by unfold unAt; rw [if_pos h]
theorem unAt_good {l : List UInt8} {a : Nat} (h : a ≤ l.length) : unAt l (a : Int) = unOf (l.drop a) a := by unfold unAt; rw [if_neg (by omega), Int.toNat_natCast]
theorem unOf_short {s : List UInt8} {a : Int} (h : s.length < 8) : unOf s a = ([], 0, 12) := by unfold unOf; rw [if_pos h]
theorem unOf_long {s : List UInt8} {a : Int} (h : ¬ s.length < 8) (h1 : 65536 < val4 s) : unOf s a = ([], 0, 14) := by unfold unOf; rw [if_neg h, if_pos h1]
theorem unOf_part {s : List UInt8} {a : Int} (h : ¬ s.length < 8) (h1 : ¬ 65536 < val4 s) (h2 : s.length < 8 + val4 s) : unOf s a = ([], 0, 12) := by unfold unOf; rw [if_neg h, if_neg h1, if_pos h2]
theorem unOf_sum {s : List UInt8} {a : Int} (h : ¬ s.length < 8) (h1 : ¬ 65536 < val4 s) (h2 : ¬ s.length < 8 + val4 s) (h3 : ¬ crc (s.take 4 ++ (s.drop 8).take (val4 s)) = val4 (s.drop 4)) : unOf s a = ([], 0, 15) := by unfold unOf; rw [if_neg h, if_neg h1, if_neg h2, if_neg h3]
theorem unOf_ok {s : List UInt8} {a : Int} (h : ¬ s.length < 8) (h1 : ¬ 65536 < val4 s) (h2 : ¬ s.length < 8 + val4 s) (h3 : crc (s.take 4 ++ (s.drop 8).take (val4 s)) = val4 (s.drop 4)) : unOf s a = ((s.drop 8).take (val4 s), a + 8 + (val4 s : Nat), 0) := by unfold unOf; rw [if_neg h, if_neg h1, if_neg h2, if_pos h3]
end Go.Proofs.YtlkcooedlkhacaaDoor
