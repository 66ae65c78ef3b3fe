/- Four bytes, the lowest first: the walks of field, fieldValue, four, value. -/
import Derived.Test.YtennlckfmgfjbaaGreatDoorProg
import Derived.Test.YtennlckfmgfjbaaGreatDoorGCrc3
import Derived.Test.YtennlckfmgfjbaaGreatDoorGApp3
import Derived.Deep.QuietTactic
import Derived.BigQuiet
namespace Go.Proofs.YtennlckfmgfjbaaGreatDoor
open Go.RowKit
def le4 (n : Nat) : List UInt8 := [UInt8.ofNat (n % 256), UInt8.ofNat (n / 256 % 256), UInt8.ofNat (n / 65536 % 256), UInt8.ofNat (n / 16777216 % 256)]
def val4 (l : List UInt8) : Nat := (l.getD 0 0).toNat + 256 * (l.getD 1 0).toNat + 65536 * (l.getD 2 0).toNat + 16777216 * (l.getD 3 0).toNat
theorem val4_lt (l : List UInt8) : val4 l < 4294967296 := by
  have h0 := (l.getD 0 0).toNat_lt; have h1 := (l.getD 1 0).toNat_lt; have h2 := (l.getD 2 0).toNat_lt; have h3 := (l.getD 3 0).toNat_lt
  unfold val4; omega
theorem val4_le4 (n : Nat) (h : n < 4294967296) (s : List UInt8) : val4 (le4 n ++ s) = n := by
  simp only [val4, le4, List.cons_append, List.getD_cons_zero, List.getD_cons_succ, UInt8.toNat_ofNat']
  omega
theorem cells4 (a b c d : Nat) (ha : a < 256) (hb : b < 256) (hc : c < 256) (hd : d < 256) : #[Value.int .u8 (a : Int), .int .u8 (b : Int), .int .u8 (c : Int), .int .u8 (d : Int)] = (Lib.byteCells [UInt8.ofNat a, UInt8.ofNat b, UInt8.ofNat c, UInt8.ofNat d]).toArray := by
  simp only [Lib.byteCells, List.map_cons, List.map_nil, UInt8.toNat_ofNat', Nat.reducePow]
  rw [Nat.mod_eq_of_lt ha, Nat.mod_eq_of_lt hb, Nat.mod_eq_of_lt hc, Nat.mod_eq_of_lt hd]
theorem ret_i64 {a b : Int} (h : a = b) : Ending.returned (.int .i64 a) = .returned (.int .i64 b) := by rw [h]
theorem orI (m y k K : Nat) (hK : K = 2 ^ k) (hk : K ≤ 16777216) (hm : m < K) (hy : y < 256) : bits BinOp.or IntKind.i64 (m : Int) ((y : Int) * (K : Int)) = ((m + K * y : Nat) : Int) := by
  have hle : y * K ≤ 256 * 16777216 := Nat.mul_le_mul (by omega) hk
  have e : (y : Int) * (K : Int) = ((y * K : Nat) : Int) := by rw [Int.natCast_mul]
  rw [e, i64_or_nat _ _ (by omega) (by omega), Nat.or_comm, nat_join k (y * K) m (by rw [hK]; exact Nat.mul_mod_left _ _) (by rw [← hK]; exact hm), Nat.mul_comm K y, Nat.add_comm]
theorem or4 (x0 x1 x2 x3 : Nat) (h0 : x0 < 256) (h1 : x1 < 256) (h2 : x2 < 256) (h3 : x3 < 256) :
    bits BinOp.or IntKind.i64 (bits BinOp.or IntKind.i64 (bits BinOp.or IntKind.i64 (x0 : Int) ((x1 : Int) * 256)) ((x2 : Int) * 65536)) ((x3 : Int) * 16777216) = ((x0 + 256 * x1 + 65536 * x2 + 16777216 * x3 : Nat) : Int) := by
  have e1 := orI x0 x1 8 256 (by decide) (by decide) h0 h1
  have e2 := orI (x0 + 256 * x1) x2 16 65536 (by decide) (by decide) (by omega) h2
  have e3 := orI (x0 + 256 * x1 + 65536 * x2) x3 24 16777216 (by decide) (by decide) (by omega) h3
  rw [show ((x1 : Int) * 256) = (x1 : Int) * ((256 : Nat) : Int) from rfl, e1, show ((x2 : Int) * 65536) = (x2 : Int) * ((65536 : Nat) : Int) from rfl, e2, show ((x3 : Int) * 16777216) = (x3 : Int) * ((16777216 : Nat) : Int) from rfl, e3]
theorem own4 (w : World) (l : List UInt8) (cs : Array Value) (n : Nat) (hn : n = l.length) (hl : l.length ≤ maxLen) (h : cs = (Lib.byteCells l).toArray) : (w.alloc (.cells cs 5)).ownsRow w.heap.size 5 1 (.slice (some ⟨w.heap.size, 0, none⟩) n n) l.length (Lib.byteCells l) := by
  subst h hn
  have := World.ownsRow_lit (e := 5) (size := 1) (base := w.heap.size) w (Lib.byteCells l).toArray l.length (Nat.le_refl _) hl (by simp [Lib.byteCells])
  simpa using this

end Go.Proofs.YtennlckfmgfjbaaGreatDoor
