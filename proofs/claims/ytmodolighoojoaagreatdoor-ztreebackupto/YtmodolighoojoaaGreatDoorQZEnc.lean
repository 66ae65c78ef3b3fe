/- What Encode writes, as plain data. -/
import Derived.Test.YtmodolighoojoaaGreatDoorQZMd
import Derived.Test.YtmodolighoojoaaGreatDoorQZPkE
import Derived.Test.YtmodolighoojoaaGreatDoorQWri2
import Derived.Test.YtmodolighoojoaaGreatDoorQWri2f
import Derived.Test.YtmodolighoojoaaGreatDoorQRdr2
set_option linter.unusedSimpArgs false
set_option linter.unusedVariables false
namespace Go.Proofs.YtmodolighoojoaaGreatDoor
open Go.RowKit
theorem put_lenZ (n : Nat) : (put n).length ≤ 9 := putF_len 9 n
/-- A node's bytes behind its path. -/
def encRow (p : Pth) (n : ZN) : List UInt8 := (put p.length ++ p) ++ ((put n.data.length ++ n.data) ++ putAll [n.ver, n.ctr, n.own])
/-- Whether a number of a node is none that can be written. -/
def badRow (n : ZN) : Bool := badAll [n.ver, n.ctr, n.own]
def encT (t : ZT) : List UInt8 := t.flatMap fun x => encRow x.1 x.2
def badT (t : ZT) : Bool := t.any fun x => badRow x.2
/-- What Encode tells: nothing, if a number of a node can't be written. -/
def encodeP (t : ZT) : List UInt8 := if badT t then [] else encT t
theorem encT_snoc (t : ZT) (x : Pth × ZN) : encT (t ++ [x]) = encT t ++ encRow x.1 x.2 := by
  unfold encT; simp [List.flatMap_append]
theorem badT_snoc (t : ZT) (x : Pth × ZN) : badT (t ++ [x]) = (badT t || badRow x.2) := by
  unfold badT; simp
theorem encT_take (t : ZT) (k : Nat) : (encT (t.take k)).length ≤ (encT t).length := by
  have h : encT t = encT (t.take k) ++ encT (t.drop k) := by
    conv => lhs; rw [← List.take_append_drop k t]
    unfold encT
    rw [List.flatMap_append]
  rw [h, List.length_append]
  omega
/-- Every node is picked. -/
theorem pick_allE (t : ZT) : pickL (fun _ _ => true) t = t.map Prod.fst := by
  unfold pickL
  rw [List.filter_eq_self.2 (fun _ _ => rfl)]
end Go.Proofs.YtmodolighoojoaaGreatDoor
