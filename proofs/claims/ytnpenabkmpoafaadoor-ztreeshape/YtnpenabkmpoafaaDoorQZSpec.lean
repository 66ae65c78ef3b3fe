/- A tree of nodes as plain data: what Create, Delete and Set do. -/
import Derived.Test.YtnpenabkmpoafaaDoorQZPure
import Derived.Test.YtnpenabkmpoafaaDoorQPDig
import Derived.Test.YtnpenabkmpoafaaDoorQPProg
set_option linter.unusedSimpArgs false
set_option linter.unusedVariables false
namespace Go.Proofs.YtnpenabkmpoafaaDoor
/-- A node. -/
structure ZN where
  data : List UInt8
  ver : Nat
  ctr : Nat
  own : Nat
  kids : Int
abbrev ZT := List (Pth × ZN)
def zroot : ZN := ⟨[], 0, 0, 0, 0⟩
def newT : ZT := [([47], zroot)]
/-- The path of the next node below this one, or the error's number. -/
def placeQ (n : ZN) (p : Pth) (seq : Bool) : Int × Pth :=
  if n.own ≠ 0 then (74, []) else if 9999999999 < n.ctr then (76, []) else
  match (if seq then sufOf p n.ctr else some p) with
  | none => (20, [])
  | some q => (0, q)
/-- The path of the node that Create makes, or the error's number. -/
def createQ (t : ZT) (p : Pth) (dl : Nat) (owner : Int) (seq : Bool) : Int × Pth :=
  match parentOf p with
  | none => (20, [])
  | some up =>
    if 256 < dl then (75, []) else if owner < 0 ∨ 4611686018427387903 < owner then (10, []) else
    match getZ up t with
    | none => (70, [])
    | some n => if (placeQ n p seq).1 ≠ 0 then ((placeQ n p seq).1, []) else if hasZ (placeQ n p seq).2 t then (71, []) else (0, (placeQ n p seq).2)
def createE (t : ZT) (p : Pth) (dl : Nat) (owner : Int) (seq : Bool) : Int := (createQ t p dl owner seq).1
def createP (t : ZT) (p : Pth) (dl : Nat) (owner : Int) (seq : Bool) : Pth := (createQ t p dl owner seq).2
/-- A node is another one, if it is there. -/
def onZ (k : Pth) (f : ZN → ZN) (t : ZT) : ZT := t.map fun x => if x.1 = k then (x.1, f x.2) else x
def createS (t : ZT) (p : Pth) (data : List UInt8) (owner : Int) (seq : Bool) : ZT :=
  if createE t p data.length owner seq = 0 then
    onZ (strO (parentOf p)) (fun n => { n with ctr := n.ctr + 1, kids := n.kids + 1 }) (putZ (createP t p data.length owner seq) ⟨data, 0, 0, owner.toNat, 0⟩ t)
  else t
def verOK (v : Int) (n : ZN) : Bool := decide (v = -1) || decide (v = n.ver)
def deleteE (t : ZT) (p : Pth) (v : Int) : Int :=
  match parentOf p with
  | none => 20
  | some up =>
    match getZ up t with
    | none => 70
    | some _ =>
      match getZ p t with
      | none => 70
      | some n => if verOK v n = false then 72 else if 0 < n.kids then 73 else 0
def deleteS (t : ZT) (p : Pth) (v : Int) : ZT :=
  if deleteE t p v = 0 then onZ (strO (parentOf p)) (fun n => { n with kids := n.kids - 1 }) (cutZ p t) else t
def setE (t : ZT) (p : Pth) (dl : Nat) (v : Int) : Int :=
  match parentOf p with
  | none => 20
  | some _ =>
    if 256 < dl then 75 else
    match getZ p t with
    | none => 70
    | some n => if verOK v n = false then 72 else 0
def setV (t : ZT) (p : Pth) (dl : Nat) (v : Int) : Int := if setE t p dl v = 0 then (match getZ p t with | some n => (n.ver : Int) + 1 | none => 0) else 0
def setS (t : ZT) (p : Pth) (data : List UInt8) (v : Int) : ZT :=
  if setE t p data.length v = 0 then onZ p (fun n => { n with data := data, ver := n.ver + 1 }) t else t
end Go.Proofs.YtnpenabkmpoafaaDoor
