/-
  No cell of these rows narrows 'for every input' (looked for: loops, veiled, ifaces, maps, wideKeys, modest, calm, conditions, laid).
  DERIVED. THE GIVEN ROWS OF THIS SEAT. 5 by the template 'for every input the law returns true; each argument reads behind the call as it read before'; 0 by the template 'total and deterministic' (their statements: YteopgcbihekcjaaTotals.lean).
  GIVEN WITH THE SEED: the statements are not yours to turn. If you find one false, say at which input.
  Laid BY PROGRAM, IN A SANDBOX (cutbox-rows.mjs): the forced cells as the released guide's own fill.sh prints them over the translation 545ed44efcee7cd5… (all of the seat's roots in one cut). By AI agents, Wed Nov 11 2026. No macro, syntax, notation, axiom, sorry.
-/
import Derived.Test.YteopgcbihekcjaaChecked
import GoSem.Claim
import GoSem.ClaimJoined
import GoSem.ClaimMapViews
import Derived.JoinedTies
import Derived.KernelRfl
namespace Go.Proofs.Yteopgcbihekcjaa
/- THE CELL 'sum', in the pinned program and in every row, IS THE sha256 OF THE DUMP (.gsa) THAT YteopgcbihekcjaaProg.lean LOADS. Nothing in Lean hashes anything: it is a label: what it is worth is what the hold of that sum in a sandbox is worth. -/
noncomputable def Try.pinned : Pinned := { name := "yteopgcbihekcjaa", sum := "545ed44efcee7cd5f7add77524f1ef49b344e3e344eb0f2018d7300e649b8c71", checked := Try.checked }
namespace Rows
def none {H : Type} : Left H := { results := [], args := [] }

/-- 'althinglaw09.VecBallots': WHATEVER THE INPUT: true; the input reads as it did. -/
def vecBallotsSpec : ChangeSpec := { name := "vecBallots", fn := fun _ => fun
  | [d1, d2, d3] => { results := [.lit (.bool true)], args := [d1, d2, d3] }
  | _ => none }
def vecBallotsRow : OpenClaim := { program := "yteopgcbihekcjaa", sum := "545ed44efcee7cd5f7add77524f1ef49b344e3e344eb0f2018d7300e649b8c71", func := "althing/althinglaw09.VecBallots", spec := "vecBallots", apart := false }
def VecBallotsSaid : Prop := vecBallotsRow.holds Try.pinned (OpenSpec.ofChange vecBallotsSpec)

/-- ITS FALSE NEIGHBOUR: 'it returns false'. Refute it at one input. -/
def vecBallotsWrong : ChangeSpec := { name := "vecBallots", fn := fun _ => fun
  | [d1, d2, d3] => { results := [.lit (.bool false)], args := [d1, d2, d3] }
  | _ => none }
def VecBallotsWrongFalsely : Prop := vecBallotsRow.holds Try.pinned (OpenSpec.ofChange vecBallotsWrong)

/-- 'althinglaw09.VecNext': WHATEVER THE INPUT: true; the input reads as it did. -/
def vecNextSpec : ChangeSpec := { name := "vecNext", fn := fun _ => fun
  | [d1, d2, d3] => { results := [.lit (.bool true)], args := [d1, d2, d3] }
  | _ => none }
def vecNextRow : OpenClaim := { program := "yteopgcbihekcjaa", sum := "545ed44efcee7cd5f7add77524f1ef49b344e3e344eb0f2018d7300e649b8c71", func := "althing/althinglaw09.VecNext", spec := "vecNext", apart := false }
def VecNextSaid : Prop := vecNextRow.holds Try.pinned (OpenSpec.ofChange vecNextSpec)

/-- ITS FALSE NEIGHBOUR: 'it returns false'. Refute it at one input. -/
def vecNextWrong : ChangeSpec := { name := "vecNext", fn := fun _ => fun
  | [d1, d2, d3] => { results := [.lit (.bool false)], args := [d1, d2, d3] }
  | _ => none }
def VecNextWrongFalsely : Prop := vecNextRow.holds Try.pinned (OpenSpec.ofChange vecNextWrong)

/-- 'althinglaw09.VecJoins': WHATEVER THE INPUT: true; the input reads as it did. -/
def vecJoinsSpec : ChangeSpec := { name := "vecJoins", fn := fun _ => fun
  | [d1, d2] => { results := [.lit (.bool true)], args := [d1, d2] }
  | _ => none }
def vecJoinsRow : OpenClaim := { program := "yteopgcbihekcjaa", sum := "545ed44efcee7cd5f7add77524f1ef49b344e3e344eb0f2018d7300e649b8c71", func := "althing/althinglaw09.VecJoins", spec := "vecJoins", apart := false }
def VecJoinsSaid : Prop := vecJoinsRow.holds Try.pinned (OpenSpec.ofChange vecJoinsSpec)

/-- ITS FALSE NEIGHBOUR: 'it returns false'. Refute it at one input. -/
def vecJoinsWrong : ChangeSpec := { name := "vecJoins", fn := fun _ => fun
  | [d1, d2] => { results := [.lit (.bool false)], args := [d1, d2] }
  | _ => none }
def VecJoinsWrongFalsely : Prop := vecJoinsRow.holds Try.pinned (OpenSpec.ofChange vecJoinsWrong)

/-- 'althinglaw09.VecCovers': WHATEVER THE INPUT: true; the input reads as it did. -/
def vecCoversSpec : ChangeSpec := { name := "vecCovers", fn := fun _ => fun
  | [d1, d2] => { results := [.lit (.bool true)], args := [d1, d2] }
  | _ => none }
def vecCoversRow : OpenClaim := { program := "yteopgcbihekcjaa", sum := "545ed44efcee7cd5f7add77524f1ef49b344e3e344eb0f2018d7300e649b8c71", func := "althing/althinglaw09.VecCovers", spec := "vecCovers", apart := false }
def VecCoversSaid : Prop := vecCoversRow.holds Try.pinned (OpenSpec.ofChange vecCoversSpec)

/-- ITS FALSE NEIGHBOUR: 'it returns false'. Refute it at one input. -/
def vecCoversWrong : ChangeSpec := { name := "vecCovers", fn := fun _ => fun
  | [d1, d2] => { results := [.lit (.bool false)], args := [d1, d2] }
  | _ => none }
def VecCoversWrongFalsely : Prop := vecCoversRow.holds Try.pinned (OpenSpec.ofChange vecCoversWrong)

/-- 'althinglaw09.VecLattice': WHATEVER THE INPUT: true; the input reads as it did. -/
def vecLatticeSpec : ChangeSpec := { name := "vecLattice", fn := fun _ => fun
  | [d1, d2, d3] => { results := [.lit (.bool true)], args := [d1, d2, d3] }
  | _ => none }
def vecLatticeRow : OpenClaim := { program := "yteopgcbihekcjaa", sum := "545ed44efcee7cd5f7add77524f1ef49b344e3e344eb0f2018d7300e649b8c71", func := "althing/althinglaw09.VecLattice", spec := "vecLattice", apart := false }
def VecLatticeSaid : Prop := vecLatticeRow.holds Try.pinned (OpenSpec.ofChange vecLatticeSpec)

/-- ITS FALSE NEIGHBOUR: 'it returns false'. Refute it at one input. -/
def vecLatticeWrong : ChangeSpec := { name := "vecLattice", fn := fun _ => fun
  | [d1, d2, d3] => { results := [.lit (.bool false)], args := [d1, d2, d3] }
  | _ => none }
def VecLatticeWrongFalsely : Prop := vecLatticeRow.holds Try.pinned (OpenSpec.ofChange vecLatticeWrong)

/- THE SECOND FORM. 'bulk': how many values and letters a reading holds, each counted each time it is reached (what is shared counts as often as it is met; a slice's spare places count too). A statement '..UptoSaid' is the law's where the arguments, and the package variables that the reading takes, are together of bulk at most 1048576: NARROWER than '..Said'. Prove '..Said' where nothing that the law and all that it calls make is longer than what came in: it says more and counts as full. Else prove '..UptoSaid'. A law counts once. -/
mutual
def uptoBulk {H : Type} : DataW H → Nat
  | .lit (.string bytes) => bytes.length + 1
  | .lit _ => 1
  | .nil => 1
  | .ptr d => uptoBulk d + 1
  | .slice elems spare => uptoBulkAll elems + uptoBulkAll spare + 1
  | .agg parts => uptoBulkAll parts + 1
  | .iface _ d => uptoBulk d + 1
  | .map entries => uptoBulkEntries entries + 1
  | .held _ => 1
def uptoBulkAll {H : Type} : List (DataW H) → Nat
  | [] => 0
  | d :: r => uptoBulk d + uptoBulkAll r
def uptoBulkEntries {H : Type} : List (Lit × DataW H) → Nat
  | [] => 0
  | x :: r => uptoBulkEntry x + uptoBulkEntries r
def uptoBulkEntry {H : Type} : Lit × DataW H → Nat
  | (.string bytes, d) => bytes.length + uptoBulk d + 1
  | (_, d) => uptoBulk d + 1
 end
def uptoSmall : (H : Type) → List (DataW H) → Bool := fun _ ds => decide (uptoBulkAll ds ≤ 1048576)
def OpenSpec.upto (s : _root_.Go.ChangeSpec) : _root_.Go.OpenSpec := { _root_.Go.OpenSpec.ofChange s with cond := some uptoSmall }

/-- 'althinglaw09.VecBallots', WHERE WHAT IT READS IS OF BULK AT MOST 1048576: true; the input reads as it did. -/
def vecBallotsUptoRow : OpenClaim := { program := "yteopgcbihekcjaa", sum := "545ed44efcee7cd5f7add77524f1ef49b344e3e344eb0f2018d7300e649b8c71", func := "althing/althinglaw09.VecBallots", spec := "vecBallots", apart := false, narrowed := true }
def VecBallotsUptoSaid : Prop := vecBallotsUptoRow.holds Try.pinned (OpenSpec.upto vecBallotsSpec)

/-- 'althinglaw09.VecNext', WHERE WHAT IT READS IS OF BULK AT MOST 1048576: true; the input reads as it did. -/
def vecNextUptoRow : OpenClaim := { program := "yteopgcbihekcjaa", sum := "545ed44efcee7cd5f7add77524f1ef49b344e3e344eb0f2018d7300e649b8c71", func := "althing/althinglaw09.VecNext", spec := "vecNext", apart := false, narrowed := true }
def VecNextUptoSaid : Prop := vecNextUptoRow.holds Try.pinned (OpenSpec.upto vecNextSpec)

/-- 'althinglaw09.VecJoins', WHERE WHAT IT READS IS OF BULK AT MOST 1048576: true; the input reads as it did. -/
def vecJoinsUptoRow : OpenClaim := { program := "yteopgcbihekcjaa", sum := "545ed44efcee7cd5f7add77524f1ef49b344e3e344eb0f2018d7300e649b8c71", func := "althing/althinglaw09.VecJoins", spec := "vecJoins", apart := false, narrowed := true }
def VecJoinsUptoSaid : Prop := vecJoinsUptoRow.holds Try.pinned (OpenSpec.upto vecJoinsSpec)

/-- 'althinglaw09.VecCovers', WHERE WHAT IT READS IS OF BULK AT MOST 1048576: true; the input reads as it did. -/
def vecCoversUptoRow : OpenClaim := { program := "yteopgcbihekcjaa", sum := "545ed44efcee7cd5f7add77524f1ef49b344e3e344eb0f2018d7300e649b8c71", func := "althing/althinglaw09.VecCovers", spec := "vecCovers", apart := false, narrowed := true }
def VecCoversUptoSaid : Prop := vecCoversUptoRow.holds Try.pinned (OpenSpec.upto vecCoversSpec)

/-- 'althinglaw09.VecLattice', WHERE WHAT IT READS IS OF BULK AT MOST 1048576: true; the input reads as it did. -/
def vecLatticeUptoRow : OpenClaim := { program := "yteopgcbihekcjaa", sum := "545ed44efcee7cd5f7add77524f1ef49b344e3e344eb0f2018d7300e649b8c71", func := "althing/althinglaw09.VecLattice", spec := "vecLattice", apart := false, narrowed := true }
def VecLatticeUptoSaid : Prop := vecLatticeUptoRow.holds Try.pinned (OpenSpec.upto vecLatticeSpec)

end Rows
end Go.Proofs.Yteopgcbihekcjaa
