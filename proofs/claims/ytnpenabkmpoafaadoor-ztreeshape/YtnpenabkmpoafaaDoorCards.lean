/-
  DERIVED. GIVEN WITH THE SEED: THE CARDS: each row of YtnpenabkmpoafaaDoorRows.lean that lists a variable, with what it lists TIED to the program's text (the seventh form; the later family's looks); each row that meets fmt, with fmt's text TOLD by the authors' own Lean function (tested against real Go, not proved from fmt's source: count such statements apart). THE CARD IS WHAT COUNTS. Prove the row's statement (the work); the ties are given (YtnpenabkmpoafaaDoorTie.lean); close each card by the builder's one call (the guide's Derived/Test/ToyasCard.lean, 'card_holds'). Laid BY PROGRAM, IN A SANDBOX (cutbox-door.mjs). By AI agents, Wed Nov 11 2026. No macro, syntax, notation, axiom, sorry.
-/
import Derived.Test.YtnpenabkmpoafaaDoorRows
import GoSem.ClaimSeven
namespace Go.Proofs.YtnpenabkmpoafaaDoor
namespace Rows

/-- THE TIED CARD OF 'althinglaw07.ZtreeShape'. -/
def ztreeShapeCard : Claim7 := { stood := { row := ztreeShapeRow, standIns := [], harness := (true, "1c0b01d9f405accb55f6c8ebe955046710cc8c96b8519b4a4cf19a30f209bbff"), looks := false }, kinds := [], alts := [], laidByText := true, laidKinds := [.data, .data, .data], laidTests := true, laidLooks := .later }
def ZtreeShapeCardSaid : Prop := Claim7.holds Tryd.pinned (.plain (OpenSpec.ofChange ztreeShapeSpec)) ztreeShapeCard

/-- THE TIED CARD OF 'althinglaw07.ZtreeNames'. -/
def ztreeNamesCard : Claim7 := { stood := { row := ztreeNamesRow, standIns := [], harness := (true, "1c0b01d9f405accb55f6c8ebe955046710cc8c96b8519b4a4cf19a30f209bbff"), looks := false }, kinds := [], alts := [], laidByText := true, laidKinds := [.data, .data, .data], laidTests := true, laidLooks := .later }
def ZtreeNamesCardSaid : Prop := Claim7.holds Tryd.pinned (.plain (OpenSpec.ofChange ztreeNamesSpec)) ztreeNamesCard

/-- THE SECOND FORM's CARD OF 'althinglaw07.ZtreeShape'. -/
def ztreeShapeUptoCard : Claim7 := { stood := { row := ztreeShapeUptoRow, standIns := [], harness := (true, "1c0b01d9f405accb55f6c8ebe955046710cc8c96b8519b4a4cf19a30f209bbff"), looks := false }, kinds := [], alts := [], laidByText := true, laidKinds := [.data, .data, .data], laidTests := true, laidLooks := .later }
def ZtreeShapeUptoCardSaid : Prop := Claim7.holds Tryd.pinned (.plain (OpenSpec.upto ztreeShapeSpec)) ztreeShapeUptoCard

/-- THE SECOND FORM's CARD OF 'althinglaw07.ZtreeNames'. -/
def ztreeNamesUptoCard : Claim7 := { stood := { row := ztreeNamesUptoRow, standIns := [], harness := (true, "1c0b01d9f405accb55f6c8ebe955046710cc8c96b8519b4a4cf19a30f209bbff"), looks := false }, kinds := [], alts := [], laidByText := true, laidKinds := [.data, .data, .data], laidTests := true, laidLooks := .later }
def ZtreeNamesUptoCardSaid : Prop := Claim7.holds Tryd.pinned (.plain (OpenSpec.upto ztreeNamesSpec)) ztreeNamesUptoCard
end Rows
end Go.Proofs.YtnpenabkmpoafaaDoor
