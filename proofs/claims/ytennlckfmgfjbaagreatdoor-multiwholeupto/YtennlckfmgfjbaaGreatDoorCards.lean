/-
  DERIVED. GIVEN WITH THE SEED: THE CARDS: each row of YtennlckfmgfjbaaGreatDoorRows.lean that lists a variable, with what it lists TIED to the program's text (the seventh form; the later family's looks); each row that meets fmt, with fmt's text TOLD by the authors' own Lean function (tested against real Go, not proved from fmt's source: count such statements apart). THE CARD IS WHAT COUNTS. Prove the row's statement (the work); the ties are given (YtennlckfmgfjbaaGreatDoorTie.lean); close each card by the builder's one call (the guide's Derived/Test/ToyasCard.lean, 'card_holds'). Laid BY PROGRAM, IN A SANDBOX (cutbox-door.mjs). By AI agents, Wed Nov 11 2026. No macro, syntax, notation, axiom, sorry.
-/
import Derived.Test.YtennlckfmgfjbaaGreatDoorRows
import GoSem.ClaimSeven
namespace Go.Proofs.YtennlckfmgfjbaaGreatDoor
namespace Rows

/-- THE TIED CARD OF 'althinglaw08.MultiWhole'. -/
def multiWholeCard : Claim7 := { stood := { row := multiWholeRow, standIns := [], harness := (true, "ad405274ce490d3c4fc146f7af1279b4d022b95465dae96226ae5d8d967c0d8a"), looks := false }, kinds := [], alts := [], laidByText := true, laidKinds := [.data, .data, .data, .data, .sentinel, .pinned], laidTests := true, laidLooks := .later }
def MultiWholeCardSaid : Prop := Claim7.holds Tryz.pinned (.plain (OpenSpec.ofChange multiWholeSpec)) multiWholeCard

/-- THE TIED CARD OF 'althinglaw08.MultiSweeps'. -/
def multiSweepsCard : Claim7 := { stood := { row := multiSweepsRow, standIns := [], harness := (true, "ad405274ce490d3c4fc146f7af1279b4d022b95465dae96226ae5d8d967c0d8a"), looks := false }, kinds := [], alts := [], laidByText := true, laidKinds := [.data, .data, .data, .data, .sentinel, .pinned], laidTests := true, laidLooks := .later }
def MultiSweepsCardSaid : Prop := Claim7.holds Tryz.pinned (.plain (OpenSpec.ofChange multiSweepsSpec)) multiSweepsCard

/-- THE TIED CARD OF 'althinglaw08.MultiApart'. -/
def multiApartCard : Claim7 := { stood := { row := multiApartRow, standIns := [], harness := (true, "ad405274ce490d3c4fc146f7af1279b4d022b95465dae96226ae5d8d967c0d8a"), looks := false }, kinds := [], alts := [], laidByText := true, laidKinds := [.data, .data, .data, .data, .sentinel, .pinned], laidTests := true, laidLooks := .later }
def MultiApartCardSaid : Prop := Claim7.holds Tryz.pinned (.plain (OpenSpec.ofChange multiApartSpec)) multiApartCard

/-- THE SECOND FORM's CARD OF 'althinglaw08.MultiWhole'. -/
def multiWholeUptoCard : Claim7 := { stood := { row := multiWholeUptoRow, standIns := [], harness := (true, "ad405274ce490d3c4fc146f7af1279b4d022b95465dae96226ae5d8d967c0d8a"), looks := false }, kinds := [], alts := [], laidByText := true, laidKinds := [.data, .data, .data, .data, .sentinel, .pinned], laidTests := true, laidLooks := .later }
def MultiWholeUptoCardSaid : Prop := Claim7.holds Tryz.pinned (.plain (OpenSpec.upto multiWholeSpec)) multiWholeUptoCard

/-- THE SECOND FORM's CARD OF 'althinglaw08.MultiSweeps'. -/
def multiSweepsUptoCard : Claim7 := { stood := { row := multiSweepsUptoRow, standIns := [], harness := (true, "ad405274ce490d3c4fc146f7af1279b4d022b95465dae96226ae5d8d967c0d8a"), looks := false }, kinds := [], alts := [], laidByText := true, laidKinds := [.data, .data, .data, .data, .sentinel, .pinned], laidTests := true, laidLooks := .later }
def MultiSweepsUptoCardSaid : Prop := Claim7.holds Tryz.pinned (.plain (OpenSpec.upto multiSweepsSpec)) multiSweepsUptoCard

/-- THE SECOND FORM's CARD OF 'althinglaw08.MultiApart'. -/
def multiApartUptoCard : Claim7 := { stood := { row := multiApartUptoRow, standIns := [], harness := (true, "ad405274ce490d3c4fc146f7af1279b4d022b95465dae96226ae5d8d967c0d8a"), looks := false }, kinds := [], alts := [], laidByText := true, laidKinds := [.data, .data, .data, .data, .sentinel, .pinned], laidTests := true, laidLooks := .later }
def MultiApartUptoCardSaid : Prop := Claim7.holds Tryz.pinned (.plain (OpenSpec.upto multiApartSpec)) multiApartUptoCard
end Rows
end Go.Proofs.YtennlckfmgfjbaaGreatDoor
