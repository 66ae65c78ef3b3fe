/-
  DERIVED. GIVEN WITH THE SEED: THE CARDS: each row of YtkgcllkocoojdaaGreatDoorRows.lean that lists a variable, with what it lists TIED to the program's text (the seventh form; the later family's looks); each row that meets fmt, with fmt's text TOLD by the authors' own Lean function (tested against real Go, not proved from fmt's source: count such statements apart). THE CARD IS WHAT COUNTS. Prove the row's statement (the work); the ties are given (YtkgcllkocoojdaaGreatDoorTie.lean); close each card by the builder's one call (the guide's Derived/Test/ToyasCard.lean, 'card_holds'). Laid BY PROGRAM, IN A SANDBOX (cutbox-door.mjs). By AI agents, Wed Nov 11 2026. No macro, syntax, notation, axiom, sorry.
-/
import Derived.Test.YtkgcllkocoojdaaGreatDoorRows
import GoSem.ClaimSeven
namespace Go.Proofs.YtkgcllkocoojdaaGreatDoor
namespace Rows

/-- THE TIED CARD OF 'althinglaw05.SnapChunks'. -/
def snapChunksCard : Claim7 := { stood := { row := snapChunksRow, standIns := [], harness := (true, "d4fc2dbdbc105a7b99f6a35915df8f88643fdff1aad6fde6cac2bb6a1b5adcfe"), looks := true }, kinds := [], alts := [], laidByText := true, laidKinds := [.data, .data, .data, .sentinel, .sentinel, .sentinel], laidTests := true, laidLooks := .later }
def SnapChunksCardSaid : Prop := Claim7.holds Tryz.pinned (.plain (OpenSpec.ofChange snapChunksSpec)) snapChunksCard

/-- THE TIED CARD OF 'althinglaw05.SnapBack'. -/
def snapBackCard : Claim7 := { stood := { row := snapBackRow, standIns := [], harness := (true, "d4fc2dbdbc105a7b99f6a35915df8f88643fdff1aad6fde6cac2bb6a1b5adcfe"), looks := true }, kinds := [], alts := [], laidByText := true, laidKinds := [.data, .data, .data, .sentinel, .sentinel, .sentinel], laidTests := true, laidLooks := .later }
def SnapBackCardSaid : Prop := Claim7.holds Tryz.pinned (.plain (OpenSpec.ofChange snapBackSpec)) snapBackCard

/-- THE TIED CARD OF 'althinglaw07.ZtreePlays'. -/
def ztreePlaysCard : Claim7 := { stood := { row := ztreePlaysRow, standIns := [], harness := (true, "d4fc2dbdbc105a7b99f6a35915df8f88643fdff1aad6fde6cac2bb6a1b5adcfe"), looks := true }, kinds := [], alts := [], laidByText := true, laidKinds := [.data, .data, .data, .sentinel], laidTests := true, laidLooks := .later }
def ZtreePlaysCardSaid : Prop := Claim7.holds Tryz.pinned (.plain (OpenSpec.ofChange ztreePlaysSpec)) ztreePlaysCard

/-- THE TIED CARD OF 'althinglaw07.ZtreeDecodes'. -/
def ztreeDecodesCard : Claim7 := { stood := { row := ztreeDecodesRow, standIns := [], harness := (true, "d4fc2dbdbc105a7b99f6a35915df8f88643fdff1aad6fde6cac2bb6a1b5adcfe"), looks := true }, kinds := [], alts := [], laidByText := true, laidKinds := [.data, .data, .data, .sentinel], laidTests := true, laidLooks := .later }
def ZtreeDecodesCardSaid : Prop := Claim7.holds Tryz.pinned (.plain (OpenSpec.ofChange ztreeDecodesSpec)) ztreeDecodesCard

/-- THE TIED CARD OF 'althinglaw08.MultiPlays'. -/
def multiPlaysCard : Claim7 := { stood := { row := multiPlaysRow, standIns := [], harness := (true, "d4fc2dbdbc105a7b99f6a35915df8f88643fdff1aad6fde6cac2bb6a1b5adcfe"), looks := true }, kinds := [], alts := [], laidByText := true, laidKinds := [.data, .data, .data, .data, .sentinel, .pinned], laidTests := true, laidLooks := .later }
def MultiPlaysCardSaid : Prop := Claim7.holds Tryz.pinned (.plain (OpenSpec.ofChange multiPlaysSpec)) multiPlaysCard

/-- THE TIED CARD OF 'althinglaw08.MultiWhole'. -/
def multiWholeCard : Claim7 := { stood := { row := multiWholeRow, standIns := [], harness := (true, "d4fc2dbdbc105a7b99f6a35915df8f88643fdff1aad6fde6cac2bb6a1b5adcfe"), looks := true }, kinds := [], alts := [], laidByText := true, laidKinds := [.data, .data, .data, .data, .sentinel, .pinned], laidTests := true, laidLooks := .later }
def MultiWholeCardSaid : Prop := Claim7.holds Tryz.pinned (.plain (OpenSpec.ofChange multiWholeSpec)) multiWholeCard

/-- THE TIED CARD OF 'althinglaw08.MultiBounds'. -/
def multiBoundsCard : Claim7 := { stood := { row := multiBoundsRow, standIns := [], harness := (true, "d4fc2dbdbc105a7b99f6a35915df8f88643fdff1aad6fde6cac2bb6a1b5adcfe"), looks := true }, kinds := [], alts := [], laidByText := true, laidKinds := [.data, .data, .data, .data, .sentinel, .pinned], laidTests := true, laidLooks := .later }
def MultiBoundsCardSaid : Prop := Claim7.holds Tryz.pinned (.plain (OpenSpec.ofChange multiBoundsSpec)) multiBoundsCard

/-- THE TIED CARD OF 'althinglaw08.MultiSweeps'. -/
def multiSweepsCard : Claim7 := { stood := { row := multiSweepsRow, standIns := [], harness := (true, "d4fc2dbdbc105a7b99f6a35915df8f88643fdff1aad6fde6cac2bb6a1b5adcfe"), looks := true }, kinds := [], alts := [], laidByText := true, laidKinds := [.data, .data, .data, .data, .sentinel, .pinned], laidTests := true, laidLooks := .later }
def MultiSweepsCardSaid : Prop := Claim7.holds Tryz.pinned (.plain (OpenSpec.ofChange multiSweepsSpec)) multiSweepsCard

/-- THE TIED CARD OF 'althinglaw08.MultiPuts'. -/
def multiPutsCard : Claim7 := { stood := { row := multiPutsRow, standIns := [], harness := (true, "d4fc2dbdbc105a7b99f6a35915df8f88643fdff1aad6fde6cac2bb6a1b5adcfe"), looks := true }, kinds := [], alts := [], laidByText := true, laidKinds := [.data, .data, .data, .data, .sentinel, .pinned], laidTests := true, laidLooks := .later }
def MultiPutsCardSaid : Prop := Claim7.holds Tryz.pinned (.plain (OpenSpec.ofChange multiPutsSpec)) multiPutsCard

/-- THE TIED CARD OF 'althinglaw08.MultiApart'. -/
def multiApartCard : Claim7 := { stood := { row := multiApartRow, standIns := [], harness := (true, "d4fc2dbdbc105a7b99f6a35915df8f88643fdff1aad6fde6cac2bb6a1b5adcfe"), looks := true }, kinds := [], alts := [], laidByText := true, laidKinds := [.data, .data, .data, .data, .sentinel, .pinned], laidTests := true, laidLooks := .later }
def MultiApartCardSaid : Prop := Claim7.holds Tryz.pinned (.plain (OpenSpec.ofChange multiApartSpec)) multiApartCard

/-- THE SECOND FORM's CARD OF 'althinglaw05.SnapChunks'. -/
def snapChunksUptoCard : Claim7 := { stood := { row := snapChunksUptoRow, standIns := [], harness := (true, "d4fc2dbdbc105a7b99f6a35915df8f88643fdff1aad6fde6cac2bb6a1b5adcfe"), looks := true }, kinds := [], alts := [], laidByText := true, laidKinds := [.data, .data, .data, .sentinel, .sentinel, .sentinel], laidTests := true, laidLooks := .later }
def SnapChunksUptoCardSaid : Prop := Claim7.holds Tryz.pinned (.plain (OpenSpec.upto snapChunksSpec)) snapChunksUptoCard

/-- THE SECOND FORM's CARD OF 'althinglaw05.SnapBack'. -/
def snapBackUptoCard : Claim7 := { stood := { row := snapBackUptoRow, standIns := [], harness := (true, "d4fc2dbdbc105a7b99f6a35915df8f88643fdff1aad6fde6cac2bb6a1b5adcfe"), looks := true }, kinds := [], alts := [], laidByText := true, laidKinds := [.data, .data, .data, .sentinel, .sentinel, .sentinel], laidTests := true, laidLooks := .later }
def SnapBackUptoCardSaid : Prop := Claim7.holds Tryz.pinned (.plain (OpenSpec.upto snapBackSpec)) snapBackUptoCard

/-- THE SECOND FORM's CARD OF 'althinglaw07.ZtreePlays'. -/
def ztreePlaysUptoCard : Claim7 := { stood := { row := ztreePlaysUptoRow, standIns := [], harness := (true, "d4fc2dbdbc105a7b99f6a35915df8f88643fdff1aad6fde6cac2bb6a1b5adcfe"), looks := true }, kinds := [], alts := [], laidByText := true, laidKinds := [.data, .data, .data, .sentinel], laidTests := true, laidLooks := .later }
def ZtreePlaysUptoCardSaid : Prop := Claim7.holds Tryz.pinned (.plain (OpenSpec.upto ztreePlaysSpec)) ztreePlaysUptoCard

/-- THE SECOND FORM's CARD OF 'althinglaw07.ZtreeDecodes'. -/
def ztreeDecodesUptoCard : Claim7 := { stood := { row := ztreeDecodesUptoRow, standIns := [], harness := (true, "d4fc2dbdbc105a7b99f6a35915df8f88643fdff1aad6fde6cac2bb6a1b5adcfe"), looks := true }, kinds := [], alts := [], laidByText := true, laidKinds := [.data, .data, .data, .sentinel], laidTests := true, laidLooks := .later }
def ZtreeDecodesUptoCardSaid : Prop := Claim7.holds Tryz.pinned (.plain (OpenSpec.upto ztreeDecodesSpec)) ztreeDecodesUptoCard

/-- THE SECOND FORM's CARD OF 'althinglaw08.MultiPlays'. -/
def multiPlaysUptoCard : Claim7 := { stood := { row := multiPlaysUptoRow, standIns := [], harness := (true, "d4fc2dbdbc105a7b99f6a35915df8f88643fdff1aad6fde6cac2bb6a1b5adcfe"), looks := true }, kinds := [], alts := [], laidByText := true, laidKinds := [.data, .data, .data, .data, .sentinel, .pinned], laidTests := true, laidLooks := .later }
def MultiPlaysUptoCardSaid : Prop := Claim7.holds Tryz.pinned (.plain (OpenSpec.upto multiPlaysSpec)) multiPlaysUptoCard

/-- THE SECOND FORM's CARD OF 'althinglaw08.MultiWhole'. -/
def multiWholeUptoCard : Claim7 := { stood := { row := multiWholeUptoRow, standIns := [], harness := (true, "d4fc2dbdbc105a7b99f6a35915df8f88643fdff1aad6fde6cac2bb6a1b5adcfe"), looks := true }, kinds := [], alts := [], laidByText := true, laidKinds := [.data, .data, .data, .data, .sentinel, .pinned], laidTests := true, laidLooks := .later }
def MultiWholeUptoCardSaid : Prop := Claim7.holds Tryz.pinned (.plain (OpenSpec.upto multiWholeSpec)) multiWholeUptoCard

/-- THE SECOND FORM's CARD OF 'althinglaw08.MultiBounds'. -/
def multiBoundsUptoCard : Claim7 := { stood := { row := multiBoundsUptoRow, standIns := [], harness := (true, "d4fc2dbdbc105a7b99f6a35915df8f88643fdff1aad6fde6cac2bb6a1b5adcfe"), looks := true }, kinds := [], alts := [], laidByText := true, laidKinds := [.data, .data, .data, .data, .sentinel, .pinned], laidTests := true, laidLooks := .later }
def MultiBoundsUptoCardSaid : Prop := Claim7.holds Tryz.pinned (.plain (OpenSpec.upto multiBoundsSpec)) multiBoundsUptoCard

/-- THE SECOND FORM's CARD OF 'althinglaw08.MultiSweeps'. -/
def multiSweepsUptoCard : Claim7 := { stood := { row := multiSweepsUptoRow, standIns := [], harness := (true, "d4fc2dbdbc105a7b99f6a35915df8f88643fdff1aad6fde6cac2bb6a1b5adcfe"), looks := true }, kinds := [], alts := [], laidByText := true, laidKinds := [.data, .data, .data, .data, .sentinel, .pinned], laidTests := true, laidLooks := .later }
def MultiSweepsUptoCardSaid : Prop := Claim7.holds Tryz.pinned (.plain (OpenSpec.upto multiSweepsSpec)) multiSweepsUptoCard

/-- THE SECOND FORM's CARD OF 'althinglaw08.MultiPuts'. -/
def multiPutsUptoCard : Claim7 := { stood := { row := multiPutsUptoRow, standIns := [], harness := (true, "d4fc2dbdbc105a7b99f6a35915df8f88643fdff1aad6fde6cac2bb6a1b5adcfe"), looks := true }, kinds := [], alts := [], laidByText := true, laidKinds := [.data, .data, .data, .data, .sentinel, .pinned], laidTests := true, laidLooks := .later }
def MultiPutsUptoCardSaid : Prop := Claim7.holds Tryz.pinned (.plain (OpenSpec.upto multiPutsSpec)) multiPutsUptoCard

/-- THE SECOND FORM's CARD OF 'althinglaw08.MultiApart'. -/
def multiApartUptoCard : Claim7 := { stood := { row := multiApartUptoRow, standIns := [], harness := (true, "d4fc2dbdbc105a7b99f6a35915df8f88643fdff1aad6fde6cac2bb6a1b5adcfe"), looks := true }, kinds := [], alts := [], laidByText := true, laidKinds := [.data, .data, .data, .data, .sentinel, .pinned], laidTests := true, laidLooks := .later }
def MultiApartUptoCardSaid : Prop := Claim7.holds Tryz.pinned (.plain (OpenSpec.upto multiApartSpec)) multiApartUptoCard
end Rows
end Go.Proofs.YtkgcllkocoojdaaGreatDoor
