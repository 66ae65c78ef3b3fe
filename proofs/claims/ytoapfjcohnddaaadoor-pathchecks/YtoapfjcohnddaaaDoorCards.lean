/-
  DERIVED. GIVEN WITH THE SEED: THE CARDS: each row of YtoapfjcohnddaaaDoorRows.lean that lists a variable, with what it lists TIED to the program's text (the seventh form; the later family's looks); each row that meets fmt, with fmt's text TOLD by the authors' own Lean function (tested against real Go, not proved from fmt's source: count such statements apart). THE CARD IS WHAT COUNTS. Prove the row's statement (the work); the ties are given (YtoapfjcohnddaaaDoorTie.lean); close each card by the builder's one call (the guide's Derived/Test/ToyasCard.lean, 'card_holds'). Laid BY PROGRAM, IN A SANDBOX (cutbox-door.mjs). By AI agents, Wed Nov 11 2026. No macro, syntax, notation, axiom, sorry.
-/
import Derived.Test.YtoapfjcohnddaaaDoorRows
import GoSem.ClaimSeven
namespace Go.Proofs.YtoapfjcohnddaaaDoor
namespace Rows

/-- THE TIED CARD OF 'althinglaw02.PathChecks'. -/
def pathChecksCard : Claim7 := { stood := { row := pathChecksRow, standIns := [], harness := (true, "1394b715892cc5527892f12b61e2500565fedf8ec6af29239cbc243d66fbb5da"), looks := false }, kinds := [], alts := [], laidByText := true, laidKinds := [.data, .pinned], laidTests := true, laidLooks := .later }
def PathChecksCardSaid : Prop := Claim7.holds Tryd.pinned (.plain (OpenSpec.ofChange pathChecksSpec)) pathChecksCard

/-- THE TIED CARD OF 'althinglaw02.PathSuffixes'. -/
def pathSuffixesCard : Claim7 := { stood := { row := pathSuffixesRow, standIns := [], harness := (true, "1394b715892cc5527892f12b61e2500565fedf8ec6af29239cbc243d66fbb5da"), looks := false }, kinds := [], alts := [], laidByText := true, laidKinds := [.data, .data, .data], laidTests := true, laidLooks := .later }
def PathSuffixesCardSaid : Prop := Claim7.holds Tryd.pinned (.plain (OpenSpec.ofChange pathSuffixesSpec)) pathSuffixesCard

/-- THE TIED CARD OF 'althinglaw02.PathOrder'. -/
def pathOrderCard : Claim7 := { stood := { row := pathOrderRow, standIns := [], harness := (true, "1394b715892cc5527892f12b61e2500565fedf8ec6af29239cbc243d66fbb5da"), looks := false }, kinds := [], alts := [], laidByText := true, laidKinds := [.data, .data, .data], laidTests := true, laidLooks := .later }
def PathOrderCardSaid : Prop := Claim7.holds Tryd.pinned (.plain (OpenSpec.ofChange pathOrderSpec)) pathOrderCard

/-- THE SECOND FORM's CARD OF 'althinglaw02.PathChecks'. -/
def pathChecksUptoCard : Claim7 := { stood := { row := pathChecksUptoRow, standIns := [], harness := (true, "1394b715892cc5527892f12b61e2500565fedf8ec6af29239cbc243d66fbb5da"), looks := false }, kinds := [], alts := [], laidByText := true, laidKinds := [.data, .pinned], laidTests := true, laidLooks := .later }
def PathChecksUptoCardSaid : Prop := Claim7.holds Tryd.pinned (.plain (OpenSpec.upto pathChecksSpec)) pathChecksUptoCard

/-- THE SECOND FORM's CARD OF 'althinglaw02.PathSuffixes'. -/
def pathSuffixesUptoCard : Claim7 := { stood := { row := pathSuffixesUptoRow, standIns := [], harness := (true, "1394b715892cc5527892f12b61e2500565fedf8ec6af29239cbc243d66fbb5da"), looks := false }, kinds := [], alts := [], laidByText := true, laidKinds := [.data, .data, .data], laidTests := true, laidLooks := .later }
def PathSuffixesUptoCardSaid : Prop := Claim7.holds Tryd.pinned (.plain (OpenSpec.upto pathSuffixesSpec)) pathSuffixesUptoCard

/-- THE SECOND FORM's CARD OF 'althinglaw02.PathOrder'. -/
def pathOrderUptoCard : Claim7 := { stood := { row := pathOrderUptoRow, standIns := [], harness := (true, "1394b715892cc5527892f12b61e2500565fedf8ec6af29239cbc243d66fbb5da"), looks := false }, kinds := [], alts := [], laidByText := true, laidKinds := [.data, .data, .data], laidTests := true, laidLooks := .later }
def PathOrderUptoCardSaid : Prop := Claim7.holds Tryd.pinned (.plain (OpenSpec.upto pathOrderSpec)) pathOrderUptoCard
end Rows
end Go.Proofs.YtoapfjcohnddaaaDoor
