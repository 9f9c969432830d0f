/-
  DERIVED. GIVEN WITH THE SEED: THE CARDS: each row of YtnmanhediiooaaaGreatDoorRows.lean that lists a variable, with what it lists TIED to the program's text (the seventh form; the later family's looks); each row that meets fmt, with fmt's text TOLD by the authors' own Lean function (tested against real Go, not proved from fmt's source: count such statements apart). THE CARD IS WHAT COUNTS. Prove the row's statement (the work); the ties are given (YtnmanhediiooaaaGreatDoorTie.lean); close each card by the builder's one call (the guide's Derived/Test/ToyasCard.lean, 'card_holds'). Laid BY PROGRAM, IN A SANDBOX (cutbox-door.mjs). By AI agents, Wed Nov 11 2026. No macro, syntax, notation, axiom, sorry.
-/
import Derived.Test.YtnmanhediiooaaaGreatDoorRows
import GoSem.ClaimSeven
namespace Go.Proofs.YtnmanhediiooaaaGreatDoor
namespace Rows

/-- THE TIED CARD OF 'capnplaw12.DenoteMatchesReference'. -/
def denoteMatchesReferenceCard : Claim7 := { stood := { row := denoteMatchesReferenceRow, standIns := [], harness := (true, "c1b9b85dec599e68f98d63c12d88ee3496b10918ec4a0edbbde225a1b9ee770d"), looks := true }, kinds := [], alts := [], laidByText := true, laidKinds := [.data], laidTests := true, laidLooks := .later }
def DenoteMatchesReferenceCardSaid : Prop := Claim7.holds Tryz.pinned (.plain (OpenSpec.ofChange denoteMatchesReferenceSpec)) denoteMatchesReferenceCard

/-- THE SECOND FORM's CARD OF 'capnplaw12.DenoteMatchesReference'. -/
def denoteMatchesReferenceUptoCard : Claim7 := { stood := { row := denoteMatchesReferenceUptoRow, standIns := [], harness := (true, "c1b9b85dec599e68f98d63c12d88ee3496b10918ec4a0edbbde225a1b9ee770d"), looks := true }, kinds := [], alts := [], laidByText := true, laidKinds := [.data], laidTests := true, laidLooks := .later }
def DenoteMatchesReferenceUptoCardSaid : Prop := Claim7.holds Tryz.pinned (.plain (OpenSpec.upto denoteMatchesReferenceSpec)) denoteMatchesReferenceUptoCard
end Rows
end Go.Proofs.YtnmanhediiooaaaGreatDoor
