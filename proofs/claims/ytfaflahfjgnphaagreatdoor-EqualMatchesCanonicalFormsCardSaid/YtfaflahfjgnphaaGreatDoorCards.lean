/-
  DERIVED. GIVEN WITH THE SEED: THE CARDS: each row of YtfaflahfjgnphaaGreatDoorRows.lean that lists a variable, with what it lists TIED to the program's text (the seventh form; the later family's looks); each row that meets fmt, with fmt's text TOLD by the authors' own Lean function (tested against real Go, not proved from fmt's source: count such statements apart). THE CARD IS WHAT COUNTS. Prove the row's statement (the work); the ties are given (YtfaflahfjgnphaaGreatDoorTie.lean); close each card by the builder's one call (the guide's Derived/Test/ToyasCard.lean, 'card_holds'). Laid BY PROGRAM, IN A SANDBOX (cutbox-door.mjs). By AI agents, Wed Nov 11 2026. No macro, syntax, notation, axiom, sorry.
-/
import Derived.Test.YtfaflahfjgnphaaGreatDoorRows
import GoSem.ClaimSeven
namespace Go.Proofs.YtfaflahfjgnphaaGreatDoor
namespace Rows

/-- THE TIED CARD OF 'capnplaw17.EqualMatchesReference'. -/
def equalMatchesReferenceCard : Claim7 := { stood := { row := equalMatchesReferenceRow, standIns := [], harness := (true, "b65e6a6626df9732f8214ef60d9354b8ad51972ffbaf90a8c99ba2cb76c41c67"), looks := true }, kinds := [], alts := [], laidByText := true, laidKinds := [.data], laidTests := true, laidLooks := .later }
def EqualMatchesReferenceCardSaid : Prop := Claim7.holds Tryz.pinned (.plain (OpenSpec.ofChange equalMatchesReferenceSpec)) equalMatchesReferenceCard

/-- THE TIED CARD OF 'capnplaw17.EqualMatchesCanonicalForms'. -/
def equalMatchesCanonicalFormsCard : Claim7 := { stood := { row := equalMatchesCanonicalFormsRow, standIns := [], harness := (true, "b65e6a6626df9732f8214ef60d9354b8ad51972ffbaf90a8c99ba2cb76c41c67"), looks := true }, kinds := [], alts := [], laidByText := true, laidKinds := [.data], laidTests := true, laidLooks := .later }
def EqualMatchesCanonicalFormsCardSaid : Prop := Claim7.holds Tryz.pinned (.plain (OpenSpec.ofChange equalMatchesCanonicalFormsSpec)) equalMatchesCanonicalFormsCard

/-- THE SECOND FORM's CARD OF 'capnplaw17.EqualMatchesReference'. -/
def equalMatchesReferenceUptoCard : Claim7 := { stood := { row := equalMatchesReferenceUptoRow, standIns := [], harness := (true, "b65e6a6626df9732f8214ef60d9354b8ad51972ffbaf90a8c99ba2cb76c41c67"), looks := true }, kinds := [], alts := [], laidByText := true, laidKinds := [.data], laidTests := true, laidLooks := .later }
def EqualMatchesReferenceUptoCardSaid : Prop := Claim7.holds Tryz.pinned (.plain (OpenSpec.upto equalMatchesReferenceSpec)) equalMatchesReferenceUptoCard

/-- THE SECOND FORM's CARD OF 'capnplaw17.EqualMatchesCanonicalForms'. -/
def equalMatchesCanonicalFormsUptoCard : Claim7 := { stood := { row := equalMatchesCanonicalFormsUptoRow, standIns := [], harness := (true, "b65e6a6626df9732f8214ef60d9354b8ad51972ffbaf90a8c99ba2cb76c41c67"), looks := true }, kinds := [], alts := [], laidByText := true, laidKinds := [.data], laidTests := true, laidLooks := .later }
def EqualMatchesCanonicalFormsUptoCardSaid : Prop := Claim7.holds Tryz.pinned (.plain (OpenSpec.upto equalMatchesCanonicalFormsSpec)) equalMatchesCanonicalFormsUptoCard
end Rows
end Go.Proofs.YtfaflahfjgnphaaGreatDoor
