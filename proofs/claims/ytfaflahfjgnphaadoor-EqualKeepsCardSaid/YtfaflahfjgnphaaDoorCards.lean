/-
  DERIVED. GIVEN WITH THE SEED: THE CARDS: each row of YtfaflahfjgnphaaDoorRows.lean that lists a variable, with what it lists TIED to the program's text (the seventh form; the later family's looks); each row that meets fmt, with fmt's text TOLD by the authors' own Lean function (tested against real Go, not proved from fmt's source: count such statements apart). THE CARD IS WHAT COUNTS. Prove the row's statement (the work); the ties are given (YtfaflahfjgnphaaDoorTie.lean); close each card by the builder's one call (the guide's Derived/Test/ToyasCard.lean, 'card_holds'). Laid BY PROGRAM, IN A SANDBOX (cutbox-door.mjs). By AI agents, Wed Nov 11 2026. No macro, syntax, notation, axiom, sorry.
-/
import Derived.Test.YtfaflahfjgnphaaDoorRows
import GoSem.ClaimSeven
namespace Go.Proofs.YtfaflahfjgnphaaDoor
namespace Rows

/-- THE TIED CARD OF 'capnplaw17.EqualIsEquivalence'. -/
def equalIsEquivalenceCard : Claim7 := { stood := { row := equalIsEquivalenceRow, standIns := [], harness := (true, "3479c9bcc394899579c1f554754d147465d788fad50525e3f82f31f32c15515b"), looks := true }, kinds := [], alts := [], laidByText := true, laidKinds := [.data], laidTests := true, laidLooks := .later }
def EqualIsEquivalenceCardSaid : Prop := Claim7.holds Tryd.pinned (.plain (OpenSpec.ofChange equalIsEquivalenceSpec)) equalIsEquivalenceCard

/-- THE TIED CARD OF 'capnplaw17.EqualData'. -/
def equalDataCard : Claim7 := { stood := { row := equalDataRow, standIns := [], harness := (true, "3479c9bcc394899579c1f554754d147465d788fad50525e3f82f31f32c15515b"), looks := true }, kinds := [], alts := [], laidByText := true, laidKinds := [.data], laidTests := true, laidLooks := .later }
def EqualDataCardSaid : Prop := Claim7.holds Tryd.pinned (.plain (OpenSpec.ofChange equalDataSpec)) equalDataCard

/-- THE TIED CARD OF 'capnplaw17.EqualKeeps'. -/
def equalKeepsCard : Claim7 := { stood := { row := equalKeepsRow, standIns := [], harness := (true, "3479c9bcc394899579c1f554754d147465d788fad50525e3f82f31f32c15515b"), looks := true }, kinds := [], alts := [], laidByText := true, laidKinds := [.data], laidTests := true, laidLooks := .later }
def EqualKeepsCardSaid : Prop := Claim7.holds Tryd.pinned (.plain (OpenSpec.ofChange equalKeepsSpec)) equalKeepsCard

/-- THE SECOND FORM's CARD OF 'capnplaw17.EqualIsEquivalence'. -/
def equalIsEquivalenceUptoCard : Claim7 := { stood := { row := equalIsEquivalenceUptoRow, standIns := [], harness := (true, "3479c9bcc394899579c1f554754d147465d788fad50525e3f82f31f32c15515b"), looks := true }, kinds := [], alts := [], laidByText := true, laidKinds := [.data], laidTests := true, laidLooks := .later }
def EqualIsEquivalenceUptoCardSaid : Prop := Claim7.holds Tryd.pinned (.plain (OpenSpec.upto equalIsEquivalenceSpec)) equalIsEquivalenceUptoCard

/-- THE SECOND FORM's CARD OF 'capnplaw17.EqualData'. -/
def equalDataUptoCard : Claim7 := { stood := { row := equalDataUptoRow, standIns := [], harness := (true, "3479c9bcc394899579c1f554754d147465d788fad50525e3f82f31f32c15515b"), looks := true }, kinds := [], alts := [], laidByText := true, laidKinds := [.data], laidTests := true, laidLooks := .later }
def EqualDataUptoCardSaid : Prop := Claim7.holds Tryd.pinned (.plain (OpenSpec.upto equalDataSpec)) equalDataUptoCard

/-- THE SECOND FORM's CARD OF 'capnplaw17.EqualKeeps'. -/
def equalKeepsUptoCard : Claim7 := { stood := { row := equalKeepsUptoRow, standIns := [], harness := (true, "3479c9bcc394899579c1f554754d147465d788fad50525e3f82f31f32c15515b"), looks := true }, kinds := [], alts := [], laidByText := true, laidKinds := [.data], laidTests := true, laidLooks := .later }
def EqualKeepsUptoCardSaid : Prop := Claim7.holds Tryd.pinned (.plain (OpenSpec.upto equalKeepsSpec)) equalKeepsUptoCard
end Rows
end Go.Proofs.YtfaflahfjgnphaaDoor
