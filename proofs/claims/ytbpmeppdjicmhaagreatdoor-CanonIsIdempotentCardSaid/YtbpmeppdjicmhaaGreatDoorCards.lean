/-
  DERIVED. GIVEN WITH THE SEED: THE CARDS: each row of YtbpmeppdjicmhaaGreatDoorRows.lean that lists a variable, with what it lists TIED to the program's text (the seventh form; the later family's looks); each row that meets fmt, with fmt's text TOLD by the authors' own Lean function (tested against real Go, not proved from fmt's source: count such statements apart). THE CARD IS WHAT COUNTS. Prove the row's statement (the work); the ties are given (YtbpmeppdjicmhaaGreatDoorTie.lean); close each card by the builder's one call (the guide's Derived/Test/ToyasCard.lean, 'card_holds'). Laid BY PROGRAM, IN A SANDBOX (cutbox-door.mjs). By AI agents, Wed Nov 11 2026. No macro, syntax, notation, axiom, sorry.
-/
import Derived.Test.YtbpmeppdjicmhaaGreatDoorRows
import GoSem.ClaimSeven
namespace Go.Proofs.YtbpmeppdjicmhaaGreatDoor
namespace Rows

/-- THE TIED CARD OF 'capnplaw15.CanonMatchesReference'. -/
def canonMatchesReferenceCard : Claim7 := { stood := { row := canonMatchesReferenceRow, standIns := [], harness := (true, "ea8717a6ec7ac5c9850d83c6982b3b4d151ba42632d7326e498e21be556d61b7"), looks := true }, kinds := [], alts := [], laidByText := true, laidKinds := [.data], laidTests := true, laidLooks := .later }
def CanonMatchesReferenceCardSaid : Prop := Claim7.holds Tryz.pinned (.plain (OpenSpec.ofChange canonMatchesReferenceSpec)) canonMatchesReferenceCard

/-- THE TIED CARD OF 'capnplaw15.CanonicalizeIsCanonical'. -/
def canonicalizeIsCanonicalCard : Claim7 := { stood := { row := canonicalizeIsCanonicalRow, standIns := [], harness := (true, "ea8717a6ec7ac5c9850d83c6982b3b4d151ba42632d7326e498e21be556d61b7"), looks := true }, kinds := [], alts := [], laidByText := true, laidKinds := [.data], laidTests := true, laidLooks := .later }
def CanonicalizeIsCanonicalCardSaid : Prop := Claim7.holds Tryz.pinned (.plain (OpenSpec.ofChange canonicalizeIsCanonicalSpec)) canonicalizeIsCanonicalCard

/-- THE TIED CARD OF 'capnplaw15.CanonIsIdempotent'. -/
def canonIsIdempotentCard : Claim7 := { stood := { row := canonIsIdempotentRow, standIns := [], harness := (true, "ea8717a6ec7ac5c9850d83c6982b3b4d151ba42632d7326e498e21be556d61b7"), looks := true }, kinds := [], alts := [], laidByText := true, laidKinds := [.data], laidTests := true, laidLooks := .later }
def CanonIsIdempotentCardSaid : Prop := Claim7.holds Tryz.pinned (.plain (OpenSpec.ofChange canonIsIdempotentSpec)) canonIsIdempotentCard

/-- THE TIED CARD OF 'capnplaw15.CanonSize'. -/
def canonSizeCard : Claim7 := { stood := { row := canonSizeRow, standIns := [], harness := (true, "ea8717a6ec7ac5c9850d83c6982b3b4d151ba42632d7326e498e21be556d61b7"), looks := true }, kinds := [], alts := [], laidByText := true, laidKinds := [.data], laidTests := true, laidLooks := .later }
def CanonSizeCardSaid : Prop := Claim7.holds Tryz.pinned (.plain (OpenSpec.ofChange canonSizeSpec)) canonSizeCard

/-- THE TIED CARD OF 'capnplaw15.CanonKeeps'. -/
def canonKeepsCard : Claim7 := { stood := { row := canonKeepsRow, standIns := [], harness := (true, "ea8717a6ec7ac5c9850d83c6982b3b4d151ba42632d7326e498e21be556d61b7"), looks := true }, kinds := [], alts := [], laidByText := true, laidKinds := [.data], laidTests := true, laidLooks := .later }
def CanonKeepsCardSaid : Prop := Claim7.holds Tryz.pinned (.plain (OpenSpec.ofChange canonKeepsSpec)) canonKeepsCard

/-- THE SECOND FORM's CARD OF 'capnplaw15.CanonMatchesReference'. -/
def canonMatchesReferenceUptoCard : Claim7 := { stood := { row := canonMatchesReferenceUptoRow, standIns := [], harness := (true, "ea8717a6ec7ac5c9850d83c6982b3b4d151ba42632d7326e498e21be556d61b7"), looks := true }, kinds := [], alts := [], laidByText := true, laidKinds := [.data], laidTests := true, laidLooks := .later }
def CanonMatchesReferenceUptoCardSaid : Prop := Claim7.holds Tryz.pinned (.plain (OpenSpec.upto canonMatchesReferenceSpec)) canonMatchesReferenceUptoCard

/-- THE SECOND FORM's CARD OF 'capnplaw15.CanonicalizeIsCanonical'. -/
def canonicalizeIsCanonicalUptoCard : Claim7 := { stood := { row := canonicalizeIsCanonicalUptoRow, standIns := [], harness := (true, "ea8717a6ec7ac5c9850d83c6982b3b4d151ba42632d7326e498e21be556d61b7"), looks := true }, kinds := [], alts := [], laidByText := true, laidKinds := [.data], laidTests := true, laidLooks := .later }
def CanonicalizeIsCanonicalUptoCardSaid : Prop := Claim7.holds Tryz.pinned (.plain (OpenSpec.upto canonicalizeIsCanonicalSpec)) canonicalizeIsCanonicalUptoCard

/-- THE SECOND FORM's CARD OF 'capnplaw15.CanonIsIdempotent'. -/
def canonIsIdempotentUptoCard : Claim7 := { stood := { row := canonIsIdempotentUptoRow, standIns := [], harness := (true, "ea8717a6ec7ac5c9850d83c6982b3b4d151ba42632d7326e498e21be556d61b7"), looks := true }, kinds := [], alts := [], laidByText := true, laidKinds := [.data], laidTests := true, laidLooks := .later }
def CanonIsIdempotentUptoCardSaid : Prop := Claim7.holds Tryz.pinned (.plain (OpenSpec.upto canonIsIdempotentSpec)) canonIsIdempotentUptoCard

/-- THE SECOND FORM's CARD OF 'capnplaw15.CanonSize'. -/
def canonSizeUptoCard : Claim7 := { stood := { row := canonSizeUptoRow, standIns := [], harness := (true, "ea8717a6ec7ac5c9850d83c6982b3b4d151ba42632d7326e498e21be556d61b7"), looks := true }, kinds := [], alts := [], laidByText := true, laidKinds := [.data], laidTests := true, laidLooks := .later }
def CanonSizeUptoCardSaid : Prop := Claim7.holds Tryz.pinned (.plain (OpenSpec.upto canonSizeSpec)) canonSizeUptoCard

/-- THE SECOND FORM's CARD OF 'capnplaw15.CanonKeeps'. -/
def canonKeepsUptoCard : Claim7 := { stood := { row := canonKeepsUptoRow, standIns := [], harness := (true, "ea8717a6ec7ac5c9850d83c6982b3b4d151ba42632d7326e498e21be556d61b7"), looks := true }, kinds := [], alts := [], laidByText := true, laidKinds := [.data], laidTests := true, laidLooks := .later }
def CanonKeepsUptoCardSaid : Prop := Claim7.holds Tryz.pinned (.plain (OpenSpec.upto canonKeepsSpec)) canonKeepsUptoCard
end Rows
end Go.Proofs.YtbpmeppdjicmhaaGreatDoor
