/-
  DERIVED. GIVEN WITH THE SEED: THE CARDS: each row of YtfigoblpkbpenaaDoorRows.lean that lists a variable, with what it lists TIED to the program's text (the seventh form; the later family's looks); each row that meets fmt, with fmt's text TOLD by the authors' own Lean function (tested against real Go, not proved from fmt's source: count such statements apart). THE CARD IS WHAT COUNTS. Prove the row's statement (the work); the ties are given (YtfigoblpkbpenaaDoorTie.lean); close each card by the builder's one call (the guide's Derived/Test/ToyasCard.lean, 'card_holds'). Laid BY PROGRAM, IN A SANDBOX (cutbox-door.mjs). By AI agents, Wed Nov 11 2026. No macro, syntax, notation, axiom, sorry.
-/
import Derived.Test.YtfigoblpkbpenaaDoorRows
import GoSem.ClaimSeven
namespace Go.Proofs.YtfigoblpkbpenaaDoor
namespace Rows

/-- THE TIED CARD OF 'capnplaw14.CanonwriteMatchesReference'. -/
def canonwriteMatchesReferenceCard : Claim7 := { stood := { row := canonwriteMatchesReferenceRow, standIns := [], harness := (true, "9556283dbb3f3ceeed5b579fee4fd68ea8940c2a4abee1777dbe8fdf3596ee90"), looks := false }, kinds := [], alts := [], laidByText := true, laidKinds := [.data], laidTests := true, laidLooks := .later }
def CanonwriteMatchesReferenceCardSaid : Prop := Claim7.holds Tryd.pinned (.plain (OpenSpec.ofChange canonwriteMatchesReferenceSpec)) canonwriteMatchesReferenceCard

/-- THE TIED CARD OF 'capnplaw14.CanonwriteIsInjective'. -/
def canonwriteIsInjectiveCard : Claim7 := { stood := { row := canonwriteIsInjectiveRow, standIns := [], harness := (true, "9556283dbb3f3ceeed5b579fee4fd68ea8940c2a4abee1777dbe8fdf3596ee90"), looks := false }, kinds := [], alts := [], laidByText := true, laidKinds := [.data], laidTests := true, laidLooks := .later }
def CanonwriteIsInjectiveCardSaid : Prop := Claim7.holds Tryd.pinned (.plain (OpenSpec.ofChange canonwriteIsInjectiveSpec)) canonwriteIsInjectiveCard

/-- THE TIED CARD OF 'capnplaw14.CanonwriteNests'. -/
def canonwriteNestsCard : Claim7 := { stood := { row := canonwriteNestsRow, standIns := [], harness := (true, "9556283dbb3f3ceeed5b579fee4fd68ea8940c2a4abee1777dbe8fdf3596ee90"), looks := false }, kinds := [], alts := [], laidByText := true, laidKinds := [.data], laidTests := true, laidLooks := .later }
def CanonwriteNestsCardSaid : Prop := Claim7.holds Tryd.pinned (.plain (OpenSpec.ofChange canonwriteNestsSpec)) canonwriteNestsCard

/-- THE TIED CARD OF 'capnplaw14.CanonwriteKeeps'. -/
def canonwriteKeepsCard : Claim7 := { stood := { row := canonwriteKeepsRow, standIns := [], harness := (true, "9556283dbb3f3ceeed5b579fee4fd68ea8940c2a4abee1777dbe8fdf3596ee90"), looks := false }, kinds := [], alts := [], laidByText := true, laidKinds := [.data], laidTests := true, laidLooks := .later }
def CanonwriteKeepsCardSaid : Prop := Claim7.holds Tryd.pinned (.plain (OpenSpec.ofChange canonwriteKeepsSpec)) canonwriteKeepsCard

/-- THE SECOND FORM's CARD OF 'capnplaw14.CanonwriteMatchesReference'. -/
def canonwriteMatchesReferenceUptoCard : Claim7 := { stood := { row := canonwriteMatchesReferenceUptoRow, standIns := [], harness := (true, "9556283dbb3f3ceeed5b579fee4fd68ea8940c2a4abee1777dbe8fdf3596ee90"), looks := false }, kinds := [], alts := [], laidByText := true, laidKinds := [.data], laidTests := true, laidLooks := .later }
def CanonwriteMatchesReferenceUptoCardSaid : Prop := Claim7.holds Tryd.pinned (.plain (OpenSpec.upto canonwriteMatchesReferenceSpec)) canonwriteMatchesReferenceUptoCard

/-- THE SECOND FORM's CARD OF 'capnplaw14.CanonwriteIsInjective'. -/
def canonwriteIsInjectiveUptoCard : Claim7 := { stood := { row := canonwriteIsInjectiveUptoRow, standIns := [], harness := (true, "9556283dbb3f3ceeed5b579fee4fd68ea8940c2a4abee1777dbe8fdf3596ee90"), looks := false }, kinds := [], alts := [], laidByText := true, laidKinds := [.data], laidTests := true, laidLooks := .later }
def CanonwriteIsInjectiveUptoCardSaid : Prop := Claim7.holds Tryd.pinned (.plain (OpenSpec.upto canonwriteIsInjectiveSpec)) canonwriteIsInjectiveUptoCard

/-- THE SECOND FORM's CARD OF 'capnplaw14.CanonwriteNests'. -/
def canonwriteNestsUptoCard : Claim7 := { stood := { row := canonwriteNestsUptoRow, standIns := [], harness := (true, "9556283dbb3f3ceeed5b579fee4fd68ea8940c2a4abee1777dbe8fdf3596ee90"), looks := false }, kinds := [], alts := [], laidByText := true, laidKinds := [.data], laidTests := true, laidLooks := .later }
def CanonwriteNestsUptoCardSaid : Prop := Claim7.holds Tryd.pinned (.plain (OpenSpec.upto canonwriteNestsSpec)) canonwriteNestsUptoCard

/-- THE SECOND FORM's CARD OF 'capnplaw14.CanonwriteKeeps'. -/
def canonwriteKeepsUptoCard : Claim7 := { stood := { row := canonwriteKeepsUptoRow, standIns := [], harness := (true, "9556283dbb3f3ceeed5b579fee4fd68ea8940c2a4abee1777dbe8fdf3596ee90"), looks := false }, kinds := [], alts := [], laidByText := true, laidKinds := [.data], laidTests := true, laidLooks := .later }
def CanonwriteKeepsUptoCardSaid : Prop := Claim7.holds Tryd.pinned (.plain (OpenSpec.upto canonwriteKeepsSpec)) canonwriteKeepsUptoCard
end Rows
end Go.Proofs.YtfigoblpkbpenaaDoor
