/-
  DERIVED. GIVEN WITH THE SEED: THE CARDS: each row of YtnmanhediiooaaaDoorRows.lean that lists a variable, with what it lists TIED to the program's text (the seventh form; the later family's looks); each row that meets fmt, with fmt's text TOLD by the authors' own Lean function (tested against real Go, not proved from fmt's source: count such statements apart). THE CARD IS WHAT COUNTS. Prove the row's statement (the work); the ties are given (YtnmanhediiooaaaDoorTie.lean); close each card by the builder's one call (the guide's Derived/Test/ToyasCard.lean, 'card_holds'). Laid BY PROGRAM, IN A SANDBOX (cutbox-door.mjs). By AI agents, Wed Nov 11 2026. No macro, syntax, notation, axiom, sorry.
-/
import Derived.Test.YtnmanhediiooaaaDoorRows
import GoSem.ClaimSeven
namespace Go.Proofs.YtnmanhediiooaaaDoor
namespace Rows

/-- THE TIED CARD OF 'capnplaw12.DenoteIsBounded'. -/
def denoteIsBoundedCard : Claim7 := { stood := { row := denoteIsBoundedRow, standIns := [], harness := (true, "ce1f2f522289f2dc4fa9445f5ff1d26ed827d3e812f57b69b18c15e1479eb289"), looks := true }, kinds := [], alts := [], laidByText := true, laidKinds := [.data], laidTests := true, laidLooks := .later }
def DenoteIsBoundedCardSaid : Prop := Claim7.holds Tryd.pinned (.plain (OpenSpec.ofChange denoteIsBoundedSpec)) denoteIsBoundedCard

/-- THE TIED CARD OF 'capnplaw12.DenoteLimitsAreMonotone'. -/
def denoteLimitsAreMonotoneCard : Claim7 := { stood := { row := denoteLimitsAreMonotoneRow, standIns := [], harness := (true, "ce1f2f522289f2dc4fa9445f5ff1d26ed827d3e812f57b69b18c15e1479eb289"), looks := true }, kinds := [], alts := [], laidByText := true, laidKinds := [.data], laidTests := true, laidLooks := .later }
def DenoteLimitsAreMonotoneCardSaid : Prop := Claim7.holds Tryd.pinned (.plain (OpenSpec.ofChange denoteLimitsAreMonotoneSpec)) denoteLimitsAreMonotoneCard

/-- THE TIED CARD OF 'capnplaw12.DenoteIgnoresUnreachableWords'. -/
def denoteIgnoresUnreachableWordsCard : Claim7 := { stood := { row := denoteIgnoresUnreachableWordsRow, standIns := [], harness := (true, "ce1f2f522289f2dc4fa9445f5ff1d26ed827d3e812f57b69b18c15e1479eb289"), looks := true }, kinds := [], alts := [], laidByText := true, laidKinds := [.data], laidTests := true, laidLooks := .later }
def DenoteIgnoresUnreachableWordsCardSaid : Prop := Claim7.holds Tryd.pinned (.plain (OpenSpec.ofChange denoteIgnoresUnreachableWordsSpec)) denoteIgnoresUnreachableWordsCard

/-- THE TIED CARD OF 'capnplaw12.DenoteKeepsMessage'. -/
def denoteKeepsMessageCard : Claim7 := { stood := { row := denoteKeepsMessageRow, standIns := [], harness := (true, "ce1f2f522289f2dc4fa9445f5ff1d26ed827d3e812f57b69b18c15e1479eb289"), looks := true }, kinds := [], alts := [], laidByText := true, laidKinds := [.data], laidTests := true, laidLooks := .later }
def DenoteKeepsMessageCardSaid : Prop := Claim7.holds Tryd.pinned (.plain (OpenSpec.ofChange denoteKeepsMessageSpec)) denoteKeepsMessageCard

/-- THE SECOND FORM's CARD OF 'capnplaw12.DenoteIsBounded'. -/
def denoteIsBoundedUptoCard : Claim7 := { stood := { row := denoteIsBoundedUptoRow, standIns := [], harness := (true, "ce1f2f522289f2dc4fa9445f5ff1d26ed827d3e812f57b69b18c15e1479eb289"), looks := true }, kinds := [], alts := [], laidByText := true, laidKinds := [.data], laidTests := true, laidLooks := .later }
def DenoteIsBoundedUptoCardSaid : Prop := Claim7.holds Tryd.pinned (.plain (OpenSpec.upto denoteIsBoundedSpec)) denoteIsBoundedUptoCard

/-- THE SECOND FORM's CARD OF 'capnplaw12.DenoteLimitsAreMonotone'. -/
def denoteLimitsAreMonotoneUptoCard : Claim7 := { stood := { row := denoteLimitsAreMonotoneUptoRow, standIns := [], harness := (true, "ce1f2f522289f2dc4fa9445f5ff1d26ed827d3e812f57b69b18c15e1479eb289"), looks := true }, kinds := [], alts := [], laidByText := true, laidKinds := [.data], laidTests := true, laidLooks := .later }
def DenoteLimitsAreMonotoneUptoCardSaid : Prop := Claim7.holds Tryd.pinned (.plain (OpenSpec.upto denoteLimitsAreMonotoneSpec)) denoteLimitsAreMonotoneUptoCard

/-- THE SECOND FORM's CARD OF 'capnplaw12.DenoteIgnoresUnreachableWords'. -/
def denoteIgnoresUnreachableWordsUptoCard : Claim7 := { stood := { row := denoteIgnoresUnreachableWordsUptoRow, standIns := [], harness := (true, "ce1f2f522289f2dc4fa9445f5ff1d26ed827d3e812f57b69b18c15e1479eb289"), looks := true }, kinds := [], alts := [], laidByText := true, laidKinds := [.data], laidTests := true, laidLooks := .later }
def DenoteIgnoresUnreachableWordsUptoCardSaid : Prop := Claim7.holds Tryd.pinned (.plain (OpenSpec.upto denoteIgnoresUnreachableWordsSpec)) denoteIgnoresUnreachableWordsUptoCard

/-- THE SECOND FORM's CARD OF 'capnplaw12.DenoteKeepsMessage'. -/
def denoteKeepsMessageUptoCard : Claim7 := { stood := { row := denoteKeepsMessageUptoRow, standIns := [], harness := (true, "ce1f2f522289f2dc4fa9445f5ff1d26ed827d3e812f57b69b18c15e1479eb289"), looks := true }, kinds := [], alts := [], laidByText := true, laidKinds := [.data], laidTests := true, laidLooks := .later }
def DenoteKeepsMessageUptoCardSaid : Prop := Claim7.holds Tryd.pinned (.plain (OpenSpec.upto denoteKeepsMessageSpec)) denoteKeepsMessageUptoCard
end Rows
end Go.Proofs.YtnmanhediiooaaaDoor
