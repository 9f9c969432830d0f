/-
  NARROWER THAN 'FOR EVERY INPUT', by the rows' own cells (each row's printed sentence says how): ResolveMatchesReference: laid · ResolvedObjectsAreInBounds: laid · ResolveStructs: laid · ResolveThroughFar: laid · ResolveElements: laid.
  DERIVED. THE GIVEN ROWS OF THIS SEAT. 5 by the template 'for every input the law returns true; each argument reads behind the call as it read before'; 0 by the template 'total and deterministic' (their statements: YtljkdhdkbolnjaaDoorTotals.lean).
  GIVEN WITH THE SEED: the statements are not yours to turn. If you find one false, say at which input.
  Laid BY PROGRAM, IN A SANDBOX (cutbox-rows.mjs): the forced cells as the released guide's own fill.sh prints them over the translation 51229469ee9fc619… (all of the seat's roots in one cut). By AI agents, Wed Nov 11 2026. No macro, syntax, notation, axiom, sorry.
-/
import Derived.Test.YtljkdhdkbolnjaaDoorChecked
import GoSem.Claim
import GoSem.ClaimJoined
import GoSem.ClaimMapViews
import Derived.JoinedTies
import Derived.KernelRfl
namespace Go.Proofs.YtljkdhdkbolnjaaDoor
/- THE CELL 'sum', in the pinned program and in every row, IS THE sha256 OF THE DUMP (.gsa) THAT YtljkdhdkbolnjaaDoorProg.lean LOADS. Nothing in Lean hashes anything: it is a label: what it is worth is what the hold of that sum in a sandbox is worth. -/
noncomputable def Tryd.pinned : Pinned := { name := "ytljkdhdkbolnjaadoor", sum := "51229469ee9fc619947db4f3c972d159241f0524c26313206a8069370c47b004", checked := Tryd.checked }
namespace Rows
def none {H : Type} : Left H := { results := [], args := [] }

/- WHAT THE LISTED PACKAGE-LEVEL VARIABLES READ AS WHEN THE CALL BEGINS. Each datum BY PROGRAM (the guide's laid-datum.mjs) off the statement by which the dump's own 'gosem.cut.vars' lays the variable. In a bare row this is a premise. The card (YtljkdhdkbolnjaaDoorCards.lean) ties it to the program's text. -/
def laid_capnp_listsize_elementBits {H : Type} : DataW H := .agg [.lit (.int .i64 0), .lit (.int .i64 1), .lit (.int .i64 8), .lit (.int .i64 16), .lit (.int .i64 32), .lit (.int .i64 64), .lit (.int .i64 64), .lit (.int .i64 0)]

/-- 'capnplaw08.ResolveMatchesReference': WHATEVER THE INPUT: true; the input reads as it did. -/
def resolveMatchesReferenceSpec : ChangeSpec := { name := "resolveMatchesReference", fn := fun _ => fun
  | [d1, d2, d3, d4] => { results := [.lit (.bool true)], args := [d1, d2, d3, d4] }
  | _ => none }
def resolveMatchesReferenceRow : OpenClaim := { program := "ytljkdhdkbolnjaadoor", sum := "51229469ee9fc619947db4f3c972d159241f0524c26313206a8069370c47b004", func := "capnp/capnplaw08.ResolveMatchesReference", spec := "resolveMatchesReference", unfollowed := true, recurses := true, named := ["capnp/listsize.elementBits"], apart := false, laid := [("capnp/listsize.elementBits", laid_capnp_listsize_elementBits)] }
def ResolveMatchesReferenceSaid : Prop := resolveMatchesReferenceRow.holds Tryd.pinned (OpenSpec.ofChange resolveMatchesReferenceSpec)

/-- ITS FALSE NEIGHBOUR: 'it returns false'. Refute it at one input. -/
def resolveMatchesReferenceWrong : ChangeSpec := { name := "resolveMatchesReference", fn := fun _ => fun
  | [d1, d2, d3, d4] => { results := [.lit (.bool false)], args := [d1, d2, d3, d4] }
  | _ => none }
def ResolveMatchesReferenceWrongFalsely : Prop := resolveMatchesReferenceRow.holds Tryd.pinned (OpenSpec.ofChange resolveMatchesReferenceWrong)

/-- 'capnplaw08.ResolvedObjectsAreInBounds': WHATEVER THE INPUT: true; the input reads as it did. -/
def resolvedObjectsAreInBoundsSpec : ChangeSpec := { name := "resolvedObjectsAreInBounds", fn := fun _ => fun
  | [d1, d2, d3, d4] => { results := [.lit (.bool true)], args := [d1, d2, d3, d4] }
  | _ => none }
def resolvedObjectsAreInBoundsRow : OpenClaim := { program := "ytljkdhdkbolnjaadoor", sum := "51229469ee9fc619947db4f3c972d159241f0524c26313206a8069370c47b004", func := "capnp/capnplaw08.ResolvedObjectsAreInBounds", spec := "resolvedObjectsAreInBounds", unfollowed := true, recurses := true, named := ["capnp/listsize.elementBits"], apart := false, laid := [("capnp/listsize.elementBits", laid_capnp_listsize_elementBits)] }
def ResolvedObjectsAreInBoundsSaid : Prop := resolvedObjectsAreInBoundsRow.holds Tryd.pinned (OpenSpec.ofChange resolvedObjectsAreInBoundsSpec)

/-- ITS FALSE NEIGHBOUR: 'it returns false'. Refute it at one input. -/
def resolvedObjectsAreInBoundsWrong : ChangeSpec := { name := "resolvedObjectsAreInBounds", fn := fun _ => fun
  | [d1, d2, d3, d4] => { results := [.lit (.bool false)], args := [d1, d2, d3, d4] }
  | _ => none }
def ResolvedObjectsAreInBoundsWrongFalsely : Prop := resolvedObjectsAreInBoundsRow.holds Tryd.pinned (OpenSpec.ofChange resolvedObjectsAreInBoundsWrong)

/-- 'capnplaw08.ResolveStructs': WHATEVER THE INPUT: true; the input reads as it did. -/
def resolveStructsSpec : ChangeSpec := { name := "resolveStructs", fn := fun _ => fun
  | [d1, d2, d3, d4] => { results := [.lit (.bool true)], args := [d1, d2, d3, d4] }
  | _ => none }
def resolveStructsRow : OpenClaim := { program := "ytljkdhdkbolnjaadoor", sum := "51229469ee9fc619947db4f3c972d159241f0524c26313206a8069370c47b004", func := "capnp/capnplaw08.ResolveStructs", spec := "resolveStructs", unfollowed := true, recurses := true, named := ["capnp/listsize.elementBits"], apart := false, laid := [("capnp/listsize.elementBits", laid_capnp_listsize_elementBits)] }
def ResolveStructsSaid : Prop := resolveStructsRow.holds Tryd.pinned (OpenSpec.ofChange resolveStructsSpec)

/-- ITS FALSE NEIGHBOUR: 'it returns false'. Refute it at one input. -/
def resolveStructsWrong : ChangeSpec := { name := "resolveStructs", fn := fun _ => fun
  | [d1, d2, d3, d4] => { results := [.lit (.bool false)], args := [d1, d2, d3, d4] }
  | _ => none }
def ResolveStructsWrongFalsely : Prop := resolveStructsRow.holds Tryd.pinned (OpenSpec.ofChange resolveStructsWrong)

/-- 'capnplaw08.ResolveThroughFar': WHATEVER THE INPUT: true; the input reads as it did. -/
def resolveThroughFarSpec : ChangeSpec := { name := "resolveThroughFar", fn := fun _ => fun
  | [d1, d2, d3] => { results := [.lit (.bool true)], args := [d1, d2, d3] }
  | _ => none }
def resolveThroughFarRow : OpenClaim := { program := "ytljkdhdkbolnjaadoor", sum := "51229469ee9fc619947db4f3c972d159241f0524c26313206a8069370c47b004", func := "capnp/capnplaw08.ResolveThroughFar", spec := "resolveThroughFar", unfollowed := true, recurses := true, named := ["capnp/listsize.elementBits"], apart := false, laid := [("capnp/listsize.elementBits", laid_capnp_listsize_elementBits)] }
def ResolveThroughFarSaid : Prop := resolveThroughFarRow.holds Tryd.pinned (OpenSpec.ofChange resolveThroughFarSpec)

/-- ITS FALSE NEIGHBOUR: 'it returns false'. Refute it at one input. -/
def resolveThroughFarWrong : ChangeSpec := { name := "resolveThroughFar", fn := fun _ => fun
  | [d1, d2, d3] => { results := [.lit (.bool false)], args := [d1, d2, d3] }
  | _ => none }
def ResolveThroughFarWrongFalsely : Prop := resolveThroughFarRow.holds Tryd.pinned (OpenSpec.ofChange resolveThroughFarWrong)

/-- 'capnplaw08.ResolveElements': WHATEVER THE INPUT: true; the input reads as it did. -/
def resolveElementsSpec : ChangeSpec := { name := "resolveElements", fn := fun _ => fun
  | [d1, d2, d3] => { results := [.lit (.bool true)], args := [d1, d2, d3] }
  | _ => none }
def resolveElementsRow : OpenClaim := { program := "ytljkdhdkbolnjaadoor", sum := "51229469ee9fc619947db4f3c972d159241f0524c26313206a8069370c47b004", func := "capnp/capnplaw08.ResolveElements", spec := "resolveElements", unfollowed := true, recurses := true, named := ["capnp/listsize.elementBits"], apart := false, laid := [("capnp/listsize.elementBits", laid_capnp_listsize_elementBits)] }
def ResolveElementsSaid : Prop := resolveElementsRow.holds Tryd.pinned (OpenSpec.ofChange resolveElementsSpec)

/-- ITS FALSE NEIGHBOUR: 'it returns false'. Refute it at one input. -/
def resolveElementsWrong : ChangeSpec := { name := "resolveElements", fn := fun _ => fun
  | [d1, d2, d3] => { results := [.lit (.bool false)], args := [d1, d2, d3] }
  | _ => none }
def ResolveElementsWrongFalsely : Prop := resolveElementsRow.holds Tryd.pinned (OpenSpec.ofChange resolveElementsWrong)

/- THE SECOND FORM. 'bulk': how many values and letters a reading holds, each counted each time it is reached (what is shared counts as often as it is met; a slice's spare places count too). A statement '..UptoSaid' is the law's where the arguments, and the package variables that the reading takes, are together of bulk at most 1048576: NARROWER than '..Said'. Prove '..Said' where nothing that the law and all that it calls make is longer than what came in: it says more and counts as full. Else prove '..UptoSaid'. A law counts once. -/
mutual
def uptoBulk {H : Type} : DataW H → Nat
  | .lit (.string bytes) => bytes.length + 1
  | .lit _ => 1
  | .nil => 1
  | .ptr d => uptoBulk d + 1
  | .slice elems spare => uptoBulkAll elems + uptoBulkAll spare + 1
  | .agg parts => uptoBulkAll parts + 1
  | .iface _ d => uptoBulk d + 1
  | .map entries => uptoBulkEntries entries + 1
  | .held _ => 1
def uptoBulkAll {H : Type} : List (DataW H) → Nat
  | [] => 0
  | d :: r => uptoBulk d + uptoBulkAll r
def uptoBulkEntries {H : Type} : List (Lit × DataW H) → Nat
  | [] => 0
  | x :: r => uptoBulkEntry x + uptoBulkEntries r
def uptoBulkEntry {H : Type} : Lit × DataW H → Nat
  | (.string bytes, d) => bytes.length + uptoBulk d + 1
  | (_, d) => uptoBulk d + 1
 end
def uptoSmall : (H : Type) → List (DataW H) → Bool := fun _ ds => decide (uptoBulkAll ds ≤ 1048576)
def OpenSpec.upto (s : _root_.Go.ChangeSpec) : _root_.Go.OpenSpec := { _root_.Go.OpenSpec.ofChange s with cond := some uptoSmall }

/-- 'capnplaw08.ResolveMatchesReference', WHERE WHAT IT READS IS OF BULK AT MOST 1048576: true; the input reads as it did. -/
def resolveMatchesReferenceUptoRow : OpenClaim := { program := "ytljkdhdkbolnjaadoor", sum := "51229469ee9fc619947db4f3c972d159241f0524c26313206a8069370c47b004", func := "capnp/capnplaw08.ResolveMatchesReference", spec := "resolveMatchesReference", unfollowed := true, recurses := true, named := ["capnp/listsize.elementBits"], apart := false, laid := [("capnp/listsize.elementBits", laid_capnp_listsize_elementBits)], narrowed := true }
def ResolveMatchesReferenceUptoSaid : Prop := resolveMatchesReferenceUptoRow.holds Tryd.pinned (OpenSpec.upto resolveMatchesReferenceSpec)

/-- 'capnplaw08.ResolvedObjectsAreInBounds', WHERE WHAT IT READS IS OF BULK AT MOST 1048576: true; the input reads as it did. -/
def resolvedObjectsAreInBoundsUptoRow : OpenClaim := { program := "ytljkdhdkbolnjaadoor", sum := "51229469ee9fc619947db4f3c972d159241f0524c26313206a8069370c47b004", func := "capnp/capnplaw08.ResolvedObjectsAreInBounds", spec := "resolvedObjectsAreInBounds", unfollowed := true, recurses := true, named := ["capnp/listsize.elementBits"], apart := false, laid := [("capnp/listsize.elementBits", laid_capnp_listsize_elementBits)], narrowed := true }
def ResolvedObjectsAreInBoundsUptoSaid : Prop := resolvedObjectsAreInBoundsUptoRow.holds Tryd.pinned (OpenSpec.upto resolvedObjectsAreInBoundsSpec)

/-- 'capnplaw08.ResolveStructs', WHERE WHAT IT READS IS OF BULK AT MOST 1048576: true; the input reads as it did. -/
def resolveStructsUptoRow : OpenClaim := { program := "ytljkdhdkbolnjaadoor", sum := "51229469ee9fc619947db4f3c972d159241f0524c26313206a8069370c47b004", func := "capnp/capnplaw08.ResolveStructs", spec := "resolveStructs", unfollowed := true, recurses := true, named := ["capnp/listsize.elementBits"], apart := false, laid := [("capnp/listsize.elementBits", laid_capnp_listsize_elementBits)], narrowed := true }
def ResolveStructsUptoSaid : Prop := resolveStructsUptoRow.holds Tryd.pinned (OpenSpec.upto resolveStructsSpec)

/-- 'capnplaw08.ResolveThroughFar', WHERE WHAT IT READS IS OF BULK AT MOST 1048576: true; the input reads as it did. -/
def resolveThroughFarUptoRow : OpenClaim := { program := "ytljkdhdkbolnjaadoor", sum := "51229469ee9fc619947db4f3c972d159241f0524c26313206a8069370c47b004", func := "capnp/capnplaw08.ResolveThroughFar", spec := "resolveThroughFar", unfollowed := true, recurses := true, named := ["capnp/listsize.elementBits"], apart := false, laid := [("capnp/listsize.elementBits", laid_capnp_listsize_elementBits)], narrowed := true }
def ResolveThroughFarUptoSaid : Prop := resolveThroughFarUptoRow.holds Tryd.pinned (OpenSpec.upto resolveThroughFarSpec)

/-- 'capnplaw08.ResolveElements', WHERE WHAT IT READS IS OF BULK AT MOST 1048576: true; the input reads as it did. -/
def resolveElementsUptoRow : OpenClaim := { program := "ytljkdhdkbolnjaadoor", sum := "51229469ee9fc619947db4f3c972d159241f0524c26313206a8069370c47b004", func := "capnp/capnplaw08.ResolveElements", spec := "resolveElements", unfollowed := true, recurses := true, named := ["capnp/listsize.elementBits"], apart := false, laid := [("capnp/listsize.elementBits", laid_capnp_listsize_elementBits)], narrowed := true }
def ResolveElementsUptoSaid : Prop := resolveElementsUptoRow.holds Tryd.pinned (OpenSpec.upto resolveElementsSpec)

end Rows
end Go.Proofs.YtljkdhdkbolnjaaDoor
