/-
  NARROWER THAN 'FOR EVERY INPUT', by the rows' own cells (each row's printed sentence says how): EqualMatchesReference: laid · EqualMatchesCanonicalForms: laid.
  DERIVED. THE GIVEN ROWS OF THIS SEAT. 2 by the template 'for every input the law returns true; each argument reads behind the call as it read before'; 0 by the template 'total and deterministic' (their statements: YtfaflahfjgnphaaGreatDoorTotals.lean).
  GIVEN WITH THE SEED: the statements are not yours to turn. If you find one false, say at which input.
  Laid BY PROGRAM, IN A SANDBOX (cutbox-rows.mjs): the forced cells as the released guide's own fill.sh prints them over the translation a0fcc5b5ebbc7877… (all of the seat's roots in one cut). By AI agents, Wed Nov 11 2026. No macro, syntax, notation, axiom, sorry.
-/
import Derived.Test.YtfaflahfjgnphaaGreatDoorChecked
import GoSem.Claim
import GoSem.ClaimJoined
import GoSem.ClaimMapViews
import Derived.JoinedTies
import Derived.KernelRfl
namespace Go.Proofs.YtfaflahfjgnphaaGreatDoor
/- THE CELL 'sum', in the pinned program and in every row, IS THE sha256 OF THE DUMP (.gsa) THAT YtfaflahfjgnphaaGreatDoorProg.lean LOADS. Nothing in Lean hashes anything: it is a label: what it is worth is what the hold of that sum in a sandbox is worth. -/
noncomputable def Tryz.pinned : Pinned := { name := "ytfaflahfjgnphaagreatdoor", sum := "a0fcc5b5ebbc787764caf00150df47590937926ee10d610fd063d9b3f0368715", checked := Tryz.checked }
namespace Rows
def none {H : Type} : Left H := { results := [], args := [] }

/- WHAT THE LISTED PACKAGE-LEVEL VARIABLES READ AS WHEN THE CALL BEGINS. Each datum BY PROGRAM (the guide's laid-datum.mjs) off the statement by which the dump's own 'gosem.cut.vars' lays the variable. In a bare row this is a premise. The card (YtfaflahfjgnphaaGreatDoorCards.lean) ties it to the program's text. -/
def laid_capnp_listsize_elementBits {H : Type} : DataW H := .agg [.lit (.int .i64 0), .lit (.int .i64 1), .lit (.int .i64 8), .lit (.int .i64 16), .lit (.int .i64 32), .lit (.int .i64 64), .lit (.int .i64 64), .lit (.int .i64 0)]

/-- 'capnplaw17.EqualMatchesReference': WHATEVER THE INPUT: true; the input reads as it did. -/
def equalMatchesReferenceSpec : ChangeSpec := { name := "equalMatchesReference", fn := fun _ => fun
  | [d1, d2, d3, d4, d5] => { results := [.lit (.bool true)], args := [d1, d2, d3, d4, d5] }
  | _ => none }
def equalMatchesReferenceRow : OpenClaim := { program := "ytfaflahfjgnphaagreatdoor", sum := "a0fcc5b5ebbc787764caf00150df47590937926ee10d610fd063d9b3f0368715", func := "capnp/capnplaw17.EqualMatchesReference", spec := "equalMatchesReference", unfollowed := true, recurses := true, named := ["capnp/listsize.elementBits"], apart := false, laid := [("capnp/listsize.elementBits", laid_capnp_listsize_elementBits)] }
def EqualMatchesReferenceSaid : Prop := equalMatchesReferenceRow.holds Tryz.pinned (OpenSpec.ofChange equalMatchesReferenceSpec)

/-- ITS FALSE NEIGHBOUR: 'it returns false'. Refute it at one input. -/
def equalMatchesReferenceWrong : ChangeSpec := { name := "equalMatchesReference", fn := fun _ => fun
  | [d1, d2, d3, d4, d5] => { results := [.lit (.bool false)], args := [d1, d2, d3, d4, d5] }
  | _ => none }
def EqualMatchesReferenceWrongFalsely : Prop := equalMatchesReferenceRow.holds Tryz.pinned (OpenSpec.ofChange equalMatchesReferenceWrong)

/-- 'capnplaw17.EqualMatchesCanonicalForms': WHATEVER THE INPUT: true; the input reads as it did. -/
def equalMatchesCanonicalFormsSpec : ChangeSpec := { name := "equalMatchesCanonicalForms", fn := fun _ => fun
  | [d1, d2, d3] => { results := [.lit (.bool true)], args := [d1, d2, d3] }
  | _ => none }
def equalMatchesCanonicalFormsRow : OpenClaim := { program := "ytfaflahfjgnphaagreatdoor", sum := "a0fcc5b5ebbc787764caf00150df47590937926ee10d610fd063d9b3f0368715", func := "capnp/capnplaw17.EqualMatchesCanonicalForms", spec := "equalMatchesCanonicalForms", unfollowed := true, recurses := true, named := ["capnp/listsize.elementBits"], apart := false, laid := [("capnp/listsize.elementBits", laid_capnp_listsize_elementBits)] }
def EqualMatchesCanonicalFormsSaid : Prop := equalMatchesCanonicalFormsRow.holds Tryz.pinned (OpenSpec.ofChange equalMatchesCanonicalFormsSpec)

/-- ITS FALSE NEIGHBOUR: 'it returns false'. Refute it at one input. -/
def equalMatchesCanonicalFormsWrong : ChangeSpec := { name := "equalMatchesCanonicalForms", fn := fun _ => fun
  | [d1, d2, d3] => { results := [.lit (.bool false)], args := [d1, d2, d3] }
  | _ => none }
def EqualMatchesCanonicalFormsWrongFalsely : Prop := equalMatchesCanonicalFormsRow.holds Tryz.pinned (OpenSpec.ofChange equalMatchesCanonicalFormsWrong)

/- THE SECOND FORM. 'bulk': how many values and letters a reading holds, each counted each time it is reached (what is shared counts as often as it is met; a slice's spare places count too). A statement '..UptoSaid' is the law's where the arguments, and the package variables that the reading takes, are together of bulk at most 1048576: NARROWER than '..Said'. Prove '..Said' where nothing that the law and all that it calls make is longer than what came in: it says more and counts as full. Else prove '..UptoSaid'. A law counts once. -/
mutual
def uptoBulk {H : Type} : DataW H → Nat
  | .lit (.string bytes) => bytes.length + 1
  | .lit _ => 1
  | .nil => 1
  | .ptr d => uptoBulk d + 1
  | .slice elems spare => uptoBulkAll elems + uptoBulkAll spare + 1
  | .agg parts => uptoBulkAll parts + 1
  | .iface _ d => uptoBulk d + 1
  | .map entries => uptoBulkEntries entries + 1
  | .held _ => 1
def uptoBulkAll {H : Type} : List (DataW H) → Nat
  | [] => 0
  | d :: r => uptoBulk d + uptoBulkAll r
def uptoBulkEntries {H : Type} : List (Lit × DataW H) → Nat
  | [] => 0
  | x :: r => uptoBulkEntry x + uptoBulkEntries r
def uptoBulkEntry {H : Type} : Lit × DataW H → Nat
  | (.string bytes, d) => bytes.length + uptoBulk d + 1
  | (_, d) => uptoBulk d + 1
 end
def uptoSmall : (H : Type) → List (DataW H) → Bool := fun _ ds => decide (uptoBulkAll ds ≤ 1048576)
def OpenSpec.upto (s : _root_.Go.ChangeSpec) : _root_.Go.OpenSpec := { _root_.Go.OpenSpec.ofChange s with cond := some uptoSmall }

/-- 'capnplaw17.EqualMatchesReference', WHERE WHAT IT READS IS OF BULK AT MOST 1048576: true; the input reads as it did. -/
def equalMatchesReferenceUptoRow : OpenClaim := { program := "ytfaflahfjgnphaagreatdoor", sum := "a0fcc5b5ebbc787764caf00150df47590937926ee10d610fd063d9b3f0368715", func := "capnp/capnplaw17.EqualMatchesReference", spec := "equalMatchesReference", unfollowed := true, recurses := true, named := ["capnp/listsize.elementBits"], apart := false, laid := [("capnp/listsize.elementBits", laid_capnp_listsize_elementBits)], narrowed := true }
def EqualMatchesReferenceUptoSaid : Prop := equalMatchesReferenceUptoRow.holds Tryz.pinned (OpenSpec.upto equalMatchesReferenceSpec)

/-- 'capnplaw17.EqualMatchesCanonicalForms', WHERE WHAT IT READS IS OF BULK AT MOST 1048576: true; the input reads as it did. -/
def equalMatchesCanonicalFormsUptoRow : OpenClaim := { program := "ytfaflahfjgnphaagreatdoor", sum := "a0fcc5b5ebbc787764caf00150df47590937926ee10d610fd063d9b3f0368715", func := "capnp/capnplaw17.EqualMatchesCanonicalForms", spec := "equalMatchesCanonicalForms", unfollowed := true, recurses := true, named := ["capnp/listsize.elementBits"], apart := false, laid := [("capnp/listsize.elementBits", laid_capnp_listsize_elementBits)], narrowed := true }
def EqualMatchesCanonicalFormsUptoSaid : Prop := equalMatchesCanonicalFormsUptoRow.holds Tryz.pinned (OpenSpec.upto equalMatchesCanonicalFormsSpec)

end Rows
end Go.Proofs.YtfaflahfjgnphaaGreatDoor
