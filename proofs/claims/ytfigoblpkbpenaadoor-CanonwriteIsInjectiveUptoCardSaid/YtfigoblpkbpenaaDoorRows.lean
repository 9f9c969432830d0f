/-
  NARROWER THAN 'FOR EVERY INPUT', by the rows' own cells (each row's printed sentence says how): CanonwriteMatchesReference: loops, laid · CanonwriteIsInjective: loops, laid · CanonwriteNests: loops, laid · CanonwriteKeeps: loops, laid.
  DERIVED. THE GIVEN ROWS OF THIS SEAT. 4 by the template 'for every input the law returns true; each argument reads behind the call as it read before'; 0 by the template 'total and deterministic' (their statements: YtfigoblpkbpenaaDoorTotals.lean).
  GIVEN WITH THE SEED: the statements are not yours to turn. If you find one false, say at which input.
  Laid BY PROGRAM, IN A SANDBOX (cutbox-rows.mjs): the forced cells as the released guide's own fill.sh prints them over the translation ac7a20b9e9e83d24… (all of the seat's roots in one cut). By AI agents, Wed Nov 11 2026. No macro, syntax, notation, axiom, sorry.
-/
import Derived.Test.YtfigoblpkbpenaaDoorChecked
import GoSem.Claim
import GoSem.ClaimJoined
import GoSem.ClaimMapViews
import Derived.JoinedTies
import Derived.KernelRfl
namespace Go.Proofs.YtfigoblpkbpenaaDoor
/- THE CELL 'sum', in the pinned program and in every row, IS THE sha256 OF THE DUMP (.gsa) THAT YtfigoblpkbpenaaDoorProg.lean LOADS. Nothing in Lean hashes anything: it is a label: what it is worth is what the hold of that sum in a sandbox is worth. -/
noncomputable def Tryd.pinned : Pinned := { name := "ytfigoblpkbpenaadoor", sum := "ac7a20b9e9e83d24f224069a8dbd613f08a9fc4df136ad3ed5d484b5fb468fb1", checked := Tryd.checked }
namespace Rows
def none {H : Type} : Left H := { results := [], args := [] }

/- WHAT THE LISTED PACKAGE-LEVEL VARIABLES READ AS WHEN THE CALL BEGINS. Each datum BY PROGRAM (the guide's laid-datum.mjs) off the statement by which the dump's own 'gosem.cut.vars' lays the variable. In a bare row this is a premise. The card (YtfigoblpkbpenaaDoorCards.lean) ties it to the program's text. -/
def laid_capnp_listsize_elementBits {H : Type} : DataW H := .agg [.lit (.int .i64 0), .lit (.int .i64 1), .lit (.int .i64 8), .lit (.int .i64 16), .lit (.int .i64 32), .lit (.int .i64 64), .lit (.int .i64 64), .lit (.int .i64 0)]

/-- 'capnplaw14.CanonwriteMatchesReference': WHATEVER THE INPUT: true; the input reads as it did. -/
def canonwriteMatchesReferenceSpec : ChangeSpec := { name := "canonwriteMatchesReference", fn := fun _ => fun
  | [d] => { results := [.lit (.bool true)], args := [d] }
  | _ => none }
def canonwriteMatchesReferenceRow : OpenClaim := { program := "ytfigoblpkbpenaadoor", sum := "ac7a20b9e9e83d24f224069a8dbd613f08a9fc4df136ad3ed5d484b5fb468fb1", func := "capnp/capnplaw14.CanonwriteMatchesReference", spec := "canonwriteMatchesReference", unfollowed := true, recurses := true, named := ["capnp/listsize.elementBits"], loops := true, apart := false, laid := [("capnp/listsize.elementBits", laid_capnp_listsize_elementBits)] }
def CanonwriteMatchesReferenceSaid : Prop := canonwriteMatchesReferenceRow.holds Tryd.pinned (OpenSpec.ofChange canonwriteMatchesReferenceSpec)

/-- ITS FALSE NEIGHBOUR: 'it returns false'. Refute it at one input. -/
def canonwriteMatchesReferenceWrong : ChangeSpec := { name := "canonwriteMatchesReference", fn := fun _ => fun
  | [d] => { results := [.lit (.bool false)], args := [d] }
  | _ => none }
def CanonwriteMatchesReferenceWrongFalsely : Prop := canonwriteMatchesReferenceRow.holds Tryd.pinned (OpenSpec.ofChange canonwriteMatchesReferenceWrong)

/-- 'capnplaw14.CanonwriteIsInjective': WHATEVER THE INPUT: true; the input reads as it did. -/
def canonwriteIsInjectiveSpec : ChangeSpec := { name := "canonwriteIsInjective", fn := fun _ => fun
  | [d1, d2] => { results := [.lit (.bool true)], args := [d1, d2] }
  | _ => none }
def canonwriteIsInjectiveRow : OpenClaim := { program := "ytfigoblpkbpenaadoor", sum := "ac7a20b9e9e83d24f224069a8dbd613f08a9fc4df136ad3ed5d484b5fb468fb1", func := "capnp/capnplaw14.CanonwriteIsInjective", spec := "canonwriteIsInjective", unfollowed := true, recurses := true, named := ["capnp/listsize.elementBits"], loops := true, apart := false, laid := [("capnp/listsize.elementBits", laid_capnp_listsize_elementBits)] }
def CanonwriteIsInjectiveSaid : Prop := canonwriteIsInjectiveRow.holds Tryd.pinned (OpenSpec.ofChange canonwriteIsInjectiveSpec)

/-- ITS FALSE NEIGHBOUR: 'it returns false'. Refute it at one input. -/
def canonwriteIsInjectiveWrong : ChangeSpec := { name := "canonwriteIsInjective", fn := fun _ => fun
  | [d1, d2] => { results := [.lit (.bool false)], args := [d1, d2] }
  | _ => none }
def CanonwriteIsInjectiveWrongFalsely : Prop := canonwriteIsInjectiveRow.holds Tryd.pinned (OpenSpec.ofChange canonwriteIsInjectiveWrong)

/-- 'capnplaw14.CanonwriteNests': WHATEVER THE INPUT: true; the input reads as it did. -/
def canonwriteNestsSpec : ChangeSpec := { name := "canonwriteNests", fn := fun _ => fun
  | [d] => { results := [.lit (.bool true)], args := [d] }
  | _ => none }
def canonwriteNestsRow : OpenClaim := { program := "ytfigoblpkbpenaadoor", sum := "ac7a20b9e9e83d24f224069a8dbd613f08a9fc4df136ad3ed5d484b5fb468fb1", func := "capnp/capnplaw14.CanonwriteNests", spec := "canonwriteNests", unfollowed := true, recurses := true, named := ["capnp/listsize.elementBits"], loops := true, apart := false, laid := [("capnp/listsize.elementBits", laid_capnp_listsize_elementBits)] }
def CanonwriteNestsSaid : Prop := canonwriteNestsRow.holds Tryd.pinned (OpenSpec.ofChange canonwriteNestsSpec)

/-- ITS FALSE NEIGHBOUR: 'it returns false'. Refute it at one input. -/
def canonwriteNestsWrong : ChangeSpec := { name := "canonwriteNests", fn := fun _ => fun
  | [d] => { results := [.lit (.bool false)], args := [d] }
  | _ => none }
def CanonwriteNestsWrongFalsely : Prop := canonwriteNestsRow.holds Tryd.pinned (OpenSpec.ofChange canonwriteNestsWrong)

/-- 'capnplaw14.CanonwriteKeeps': WHATEVER THE INPUT: true; the input reads as it did. -/
def canonwriteKeepsSpec : ChangeSpec := { name := "canonwriteKeeps", fn := fun _ => fun
  | [d] => { results := [.lit (.bool true)], args := [d] }
  | _ => none }
def canonwriteKeepsRow : OpenClaim := { program := "ytfigoblpkbpenaadoor", sum := "ac7a20b9e9e83d24f224069a8dbd613f08a9fc4df136ad3ed5d484b5fb468fb1", func := "capnp/capnplaw14.CanonwriteKeeps", spec := "canonwriteKeeps", unfollowed := true, recurses := true, named := ["capnp/listsize.elementBits"], loops := true, apart := false, laid := [("capnp/listsize.elementBits", laid_capnp_listsize_elementBits)] }
def CanonwriteKeepsSaid : Prop := canonwriteKeepsRow.holds Tryd.pinned (OpenSpec.ofChange canonwriteKeepsSpec)

/-- ITS FALSE NEIGHBOUR: 'it returns false'. Refute it at one input. -/
def canonwriteKeepsWrong : ChangeSpec := { name := "canonwriteKeeps", fn := fun _ => fun
  | [d] => { results := [.lit (.bool false)], args := [d] }
  | _ => none }
def CanonwriteKeepsWrongFalsely : Prop := canonwriteKeepsRow.holds Tryd.pinned (OpenSpec.ofChange canonwriteKeepsWrong)

/- THE SECOND FORM. 'bulk': how many values and letters a reading holds, each counted each time it is reached (what is shared counts as often as it is met; a slice's spare places count too). A statement '..UptoSaid' is the law's where the arguments, and the package variables that the reading takes, are together of bulk at most 1048576: NARROWER than '..Said'. Prove '..Said' where nothing that the law and all that it calls make is longer than what came in: it says more and counts as full. Else prove '..UptoSaid'. A law counts once. -/
mutual
def uptoBulk {H : Type} : DataW H → Nat
  | .lit (.string bytes) => bytes.length + 1
  | .lit _ => 1
  | .nil => 1
  | .ptr d => uptoBulk d + 1
  | .slice elems spare => uptoBulkAll elems + uptoBulkAll spare + 1
  | .agg parts => uptoBulkAll parts + 1
  | .iface _ d => uptoBulk d + 1
  | .map entries => uptoBulkEntries entries + 1
  | .held _ => 1
def uptoBulkAll {H : Type} : List (DataW H) → Nat
  | [] => 0
  | d :: r => uptoBulk d + uptoBulkAll r
def uptoBulkEntries {H : Type} : List (Lit × DataW H) → Nat
  | [] => 0
  | x :: r => uptoBulkEntry x + uptoBulkEntries r
def uptoBulkEntry {H : Type} : Lit × DataW H → Nat
  | (.string bytes, d) => bytes.length + uptoBulk d + 1
  | (_, d) => uptoBulk d + 1
 end
def uptoSmall : (H : Type) → List (DataW H) → Bool := fun _ ds => decide (uptoBulkAll ds ≤ 1048576)
def OpenSpec.upto (s : _root_.Go.ChangeSpec) : _root_.Go.OpenSpec := { _root_.Go.OpenSpec.ofChange s with cond := some uptoSmall }

/-- 'capnplaw14.CanonwriteMatchesReference', WHERE WHAT IT READS IS OF BULK AT MOST 1048576: true; the input reads as it did. -/
def canonwriteMatchesReferenceUptoRow : OpenClaim := { program := "ytfigoblpkbpenaadoor", sum := "ac7a20b9e9e83d24f224069a8dbd613f08a9fc4df136ad3ed5d484b5fb468fb1", func := "capnp/capnplaw14.CanonwriteMatchesReference", spec := "canonwriteMatchesReference", unfollowed := true, recurses := true, named := ["capnp/listsize.elementBits"], loops := true, apart := false, laid := [("capnp/listsize.elementBits", laid_capnp_listsize_elementBits)], narrowed := true }
def CanonwriteMatchesReferenceUptoSaid : Prop := canonwriteMatchesReferenceUptoRow.holds Tryd.pinned (OpenSpec.upto canonwriteMatchesReferenceSpec)

/-- 'capnplaw14.CanonwriteIsInjective', WHERE WHAT IT READS IS OF BULK AT MOST 1048576: true; the input reads as it did. -/
def canonwriteIsInjectiveUptoRow : OpenClaim := { program := "ytfigoblpkbpenaadoor", sum := "ac7a20b9e9e83d24f224069a8dbd613f08a9fc4df136ad3ed5d484b5fb468fb1", func := "capnp/capnplaw14.CanonwriteIsInjective", spec := "canonwriteIsInjective", unfollowed := true, recurses := true, named := ["capnp/listsize.elementBits"], loops := true, apart := false, laid := [("capnp/listsize.elementBits", laid_capnp_listsize_elementBits)], narrowed := true }
def CanonwriteIsInjectiveUptoSaid : Prop := canonwriteIsInjectiveUptoRow.holds Tryd.pinned (OpenSpec.upto canonwriteIsInjectiveSpec)

/-- 'capnplaw14.CanonwriteNests', WHERE WHAT IT READS IS OF BULK AT MOST 1048576: true; the input reads as it did. -/
def canonwriteNestsUptoRow : OpenClaim := { program := "ytfigoblpkbpenaadoor", sum := "ac7a20b9e9e83d24f224069a8dbd613f08a9fc4df136ad3ed5d484b5fb468fb1", func := "capnp/capnplaw14.CanonwriteNests", spec := "canonwriteNests", unfollowed := true, recurses := true, named := ["capnp/listsize.elementBits"], loops := true, apart := false, laid := [("capnp/listsize.elementBits", laid_capnp_listsize_elementBits)], narrowed := true }
def CanonwriteNestsUptoSaid : Prop := canonwriteNestsUptoRow.holds Tryd.pinned (OpenSpec.upto canonwriteNestsSpec)

/-- 'capnplaw14.CanonwriteKeeps', WHERE WHAT IT READS IS OF BULK AT MOST 1048576: true; the input reads as it did. -/
def canonwriteKeepsUptoRow : OpenClaim := { program := "ytfigoblpkbpenaadoor", sum := "ac7a20b9e9e83d24f224069a8dbd613f08a9fc4df136ad3ed5d484b5fb468fb1", func := "capnp/capnplaw14.CanonwriteKeeps", spec := "canonwriteKeeps", unfollowed := true, recurses := true, named := ["capnp/listsize.elementBits"], loops := true, apart := false, laid := [("capnp/listsize.elementBits", laid_capnp_listsize_elementBits)], narrowed := true }
def CanonwriteKeepsUptoSaid : Prop := canonwriteKeepsUptoRow.holds Tryd.pinned (OpenSpec.upto canonwriteKeepsSpec)

end Rows
end Go.Proofs.YtfigoblpkbpenaaDoor
