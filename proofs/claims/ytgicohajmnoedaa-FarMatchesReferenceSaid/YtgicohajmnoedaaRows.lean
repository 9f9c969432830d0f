/-
  No cell of these rows narrows 'for every input' (looked for: loops, veiled, ifaces, maps, wideKeys, modest, calm, conditions, laid).
  DERIVED. THE GIVEN ROWS OF THIS SEAT. 4 by the template 'for every input the law returns true; each argument reads behind the call as it read before'; 0 by the template 'total and deterministic' (their statements: YtgicohajmnoedaaTotals.lean).
  GIVEN WITH THE SEED: the statements are not yours to turn. If you find one false, say at which input.
  Laid BY PROGRAM, IN A SANDBOX (cutbox-rows.mjs): the forced cells as the released guide's own fill.sh prints them over the translation df24155f2be3eeab… (all of the seat's roots in one cut). By AI agents, Wed Nov 11 2026. No macro, syntax, notation, axiom, sorry.
-/
import Derived.Test.YtgicohajmnoedaaChecked
import GoSem.Claim
import GoSem.ClaimJoined
import GoSem.ClaimMapViews
import Derived.JoinedTies
import Derived.KernelRfl
namespace Go.Proofs.Ytgicohajmnoedaa
/- THE CELL 'sum', in the pinned program and in every row, IS THE sha256 OF THE DUMP (.gsa) THAT YtgicohajmnoedaaProg.lean LOADS. Nothing in Lean hashes anything: it is a label: what it is worth is what the hold of that sum in a sandbox is worth. -/
noncomputable def Try.pinned : Pinned := { name := "ytgicohajmnoedaa", sum := "df24155f2be3eeab969eb18f4d48a1b654d83a48210bcc8c57484a2235c6372f", checked := Try.checked }
namespace Rows
def none {H : Type} : Left H := { results := [], args := [] }

/-- 'capnplaw07.FarMatchesReference': WHATEVER THE INPUT: true; the input reads as it did. -/
def farMatchesReferenceSpec : ChangeSpec := { name := "farMatchesReference", fn := fun _ => fun
  | [d1, d2, d3, d4] => { results := [.lit (.bool true)], args := [d1, d2, d3, d4] }
  | _ => none }
def farMatchesReferenceRow : OpenClaim := { program := "ytgicohajmnoedaa", sum := "df24155f2be3eeab969eb18f4d48a1b654d83a48210bcc8c57484a2235c6372f", func := "capnp/capnplaw07.FarMatchesReference", spec := "farMatchesReference", unfollowed := true, recurses := true, apart := false }
def FarMatchesReferenceSaid : Prop := farMatchesReferenceRow.holds Try.pinned (OpenSpec.ofChange farMatchesReferenceSpec)

/-- ITS FALSE NEIGHBOUR: 'it returns false'. Refute it at one input. -/
def farMatchesReferenceWrong : ChangeSpec := { name := "farMatchesReference", fn := fun _ => fun
  | [d1, d2, d3, d4] => { results := [.lit (.bool false)], args := [d1, d2, d3, d4] }
  | _ => none }
def FarMatchesReferenceWrongFalsely : Prop := farMatchesReferenceRow.holds Try.pinned (OpenSpec.ofChange farMatchesReferenceWrong)

/-- 'capnplaw07.FarPointersAreFollowed': WHATEVER THE INPUT: true; the input reads as it did. -/
def farPointersAreFollowedSpec : ChangeSpec := { name := "farPointersAreFollowed", fn := fun _ => fun
  | [d1, d2, d3, d4, d5, d6, d7] => { results := [.lit (.bool true)], args := [d1, d2, d3, d4, d5, d6, d7] }
  | _ => none }
def farPointersAreFollowedRow : OpenClaim := { program := "ytgicohajmnoedaa", sum := "df24155f2be3eeab969eb18f4d48a1b654d83a48210bcc8c57484a2235c6372f", func := "capnp/capnplaw07.FarPointersAreFollowed", spec := "farPointersAreFollowed", unfollowed := true, recurses := true, apart := false }
def FarPointersAreFollowedSaid : Prop := farPointersAreFollowedRow.holds Try.pinned (OpenSpec.ofChange farPointersAreFollowedSpec)

/-- ITS FALSE NEIGHBOUR: 'it returns false'. Refute it at one input. -/
def farPointersAreFollowedWrong : ChangeSpec := { name := "farPointersAreFollowed", fn := fun _ => fun
  | [d1, d2, d3, d4, d5, d6, d7] => { results := [.lit (.bool false)], args := [d1, d2, d3, d4, d5, d6, d7] }
  | _ => none }
def FarPointersAreFollowedWrongFalsely : Prop := farPointersAreFollowedRow.holds Try.pinned (OpenSpec.ofChange farPointersAreFollowedWrong)

/-- 'capnplaw07.FarDescriptors': WHATEVER THE INPUT: true; the input reads as it did. -/
def farDescriptorsSpec : ChangeSpec := { name := "farDescriptors", fn := fun _ => fun
  | [d1, d2, d3] => { results := [.lit (.bool true)], args := [d1, d2, d3] }
  | _ => none }
def farDescriptorsRow : OpenClaim := { program := "ytgicohajmnoedaa", sum := "df24155f2be3eeab969eb18f4d48a1b654d83a48210bcc8c57484a2235c6372f", func := "capnp/capnplaw07.FarDescriptors", spec := "farDescriptors", unfollowed := true, recurses := true, apart := false }
def FarDescriptorsSaid : Prop := farDescriptorsRow.holds Try.pinned (OpenSpec.ofChange farDescriptorsSpec)

/-- ITS FALSE NEIGHBOUR: 'it returns false'. Refute it at one input. -/
def farDescriptorsWrong : ChangeSpec := { name := "farDescriptors", fn := fun _ => fun
  | [d1, d2, d3] => { results := [.lit (.bool false)], args := [d1, d2, d3] }
  | _ => none }
def FarDescriptorsWrongFalsely : Prop := farDescriptorsRow.holds Try.pinned (OpenSpec.ofChange farDescriptorsWrong)

/-- 'capnplaw07.FarKeeps': WHATEVER THE INPUT: true; the input reads as it did. -/
def farKeepsSpec : ChangeSpec := { name := "farKeeps", fn := fun _ => fun
  | [d1, d2, d3] => { results := [.lit (.bool true)], args := [d1, d2, d3] }
  | _ => none }
def farKeepsRow : OpenClaim := { program := "ytgicohajmnoedaa", sum := "df24155f2be3eeab969eb18f4d48a1b654d83a48210bcc8c57484a2235c6372f", func := "capnp/capnplaw07.FarKeeps", spec := "farKeeps", unfollowed := true, recurses := true, apart := false }
def FarKeepsSaid : Prop := farKeepsRow.holds Try.pinned (OpenSpec.ofChange farKeepsSpec)

/-- ITS FALSE NEIGHBOUR: 'it returns false'. Refute it at one input. -/
def farKeepsWrong : ChangeSpec := { name := "farKeeps", fn := fun _ => fun
  | [d1, d2, d3] => { results := [.lit (.bool false)], args := [d1, d2, d3] }
  | _ => none }
def FarKeepsWrongFalsely : Prop := farKeepsRow.holds Try.pinned (OpenSpec.ofChange farKeepsWrong)

/- THE SECOND FORM. 'bulk': how many values and letters a reading holds, each counted each time it is reached (what is shared counts as often as it is met; a slice's spare places count too). A statement '..UptoSaid' is the law's where the arguments, and the package variables that the reading takes, are together of bulk at most 1048576: NARROWER than '..Said'. Prove '..Said' where nothing that the law and all that it calls make is longer than what came in: it says more and counts as full. Else prove '..UptoSaid'. A law counts once. -/
mutual
def uptoBulk {H : Type} : DataW H → Nat
  | .lit (.string bytes) => bytes.length + 1
  | .lit _ => 1
  | .nil => 1
  | .ptr d => uptoBulk d + 1
  | .slice elems spare => uptoBulkAll elems + uptoBulkAll spare + 1
  | .agg parts => uptoBulkAll parts + 1
  | .iface _ d => uptoBulk d + 1
  | .map entries => uptoBulkEntries entries + 1
  | .held _ => 1
def uptoBulkAll {H : Type} : List (DataW H) → Nat
  | [] => 0
  | d :: r => uptoBulk d + uptoBulkAll r
def uptoBulkEntries {H : Type} : List (Lit × DataW H) → Nat
  | [] => 0
  | x :: r => uptoBulkEntry x + uptoBulkEntries r
def uptoBulkEntry {H : Type} : Lit × DataW H → Nat
  | (.string bytes, d) => bytes.length + uptoBulk d + 1
  | (_, d) => uptoBulk d + 1
 end
def uptoSmall : (H : Type) → List (DataW H) → Bool := fun _ ds => decide (uptoBulkAll ds ≤ 1048576)
def OpenSpec.upto (s : _root_.Go.ChangeSpec) : _root_.Go.OpenSpec := { _root_.Go.OpenSpec.ofChange s with cond := some uptoSmall }

/-- 'capnplaw07.FarMatchesReference', WHERE WHAT IT READS IS OF BULK AT MOST 1048576: true; the input reads as it did. -/
def farMatchesReferenceUptoRow : OpenClaim := { program := "ytgicohajmnoedaa", sum := "df24155f2be3eeab969eb18f4d48a1b654d83a48210bcc8c57484a2235c6372f", func := "capnp/capnplaw07.FarMatchesReference", spec := "farMatchesReference", unfollowed := true, recurses := true, apart := false, narrowed := true }
def FarMatchesReferenceUptoSaid : Prop := farMatchesReferenceUptoRow.holds Try.pinned (OpenSpec.upto farMatchesReferenceSpec)

/-- 'capnplaw07.FarPointersAreFollowed', WHERE WHAT IT READS IS OF BULK AT MOST 1048576: true; the input reads as it did. -/
def farPointersAreFollowedUptoRow : OpenClaim := { program := "ytgicohajmnoedaa", sum := "df24155f2be3eeab969eb18f4d48a1b654d83a48210bcc8c57484a2235c6372f", func := "capnp/capnplaw07.FarPointersAreFollowed", spec := "farPointersAreFollowed", unfollowed := true, recurses := true, apart := false, narrowed := true }
def FarPointersAreFollowedUptoSaid : Prop := farPointersAreFollowedUptoRow.holds Try.pinned (OpenSpec.upto farPointersAreFollowedSpec)

/-- 'capnplaw07.FarDescriptors', WHERE WHAT IT READS IS OF BULK AT MOST 1048576: true; the input reads as it did. -/
def farDescriptorsUptoRow : OpenClaim := { program := "ytgicohajmnoedaa", sum := "df24155f2be3eeab969eb18f4d48a1b654d83a48210bcc8c57484a2235c6372f", func := "capnp/capnplaw07.FarDescriptors", spec := "farDescriptors", unfollowed := true, recurses := true, apart := false, narrowed := true }
def FarDescriptorsUptoSaid : Prop := farDescriptorsUptoRow.holds Try.pinned (OpenSpec.upto farDescriptorsSpec)

/-- 'capnplaw07.FarKeeps', WHERE WHAT IT READS IS OF BULK AT MOST 1048576: true; the input reads as it did. -/
def farKeepsUptoRow : OpenClaim := { program := "ytgicohajmnoedaa", sum := "df24155f2be3eeab969eb18f4d48a1b654d83a48210bcc8c57484a2235c6372f", func := "capnp/capnplaw07.FarKeeps", spec := "farKeeps", unfollowed := true, recurses := true, apart := false, narrowed := true }
def FarKeepsUptoSaid : Prop := farKeepsUptoRow.holds Try.pinned (OpenSpec.upto farKeepsSpec)

end Rows
end Go.Proofs.Ytgicohajmnoedaa
