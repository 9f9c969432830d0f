/- The texts Ref09 (what is wanted of them), one after the other. -/
import Derived.WalkKit
import Derived.Below
import Derived.OwnWalk
import Derived.Lib.Hide
import Derived.Deep.Draws
import Derived.Laws.AppendOwnNone
import Derived.Test.YtfaflahfjgnphaaDoorRows
import Derived.ProofKit
import Derived.OpenShut
import Derived.Deep.DeepFit
import Derived.RegionTactic
import Derived.Deep.QuietTactic
import Derived.BigQuiet
namespace Go.Proofs.YtfaflahfjgnphaaDoor
open Go.ChangeShapes Go.WideShapes Go.ChangeAt Go.RowKit
set_option linter.unusedVariables false
set_option linter.unusedSimpArgs false
set_option maxRecDepth 100000
def startI (x:Int):Int:=if x<0 then 0 else x
def enterI (dep d:Int):Int:=if d≤dep then 0 else 7
def chargeI (m c:Int):Int:=if m<c then m else m-c
def chargeE (m c:Int):Int:=if m<c then 8 else 0
end Go.Proofs.YtfaflahfjgnphaaDoor
