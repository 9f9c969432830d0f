/- What the functions of package word do, each by a contract. -/
import Derived.Test.YtcmljjhnfpfcfaaDoorRows
import Derived.Test.YtcmljjhnfpfcfaaDoorMem
import Derived.WalkKit
import Derived.ProofKit
import Derived.OpenShut
import Derived.Deep.DeepFit
import Derived.RegionTactic
import Derived.Deep.QuietTactic
import Derived.BigQuiet
namespace Go.Proofs.YtcmljjhnfpfcfaaDoor
open Go.ChangeShapes Go.WideShapes Go.ChangeAt Go.RowKit
set_option linter.unusedVariables false

/-- is there a word i of the bytes? -/
def hasW (b : List Int) (i : Int) : Bool := decide (0 ≤ i ∧ i < (b.length / 8 : Nat))
def getW (b : List Int) (i : Int) : Int := if hasW b i then wordAt b i.toNat else 0

theorem int8_info : (Tryd.prog.info? 5).map (fun i => (i.zero, i.size, i.bytes)) = some (some (.int .u8 0), 1, 1) := by kernel_rfl
theorem int64_info : (Tryd.prog.info? 57).map (fun i => (i.zero, i.size, i.bytes)) = some (some (.int .u64 0), 1, 8) := by kernel_rfl

end Go.Proofs.YtcmljjhnfpfcfaaDoor
