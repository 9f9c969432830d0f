/- bytes.Clone by its code: the same bytes in memory of the call's own. -/
import Derived.Test.YtcmljjhnfpfcfaaDoorRef06
import Derived.Lib.SliceRun
namespace Go.Proofs.YtcmljjhnfpfcfaaDoor
open Go.ChangeShapes Go.WideShapes Go.ChangeAt Go.RowKit
set_option linter.unusedVariables false
set_option linter.unusedSimpArgs false
set_option maxRecDepth 100000

end Go.Proofs.YtcmljjhnfpfcfaaDoor
