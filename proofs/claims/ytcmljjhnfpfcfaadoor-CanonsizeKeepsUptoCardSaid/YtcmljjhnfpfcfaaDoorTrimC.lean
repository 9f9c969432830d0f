/- Package trim: the function behind Trim that trims a row, and Trim. -/
import Derived.Test.YtcmljjhnfpfcfaaDoorTrimB
namespace Go.Proofs.YtcmljjhnfpfcfaaDoor
open Go.ChangeShapes Go.WideShapes Go.ChangeAt Go.RowKit
set_option linter.unusedVariables false
set_option linter.unusedSimpArgs false
set_option maxRecDepth 100000

end Go.Proofs.YtcmljjhnfpfcfaaDoor
