/- The texts Obj08 (what is wanted of them), one after the other. -/
import Derived.Test.YtfaflahfjgnphaaDoorMg3
import Derived.Test.YtfaflahfjgnphaaDoorMg9
namespace Go.Proofs.YtfaflahfjgnphaaDoor
open Go.ChangeShapes Go.WideShapes Go.ChangeAt Go.RowKit
set_option linter.unusedVariables false
set_option linter.unusedSimpArgs false
set_option maxRecDepth 100000
theorem wordsI_lim (e c:Int)(h0:0≤c)(h1:c≤536870911):0≤wordsI e c∧wordsI e c≤536870912:=by
 have h:=bitsI_mul e c h0
 unfold wordsI
 split<;>omega
end Go.Proofs.YtfaflahfjgnphaaDoor
