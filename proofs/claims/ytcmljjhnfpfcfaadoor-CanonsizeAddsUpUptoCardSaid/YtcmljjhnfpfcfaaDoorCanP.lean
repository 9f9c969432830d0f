/- What the functions of package canonsize do, each by a contract (by the code at 8f6ef9f). -/
import Derived.Test.YtcmljjhnfpfcfaaDoorCanC
namespace Go.Proofs.YtcmljjhnfpfcfaaDoor
open Go.ChangeShapes Go.WideShapes Go.ChangeAt Go.RowKit
set_option linter.unusedVariables false
set_option linter.unusedSimpArgs false
set_option maxRecDepth 100000

theorem CObject_any (x : Nd) (A : Option Addr) (c : Nat) (B : Option Addr) (c2 : Nat) (w : World) (hT : TabOK w) (hx : NdR w A c B c2 x) (hs : sizeN x ≤ 1099511627776) (hv : validN x = true) (ht : trimmedN x = true) :
    Calls Tryd.prog 10 #[.agg #[.int .i64 x.k, .int .i64 x.e, .int .i64 x.n, .slice A x.d.length c, .slice B x.ks.length c2]] w fun r w' => r = .returned (.int .i64 (canO x)) ∧ Below w.heap.size w w' :=
  CObject_c x A c B c2 w hT hx hs hv
theorem CNode_any (x : Nd) (A : Option Addr) (c : Nat) (B : Option Addr) (c2 : Nat) (w : World) (hT : TabOK w) (hx : NdR w A c B c2 x) (hs : sizeN x ≤ 1099511627776) (hv : validN x = true) (ht : trimmedN x = true) :
    Calls Tryd.prog 12 #[.agg #[.int .i64 x.k, .int .i64 x.e, .int .i64 x.n, .slice A x.d.length c, .slice B x.ks.length c2]] w fun r w' => r = .returned (.int .i64 (canN x)) ∧ Below w.heap.size w w' :=
  CNode_c x A c B c2 w hT hx hs hv
theorem CTotal_any (x : Nd) (A : Option Addr) (c : Nat) (B : Option Addr) (c2 : Nat) (w : World) (hT : TabOK w) (hx : NdR w A c B c2 x) (hs : sizeN x ≤ 1099511627776) (hv : validN x = true) (ht : trimmedN x = true) :
    Calls Tryd.prog 14 #[.agg #[.int .i64 x.k, .int .i64 x.e, .int .i64 x.n, .slice A x.d.length c, .slice B x.ks.length c2]] w fun r w' => r = .returned (.int .i64 (canN x + 1)) ∧ Below w.heap.size w w' :=
  CTotal_c x A c B c2 w hT hx hs hv
end Go.Proofs.YtcmljjhnfpfcfaaDoor
