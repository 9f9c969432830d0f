/- What the functions of package trim do, each by a contract (by the code at dec6d4d). -/
import Derived.Test.YtcmljjhnfpfcfaaDoorTrimC
import Derived.Test.YtcmljjhnfpfcfaaDoorTab
namespace Go.Proofs.YtcmljjhnfpfcfaaDoor
open Go.ChangeShapes Go.WideShapes Go.ChangeAt Go.RowKit
set_option linter.unusedVariables false
set_option linter.unusedSimpArgs false
set_option maxRecDepth 100000

/-- promised of composite lists -/
theorem TUniform_any (x : Nd) (A : Option Addr) (c : Nat) (B : Option Addr) (c2 : Nat) (w : World) (hT : TabOK w) (hx : NdR w A c B c2 x) (hs : sizeN x ≤ 1099511627776) (hv : validN x = true) (hk : x.k = 2) (he : x.e = 7) :
    Calls Tryd.prog 25 #[.agg #[.int .i64 x.k, .int .i64 x.e, .int .i64 x.n, .slice A x.d.length c, .slice B x.ks.length c2]] w fun r w' => r = .returned (.tuple #[.int .i64 (uniD x.ks x.ks.length), .int .i64 (uniP x.ks x.ks.length)]) ∧ Below w.heap.size w w' :=
  trimUniform_any x A c B c2 w hx hs
end Go.Proofs.YtcmljjhnfpfcfaaDoor
