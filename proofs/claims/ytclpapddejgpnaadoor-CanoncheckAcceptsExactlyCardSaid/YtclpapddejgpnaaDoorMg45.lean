/- The texts ChkP (what is wanted of them), one after the other. -/
import Derived.Test.YtclpapddejgpnaaDoorMg43
import Derived.Test.YtclpapddejgpnaaDoorMg44
namespace Go.Proofs.YtclpapddejgpnaaDoor
open Go.ChangeShapes Go.WideShapes Go.ChangeAt Go.RowKit
set_option linter.unusedVariables false
set_option linter.unusedSimpArgs false
set_option maxRecDepth 100000
theorem KWords_any (A:Option Addr)(c:Nat)(W:List Int)(D X O:Int)(w:World)(hT:TabOK w)(hr:Ri w .u64 A W)(hW:Wds W)(hlen:W.length≤20000000)(hnil:A=none→c=0)(hle:W.length≤c)(hc:c≤maxLen)(hD:D≤900)(hX:X≤100000):
  Calls Tryd.prog 10 #[.slice A W.length c,.agg #[.int .i64 D,.int .i64 X,.int .i64 O]] w fun r w'=>r=.returned (.bool (chkB W D X))∧Below w.heap.size w w':=
 KWordsK A c W D X O w hT hr hW hlen hnil hle hc hD hX
theorem RefWords16 (A:Option Addr)(c:Nat)(W:List Int)(D X O:Int)(w:World)(hr:Ri w .u64 A W)(hW:Wds W)(hlen:W.length≤20000000)(hnil:A=none→c=0)(hle:W.length≤c)(hc:c≤maxLen)(hD:D≤900)(hX:X≤100000):
  Calls Tryd.prog 11 #[.slice A W.length c,.agg #[.int .i64 D,.int .i64 X,.int .i64 O]] w fun r w'=>r=.returned (.bool (chkB W D X))∧Below w.heap.size w w':=
 RefWords16_any A c W D X O w hr hW hlen hnil hle hc hD hX
theorem KWords_w (A:Option Addr)(c n:Nat)(W:List Int)(D X O:Int)(v:Bool)(w:World)(hT:TabOK w)(hn:W.length=n)(hr:Ri w .u64 A W)(hW:Wds W)(hlen:n≤20000000)(hnil:A=none→c=0)(hle:n≤c)(hc:c≤9223372036854775807)(hD:D≤900)(hX:X≤100000)(hv:chkB W D X=v):
  Calls Tryd.prog 10 #[.slice A n c,.agg #[.int .i64 D,.int .i64 X,.int .i64 O]] w fun r w'=>r=.returned (.bool v)∧Below w.heap.size w w':=by
 subst hn hv
 exact KWords_any A c W D X O w hT hr hW hlen hnil hle hc hD hX
theorem RefWords16_w (A:Option Addr)(c n:Nat)(W:List Int)(D X O:Int)(v:Bool)(w:World)(hn:W.length=n)(hr:Ri w .u64 A W)(hW:Wds W)(hlen:n≤20000000)(hnil:A=none→c=0)(hle:n≤c)(hc:c≤9223372036854775807)(hD:D≤900)(hX:X≤100000)(hv:chkB W D X=v):
  Calls Tryd.prog 11 #[.slice A n c,.agg #[.int .i64 D,.int .i64 X,.int .i64 O]] w fun r w'=>r=.returned (.bool v)∧Below w.heap.size w w':=by
 subst hn hv
 exact RefWords16 A c W D X O w hr hW hlen hnil hle hc hD hX
end Go.Proofs.YtclpapddejgpnaaDoor
