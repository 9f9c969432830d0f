/- What the functions of package node do, each by a contract (by the code at 525b807; the laws rest on these statements alone). -/
import Derived.Test.YtedofcagfopoeaaDoorRef10b
import Derived.Test.YtedofcagfopoeaaDoorRef10c
import Derived.Test.YtedofcagfopoeaaDoorTab
import Derived.Test.YtedofcagfopoeaaDoorNodeB
import Derived.Test.YtedofcagfopoeaaDoorNodeD
import Derived.Test.YtedofcagfopoeaaDoorNodeE
namespace Go.Proofs.YtedofcagfopoeaaDoor
open Go.ChangeShapes Go.WideShapes Go.ChangeAt Go.RowKit
set_option linter.unusedVariables false
set_option linter.unusedSimpArgs false

theorem NValid_any (x : Nd) (A : Option Addr) (c : Nat) (B : Option Addr) (c2 : Nat) (w : World) (hT : TabOK w) (hx : NdR w A c B c2 x) (hs : sizeN x ≤ 1099511627776) :
    Calls Tryd.prog 10 #[.agg #[.int .i64 x.k, .int .i64 x.e, .int .i64 x.n, .slice A x.d.length c, .slice B x.ks.length c2]] w fun r w' => r = .returned (.bool (validN x)) ∧ Below w.heap.size w w' := by
  exact (ValidStruct_any x).1 A c B c2 w hT hx hs
theorem NEqual_any (x y : Nd) (A : Option Addr) (c : Nat) (B : Option Addr) (c2 : Nat) (A1 : Option Addr) (c3 : Nat) (B1 : Option Addr) (c4 : Nat) (w : World) (hT : TabOK w) (hx : NdR w A c B c2 x) (hy : NdR w A1 c3 B1 c4 y) (hs : sizeN x ≤ 1099511627776) (hs2 : sizeN y ≤ 1099511627776) :
    Calls Tryd.prog 12 #[.agg #[.int .i64 x.k, .int .i64 x.e, .int .i64 x.n, .slice A x.d.length c, .slice B x.ks.length c2], .agg #[.int .i64 y.k, .int .i64 y.e, .int .i64 y.n, .slice A1 y.d.length c3, .slice B1 y.ks.length c4]] w fun r w' => r = .returned (.bool (eqN x y)) ∧ Below w.heap.size w w' := by
  exact NEqual_all x y A c B c2 A1 c3 B1 c4 w hx hy
/-- promised of well-formed nodes -/
theorem NDepth_any (x : Nd) (A : Option Addr) (c : Nat) (B : Option Addr) (c2 : Nat) (w : World) (hT : TabOK w) (hx : NdR w A c B c2 x) (hs : sizeN x ≤ 1099511627776) (hv : validN x = true) :
    Calls Tryd.prog 14 #[.agg #[.int .i64 x.k, .int .i64 x.e, .int .i64 x.n, .slice A x.d.length c, .slice B x.ks.length c2]] w fun r w' => r = .returned (.int .i64 (depthN x)) ∧ Below w.heap.size w w' := by
  exact NDepth_all x A c B c2 w hx hs
theorem NObjects_any (x : Nd) (A : Option Addr) (c : Nat) (B : Option Addr) (c2 : Nat) (w : World) (hT : TabOK w) (hx : NdR w A c B c2 x) (hs : sizeN x ≤ 1099511627776) (hv : validN x = true) :
    Calls Tryd.prog 16 #[.agg #[.int .i64 x.k, .int .i64 x.e, .int .i64 x.n, .slice A x.d.length c, .slice B x.ks.length c2]] w fun r w' => r = .returned (.int .i64 (objsN x)) ∧ Below w.heap.size w w' := by
  exact NObjects_all x A c B c2 w hx hs
end Go.Proofs.YtedofcagfopoeaaDoor
