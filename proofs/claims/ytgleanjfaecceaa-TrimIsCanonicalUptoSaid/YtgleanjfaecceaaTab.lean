/- A program whose rows list no package-level variable: nothing is asked of the world. -/
import Derived.Test.YtgleanjfaecceaaRows
import Derived.Test.YtgleanjfaecceaaMem
namespace Go.Proofs.Ytgleanjfaecceaa
open Go.RowKit
def TabOK (_ : World) : Prop := True
theorem TabOK.below {w w' : World} (h : TabOK w) {B : Nat} (_ : Below B w w') (_ : w.heap.size ≤ B) : TabOK w' := h
theorem TabOK.on {w w' : World} (h : TabOK w) (_ : Below w.heap.size w w') : TabOK w' := h
theorem TabOK.alloc {w : World} (h : TabOK w) (o : Obj) : TabOK (w.alloc o) := h
theorem TabOK.drew {w : World} (h : TabOK w) : TabOK w.drew := h
theorem TabOK.drewN {w : World} (h : TabOK w) (n : Nat) : TabOK (w.drewN n) := h
theorem TabOK.setCell {w : World} (h : TabOK w) {p : Addr} (_ : w.heap.size ≤ p.block) (u : Value) : TabOK (w.setCell p u) := h
end Go.Proofs.Ytgleanjfaecceaa
