/- The texts WriB (what is wanted of them), one after the other. -/
import Derived.Test.YtclpapddejgpnaaDoorMg8
import Derived.Lib.AppendZerosOnto
import Derived.Deep.DeepAppendRoom
import Derived.Laws.CopyOwn
namespace Go.Proofs.YtclpapddejgpnaaDoor
open Go.ChangeShapes Go.WideShapes Go.ChangeAt Go.RowKit
set_option linter.unusedVariables false
set_option linter.unusedSimpArgs false
set_option maxRecDepth 100000
theorem Ri.heap {w:World}{g:Nat}{k:IntKind}{zs:List Int}{T:TypeId}(h:w.heap[g]?=some (.cells (zs.map (Value.int k)).toArray T (0,0))):Ri w k (some ⟨g,0,none⟩) zs:=by
 refine .inr ⟨g,0,rfl,fun j hj=>?_⟩
 simp [World.cell?,h,zat,List.getD_eq_getElem?_getD,hj]
end Go.Proofs.YtclpapddejgpnaaDoor
