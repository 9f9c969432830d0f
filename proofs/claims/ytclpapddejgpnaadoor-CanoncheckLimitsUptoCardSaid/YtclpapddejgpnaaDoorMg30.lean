/- The texts DenE (what is wanted of them), one after the other. -/
import Derived.Test.YtclpapddejgpnaaDoorMg29
import Derived.Laws.CopyOwn
import Derived.Laws.EntriesVeiled
namespace Go.Proofs.YtclpapddejgpnaaDoor
open Go.ChangeShapes Go.WideShapes Go.ChangeAt Go.RowKit
set_option linter.unusedVariables false
set_option linter.unusedSimpArgs false
set_option maxRecDepth 100000
section
attribute [local simp] AllK KnowsV look Is
theorem NodF.set {lo:Nat}{x:Nd}{v:Value}{w:World}(h:NodF lo x v w){p:Addr}(hp:p.block<lo)(u:Value):NodF lo x v (w.setCell p u):=by
 obtain⟨A,c,B,c2,hi,h1,h2,h3⟩:=h
 exact⟨A,c,B,c2,hi,h1,by simpa using h2,h3.to fun k k1 k2=>Below.heap_setCell _ _ _ _ (by omega)⟩
end
end Go.Proofs.YtclpapddejgpnaaDoor
