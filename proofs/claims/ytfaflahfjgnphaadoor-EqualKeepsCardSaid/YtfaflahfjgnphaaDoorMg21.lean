/- The texts Ref12v (what is wanted of them), one after the other. -/
import Derived.Test.YtfaflahfjgnphaaDoorMg20
namespace Go.Proofs.YtfaflahfjgnphaaDoor
open Go.ChangeShapes Go.WideShapes Go.ChangeAt Go.RowKit
set_option linter.unusedVariables false
set_option linter.unusedSimpArgs false
set_option maxRecDepth 100000
section
attribute [local simp] AllK KnowsV look Is
def TupF (lo:Nat)(x:Val):Fact:=fun v w=>∃u,v=.tuple #[u,.agg #[.int .i64 x.m],.int .i64 x.e]∧NodF lo x.n u w
def TupU (x:Val):Fact:=fun v _=>∃u,v=.tuple #[u,.agg #[.int .i64 x.m],.int .i64 x.e]
theorem TupF.u {lo:Nat}{x:Val}{v:Value}{w:World}(h:TupF lo x v w):TupU x v w:=⟨h.choose,h.choose_spec.1⟩
end
end Go.Proofs.YtfaflahfjgnphaaDoor
