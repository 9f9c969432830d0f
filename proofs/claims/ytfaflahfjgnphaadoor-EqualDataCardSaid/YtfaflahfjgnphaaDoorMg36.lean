/- The texts DenC, DenD (what is wanted of them), one after the other. -/
import Derived.Test.YtfaflahfjgnphaaDoorMg35
namespace Go.Proofs.YtfaflahfjgnphaaDoor
open Go.ChangeShapes Go.WideShapes Go.ChangeAt Go.RowKit
set_option linter.unusedVariables false
set_option linter.unusedSimpArgs false
set_option maxRecDepth 100000
section
attribute [local simp] AllK KnowsV look Is
def WrdG (lo:Nat)(xs:List Int):Fact:=fun v w=>Got w lo 32 .u64 v xs
theorem stable_wrdg (lo:Nat)(xs:List Int):stable (WrdG lo xs):=fun v w w' h hb=>Got.below h hb (Nat.le_refl _)
structure ObOK (ls:List (List Int)) (o:Ob):Prop where
 k:0≤o.k∧o.k≤2
 sg:0≤o.sg∧o.sg≤40
 at':0≤o.at'∧o.at'≤100000000000
 d:0≤o.d∧o.d≤65535
 p:0≤o.p∧o.p≤65535
 el:0≤o.el∧o.el≤7
 n:0≤o.n∧o.n≤536870911
 by':o.k=2→o.el<6→bytesI o.el o.n≤8*(datW ls o.sg o.at' (wordsI o.el o.n)).length
end
section
attribute [local simp] AllK KnowsV look Is
theorem ptrO_bd {ls:List (List Int)}{o:Ob}{x y:Int}(ho:ObOK ls o)(h:ptrO o=(x,y)):0≤x∧x≤150000000000∧0≤y∧y≤536870911:=by
 obtain⟨hk0,hsg,hat,hd,hp,hel,hn,hby⟩:=ho
 unfold ptrO at h
 split at h
 ·simp only [Prod.mk.injEq] at h;omega
 ·split at h
  ·simp only [Prod.mk.injEq] at h;omega
  ·simp only [Prod.mk.injEq] at h;omega
end
end Go.Proofs.YtfaflahfjgnphaaDoor
