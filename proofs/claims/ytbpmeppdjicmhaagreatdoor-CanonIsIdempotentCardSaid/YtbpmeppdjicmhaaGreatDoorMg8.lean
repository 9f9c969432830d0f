/- The texts FrameNum (what is wanted of them), one after the other. -/
import Derived.Test.YtbpmeppdjicmhaaGreatDoorMg1
import Derived.WideMake
import Derived.MapKept
import Derived.Maps.Own
namespace Go.Proofs.YtbpmeppdjicmhaaGreatDoor
set_option linter.unusedVariables false
set_option linter.unusedSimpArgs false
set_option maxRecDepth 100000
def ent (b:List Int)(i:Nat):Int:=zat b (4*i)+256*zat b (4*i+1)+65536*zat b (4*i+2)+16777216*zat b (4*i+3)
def tbl (n:Int):Int:=8*(n / 2)+8
def cntF (b:List Int):Int:=ent b 0+1
def atF (b:List Int):Nat→Int
 | 0=>tbl (cntF b)
 | k+1=>atF b k+8*ent b (k+1)
def headP (b:List Int):Prop:=4≤b.length∧cntF b≤512∧tbl (cntF b)≤b.length∧(cntF b % 2=0→ent b ((cntF b).toNat+1)=0)
def stepP (b:List Int)(k:Nat):Prop:=ent b (k+1)<536870912∧atF b (k+1)≤b.length
def okP (b:List Int):Prop:=headP b∧(∀k,k<(cntF b).toNat→stepP b k)∧atF b (cntF b).toNat=b.length
instance (b:List Int):Decidable (headP b):=by unfold headP;infer_instance
instance (b:List Int) (k:Nat):Decidable (stepP b k):=by unfold stepP;infer_instance
instance (b:List Int):Decidable (okP b):=by unfold okP;infer_instance
end Go.Proofs.YtbpmeppdjicmhaaGreatDoor
