/- The texts Open, OpenS, DenF (what is wanted of them), one after the other. -/
import Derived.Test.YtfaflahfjgnphaaGreatDoorMg28
import Derived.ShutString
import Derived.ChangeOld
import Derived.Deep.Fields
import Derived.Deep.Matrix
namespace Go.Proofs.YtfaflahfjgnphaaGreatDoor
open Go.ChangeShapes Go.WideShapes Go.ChangeAt Go.RowKit
set_option linter.unusedVariables false
set_option linter.unusedSimpArgs false
set_option maxRecDepth 100000
theorem own:ownKnob Tryz.prog.godebug=none:=by kernel_rfl
theorem laidOut:laidOutB Tryz.prog=true:=by kernel_rfl
structure Row (k:IntKind) (w:World) (A:Option Addr) (len cap:Nat) (zs:List Int):Prop where
 ri:Ri w k A zs
 len_eq:len=zs.length
 le:len≤cap
 cap_le:cap≤maxLen
 nil:A=none→cap=0
 fits:∀z∈zs,(Lit.int k z).wf=true
theorem Row.none {k:IntKind}{w:World}:Row k w .none 0 0 []:=⟨Ri.nil _ _ _,rfl,Nat.le_refl _,Nat.zero_le _,fun _=>rfl,fun z hz=>by cases hz⟩
theorem Row.some {k:IntKind}{w:World}{x:Addr}{len cap:Nat}{zs:List Int}(hl:len≤cap)(hm:cap≤maxLen)(hz:zs.length=cap)(hc:∀i,i<zs.length→w.cell? (x.add i)=.some (.int k (zs.getD i 0)))(hw:∀n∈zs,(Lit.int k n).wf=true):
  Row k w (.some x) len cap (zs.take len):=by
 have hlen:(zs.take len).length=len:=by simp;omega
 refine⟨?_,hlen.symm,hl,hm,(fun h=>by cases h),fun z h=>hw z (List.mem_of_mem_take h)⟩
 by_cases h0:0<len
 ·obtain⟨b,off,spot⟩:=x
  have hs:spot=.none:=by
   have:=World.cell?_spot (hc 0 (by omega))
   simpa [Addr.add] using this
  subst hs
  refine .inr ⟨b,off,rfl,fun j hj=>?_⟩
  rw [hlen] at hj
  have:=hc j (by omega)
  rw [add_plain] at this
  rw [this,zat_take _ _ _ hj]
  rfl
 ·exact .inl (List.eq_nil_of_length_eq_zero (by omega))
theorem Row.wds {w:World}{A:Option Addr}{len cap:Nat}{zs:List Int}(h:Row .u64 w A len cap zs):Wds zs:=fun z hz=>by
 have:=h.fits z hz
 simp [Lit.wf,IntKind.min,IntKind.max,IntKind.signed,IntKind.bits] at this
 omega
theorem of_wf_i64 {n:Int}(h:(Lit.int .i64 n).wf=true):-9223372036854775808≤n∧n<9223372036854775808:=by
 simp [Lit.wf,IntKind.min,IntKind.max,IntKind.signed,IntKind.bits] at h
 omega
theorem open_struct {H:Type}{enc:TypeId×Value→H}{P:Program}{w:World}{base:Nat}{spare:Nat→Bool}{held:Bool}{r:Reach}{b0:Nat}{t:TypeId}{fs:Array Field}{v:Value}{d:DataW H}{ps:List MemPlace}
  (hs:P.underlying t=some (.struct fs)) (hone:Go.Deep.oneCellFields P fs=true) (hC:P.cellsOf t=fs.size) (hv:Value.okWide P w r b0 t v) (h:DataW.Trod enc P w base spare held t v d ps) :
  ∃cs:Array Value,v=.agg cs∧cs.size=fs.size∧∀(j:Nat) (f:Field) (u:Value),fs[j]?=some f→cs[j]?=some u→∃(n:Nat) (y:DataW H×List MemPlace),DataW.trod enc P w base spare held n f.type [u]=some y:=by
 obtain⟨cs,rfl,hsz⟩:=okWide_struct hs hv
 obtain⟨fuel,hf⟩:=h
 obtain⟨xs,n,_,_,_,hlen,hg⟩:=DataW.trod_struct hs hf
 refine⟨cs,rfl,hsz.trans hC,fun j f u hj hu=>?_⟩
 obtain⟨ho,hk⟩:=Go.Deep.hone_of hone j f hj
 have h1:=hg j f hj
 rw [ho,hk] at h1
 have hj2:j<fs.size:=(Array.getElem?_eq_some_iff.1 hj).1
 have hj3:j<xs.length:=by omega
 have hcs:(Value.agg cs).cells.toList=cs.toList:=by simp [Value.cells]
 rw [hcs] at h1
 have hu2:cs.toList[j]?=some u:=by simpa using hu
 have hone2:(cs.toList.drop j).take 1=[u]:=by
  obtain⟨hlt,he⟩:=List.getElem?_eq_some_iff.1 hu2
  rw [List.drop_eq_getElem_cons hlt,he]
  rfl
 rw [hone2,List.getElem?_eq_getElem hj3] at h1
 exact⟨n,_,h1⟩
theorem arr3 {cs:Array Value}(h:cs.size=3):∃a b c,cs=#[a,b,c]:=by
 obtain⟨l⟩:=cs
 match l,h with
 | [a,b,c],_=>exact⟨a,b,c,rfl⟩
structure RowS (w:World) (A:Option Addr) (len cap:Nat) (ls:List (List Int)):Prop where
 sg:Sg w A ls
 len_eq:len=ls.length
 le:len≤cap
 cap_le:cap≤maxLen
 nil:A=none→cap=0
 wd:Wd2 ls
theorem RowS.none {w:World}:RowS w .none 0 0 []:=⟨Sg.nil _ _,rfl,Nat.le_refl _,Nat.zero_le _,fun _=>rfl,fun z hz=>by cases hz⟩
theorem RowS.some {w:World}{x:Addr}{len cap:Nat}{A:Nat→Option Addr}{L C:Nat→Nat}{Z:Nat→List Int}(hl:len≤cap)(hm:cap≤maxLen)
  (h:∀r,r<cap→w.cell? (x.add r)=.some (.slice (A r) (L r) (C r))∧L r≤C r∧C r≤maxLen∧(Z r).length=C r∧(∀n∈Z r,(Lit.int .u64 n).wf=true)∧(A r=.none→C r=0) ∧
    ∀a',A r=.some a'→∀c,c<C r→w.cell? (a'.add c)=.some (.int .u64 ((Z r).getD c 0))) :
  RowS w (.some x) len cap ((List.range len).map fun r=>(Z r).take (L r)):=by
 have hlen:((List.range len).map fun r=>(Z r).take (L r)).length=len:=by simp
 have hseg:∀r,r<len→seg ((List.range len).map fun r=>(Z r).take (L r)) r=(Z r).take (L r):=by
  intro r hr
  simp [seg,List.getD_eq_getElem?_getD,hr]
 have hrow:∀r,r<len→Row .u64 w (A r) (L r) (C r) ((Z r).take (L r)):=by
  intro r hr
  obtain⟨h1,h2,h3,h4,h5,h6,h7⟩:=h r (by omega)
  cases hA:A r with
  | none=>
   have hC:=h6 hA
   have hL:L r=0:=by omega
   have:(Z r).take (L r)=[]:=by rw [hL];rfl
   rw [this,hL,hC]
   exact Row.none
  | some a'=>exact Row.some h2 h3 h4 (fun i hi=>h7 a' hA i (by omega)) h5
 refine⟨?_,hlen.symm,hl,hm,(fun h=>by cases h),?_⟩
 ·by_cases h0:0<len
  ·obtain⟨b,off,spot⟩:=x
   have hs:spot=.none:=by
    have:=World.cell?_spot (h 0 (by omega)).1
    simpa [Addr.add] using this
   subst hs
   refine .inr ⟨b,off,rfl,fun j hj=>?_⟩
   rw [hlen] at hj
   have h1:=(h j (by omega)).1
   rw [add_plain] at h1
   have hr:=hrow j hj
   refine⟨_,h1,A j,C j,?_,?_,hr.nil,?_,hr.cap_le⟩
   ·rw [hseg j hj]
    exact congrArg (fun n=>Value.slice (A j) n (C j)) hr.len_eq
   ·rw [hseg j hj];exact hr.ri
   ·rw [hseg j hj,←hr.len_eq];exact hr.le
  ·exact .inl (List.eq_nil_of_length_eq_zero (by omega))
 ·intro l hl2
  simp only [List.mem_map,List.mem_range] at hl2
  obtain⟨r,hr,rfl⟩:=hl2
  exact(hrow r hr).wds
section
attribute [local simp] AllK KnowsV look Is
theorem contK_m {ls:List (List Int)}(hw:Wd2 ls)(hm:ls.length≤40)(hf:∀j,(seg ls j).length≤20000000)(r:Nat)(m:Int)(o:Ob)(h:0≤m):0≤(contK (valV ls r) ls m o).m∧(contK (valV ls r) ls m o).m≤m:=by
 have h1:0≤(kidR (valV ls r) o m).m∧(kidR (valV ls r) o m).m≤m:=runK_ind (fun z=>0≤z∧z≤m) ⟨h,Int.le_refl _⟩ _ (fun m' i _ hm'=>by
  have:=valV_m hw hm hf r m' o.sg ((ptrO o).1+i) hm'.1
  exact⟨this.1,Int.le_trans this.2 hm'.2⟩)
 unfold contK
 split
 ·exact h1
 ·exact h1
end
end Go.Proofs.YtfaflahfjgnphaaGreatDoor
