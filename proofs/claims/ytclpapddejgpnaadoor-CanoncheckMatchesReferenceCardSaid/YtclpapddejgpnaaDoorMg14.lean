/- The texts Open, OpenS, OpenN (what is wanted of them), one after the other. -/
import Derived.Test.YtclpapddejgpnaaDoorMg11
import Derived.ShutString
import Derived.ChangeOld
import Derived.Deep.Fields
import Derived.Deep.Matrix
namespace Go.Proofs.YtclpapddejgpnaaDoor
open Go.ChangeShapes Go.WideShapes Go.ChangeAt Go.RowKit
set_option linter.unusedVariables false
set_option linter.unusedSimpArgs false
set_option maxRecDepth 100000
theorem own:ownKnob Tryd.prog.godebug=none:=by kernel_rfl
theorem laidOut:laidOutB Tryd.prog=true:=by kernel_rfl
structure Row (k:IntKind) (w:World) (A:Option Addr) (len cap:Nat) (zs:List Int):Prop where
 ri:Ri w k A zs
 len_eq:len=zs.length
 le:len≤cap
 cap_le:cap≤maxLen
 nil:A=none→cap=0
 fits:∀z∈zs,(Lit.int k z).wf=true
theorem Row.none {k:IntKind}{w:World}:Row k w .none 0 0 []:=⟨Ri.nil _ _ _,rfl,Nat.le_refl _,Nat.zero_le _,fun _=>rfl,fun z hz=>by cases hz⟩
theorem Row.some {k:IntKind}{w:World}{x:Addr}{len cap:Nat}{zs:List Int}(hl:len≤cap)(hm:cap≤maxLen)(hz:zs.length=cap)(hc:∀i,i<zs.length→w.cell? (x.add i)=.some (.int k (zs.getD i 0)))(hw:∀n∈zs,(Lit.int k n).wf=true):
  Row k w (.some x) len cap (zs.take len):=by
 have hlen:(zs.take len).length=len:=by simp;omega
 refine⟨?_,hlen.symm,hl,hm,(fun h=>by cases h),fun z h=>hw z (List.mem_of_mem_take h)⟩
 by_cases h0:0<len
 ·obtain⟨b,off,spot⟩:=x
  have hs:spot=.none:=by
   have:=World.cell?_spot (hc 0 (by omega))
   simpa [Addr.add] using this
  subst hs
  refine .inr ⟨b,off,rfl,fun j hj=>?_⟩
  rw [hlen] at hj
  have:=hc j (by omega)
  rw [add_plain] at this
  rw [this,zat_take _ _ _ hj]
  rfl
 ·exact .inl (List.eq_nil_of_length_eq_zero (by omega))
theorem Row.bts {w:World}{A:Option Addr}{len cap:Nat}{zs:List Int}(h:Row .u8 w A len cap zs):Bts zs:=fun z hz=>by
 have:=h.fits z hz
 simp [Lit.wf,IntKind.min,IntKind.max,IntKind.signed,IntKind.bits] at this
 omega
theorem Row.wds {w:World}{A:Option Addr}{len cap:Nat}{zs:List Int}(h:Row .u64 w A len cap zs):Wds zs:=fun z hz=>by
 have:=h.fits z hz
 simp [Lit.wf,IntKind.min,IntKind.max,IntKind.signed,IntKind.bits] at this
 omega
theorem Row.u16 {w:World}{A:Option Addr}{len cap:Nat}{zs:List Int}(h:Row .u16 w A len cap zs)(k:Nat):0≤zat zs k∧zat zs k<65536:=by
 by_cases hk:k<zs.length
 ·have:=h.fits _ (zat_mem hk)
  simp [Lit.wf,IntKind.min,IntKind.max,IntKind.signed,IntKind.bits] at this
  omega
 ·rw [zat_out (by omega)];omega
theorem of_wf_u8 {n:Int}(h:(Lit.int .u8 n).wf=true):0≤n∧n<256:=by
 simp [Lit.wf,IntKind.min,IntKind.max,IntKind.signed,IntKind.bits] at h
 omega
theorem of_wf_u16 {n:Int}(h:(Lit.int .u16 n).wf=true):0≤n∧n<65536:=by
 simp [Lit.wf,IntKind.min,IntKind.max,IntKind.signed,IntKind.bits] at h
 omega
theorem of_wf_u64 {n:Int}(h:(Lit.int .u64 n).wf=true):0≤n∧n<18446744073709551616:=by
 simp [Lit.wf,IntKind.min,IntKind.max,IntKind.signed,IntKind.bits] at h
 omega
theorem of_wf_i64 {n:Int}(h:(Lit.int .i64 n).wf=true):-9223372036854775808≤n∧n<9223372036854775808:=by
 simp [Lit.wf,IntKind.min,IntKind.max,IntKind.signed,IntKind.bits] at h
 omega
theorem open_struct {H:Type}{enc:TypeId×Value→H}{P:Program}{w:World}{base:Nat}{spare:Nat→Bool}{held:Bool}{r:Reach}{b0:Nat}{t:TypeId}{fs:Array Field}{v:Value}{d:DataW H}{ps:List MemPlace}
  (hs:P.underlying t=some (.struct fs)) (hone:Go.Deep.oneCellFields P fs=true) (hC:P.cellsOf t=fs.size) (hv:Value.okWide P w r b0 t v) (h:DataW.Trod enc P w base spare held t v d ps) :
  ∃cs:Array Value,v=.agg cs∧cs.size=fs.size∧∀(j:Nat) (f:Field) (u:Value),fs[j]?=some f→cs[j]?=some u→∃(n:Nat) (y:DataW H×List MemPlace),DataW.trod enc P w base spare held n f.type [u]=some y:=by
 obtain⟨cs,rfl,hsz⟩:=okWide_struct hs hv
 obtain⟨fuel,hf⟩:=h
 obtain⟨xs,n,_,_,_,hlen,hg⟩:=DataW.trod_struct hs hf
 refine⟨cs,rfl,hsz.trans hC,fun j f u hj hu=>?_⟩
 obtain⟨ho,hk⟩:=Go.Deep.hone_of hone j f hj
 have h1:=hg j f hj
 rw [ho,hk] at h1
 have hj2:j<fs.size:=(Array.getElem?_eq_some_iff.1 hj).1
 have hj3:j<xs.length:=by omega
 have hcs:(Value.agg cs).cells.toList=cs.toList:=by simp [Value.cells]
 rw [hcs] at h1
 have hu2:cs.toList[j]?=some u:=by simpa using hu
 have hone2:(cs.toList.drop j).take 1=[u]:=by
  obtain⟨hlt,he⟩:=List.getElem?_eq_some_iff.1 hu2
  rw [List.drop_eq_getElem_cons hlt,he]
  rfl
 rw [hone2,List.getElem?_eq_getElem hj3] at h1
 exact⟨n,_,h1⟩
theorem arr3 {cs:Array Value}(h:cs.size=3):∃a b c,cs=#[a,b,c]:=by
 obtain⟨l⟩:=cs
 match l,h with
 | [a,b,c],_=>exact⟨a,b,c,rfl⟩
structure RowS (w:World) (A:Option Addr) (len cap:Nat) (ls:List (List Int)):Prop where
 sg:Sg w A ls
 len_eq:len=ls.length
 le:len≤cap
 cap_le:cap≤maxLen
 nil:A=none→cap=0
 wd:Wd2 ls
theorem RowS.none {w:World}:RowS w .none 0 0 []:=⟨Sg.nil _ _,rfl,Nat.le_refl _,Nat.zero_le _,fun _=>rfl,fun z hz=>by cases hz⟩
theorem RowS.some {w:World}{x:Addr}{len cap:Nat}{A:Nat→Option Addr}{L C:Nat→Nat}{Z:Nat→List Int}(hl:len≤cap)(hm:cap≤maxLen)
  (h:∀r,r<cap→w.cell? (x.add r)=.some (.slice (A r) (L r) (C r))∧L r≤C r∧C r≤maxLen∧(Z r).length=C r∧(∀n∈Z r,(Lit.int .u64 n).wf=true)∧(A r=.none→C r=0) ∧
    ∀a',A r=.some a'→∀c,c<C r→w.cell? (a'.add c)=.some (.int .u64 ((Z r).getD c 0))) :
  RowS w (.some x) len cap ((List.range len).map fun r=>(Z r).take (L r)):=by
 have hlen:((List.range len).map fun r=>(Z r).take (L r)).length=len:=by simp
 have hseg:∀r,r<len→seg ((List.range len).map fun r=>(Z r).take (L r)) r=(Z r).take (L r):=by
  intro r hr
  simp [seg,List.getD_eq_getElem?_getD,hr]
 have hrow:∀r,r<len→Row .u64 w (A r) (L r) (C r) ((Z r).take (L r)):=by
  intro r hr
  obtain⟨h1,h2,h3,h4,h5,h6,h7⟩:=h r (by omega)
  cases hA:A r with
  | none=>
   have hC:=h6 hA
   have hL:L r=0:=by omega
   have:(Z r).take (L r)=[]:=by rw [hL];rfl
   rw [this,hL,hC]
   exact Row.none
  | some a'=>exact Row.some h2 h3 h4 (fun i hi=>h7 a' hA i (by omega)) h5
 refine⟨?_,hlen.symm,hl,hm,(fun h=>by cases h),?_⟩
 ·by_cases h0:0<len
  ·obtain⟨b,off,spot⟩:=x
   have hs:spot=.none:=by
    have:=World.cell?_spot (h 0 (by omega)).1
    simpa [Addr.add] using this
   subst hs
   refine .inr ⟨b,off,rfl,fun j hj=>?_⟩
   rw [hlen] at hj
   have h1:=(h j (by omega)).1
   rw [add_plain] at h1
   have hr:=hrow j hj
   refine⟨_,h1,A j,C j,?_,?_,hr.nil,?_,hr.cap_le⟩
   ·rw [hseg j hj]
    exact congrArg (fun n=>Value.slice (A j) n (C j)) hr.len_eq
   ·rw [hseg j hj];exact hr.ri
   ·rw [hseg j hj,←hr.len_eq];exact hr.le
  ·exact .inl (List.eq_nil_of_length_eq_zero (by omega))
 ·intro l hl2
  simp only [List.mem_map,List.mem_range] at hl2
  obtain⟨r,hr,rfl⟩:=hl2
  exact(hrow r hr).wds
theorem bulk_one {H:Type}(d:DataW H):1≤Rows.uptoBulk d:=by
 cases d with
 | lit l=>cases l<;>simp [Rows.uptoBulk]
 | nil=>simp [Rows.uptoBulk]
 | ptr d=>simp [Rows.uptoBulk]
 | slice elems spare=>simp [Rows.uptoBulk]
 | agg parts=>simp [Rows.uptoBulk]
 | iface t d=>simp [Rows.uptoBulk]
 | map entries=>simp [Rows.uptoBulk]
 | held h=>simp [Rows.uptoBulk]
theorem bulk_len {H:Type}(l:List (DataW H)):l.length≤Rows.uptoBulkAll l:=by
 induction l with
 | nil=>simp [Rows.uptoBulkAll]
 | cons x r ih=>have:=bulk_one x;simp only [Rows.uptoBulkAll,List.length_cons];omega
theorem bulk_nodes {H:Type}:∀(l:List (DataW H)) (ks:List Nd),l.length=ks.length→(∀j (h1:j<l.length) (h2:j<ks.length),sizeN ks[j]≤Rows.uptoBulk l[j])→sizeK ks≤Rows.uptoBulkAll l
 | [],[],_,_=>by simp [sizeK,Rows.uptoBulkAll]
 | [],y::ys,h,_=>by simp at h
 | x::xs,[],h,_=>by simp at h
 | x::xs,y::ys,h,hh=>by
  have h0:=hh 0 (by simp) (by simp)
  have h1:=bulk_nodes xs ys (by simpa using h) (fun j a b=>by
   have:=hh (j+1) (by simp;omega) (by simp;omega)
   simpa using this)
  simp only [List.getElem_cons_zero] at h0
  simp only [sizeK,Rows.uptoBulkAll]
  omega
theorem node_cells:Tryd.prog.cellsOf 37=5:=by kernel_rfl
theorem list5 {α:Type}{l:List α}(h:l.length=5):∃a b c d e,l=[a,b,c,d,e]:=by
 match l,h with
 | [a,b,c,d,e],_=>exact⟨a,b,c,d,e,rfl⟩
theorem open_node {H:Type}{enc:TypeId×Value→H}{w:World}{base:Nat}{held:Bool}:∀(fuel:Nat) (cs:List Value) (x:DataW H×List MemPlace),
  DataW.trod enc Tryd.prog w base (fun _=>true) held fuel 37 cs=some x→∃A c B c2 nd,cs=fiveC nd A c B c2∧NdR w A c B c2 nd∧sizeN nd≤Rows.uptoBulk x.1:=by
 intro fuel
 induction fuel using Nat.strongRecOn with
 | _ fuel ih=>
  intro cs x h
  obtain⟨xs,n,rfl,rfl,hlen,hxl,hg⟩:=DataW.trod_struct Tryd.underlying37 h
  rw [node_cells] at hlen
  obtain⟨v0,v1,v2,v3,v4,rfl⟩:=list5 hlen
  obtain⟨x0,x1,x2,x3,x4,rfl⟩:=list5 (l:=xs) hxl
  have c0:Tryd.prog.cellsOf 3=1:=by kernel_rfl
  have c3:Tryd.prog.cellsOf 34=1:=by kernel_rfl
  have c4:Tryd.prog.cellsOf 35=1:=by kernel_rfl
  have g0:DataW.trod enc Tryd.prog w base (fun _=>true) held n 3 [v0]=some x0:=by have:=hg 0 _ rfl;simpa [c0] using this
  have g1:DataW.trod enc Tryd.prog w base (fun _=>true) held n 3 [v1]=some x1:=by have:=hg 1 _ rfl;simpa [c0] using this
  have g2:DataW.trod enc Tryd.prog w base (fun _=>true) held n 3 [v2]=some x2:=by have:=hg 2 _ rfl;simpa [c0] using this
  have g3:DataW.trod enc Tryd.prog w base (fun _=>true) held n 34 [v3]=some x3:=by have:=hg 3 _ rfl;simpa [c3] using this
  have g4:DataW.trod enc Tryd.prog w base (fun _=>true) held n 35 [v4]=some x4:=by have:=hg 4 _ rfl;simpa [c4] using this
  clear hg h hlen hxl
  obtain⟨k,hk,rfl,wk⟩:=DataW.trod_int Tryd.underlying3 g0
  obtain⟨e,he,rfl,we⟩:=DataW.trod_int Tryd.underlying3 g1
  obtain⟨m,hm,rfl,wm⟩:=DataW.trod_int Tryd.underlying3 g2
  obtain rfl:v0=.int .i64 k:=by simpa using hk
  obtain rfl:v1=.int .i64 e:=by simpa using he
  obtain rfl:v2=.int .i64 m:=by simpa using hm
  have wk:=of_wf_i64 wk
  have we:=of_wf_i64 we
  have wm:=of_wf_i64 wm
  clear g0 g1 g2 hk he hm
  have hdata:∃A len c d,v3=.slice A len c∧Row .u8 w A len c d∧d.length+1≤Rows.uptoBulk x3.1:=by
   rcases open_ints Tryd.underlying34 Tryd.underlying5 (by kernel_rfl) g3 with ⟨hcs,rfl⟩|⟨a,len,cap,zs,hcs,hb,hl,hcm,hz,rfl,hcell,hwz⟩
   ·exact⟨none,0,0,[],by simpa using hcs,Row.none,by simp [Rows.uptoBulk]⟩
   ·rw [if_pos rfl] at hz
    exact⟨some a,len,cap,zs.take len,by simpa using hcs,Row.some hl hcm hz hcell hwz,by
     have h1:=bulk_len (lits (H:=H) IntKind.u8 (zs.take len))
     have h2:(lits (H:=H) IntKind.u8 (zs.take len)).length=(zs.take len).length:=by simp [lits]
     simp only [Rows.uptoBulk]
     omega⟩
  obtain⟨A,len,c,d,rfl,hrow,hbd⟩:=hdata
  obtain rfl:=hrow.len_eq
  have hkids:∃(B:Option Addr) (c2:Nat) (ks:List Nd) (FA:Nat→Option Addr) (Fc:Nat→Nat) (FB:Nat→Option Addr) (Fc2:Nat→Nat),v4=.slice B ks.length c2∧ks.length≤c2∧c2≤maxLen∧(B=none→c2=0)∧sizeK ks+1≤Rows.uptoBulk x4.1 ∧
    (ks=[]∨∃b off,B=some ⟨b,off,none⟩∧∀j x,ks[j]?=some x→w.cell? ⟨b,off+j*5,none⟩=some (.int .i64 x.k)∧w.cell? ⟨b,off+j*5+1,none⟩=some (.int .i64 x.e)∧w.cell? ⟨b,off+j*5+2,none⟩=some (.int .i64 x.n) ∧
     w.cell? ⟨b,off+j*5+3,none⟩=some (.slice (FA j) x.d.length (Fc j))∧w.cell? ⟨b,off+j*5+4,none⟩=some (.slice (FB j) x.ks.length (Fc2 j))) ∧
    (∀j x,ks[j]?=some x→NdR w (FA j) (Fc j) (FB j) (Fc2 j) x):=by
   rcases DataW.trod_slice Tryd.underlying35 g4 with ⟨hcs,rfl⟩|⟨a,len,cap,elems,rest,n',rfl,hcs,rfl,hb,hl,hcm,hlen,hel,_,_⟩
   ·exact⟨none,0,[],fun _=>none,fun _=>0,fun _=>none,fun _=>0,by simpa using hcs,by simp,by simp,fun _=>rfl,by simp [Rows.uptoBulk,sizeK],.inl rfl,fun j x hx=>by simp at hx⟩
   ·rw [node_cells] at hel
    have hall:∀i,∃(g:Option Addr×Nat×Option Addr×Nat×Nd),∀h:i<elems.length,(∀o,o<5→w.cell? ((a.add (i*5)).add o)=(fiveC g.2.2.2.2 g.1 g.2.1 g.2.2.1 g.2.2.2.1)[o]?)∧NdR w g.1 g.2.1 g.2.2.1 g.2.2.2.1 g.2.2.2.2∧sizeN g.2.2.2.2≤Rows.uptoBulk (elems[i]).1:=by
     intro i
     by_cases hi:i<elems.length
     ·have h1:=hel i (by omega)
      rw [List.getElem?_eq_getElem hi,Option.bind_eq_some_iff] at h1
      obtain⟨csi,h2,h3⟩:=h1
      obtain⟨A',c',B',c2',nd,rfl,hnd,hsz⟩:=ih n' (by omega) csi _ h3
      obtain⟨_,_,h4⟩:=World.cells?_some h2
      exact⟨(A',c',B',c2',nd),fun _=>⟨h4,hnd,hsz⟩⟩
     ·exact⟨(none,0,none,0,nd0),fun h=>absurd h hi⟩
    obtain⟨G,hG⟩:∃G:Nat→Option Addr×Nat×Option Addr×Nat×Nd,∀i,∀h:i<elems.length,(∀o,o<5→w.cell? ((a.add (i*5)).add o)=(fiveC (G i).2.2.2.2 (G i).1 (G i).2.1 (G i).2.2.1 (G i).2.2.2.1)[o]?)∧NdR w (G i).1 (G i).2.1 (G i).2.2.1 (G i).2.2.2.1 (G i).2.2.2.2∧sizeN (G i).2.2.2.2≤Rows.uptoBulk (elems[i]).1:=
     ⟨fun i=>Classical.choose (hall i),fun i=>Classical.choose_spec (hall i)⟩
    have hks:∀j x,((List.range elems.length).map fun i=>(G i).2.2.2.2)[j]?=some x→j<elems.length∧x=(G j).2.2.2.2:=by
     intro j x hx
     have hj:j<elems.length:=by
      rcases Nat.lt_or_ge j elems.length with h|h
      ·exact h
      ·rw [List.getElem?_eq_none (by simpa using h)] at hx;cases hx
     simp [hj] at hx
     exact⟨hj,hx.symm⟩
    refine⟨some a,cap,(List.range elems.length).map fun i=>(G i).2.2.2.2,fun i=>(G i).1,fun i=>(G i).2.1,fun i=>(G i).2.2.1,fun i=>(G i).2.2.2.1,?_,by simp;omega,hcm,(fun h=>by cases h),?_,?_,?_⟩
    ·simp [hlen]
     simpa using hcs
    ·have:=bulk_nodes (elems.map (·.1)) ((List.range elems.length).map fun i=>(G i).2.2.2.2) (by simp) (fun j h1 h2=>by
      have h3:j<elems.length:=by simpa using h1
      have:=(hG j h3).2.2
      simpa using this)
     simp only [Rows.uptoBulk]
     omega
    ·by_cases h0:elems.length=0
     ·left;simp [h0]
     ·right
      obtain⟨b,off,spot⟩:=a
      have h1:w.cell? (((⟨b,off,spot⟩:Addr).add (0*5)).add 0)=_:=(hG 0 (by omega)).1 0 (by omega)
      have hs:spot=none:=by
       have h2:w.cell? ⟨b,off,spot⟩=some (.int .i64 (G 0).2.2.2.2.k):=by simpa [Addr.add,fiveC] using h1
       exact World.cell?_spot h2
      subst hs
      refine⟨b,off,rfl,fun j x hx=>?_⟩
      obtain⟨hj,rfl⟩:=hks j x hx
      have h2:=(hG j hj).1
      refine⟨?_,?_,?_,?_,?_⟩
      ·have:=h2 0 (by omega);rw [add_plain,add_plain] at this;exact this
      ·have:=h2 1 (by omega);rw [add_plain,add_plain] at this;exact this
      ·have:=h2 2 (by omega);rw [add_plain,add_plain] at this;exact this
      ·have:=h2 3 (by omega);rw [add_plain,add_plain] at this;exact this
      ·have:=h2 4 (by omega);rw [add_plain,add_plain] at this;exact this
    ·intro j x hx
     obtain⟨hj,rfl⟩:=hks j x hx
     exact(hG j hj).2.1
  obtain⟨B,c2,ks,FA,Fc,FB,Fc2,rfl,hkl,hkc,hkn,hkb,hcell,hsub⟩:=hkids
  refine⟨A,c,B,c2,.mk k e m d ks,rfl,.mk k e m d ks A c B c2 FA Fc FB Fc2 (by omega) (by omega) (by omega) hrow.ri hrow.bts hrow.le hrow.cap_le hrow.nil hkl hkc hkn hcell hsub,?_⟩
  simp only [sizeN,List.map_cons,List.map_nil,Rows.uptoBulk,Rows.uptoBulkAll]
  omega
end Go.Proofs.YtclpapddejgpnaaDoor
