/- The texts Open, Maps, Msg, OpenS, MsgOwn, MsgMix, MsgPoke (what is wanted of them), one after the other. -/
import Derived.Test.YtbpmeppdjicmhaaGreatDoorMg1
import Derived.Test.YtbpmeppdjicmhaaGreatDoorRows
import Derived.ProofKit
import Derived.OpenShut
import Derived.ShutString
import Derived.ChangeOld
import Derived.Deep.Fields
import Derived.WideMake
import Derived.MapKept
import Derived.Maps.Own
import Derived.Deep.Matrix
import Derived.Deep.DeepFit
import Derived.RegionTactic
import Derived.Deep.QuietTactic
import Derived.BigQuiet
namespace Go.Proofs.YtbpmeppdjicmhaaGreatDoor
open Go.ChangeShapes Go.WideShapes Go.ChangeAt Go.RowKit
set_option linter.unusedVariables false
set_option linter.unusedSimpArgs false
set_option maxRecDepth 100000
theorem own:ownKnob Tryz.prog.godebug=none:=by kernel_rfl
theorem laidOut:laidOutB Tryz.prog=true:=by kernel_rfl
structure Row (k:IntKind) (w:World) (A:Option Addr) (len cap:Nat) (zs:List Int):Prop where
 ri:Ri w k A zs
 len_eq:len=zs.length
 le:len≤cap
 cap_le:cap≤maxLen
 nil:A=none→cap=0
 fits:∀z∈zs,(Lit.int k z).wf=true
theorem Row.none {k:IntKind}{w:World}:Row k w .none 0 0 []:=⟨Ri.nil _ _ _,rfl,Nat.le_refl _,Nat.zero_le _,fun _=>rfl,fun z hz=>by cases hz⟩
theorem Row.some {k:IntKind}{w:World}{x:Addr}{len cap:Nat}{zs:List Int}(hl:len≤cap)(hm:cap≤maxLen)(hz:zs.length=cap)(hc:∀i,i<zs.length→w.cell? (x.add i)=.some (.int k (zs.getD i 0)))(hw:∀n∈zs,(Lit.int k n).wf=true):
  Row k w (.some x) len cap (zs.take len):=by
 have hlen:(zs.take len).length=len:=by simp;omega
 refine⟨?_,hlen.symm,hl,hm,(fun h=>by cases h),fun z h=>hw z (List.mem_of_mem_take h)⟩
 by_cases h0:0<len
 ·obtain⟨b,off,spot⟩:=x
  have hs:spot=.none:=by
   have:=World.cell?_spot (hc 0 (by omega))
   simpa [Addr.add] using this
  subst hs
  refine .inr ⟨b,off,rfl,fun j hj=>?_⟩
  rw [hlen] at hj
  have:=hc j (by omega)
  rw [add_plain] at this
  rw [this,zat_take _ _ _ hj]
  rfl
 ·exact .inl (List.eq_nil_of_length_eq_zero (by omega))
theorem Row.wds {w:World}{A:Option Addr}{len cap:Nat}{zs:List Int}(h:Row .u64 w A len cap zs):Wds zs:=fun z hz=>by
 have:=h.fits z hz
 simp [Lit.wf,IntKind.min,IntKind.max,IntKind.signed,IntKind.bits] at this
 omega
theorem of_wf_i64 {n:Int}(h:(Lit.int .i64 n).wf=true):-9223372036854775808≤n∧n<9223372036854775808:=by
 simp [Lit.wf,IntKind.min,IntKind.max,IntKind.signed,IntKind.bits] at h
 omega
theorem open_struct {H:Type}{enc:TypeId×Value→H}{P:Program}{w:World}{base:Nat}{spare:Nat→Bool}{held:Bool}{r:Reach}{b0:Nat}{t:TypeId}{fs:Array Field}{v:Value}{d:DataW H}{ps:List MemPlace}
  (hs:P.underlying t=some (.struct fs)) (hone:Go.Deep.oneCellFields P fs=true) (hC:P.cellsOf t=fs.size) (hv:Value.okWide P w r b0 t v) (h:DataW.Trod enc P w base spare held t v d ps) :
  ∃cs:Array Value,v=.agg cs∧cs.size=fs.size∧∀(j:Nat) (f:Field) (u:Value),fs[j]?=some f→cs[j]?=some u→∃(n:Nat) (y:DataW H×List MemPlace),DataW.trod enc P w base spare held n f.type [u]=some y:=by
 obtain⟨cs,rfl,hsz⟩:=okWide_struct hs hv
 obtain⟨fuel,hf⟩:=h
 obtain⟨xs,n,_,_,_,hlen,hg⟩:=DataW.trod_struct hs hf
 refine⟨cs,rfl,hsz.trans hC,fun j f u hj hu=>?_⟩
 obtain⟨ho,hk⟩:=Go.Deep.hone_of hone j f hj
 have h1:=hg j f hj
 rw [ho,hk] at h1
 have hj2:j<fs.size:=(Array.getElem?_eq_some_iff.1 hj).1
 have hj3:j<xs.length:=by omega
 have hcs:(Value.agg cs).cells.toList=cs.toList:=by simp [Value.cells]
 rw [hcs] at h1
 have hu2:cs.toList[j]?=some u:=by simpa using hu
 have hone2:(cs.toList.drop j).take 1=[u]:=by
  obtain⟨hlt,he⟩:=List.getElem?_eq_some_iff.1 hu2
  rw [List.drop_eq_getElem_cons hlt,he]
  rfl
 rw [hone2,List.getElem?_eq_getElem hj3] at h1
 exact⟨n,_,h1⟩
theorem arr3 {cs:Array Value}(h:cs.size=3):∃a b c,cs=#[a,b,c]:=by
 obtain⟨l⟩:=cs
 match l,h with
 | [a,b,c],_=>exact⟨a,b,c,rfl⟩
theorem alloc_setAt (w:World)(o o':Obj):{ (w.alloc o) with heap:=(w.alloc o).heap.setIfInBounds w.heap.size o' }=w.alloc o':=by
 unfold World.alloc
 simp only [World.mk.injEq,and_true]
 apply Array.ext'
 simp
theorem run_insert_new {P:Program}(w:World)(t k e:TypeId)(es:Array MapEntry)(clock:Nat)(key:Int)(val:Value)(ht:P.underlying t=some (.map k e))(hk:P.underlying k=some (.int .i64))
  (hf:Instr.findNow (.int .i64) (.int .i64 key) es.toList 0=some none) :
  (Instr.mapUpdate t (.map (some w.heap.size)) (.int .i64 key) val).run P (w.alloc (.map es clock))=.ok () (w.alloc (.map (es.push { key:=.int .i64 key,val:=val,born:=clock }) (clock+1))):=by
 have hc:(Instr.checkKey false 10000 k (.int .i64 key)).run P (w.alloc (.map es clock))=.ok () (w.alloc (.map es clock)):=MapKept.run_checkKey hk (by simp [MapKept.IsKey]) false 9999
 have hb:(w.alloc (.map es clock)).heap[w.heap.size]?=some (.map es clock):=by unfold World.alloc;simp
 simp [Instr.mapUpdate,run_underlying ht,MapKept.run_getObj_map hb,hc,MapKept.run_findKey hk hf,MapKept.run_setObj_map _ hb,Result.andThen]
 exact alloc_setAt w _ _
theorem run_lookup_yes {P:Program}(w:World)(t k e:TypeId)(r:Nat)(es:Array MapEntry)(clock:Nat)(key:Int)(i:Nat)(v:Value)(ht:P.underlying t=some (.map k e))(hk:P.underlying k=some (.int .i64))
  (hb:w.heap[r]?=some (.map es clock)) (hf:Instr.findNow (.int .i64) (.int .i64 key) es.toList 0=some (some (i,v))) :
  (Instr.lookup t (.map (some r)) (.int .i64 key) true).run P w=.ok (.tuple #[v,.bool true]) w:=by
 have hc:(Instr.checkKey es.isEmpty 10000 k (.int .i64 key)).run P w=.ok () w:=MapKept.run_checkKey hk (by simp [MapKept.IsKey]) _ 9999
 simp [Instr.lookup,run_underlying ht,MapKept.run_getObj_map hb,hc,MapKept.run_findKey hk hf,Result.andThen]
theorem run_lookup_no {P:Program}(w:World)(t k e:TypeId)(r:Nat)(es:Array MapEntry)(clock:Nat)(key:Int)(z:Value)(ht:P.underlying t=some (.map k e))(hk:P.underlying k=some (.int .i64))
  (hb:w.heap[r]?=some (.map es clock)) (hf:Instr.findNow (.int .i64) (.int .i64 key) es.toList 0=some none) (hz:(zeroValue e).run P w=.ok z w) :
  (Instr.lookup t (.map (some r)) (.int .i64 key) true).run P w=.ok (.tuple #[z,.bool false]) w:=by
 have hc:(Instr.checkKey es.isEmpty 10000 k (.int .i64 key)).run P w=.ok () w:=MapKept.run_checkKey hk (by simp [MapKept.IsKey]) _ 9999
 simp [Instr.lookup,run_underlying ht,MapKept.run_getObj_map hb,hc,MapKept.run_findKey hk hf,hz,Result.andThen]
def IsMap (es:Array MapEntry)(clock:Nat)(v:Value)(w:World):Prop:=∃r,v=.map (some r)∧w.heap[r]?=some (.map es clock)
theorem IsMap.below {es:Array MapEntry}{clock:Nat}{v:Value}{w w':World}(h:IsMap es clock v w)(hb:Below w.heap.size w w'):IsMap es clock v w':=by
 obtain⟨r,rfl,h⟩:=h
 refine⟨r,rfl,?_⟩
 have hlt:r<w.heap.size:=by
  rcases Nat.lt_or_ge r w.heap.size with hlt|hge
  ·exact hlt
  ·rw [Array.getElem?_eq_none hge] at h;cases h
 rw [hb.block r hlt]
 exact h
theorem bel_drew {B:Nat}{a w:World}(h:Below B a w):Below B a w.drew:=⟨h.os,h.tape,h.output,h.size,h.block⟩
theorem bcell {W w1:World}(hb:Below W.heap.size W w1):(∀b o,b<W.heap.size→w1.cell? ⟨b,o,none⟩=W.cell? ⟨b,o,none⟩)∧(∀b o,b<W.heap.size→w1.frozen? ⟨b,o,none⟩=W.frozen? ⟨b,o,none⟩):=
 ⟨fun b o h=>hb.cell (p:=⟨b,o,none⟩) h,fun b o h=>hb.frozen (p:=⟨b,o,none⟩) h⟩
theorem blk_new (w:World)(cs:Array Value)(T:TypeId):∀o,(w.alloc (.cells cs T)).cell? ⟨w.heap.size,o,none⟩=cs[o]?:=fun o=>World.cell?_alloc_new w cs T o
theorem blk_below {w w':World}{B b:Nat}{cs:Array Value}(h:∀o,w.cell? ⟨b,o,none⟩=cs[o]?)(hb:Below B w w')(hB:b<B):∀o,w'.cell? ⟨b,o,none⟩=cs[o]?:=
 fun o=>(hb.cell (p:=⟨b,o,none⟩) hB).trans (h o)
theorem blk_alloc {w:World}{b:Nat}{cs:Array Value}(h:∀o,w.cell? ⟨b,o,none⟩=cs[o]?)(hB:b<w.heap.size)(x:Obj):∀o,(w.alloc x).cell? ⟨b,o,none⟩=cs[o]?:=
 blk_below h ((Below.refl _ _).alloc (Nat.le_refl _) x) hB
def seg (ls:List (List Int))(j:Nat):List Int:=ls.getD j []
theorem seg_mem {ls:List (List Int)}{j:Nat}(h:j<ls.length):seg ls j∈ls:=by
 rw [seg,List.getD_eq_getElem?_getD,List.getElem?_eq_getElem h]
 exact List.getElem_mem h
theorem seg_out {ls:List (List Int)}{j:Nat}(h:ls.length≤j):seg ls j=[]:=by
 rw [seg,List.getD_eq_getElem?_getD,List.getElem?_eq_none h];rfl
theorem seg_append_left (a b:List (List Int))(i:Nat)(h:i<a.length):seg (a++b) i=seg a i:=by
 simp [seg,List.getD_eq_getElem?_getD,List.getElem?_append_left h]
theorem seg_append_right (a b:List (List Int))(i:Nat)(h:a.length≤i):seg (a++b) i=seg b (i-a.length):=by
 simp [seg,List.getD_eq_getElem?_getD,List.getElem?_append_right h]
theorem ext_seg {a b:List (List Int)}(hl:a.length=b.length)(h:∀i,i<a.length→seg a i=seg b i):a=b:=by
 apply List.ext_getElem hl
 intro i h1 h2
 have:=h i h1
 simpa [seg,List.getD_eq_getElem?_getD,h1,h2] using this
theorem take_succ_seg (l:List (List Int))(k:Nat)(h:k<l.length):l.take (k+1)=l.take k++[seg l k]:=by
 rw [List.take_succ_eq_append_getElem h]
 simp [seg,List.getD_eq_getElem?_getD,h]
def Wd2 (ls:List (List Int)):Prop:=∀l∈ls,Wds l
theorem Wd2.at {ls:List (List Int)}(h:Wd2 ls)(j:Nat):Wds (seg ls j):=by
 by_cases hj:j<ls.length
 ·exact h _ (seg_mem hj)
 ·rw [seg_out (by omega)];intro z hz;cases hz
def Holds (w:World)(v:Value)(l:List Int):Prop:=∃A c,v=.slice A l.length c∧Ri w .u64 A l∧(A=none→c=0)∧l.length≤c∧c≤maxLen
theorem Holds.below {w w':World}{v:Value}{l:List Int}{B:Nat}(h:Holds w v l)(hb:Below B w w')(hB:w.heap.size≤B):Holds w' v l:=by
 obtain⟨A,c,h1,h2,h3⟩:=h
 exact⟨A,c,h1,h2.below hb hB,h3⟩
def Sg (w:World)(A:Option Addr)(ls:List (List Int)):Prop:=
 ls=[]∨∃b off,A=some ⟨b,off,none⟩∧∀j,j<ls.length→∃v,w.cell? ⟨b,off+j,none⟩=some v∧Holds w v (seg ls j)
theorem Sg.nil (w:World)(A:Option Addr):Sg w A []:=.inl rfl
theorem Sg.at {w:World}{A:Option Addr}{ls:List (List Int)}(h:Sg w A ls){i:Nat}(hi:i<ls.length):
  ∃b off,A=some ⟨b,off,none⟩∧∀j,j<ls.length→∃v,w.cell? ⟨b,off+j,none⟩=some v∧Holds w v (seg ls j):=by
 rcases h with rfl|h
 ·simp at hi
 ·exact h
theorem Sg.one {w:World}{A:Option Addr}{ls:List (List Int)}(h:Sg w A ls){i:Nat}(hi:i<ls.length):
  ∃b off A' c,A=some ⟨b,off,none⟩∧w.cell? ⟨b,off+i,none⟩=some (.slice A' (seg ls i).length c)∧Ri w .u64 A' (seg ls i)∧(A'=none→c=0)∧(seg ls i).length≤c∧c≤9223372036854775807:=by
 obtain⟨b,off,hA,hc⟩:=h.at hi
 obtain⟨v,hv,A',c,rfl,h1,h2,h3,h4⟩:=hc i hi
 unfold maxLen at h4
 exact⟨b,off,A',c,hA,hv,h1,h2,h3,by omega⟩
theorem Sg.below {w w':World}{A:Option Addr}{ls:List (List Int)}{B:Nat}(h:Sg w A ls)(hb:Below B w w')(hB:w.heap.size≤B):Sg w' A ls:=by
 rcases h with rfl|⟨b,off,rfl,h⟩
 ·exact .inl rfl
 ·refine .inr ⟨b,off,rfl,fun j hj=>?_⟩
  obtain⟨v,hv,hh⟩:=h j hj
  have hlt:b<w.heap.size:=World.block_lt_of_cell? w ⟨b,off+j,none⟩ hv
  exact⟨v,(hb.cell (p:=⟨b,off+j,none⟩) (by show b<B;omega)).trans hv,hh.below hb hB⟩
def inB (ls:List (List Int))(s a n:Int):Bool:=decide (0≤s∧s<ls.length∧0≤a∧0≤n∧a≤(seg ls s.toNat).length∧n≤(seg ls s.toNat).length-a)
def hasB (ls:List (List Int))(s a:Int):Bool:=decide (0≤s∧s<ls.length∧0≤a∧a<(seg ls s.toNat).length)
def wordV (ls:List (List Int))(s a:Int):Int:=if hasB ls s a then zat (seg ls s.toNat) a.toNat else 0
def sliceL (ls:List (List Int))(s a n:Int):List Int:=((seg ls s.toNat).drop a.toNat).take n.toNat
def fewB (ls:List (List Int)):Bool:=decide ((∀j,j<ls.length→(seg ls j).length≤300)∧ls.length≤20)
theorem few_fits {ls:List (List Int)}(h:fewB ls=true):(∀j,(seg ls j).length≤300)∧ls.length≤20:=by
 obtain⟨h1,h2⟩:=of_decide_eq_true h
 refine⟨fun j=>?_,h2⟩
 by_cases hj:j<ls.length
 ·exact h1 j hj
 ·rw [seg_out (by omega)];simp
structure RowS (w:World) (A:Option Addr) (len cap:Nat) (ls:List (List Int)):Prop where
 sg:Sg w A ls
 len_eq:len=ls.length
 le:len≤cap
 cap_le:cap≤maxLen
 nil:A=none→cap=0
 wd:Wd2 ls
theorem RowS.none {w:World}:RowS w .none 0 0 []:=⟨Sg.nil _ _,rfl,Nat.le_refl _,Nat.zero_le _,fun _=>rfl,fun z hz=>by cases hz⟩
theorem RowS.some {w:World}{x:Addr}{len cap:Nat}{A:Nat→Option Addr}{L C:Nat→Nat}{Z:Nat→List Int}(hl:len≤cap)(hm:cap≤maxLen)
  (h:∀r,r<cap→w.cell? (x.add r)=.some (.slice (A r) (L r) (C r))∧L r≤C r∧C r≤maxLen∧(Z r).length=C r∧(∀n∈Z r,(Lit.int .u64 n).wf=true)∧(A r=.none→C r=0) ∧
    ∀a',A r=.some a'→∀c,c<C r→w.cell? (a'.add c)=.some (.int .u64 ((Z r).getD c 0))) :
  RowS w (.some x) len cap ((List.range len).map fun r=>(Z r).take (L r)):=by
 have hlen:((List.range len).map fun r=>(Z r).take (L r)).length=len:=by simp
 have hseg:∀r,r<len→seg ((List.range len).map fun r=>(Z r).take (L r)) r=(Z r).take (L r):=by
  intro r hr
  simp [seg,List.getD_eq_getElem?_getD,hr]
 have hrow:∀r,r<len→Row .u64 w (A r) (L r) (C r) ((Z r).take (L r)):=by
  intro r hr
  obtain⟨h1,h2,h3,h4,h5,h6,h7⟩:=h r (by omega)
  cases hA:A r with
  | none=>
   have hC:=h6 hA
   have hL:L r=0:=by omega
   have:(Z r).take (L r)=[]:=by rw [hL];rfl
   rw [this,hL,hC]
   exact Row.none
  | some a'=>exact Row.some h2 h3 h4 (fun i hi=>h7 a' hA i (by omega)) h5
 refine⟨?_,hlen.symm,hl,hm,(fun h=>by cases h),?_⟩
 ·by_cases h0:0<len
  ·obtain⟨b,off,spot⟩:=x
   have hs:spot=.none:=by
    have:=World.cell?_spot (h 0 (by omega)).1
    simpa [Addr.add] using this
   subst hs
   refine .inr ⟨b,off,rfl,fun j hj=>?_⟩
   rw [hlen] at hj
   have h1:=(h j (by omega)).1
   rw [add_plain] at h1
   have hr:=hrow j hj
   refine⟨_,h1,A j,C j,?_,?_,hr.nil,?_,hr.cap_le⟩
   ·rw [hseg j hj]
    exact congrArg (fun n=>Value.slice (A j) n (C j)) hr.len_eq
   ·rw [hseg j hj];exact hr.ri
   ·rw [hseg j hj,←hr.len_eq];exact hr.le
  ·exact .inl (List.eq_nil_of_length_eq_zero (by omega))
 ·intro l hl2
  simp only [List.mem_map,List.mem_range] at hl2
  obtain⟨r,hr,rfl⟩:=hl2
  exact(hrow r hr).wds
def GotS (w:World)(base:Nat)(v:Value)(ls:List (List Int)):Prop:=
 ∃vs:List Value,w.ownsRow base 27 1 v ls.length vs∧∀j,j<ls.length→∃u,vs[j]?=some u∧Got w base 48 .u64 u (seg ls j)
theorem GotS.empty (w:World)(base:Nat):GotS w base (.slice none 0 0) []:=⟨[],World.ownsRow_nil w base _ 1,fun j hj=>by simp at hj⟩
theorem ownsRow_belowS {w w':World}{base B n size:Nat}{e:TypeId}{v:Value}{xs:List Value}(h:w.ownsRow base e size v n xs)(hb:Below B w w')(hB:w.heap.size≤B):w'.ownsRow base e size v n xs:=by
 obtain⟨h1,h2⟩:=h
 refine⟨h1,?_⟩
 rcases h2 with h2|⟨g,cap,cur,hv,hg,hh,r⟩
 ·exact .inl h2
 ·refine .inr ⟨g,cap,cur,hv,hg,?_,r⟩
  have hlt:g<w.heap.size:=by
   rcases Nat.lt_or_ge g w.heap.size with hlt|hge
   ·exact hlt
   ·rw [Array.getElem?_eq_none hge] at hh;cases hh
  rw [hb.block g (by omega)]
  exact hh
theorem GotS.below {w w':World}{base B:Nat}{v:Value}{ls:List (List Int)}(h:GotS w base v ls)(hb:Below B w w')(hB:w.heap.size≤B):GotS w' base v ls:=by
 obtain⟨vs,h1,h2⟩:=h
 refine⟨vs,ownsRow_belowS h1 hb hB,fun j hj=>?_⟩
 obtain⟨u,hu,hg⟩:=h2 j hj
 exact⟨u,hu,hg.below hb hB⟩
theorem GotS.mono {w:World}{base base':Nat}{v:Value}{ls:List (List Int)}(h:GotS w base v ls)(hb:base'≤base):GotS w base' v ls:=by
 obtain⟨vs,⟨h0,h1⟩,h2⟩:=h
 refine⟨vs,⟨h0,?_⟩,fun j hj=>?_⟩
 ·rcases h1 with h1|⟨g,cap,cur,hv,hg,r⟩
  ·exact .inl h1
  ·exact .inr ⟨g,cap,cur,hv,by omega,r⟩
 ·obtain⟨u,hu,hg⟩:=h2 j hj
  exact⟨u,hu,hg.mono hb⟩
theorem Got.holds {w:World}{base:Nat}{v:Value}{l:List Int}(h:Got w base 48 .u64 v l):Holds w v l:=by
 rcases h.2 with ⟨rfl,hn⟩|⟨g,cap,cur,hv,_⟩
 ·have:l=[]:=List.eq_nil_of_length_eq_zero hn
  subst this
  exact⟨none,0,rfl,Ri.nil _ _ _,fun _=>rfl,Nat.le_refl _,Nat.zero_le _⟩
 ·obtain⟨A,c,h1,h2,h3,h4⟩:=h.slice
  refine⟨A,c,h1,h4,fun hA=>?_,h2,h3⟩
  subst hA
  rw [h1] at hv
  injection hv with e
  cases e
theorem GotS.slice {w:World}{base:Nat}{v:Value}{ls:List (List Int)}(h:GotS w base v ls):∃A c,v=.slice A ls.length c∧ls.length≤c∧c≤maxLen∧Sg w A ls:=by
 obtain⟨vs,h1,h2⟩:=h
 have h0:=h1
 rcases h1.2 with ⟨rfl,hn⟩|⟨g,cap,cur,rfl,hg,hh,hc,hm,hs,ht⟩
 ·have:ls=[]:=List.eq_nil_of_length_eq_zero hn
  subst this
  exact⟨none,0,rfl,Nat.le_refl _,Nat.zero_le _,.inl rfl⟩
 ·refine⟨some ⟨g,0,none⟩,cap,rfl,hc,hm,.inr ⟨g,0,rfl,fun j hj=>?_⟩⟩
  obtain⟨u,hu,hgu⟩:=h2 j hj
  refine⟨u,?_,hgu.holds⟩
  rw [Nat.zero_add,World.ownsRow.cellAt h0 j (by omega)]
  exact hu
theorem slices_info:(Tryz.prog.info? 27).map (fun i=>(i.zero,i.size,i.bytes))=some (some (.slice none 0 0),1,24):=by kernel_rfl
theorem wpList_appS {ops:Array Oper}{rest:List Oper}{o:Oper}{a:Act}{Q:Exit→Act→World→Prop}{w:World}(hgd:o.guard=none)(s x:Operand)(t:TypeId)
  (ho:o.op=.call { callee:=.builtin .append,args:=#[s,x],argTypes:=#[t,t] }) (ht:Tryz.prog.underlying t=some (.slice 27))
  {base:Nat} {v u:Value} {ls:List (List Int)} {l:List Int} (hs:a.eval s=v) (hown:GotS w base v ls) (hu:Got w base 48 .u64 u l) {T:TypeId} (hx:a.eval x=.slice (some ⟨w.heap.size,0,none⟩) 1 1)
  (hn:ls.length+1≤1000000) (hbase:base≤w.heap.size)
  (h:∀v' w',GotS w' base v' (ls++[l])→Below base w w'→wpList Tryz.prog ops Q rest (a.put o.dst v') w'):wpList Tryz.prog ops Q (o::rest) a (w.alloc (.cells #[u] T)):=by
 obtain⟨i,hi,hz0,hz1,hz2⟩:=info_parts slices_info
 obtain⟨vs,h1,h2⟩:=hown
 have hu1:u.oneCell'=true:=by
  obtain⟨A,c,rfl,_⟩:=hu.slice
  rfl
 have hb0:Below w.heap.size w (w.alloc (.cells #[u] T)):=(Below.refl _ _).alloc (Nat.le_refl _) _
 refine wpList_append_own _ hgd s x t ho base _ i _ 1 24 ht hi hz0 hz1 hz2 rfl (by decide) v ls.length vs hs (h1.alloc _)
  ⟨w.heap.size,0,none⟩ 1 1 [u] hx rfl ?_ ?_ (by unfold maxLen;omega) (by omega) (by simp;omega) ?_
 ·intro j y hj
  cases j with
  | zero=>simp at hj;subst hj;simp [Addr.add]
  | succ j=>simp at hj
 ·intro y hy
  simp at hy
  subst hy
  exact hu1
 ·intro v' w' k1 k2 _
  have hlen:vs.length=ls.length:=by rw [h1.1,Nat.mul_one]
  have hkeep:∀{y:Value} {m:List Int},Got w base 48 .u64 y m→Got w' base 48 .u64 y m:=by
   intro y m hy
   have hy2:=hy.below hb0 (Nat.le_refl _)
   refine World.ownsRow.kept hy2 k2 ?_
   rcases hy.2 with ⟨rfl,_⟩|⟨g,cap,cur,rfl,hg,hh,_⟩
   ·exact .inl rfl
   ·right
    intro e
    rcases h1.2 with ⟨rfl,_⟩|⟨g',cap',cur',rfl,hg',hh',_⟩
    ·simp [Value.ownBlock] at e
    ·simp [Value.ownBlock] at e
     subst e
     rw [hh] at hh'
     injection hh' with e2
     injection e2 with _ e3
     exact absurd e3 (by decide)
  refine h v' w' ⟨vs++[u],by simpa using k1,fun j hj=>?_⟩ ?_
  ·by_cases hjl:j<ls.length
   ·obtain⟨y,hy,hg⟩:=h2 j hjl
    exact⟨y,by rw [List.getElem?_append_left (by omega)];exact hy,by rw [seg_append_left _ _ _ hjl];exact hkeep hg⟩
   ·have hje:j=ls.length:=by simp at hj;omega
    subst hje
    refine⟨u,by rw [←hlen];simp,?_⟩
    rw [seg_append_right _ _ _ (Nat.le_refl _),Nat.sub_self]
    exact hkeep hu
  ·exact((Below.refl base w).alloc hbase _).grown k2 (by simp;omega) (fun g hg=>(h1.lt g hg).1)
def SegOK (w:World)(base:Nat)(u:Value)(l:List Int):Prop:=
 Got w base 48 .u64 u l∨(Holds w u l∧(l=[]∨∀b,u.ownBlock=some b→b<base))
theorem SegOK.holds {w:World}{base:Nat}{u:Value}{l:List Int}(h:SegOK w base u l):Holds w u l:=by
 rcases h with h|h
 ·exact h.holds
 ·exact h.1
theorem Holds.slice {w:World}{u:Value}{l:List Int}(h:Holds w u l):u.oneCell'=true:=by
 obtain⟨A,c,rfl,_⟩:=h
 rfl
theorem Holds.low {w w':World}{base:Nat}{u:Value}{l:List Int}(h:Holds w u l)(hlow:l=[]∨∀b,u.ownBlock=some b→b<base)(hb:Below base w w'):Holds w' u l:=by
 obtain⟨A,c,rfl,hr,h3⟩:=h
 refine⟨A,c,rfl,?_,h3⟩
 rcases hr with h0|⟨b,off,rfl,hc⟩
 ·exact .inl h0
 ·rcases hlow with h0|hlow
  ·exact .inl h0
  ·refine .inr ⟨b,off,rfl,fun j hj=>?_⟩
   exact(hb.cell (p:=⟨b,off+j,none⟩) (hlow b rfl)).trans (hc j hj)
theorem SegOK.below {w w':World}{base B:Nat}{u:Value}{l:List Int}(h:SegOK w base u l)(hb:Below B w w')(hB:w.heap.size≤B):SegOK w' base u l:=by
 rcases h with h|h
 ·exact .inl (h.below hb hB)
 ·exact .inr ⟨h.1.below hb hB,h.2⟩
theorem SegOK.came {W w:World}{base:Nat}{u:Value}{l:List Int}(h:Holds W u l)(hW:W.heap.size≤base)(hb:Below base W w):SegOK w base u l:=by
 have hlow:l=[]∨∀b,u.ownBlock=some b→b<base:=by
  by_cases h0:l=[]
  ·exact .inl h0
  ·right
   intro b hbk
   obtain⟨A,c,rfl,hr,_⟩:=h
   rcases hr with h1|⟨b',off,rfl,hc⟩
   ·exact absurd h1 h0
   ·simp [Value.ownBlock] at hbk
    subst hbk
    have hl:0<l.length:=by
     cases l with
     | nil=>exact absurd rfl h0
     | cons x r=>simp
    have hlt:b'<W.heap.size:=World.block_lt_of_cell? W ⟨b',off+0,none⟩ (hc 0 hl)
    omega
 exact .inr ⟨h.low hlow hb,hlow⟩
def OwnS (w:World)(base:Nat)(v:Value)(ls:List (List Int)):Prop:=
 ∃vs:List Value,w.ownsRow base 27 1 v ls.length vs∧∀j,j<ls.length→∃u,vs[j]?=some u∧SegOK w base u (seg ls j)
theorem OwnS.empty (w:World)(base:Nat):OwnS w base (.slice none 0 0) []:=⟨[],World.ownsRow_nil w base _ 1,fun j hj=>by simp at hj⟩
theorem OwnS.below {w w':World}{base B:Nat}{v:Value}{ls:List (List Int)}(h:OwnS w base v ls)(hb:Below B w w')(hB:w.heap.size≤B):OwnS w' base v ls:=by
 obtain⟨vs,h1,h2⟩:=h
 refine⟨vs,ownsRow_belowS h1 hb hB,fun j hj=>?_⟩
 obtain⟨u,hu,hg⟩:=h2 j hj
 exact⟨u,hu,hg.below hb hB⟩
theorem OwnS.slice {w:World}{base:Nat}{v:Value}{ls:List (List Int)}(h:OwnS w base v ls):∃A c,v=.slice A ls.length c∧ls.length≤c∧c≤maxLen∧Sg w A ls:=by
 obtain⟨vs,h1,h2⟩:=h
 have h0:=h1
 rcases h1.2 with ⟨rfl,hn⟩|⟨g,cap,cur,rfl,hg,hh,hc,hm,hs,ht⟩
 ·have:ls=[]:=List.eq_nil_of_length_eq_zero hn
  subst this
  exact⟨none,0,rfl,Nat.le_refl _,Nat.zero_le _,.inl rfl⟩
 ·refine⟨some ⟨g,0,none⟩,cap,rfl,hc,hm,.inr ⟨g,0,rfl,fun j hj=>?_⟩⟩
  obtain⟨u,hu,hgu⟩:=h2 j hj
  refine⟨u,?_,hgu.holds⟩
  rw [Nat.zero_add,World.ownsRow.cellAt h0 j (by omega)]
  exact hu
theorem OwnS.lt {w:World}{base:Nat}{v:Value}{ls:List (List Int)}(h:OwnS w base v ls):∀k,v.ownBlock=some k→base≤k∧k<w.heap.size:=by
 obtain⟨vs,h1,_⟩:=h
 exact h1.lt
theorem SegOK.grown {w w':World}{base n:Nat}{v u:Value}{vs:List Value}{l:List Int}(h:SegOK w base u l)(hv:w.ownsRow base 27 1 v n vs)(hg:w.grownBy w' v.ownBlock)(hb:Below base w w'):SegOK w' base u l:=by
 rcases h with h|h
 ·left
  refine World.ownsRow.kept h hg ?_
  rcases h.2 with ⟨rfl,_⟩|⟨g,cap,cur,rfl,hgb,hh,_⟩
  ·exact .inl rfl
  ·right
   intro e
   rcases hv.2 with ⟨rfl,_⟩|⟨g',cap',cur',rfl,hg',hh',_⟩
   ·simp [Value.ownBlock] at e
   ·simp [Value.ownBlock] at e
    subst e
    rw [hh] at hh'
    injection hh' with e2
    injection e2 with _ e3
    exact absurd e3 (by decide)
 ·exact .inr ⟨h.1.low h.2 hb,h.2⟩
theorem Got.lit (w:World){base:Nat}(zs:List Int)(hb:base≤w.heap.size)(n:Nat)(hn:n=zs.length)(hm:n≤maxLen):Got (w.alloc (.cells (zs.map (Value.int .u64)).toArray 48)) base 48 .u64 (.slice (some ⟨w.heap.size,0,none⟩) n n) zs:=by
 subst hn
 exact⟨by simp,.inr ⟨w.heap.size,zs.length,(zs.map (Value.int .u64)).toArray,rfl,hb,by unfold World.alloc;simp,Nat.le_refl _,hm,by simp,by simp [List.take_of_length_le]⟩⟩
theorem OwnS.made (w:World){base:Nat}(hb:base≤w.heap.size):OwnS (w.alloc (.cells #[] 27)) base (.slice (some ⟨w.heap.size,0,none⟩) 0 0) []:=
 ⟨[],World.ownsRow_made w #[] 0 hb (Nat.zero_le _) rfl,fun j hj=>by simp at hj⟩
theorem Got.jab {w:World}{base:Nat}{E:TypeId}{k:IntKind}{v:Value}{zs:List Int}(h:Got w base E k v zs)(g j:Nat)(x:Int):∃zs',zs'.length=zs.length∧Got (w.setCell ⟨g,j,none⟩ (.int k x)) base E k v zs':=by
 by_cases he:v.ownBlock=some g
 ·have h0:=h
  rcases h.2 with ⟨rfl,hn⟩|⟨g',cap,cur,hv,r⟩
  ·simp [Value.ownBlock] at he
  ·subst hv
   simp [Value.ownBlock] at he
   subst he
   exact⟨zs.set j x,by simp,h0.put j x⟩
 ·exact⟨zs,rfl,ownsRow_setCell_other h he _⟩
theorem GotS.jab {w:World}{base:Nat}{v u:Value}{ls:List (List Int)}{l:List Int}(h:GotS w base v ls)(g j:Nat)(x:Int)(hu:Got w base 48 .u64 u l)(hg:u.ownBlock=some g):
  v.ownBlock≠some g∧∃ls',ls'.length=ls.length∧(∀i,(seg ls' i).length=(seg ls i).length)∧GotS (w.setCell ⟨g,j,none⟩ (.int .u64 x)) base v ls':=by
 obtain⟨vs,h1,h2⟩:=h
 have hne:v.ownBlock≠some g:=by
  intro he
  rcases hu.2 with ⟨rfl,_⟩|⟨g1,cap1,cur1,hv1,hg1,hh1,_⟩
  ·simp [Value.ownBlock] at hg
  ·subst hv1
   simp [Value.ownBlock] at hg
   subst hg
   rcases h1.2 with ⟨rfl,_⟩|⟨g2,cap2,cur2,hv2,hg2,hh2,_⟩
   ·simp [Value.ownBlock] at he
   ·subst hv2
    simp [Value.ownBlock] at he
    subst he
    rw [hh1] at hh2
    injection hh2 with e2
    injection e2 with _ e3
    exact absurd e3 (by decide)
 have hall:∀i:Nat,∃zs,zs.length=(seg ls i).length∧(i<ls.length→∃u,vs[i]?=some u∧Got (w.setCell ⟨g,j,none⟩ (.int .u64 x)) base 48 .u64 u zs):=by
  intro i
  by_cases hi:i<ls.length
  ·obtain⟨y,hy,hgy⟩:=h2 i hi
   obtain⟨zs,hz,hg'⟩:=hgy.jab g j x
   exact⟨zs,hz,fun _=>⟨y,hy,hg'⟩⟩
  ·exact⟨seg ls i,rfl,fun h=>absurd h hi⟩
 obtain⟨f,hf⟩:∃f:Nat→List Int,∀i,(f i).length=(seg ls i).length∧(i<ls.length→∃u,vs[i]?=some u∧Got (w.setCell ⟨g,j,none⟩ (.int .u64 x)) base 48 .u64 u (f i)):=⟨fun i=>Classical.choose (hall i),fun i=>Classical.choose_spec (hall i)⟩
 refine⟨hne,(List.range ls.length).map f,by simp,?_,vs,?_,?_⟩
 ·intro i
  by_cases hi:i<ls.length
  ·have e:seg ((List.range ls.length).map f) i=f i:=by simp [seg,List.getD_eq_getElem?_getD,hi]
   rw [e];exact(hf i).1
  ·rw [seg_out (by simp;omega),seg_out (by omega)]
 ·have:=ownsRow_setCell_other h1 (a:=⟨g,j,none⟩) hne (.int .u64 x)
  simpa using this
 ·intro i hi
  have hi':i<ls.length:=by simpa using hi
  have e:seg ((List.range ls.length).map f) i=f i:=by simp [seg,List.getD_eq_getElem?_getD,hi']
  rw [e]
  exact(hf i).2 hi'
theorem GotS.ent {w:World}{base n c:Nat}{A:Option Addr}{ls:List (List Int)}(h:GotS w base (.slice A n c) ls){i:Nat}(hi:i<ls.length):
  ∃g0 u,A=some ⟨g0,0,none⟩∧w.cell? ⟨g0,i,none⟩=some u∧Got w base 48 .u64 u (seg ls i):=by
 obtain⟨vs,h1,h2⟩:=h
 obtain⟨u,hu,hg⟩:=h2 i hi
 have h0:=h1
 rcases h1.2 with ⟨_,hn⟩|⟨g,cap,cur,hv,_⟩
 ·omega
 ·injection hv with e1 e2 e3
  subst e1
  subst e2
  subst e3
  refine⟨g,u,rfl,?_,hg⟩
  rw [World.ownsRow.cellAt h0 i (by omega)]
  exact hu
theorem GotS.jabFar {w:World}{base:Nat}{v:Value}{ls:List (List Int)}(h:GotS w base v ls){p:Addr}(hp:p.block<base)(u:Value):GotS (w.setCell p u) base v ls:=by
 obtain⟨vs,h1,h2⟩:=h
 refine⟨vs,ownsRow_setCell_below h1 hp u,fun j hj=>?_⟩
 obtain⟨y,hy,hg⟩:=h2 j hj
 exact⟨y,hy,hg.far hp u⟩
end Go.Proofs.YtbpmeppdjicmhaaGreatDoor
