/- The texts Maps, Msg, PtrNum, PtrLay, Ref05, MsgLit (what is wanted of them), one after the other. -/
import Derived.Test.YtfaflahfjgnphaaDoorMg1
import Derived.Test.YtfaflahfjgnphaaDoorMg5
import Derived.WideMake
import Derived.MapKept
import Derived.Maps.Own
import Derived.Test.YtfaflahfjgnphaaDoorRows
import Derived.ProofKit
import Derived.OpenShut
import Derived.Deep.DeepFit
import Derived.RegionTactic
import Derived.Deep.QuietTactic
import Derived.BigQuiet
import Derived.StillTailTactics
namespace Go.Proofs.YtfaflahfjgnphaaDoor
open Go.RowKit Go.ChangeShapes Go.WideShapes Go.ChangeAt
set_option linter.unusedVariables false
set_option linter.unusedSimpArgs false
set_option maxRecDepth 100000
theorem alloc_setAt (w:World)(o o':Obj):{ (w.alloc o) with heap:=(w.alloc o).heap.setIfInBounds w.heap.size o' }=w.alloc o':=by
 unfold World.alloc
 simp only [World.mk.injEq,and_true]
 apply Array.ext'
 simp
theorem run_insert_new {P:Program}(w:World)(t k e:TypeId)(es:Array MapEntry)(clock:Nat)(key:Int)(val:Value)(ht:P.underlying t=some (.map k e))(hk:P.underlying k=some (.int .i64))
  (hf:Instr.findNow (.int .i64) (.int .i64 key) es.toList 0=some none) :
  (Instr.mapUpdate t (.map (some w.heap.size)) (.int .i64 key) val).run P (w.alloc (.map es clock))=.ok () (w.alloc (.map (es.push { key:=.int .i64 key,val:=val,born:=clock }) (clock+1))):=by
 have hc:(Instr.checkKey false 10000 k (.int .i64 key)).run P (w.alloc (.map es clock))=.ok () (w.alloc (.map es clock)):=MapKept.run_checkKey hk (by simp [MapKept.IsKey]) false 9999
 have hb:(w.alloc (.map es clock)).heap[w.heap.size]?=some (.map es clock):=by unfold World.alloc;simp
 simp [Instr.mapUpdate,run_underlying ht,MapKept.run_getObj_map hb,hc,MapKept.run_findKey hk hf,MapKept.run_setObj_map _ hb,Result.andThen]
 exact alloc_setAt w _ _
theorem run_lookup_yes {P:Program}(w:World)(t k e:TypeId)(r:Nat)(es:Array MapEntry)(clock:Nat)(key:Int)(i:Nat)(v:Value)(ht:P.underlying t=some (.map k e))(hk:P.underlying k=some (.int .i64))
  (hb:w.heap[r]?=some (.map es clock)) (hf:Instr.findNow (.int .i64) (.int .i64 key) es.toList 0=some (some (i,v))) :
  (Instr.lookup t (.map (some r)) (.int .i64 key) true).run P w=.ok (.tuple #[v,.bool true]) w:=by
 have hc:(Instr.checkKey es.isEmpty 10000 k (.int .i64 key)).run P w=.ok () w:=MapKept.run_checkKey hk (by simp [MapKept.IsKey]) _ 9999
 simp [Instr.lookup,run_underlying ht,MapKept.run_getObj_map hb,hc,MapKept.run_findKey hk hf,Result.andThen]
def IsMap (es:Array MapEntry)(clock:Nat)(v:Value)(w:World):Prop:=∃r,v=.map (some r)∧w.heap[r]?=some (.map es clock)
theorem IsMap.below {es:Array MapEntry}{clock:Nat}{v:Value}{w w':World}(h:IsMap es clock v w)(hb:Below w.heap.size w w'):IsMap es clock v w':=by
 obtain⟨r,rfl,h⟩:=h
 refine⟨r,rfl,?_⟩
 have hlt:r<w.heap.size:=by
  rcases Nat.lt_or_ge r w.heap.size with hlt|hge
  ·exact hlt
  ·rw [Array.getElem?_eq_none hge] at h;cases h
 rw [hb.block r hlt]
 exact h
theorem bel_drew {B:Nat}{a w:World}(h:Below B a w):Below B a w.drew:=⟨h.os,h.tape,h.output,h.size,h.block⟩
theorem bcell {W w1:World}(hb:Below W.heap.size W w1):(∀b o,b<W.heap.size→w1.cell? ⟨b,o,none⟩=W.cell? ⟨b,o,none⟩)∧(∀b o,b<W.heap.size→w1.frozen? ⟨b,o,none⟩=W.frozen? ⟨b,o,none⟩):=
 ⟨fun b o h=>hb.cell (p:=⟨b,o,none⟩) h,fun b o h=>hb.frozen (p:=⟨b,o,none⟩) h⟩
theorem blk_new (w:World)(cs:Array Value)(T:TypeId):∀o,(w.alloc (.cells cs T)).cell? ⟨w.heap.size,o,none⟩=cs[o]?:=fun o=>World.cell?_alloc_new w cs T o
theorem blk_below {w w':World}{B b:Nat}{cs:Array Value}(h:∀o,w.cell? ⟨b,o,none⟩=cs[o]?)(hb:Below B w w')(hB:b<B):∀o,w'.cell? ⟨b,o,none⟩=cs[o]?:=
 fun o=>(hb.cell (p:=⟨b,o,none⟩) hB).trans (h o)
theorem blk_alloc {w:World}{b:Nat}{cs:Array Value}(h:∀o,w.cell? ⟨b,o,none⟩=cs[o]?)(hB:b<w.heap.size)(x:Obj):∀o,(w.alloc x).cell? ⟨b,o,none⟩=cs[o]?:=
 blk_below h ((Below.refl _ _).alloc (Nat.le_refl _) x) hB
def seg (ls:List (List Int))(j:Nat):List Int:=ls.getD j []
theorem seg_mem {ls:List (List Int)}{j:Nat}(h:j<ls.length):seg ls j∈ls:=by
 rw [seg,List.getD_eq_getElem?_getD,List.getElem?_eq_getElem h]
 exact List.getElem_mem h
theorem seg_out {ls:List (List Int)}{j:Nat}(h:ls.length≤j):seg ls j=[]:=by
 rw [seg,List.getD_eq_getElem?_getD,List.getElem?_eq_none h];rfl
theorem seg_append_left (a b:List (List Int))(i:Nat)(h:i<a.length):seg (a++b) i=seg a i:=by
 simp [seg,List.getD_eq_getElem?_getD,List.getElem?_append_left h]
theorem seg_append_right (a b:List (List Int))(i:Nat)(h:a.length≤i):seg (a++b) i=seg b (i-a.length):=by
 simp [seg,List.getD_eq_getElem?_getD,List.getElem?_append_right h]
theorem ext_seg {a b:List (List Int)}(hl:a.length=b.length)(h:∀i,i<a.length→seg a i=seg b i):a=b:=by
 apply List.ext_getElem hl
 intro i h1 h2
 have:=h i h1
 simpa [seg,List.getD_eq_getElem?_getD,h1,h2] using this
theorem take_succ_seg (l:List (List Int))(k:Nat)(h:k<l.length):l.take (k+1)=l.take k++[seg l k]:=by
 rw [List.take_succ_eq_append_getElem h]
 simp [seg,List.getD_eq_getElem?_getD,h]
def Wd2 (ls:List (List Int)):Prop:=∀l∈ls,Wds l
theorem Wd2.at {ls:List (List Int)}(h:Wd2 ls)(j:Nat):Wds (seg ls j):=by
 by_cases hj:j<ls.length
 ·exact h _ (seg_mem hj)
 ·rw [seg_out (by omega)];intro z hz;cases hz
def Holds (w:World)(v:Value)(l:List Int):Prop:=∃A c,v=.slice A l.length c∧Ri w .u64 A l∧(A=none→c=0)∧l.length≤c∧c≤maxLen
theorem Holds.below {w w':World}{v:Value}{l:List Int}{B:Nat}(h:Holds w v l)(hb:Below B w w')(hB:w.heap.size≤B):Holds w' v l:=by
 obtain⟨A,c,h1,h2,h3⟩:=h
 exact⟨A,c,h1,h2.below hb hB,h3⟩
def Sg (w:World)(A:Option Addr)(ls:List (List Int)):Prop:=
 ls=[]∨∃b off,A=some ⟨b,off,none⟩∧∀j,j<ls.length→∃v,w.cell? ⟨b,off+j,none⟩=some v∧Holds w v (seg ls j)
theorem Sg.nil (w:World)(A:Option Addr):Sg w A []:=.inl rfl
theorem Sg.at {w:World}{A:Option Addr}{ls:List (List Int)}(h:Sg w A ls){i:Nat}(hi:i<ls.length):
  ∃b off,A=some ⟨b,off,none⟩∧∀j,j<ls.length→∃v,w.cell? ⟨b,off+j,none⟩=some v∧Holds w v (seg ls j):=by
 rcases h with rfl|h
 ·simp at hi
 ·exact h
theorem Sg.one {w:World}{A:Option Addr}{ls:List (List Int)}(h:Sg w A ls){i:Nat}(hi:i<ls.length):
  ∃b off A' c,A=some ⟨b,off,none⟩∧w.cell? ⟨b,off+i,none⟩=some (.slice A' (seg ls i).length c)∧Ri w .u64 A' (seg ls i)∧(A'=none→c=0)∧(seg ls i).length≤c∧c≤9223372036854775807:=by
 obtain⟨b,off,hA,hc⟩:=h.at hi
 obtain⟨v,hv,A',c,rfl,h1,h2,h3,h4⟩:=hc i hi
 unfold maxLen at h4
 exact⟨b,off,A',c,hA,hv,h1,h2,h3,by omega⟩
theorem Sg.below {w w':World}{A:Option Addr}{ls:List (List Int)}{B:Nat}(h:Sg w A ls)(hb:Below B w w')(hB:w.heap.size≤B):Sg w' A ls:=by
 rcases h with rfl|⟨b,off,rfl,h⟩
 ·exact .inl rfl
 ·refine .inr ⟨b,off,rfl,fun j hj=>?_⟩
  obtain⟨v,hv,hh⟩:=h j hj
  have hlt:b<w.heap.size:=World.block_lt_of_cell? w ⟨b,off+j,none⟩ hv
  exact⟨v,(hb.cell (p:=⟨b,off+j,none⟩) (by show b<B;omega)).trans hv,hh.below hb hB⟩
def inB (ls:List (List Int))(s a n:Int):Bool:=decide (0≤s∧s<ls.length∧0≤a∧0≤n∧a≤(seg ls s.toNat).length∧n≤(seg ls s.toNat).length-a)
def hasB (ls:List (List Int))(s a:Int):Bool:=decide (0≤s∧s<ls.length∧0≤a∧a<(seg ls s.toNat).length)
def wordV (ls:List (List Int))(s a:Int):Int:=if hasB ls s a then zat (seg ls s.toNat) a.toNat else 0
def sliceL (ls:List (List Int))(s a n:Int):List Int:=((seg ls s.toNat).drop a.toNat).take n.toNat
def fewB (ls:List (List Int)):Bool:=decide ((∀j,j<ls.length→(seg ls j).length≤300)∧ls.length≤20)
theorem few_fits {ls:List (List Int)}(h:fewB ls=true):(∀j,(seg ls j).length≤300)∧ls.length≤20:=by
 obtain⟨h1,h2⟩:=of_decide_eq_true h
 refine⟨fun j=>?_,h2⟩
 by_cases hj:j<ls.length
 ·exact h1 j hj
 ·rw [seg_out (by omega)];simp
structure Ptr where
 k:Int
 o:Int
 d:Int
 p:Int
 el:Int
 c:Int
 db:Bool
 pa:Int
 sg:Int
 lo:Int
theorem fld_eq (x a n:Int)(hx:0≤x):fld x a n=x / ((2 ^ a.toNat:Nat):Int) % ((2 ^ n.toNat:Nat):Int):=by
 obtain⟨X,rfl⟩:=Int.eq_ofNat_of_zero_le hx
 unfold fld fldN
 rw [Int.toNat_natCast]
 simp
theorem f_0_2 (x:Int)(hx:0≤x):fld x 0 2=x % 4:=by
 rw [fld_eq x 0 2 hx];show x / 1 % 4=x % 4;omega
theorem f_2_1 (x:Int)(hx:0≤x):fld x 2 1=x / 4 % 2:=by rw [fld_eq x _ _ hx];rfl
theorem f_2_30 (x:Int)(hx:0≤x):fld x 2 30=x / 4 % 1073741824:=by rw [fld_eq x _ _ hx];rfl
theorem f_3_29 (x:Int)(hx:0≤x):fld x 3 29=x / 8 % 536870912:=by rw [fld_eq x _ _ hx];rfl
theorem f_32_3 (x:Int)(hx:0≤x):fld x 32 3=x / 4294967296 % 8:=by rw [fld_eq x _ _ hx];rfl
theorem f_32_16 (x:Int)(hx:0≤x):fld x 32 16=x / 4294967296 % 65536:=by rw [fld_eq x _ _ hx];rfl
theorem f_32_32 (x:Int)(hx:0≤x):fld x 32 32=x / 4294967296 % 4294967296:=by rw [fld_eq x _ _ hx];rfl
theorem f_35_29 (x:Int)(hx:0≤x):fld x 35 29=x / 34359738368 % 536870912:=by rw [fld_eq x _ _ hx];rfl
theorem f_48_16 (x:Int)(hx:0≤x):fld x 48 16=x / 281474976710656 % 65536:=by rw [fld_eq x _ _ hx];rfl
def off30 (x:Int):Int:=if 536870912≤x / 4 % 1073741824 then x / 4 % 1073741824-1073741824 else x / 4 % 1073741824
theorem s_2_30 (x:Int)(hx:0≤x):sgn x 2 30=off30 x:=by
 unfold sgn off30
 rw [f_2_30 x hx]
 rfl
def decP (x:Int):Ptr:=
 if x % 4=0 then ⟨0,off30 x,x / 4294967296 % 65536,x / 281474976710656 % 65536,0,0,false,0,0,0⟩
 else if x % 4=1 then ⟨1,off30 x,0,0,x / 4294967296 % 8,x / 34359738368 % 536870912,false,0,0,0⟩
 else if x % 4=2 then ⟨2,0,0,0,0,0,x / 4 % 2==1,x / 8 % 536870912,x / 4294967296 % 4294967296,0⟩
 else ⟨3,0,0,0,0,0,false,0,x / 4294967296 % 4294967296,x / 4 % 1073741824⟩
def encW (q:Ptr):Int:=
 if q.k=0 then 4*(q.o % 1073741824)+4294967296*(q.d % 65536)+281474976710656*(q.p % 65536)
 else if q.k=1 then 1+4*(q.o % 1073741824)+4294967296*(q.el % 8)+34359738368*(q.c % 536870912)
 else if q.k=2 then 2+(if q.db then 4 else 0)+8*(q.pa % 536870912)+4294967296*(q.sg % 4294967296)
 else 3+4*(q.lo % 1073741824)+4294967296*(q.sg % 4294967296)
def Vld (q:Ptr):Prop:=
 (q.k=0∧-536870912≤q.o∧q.o≤536870911∧0≤q.d∧q.d≤65535∧0≤q.p∧q.p≤65535∧q.el=0∧q.c=0∧q.db=false∧q.pa=0∧q.sg=0∧q.lo=0) ∨
 (q.k=1∧-536870912≤q.o∧q.o≤536870911∧q.d=0∧q.p=0∧0≤q.el∧q.el≤7∧0≤q.c∧q.c≤536870911∧q.db=false∧q.pa=0∧q.sg=0∧q.lo=0) ∨
 (q.k=2∧q.o=0∧q.d=0∧q.p=0∧q.el=0∧q.c=0∧0≤q.pa∧q.pa≤536870911∧0≤q.sg∧q.sg≤4294967295∧q.lo=0) ∨
 (q.k=3∧q.o=0∧q.d=0∧q.p=0∧q.el=0∧q.c=0∧q.db=false∧q.pa=0∧0≤q.sg∧q.sg≤4294967295∧0≤q.lo∧q.lo≤1073741823)
instance (q:Ptr):Decidable (Vld q):=by unfold Vld;infer_instance
theorem decP_vld (x:Int)(h0:0≤x)(h1:x<18446744073709551616):Vld (decP x):=by
 unfold decP Vld off30
 by_cases c0:x % 4=0
 ·rw [if_pos c0];left;simp;split<;>omega
 ·rw [if_neg c0]
  by_cases c1:x % 4=1
  ·rw [if_pos c1];right;left;simp;split<;>omega
  ·rw [if_neg c1]
   by_cases c2:x % 4=2
   ·rw [if_pos c2];right;right;left;simp;omega
   ·rw [if_neg c2];right;right;right;simp;omega
theorem encW_bd (q:Ptr):0≤encW q∧encW q<18446744073709551616:=by
 unfold encW
 split
 ·omega
 ·split
  ·omega
  ·split
   ·split<;>omega
   ·omega
theorem decP_encW (q:Ptr)(h:Vld q):decP (encW q)=q:=by
 obtain⟨k,o,d,p,el,c,db,pa,sg,lo⟩:=q
 unfold Vld at h
 simp only at h
 rcases h with ⟨rfl,h⟩|⟨rfl,h⟩|⟨rfl,h⟩|⟨rfl,h⟩
 ·obtain⟨h1,h2,h3,h4,h5,h6,rfl,rfl,rfl,rfl,rfl,rfl⟩:=h
  simp only [encW,if_pos]
  generalize hx:4*(o % 1073741824)+4294967296*(d % 65536)+281474976710656*(p % 65536)=x
  unfold decP off30
  rw [if_pos (by omega)]
  simp only [Ptr.mk.injEq,and_true,true_and]
  refine⟨?_,by omega,by omega⟩
  split<;>omega
 ·obtain⟨h1,h2,rfl,rfl,h5,h6,h7,h8,rfl,rfl,rfl,rfl⟩:=h
  simp only [encW,show ((1:Int)=0)=False by decide,if_false,if_true]
  generalize hx:1+4*(o % 1073741824)+4294967296*(el % 8)+34359738368*(c % 536870912)=x
  unfold decP off30
  rw [if_neg (by omega),if_pos (by omega)]
  simp only [Ptr.mk.injEq,and_true,true_and]
  refine⟨?_,by omega,by omega⟩
  split<;>omega
 ·obtain⟨rfl,rfl,rfl,rfl,rfl,h5,h6,h7,h8,rfl⟩:=h
  simp only [encW,show ((2:Int)=0)=False by decide,show ((2:Int)=1)=False by decide,if_false,if_true]
  cases db
  ·simp only [Bool.false_eq_true,if_false]
   generalize hx:2+0+8*(pa % 536870912)+4294967296*(sg % 4294967296)=x
   unfold decP
   rw [if_neg (by omega),if_neg (by omega),if_pos (by omega)]
   simp only [Ptr.mk.injEq,and_true,true_and]
   refine⟨?_,by omega,by omega⟩
   rw [beq_eq_false_iff_ne];omega
  ·simp only [if_true]
   generalize hx:2+4+8*(pa % 536870912)+4294967296*(sg % 4294967296)=x
   unfold decP
   rw [if_neg (by omega),if_neg (by omega),if_pos (by omega)]
   simp only [Ptr.mk.injEq,and_true,true_and]
   refine⟨?_,by omega,by omega⟩
   rw [beq_iff_eq];omega
 ·obtain⟨rfl,rfl,rfl,rfl,rfl,rfl,rfl,h5,h6,h7,h8⟩:=h
  simp only [encW,show ((3:Int)=0)=False by decide,show ((3:Int)=1)=False by decide,show ((3:Int)=2)=False by decide,if_false]
  generalize hx:3+4*(lo % 1073741824)+4294967296*(sg % 4294967296)=x
  unfold decP
  rw [if_neg (by omega),if_neg (by omega),if_neg (by omega)]
  simp only [Ptr.mk.injEq,and_true,true_and]
  omega
section
theorem lay_map:Tryd.prog.underlying 120=some (.map 3 118):=by kernel_rfl
theorem lay_key:Tryd.prog.underlying 3=some (.int .i64):=by kernel_rfl
def ents:Array MapEntry:=#[{ key:=.int .i64 0,val:=.func (.func 76) #[] #[],born:=0 },{ key:=.int .i64 1,val:=.func (.func 78) #[] #[],born:=1 },
 { key:=.int .i64 2,val:=.func (.func 79) #[] #[],born:=2 },{ key:=.int .i64 3,val:=.func (.func 82) #[] #[],born:=3 }]
theorem layouts_any (w:World):Calls Tryd.prog 71 #[] w fun e w'=>e=.returned (.map (some w.heap.size))∧w'=w.alloc (.map ents 4):=by
 have hmm:=@run_makeMap Tryd.prog
 have h0:(Instr.mapUpdate 120 (.map (some w.heap.size)) (.int .i64 0) (.func (.func 76) #[] #[])).run Tryd.prog (w.alloc (.map #[] 0))=.ok () (w.alloc (.map #[{ key:=.int .i64 0,val:=.func (.func 76) #[] #[],born:=0 }] 1)):=
  run_insert_new w _ _ _ _ _ _ _ lay_map lay_key (by rfl)
 have h1:(Instr.mapUpdate 120 (.map (some w.heap.size)) (.int .i64 1) (.func (.func 78) #[] #[])).run Tryd.prog (w.alloc (.map #[{ key:=.int .i64 0,val:=.func (.func 76) #[] #[],born:=0 }] 1))=.ok () (w.alloc (.map #[{ key:=.int .i64 0,val:=.func (.func 76) #[] #[],born:=0 },{ key:=.int .i64 1,val:=.func (.func 78) #[] #[],born:=1 }] 2)):=
  run_insert_new w _ _ _ _ _ _ _ lay_map lay_key (by rfl)
 have h2:(Instr.mapUpdate 120 (.map (some w.heap.size)) (.int .i64 2) (.func (.func 79) #[] #[])).run Tryd.prog (w.alloc (.map #[{ key:=.int .i64 0,val:=.func (.func 76) #[] #[],born:=0 },{ key:=.int .i64 1,val:=.func (.func 78) #[] #[],born:=1 }] 2))=.ok () (w.alloc (.map #[{ key:=.int .i64 0,val:=.func (.func 76) #[] #[],born:=0 },{ key:=.int .i64 1,val:=.func (.func 78) #[] #[],born:=1 },{ key:=.int .i64 2,val:=.func (.func 79) #[] #[],born:=2 }] 3)):=
  run_insert_new w _ _ _ _ _ _ _ lay_map lay_key (by rfl)
 have h3:(Instr.mapUpdate 120 (.map (some w.heap.size)) (.int .i64 3) (.func (.func 82) #[] #[])).run Tryd.prog (w.alloc (.map #[{ key:=.int .i64 0,val:=.func (.func 76) #[] #[],born:=0 },{ key:=.int .i64 1,val:=.func (.func 78) #[] #[],born:=1 },{ key:=.int .i64 2,val:=.func (.func 79) #[] #[],born:=2 }] 3))=.ok () (w.alloc (.map #[{ key:=.int .i64 0,val:=.func (.func 76) #[] #[],born:=0 },{ key:=.int .i64 1,val:=.func (.func 78) #[] #[],born:=1 },{ key:=.int .i64 2,val:=.func (.func 79) #[] #[],born:=2 },{ key:=.int .i64 3,val:=.func (.func 82) #[] #[],born:=3 }] 4)):=
  run_insert_new w _ _ _ _ _ _ _ lay_map lay_key (by rfl)
 go_enter Tryd.func71,Tryd.ntmps71
 go_wp2
 go_ret
 exact⟨rfl,rfl⟩
theorem IsMap.stab (es:Array MapEntry)(n:Nat):stable (IsMap es n):=fun v w w' h hb=>h.below hb
attribute [local simp] AllK KnowsV look Is
def Lays (K:Int)(fv:Value)(ok:Bool):Prop:=∀(w:World) (r:Nat),w.heap[r]?=some (.map ents 4)→(Instr.lookup 120 (.map (some r)) (.int .i64 K) true).run Tryd.prog w=.ok (.tuple #[fv,.bool ok]) w
theorem lays0:Lays 0 (.func (.func 76) #[] #[]) true:=fun w r h=>run_lookup_yes w _ _ _ r _ _ 0 0 _ lay_map lay_key h (by rfl)
theorem lays1:Lays 1 (.func (.func 78) #[] #[]) true:=fun w r h=>run_lookup_yes w _ _ _ r _ _ 1 1 _ lay_map lay_key h (by rfl)
theorem lays2:Lays 2 (.func (.func 79) #[] #[]) true:=fun w r h=>run_lookup_yes w _ _ _ r _ _ 2 2 _ lay_map lay_key h (by rfl)
theorem lays3:Lays 3 (.func (.func 82) #[] #[]) true:=fun w r h=>run_lookup_yes w _ _ _ r _ _ 3 3 _ lay_map lay_key h (by rfl)
end
theorem Few_any (A:Option Addr)(c:Nat)(ls:List (List Int))(w:World)(hs:Sg w A ls)(hm:ls.length≤9223372036854775807):
  Calls Tryd.prog 11 #[.slice A ls.length c] w fun e w'=>e=.returned (.bool (fewB ls))∧w=w':=by
 have Hs:=Lib.hid hs
 clear hs
 go_enter Tryd.func11,Tryd.ntmps11
 go_wp2
 go_loop [3] (fun i=>∃k:Nat,k≤ls.length∧i=.int .i64 k∧∀j,j<k→(seg ls j).length≤300) (fun i=>ls.length-(intOf i).toNat)
 case atStart=>exact⟨0,by omega,rfl,by intro j hj;omega⟩
 case round=>
  obtain⟨k,hk,rfl,hfew⟩:=hrel
  have HF:=Lib.hid hfew
  clear hfew
  by_cases hlt:k<ls.length
  ·obtain⟨b,off,A',c',rfl,hcell,hri,-,-,-⟩:=Hs.out.one hlt
   have hi1:(k:Int)<(ls.length:Int):=by omega
   clear hri
   by_cases h3:(seg ls k).length≤300
   ·have h4:¬(300:Int)<((seg ls k).length:Int):=by omega
    have H3:=Lib.hid h3
    go_wp2
    go_round
    case rel=>exact⟨k+1,by omega,by go_num,fun j hj=>by
     by_cases e:j=k
     ·subst e;exact H3.out
     ·exact HF.out j (by omega)⟩
    case measure=>simp [intOf];omega
   ·have h4:(300:Int)<((seg ls k).length:Int):=by omega
    have HR:Hid (fewB ls=false):=Lib.hid (by
     unfold fewB
     simp
     intro hh
     exact absurd (hh k hlt) h3)
    go_wp2
    go_ret
    exact⟨by rw [HR.out];rfl,rfl⟩
  ·obtain rfl:k=ls.length:=by omega
   have HR:Hid (fewB ls=decide ((ls.length:Int)≤20)):=Lib.hid (by
    unfold fewB
    rw [decide_eq_decide]
    constructor
    ·intro h;omega
    ·intro h;exact⟨HF.out,by omega⟩)
   go_wp2
   go_ret
   exact⟨by rw [HR.out];rfl,rfl⟩
theorem sliceL_length {ls:List (List Int)}{s a n:Int}(h:inB ls s a n=true):((sliceL ls s a n).length:Int)=n:=by
 have h2:=of_decide_eq_true h
 unfold sliceL
 rw [List.length_take,List.length_drop]
 omega
theorem Sg.lit {w:World}(vs:List Value)(ls:List (List Int))(T:TypeId)(h:∀j,j<ls.length→∃v,vs[j]?=some v∧Holds w v (seg ls j)):
  Sg (w.alloc (.cells vs.toArray T)) (some ⟨w.heap.size,0,none⟩) ls:=by
 refine .inr ⟨w.heap.size,0,rfl,fun j hj=>?_⟩
 obtain⟨v,hv,hh⟩:=h j hj
 refine⟨v,?_,hh.below ((Below.refl _ _).alloc (Nat.le_refl _) _) (Nat.le_refl _)⟩
 rw [World.cell?_alloc_new]
 simpa using hv
theorem Holds.lit (w:World)(zs:List Int)(T:TypeId)(n:Nat)(hn:n=zs.length)(hm:n≤maxLen):Holds (w.alloc (.cells (zs.map (Value.int .u64)).toArray T)) (.slice (some ⟨w.heap.size,0,none⟩) n n) zs:=by
 subst hn
 exact⟨_,_,rfl,Ri.lit w .u64 zs T,(fun h=>by cases h),Nat.le_refl _,hm⟩
theorem Holds.alloc {w:World}{v:Value}{l:List Int}(h:Holds w v l)(o:Obj):Holds (w.alloc o) v l:=h.below ((Below.refl _ _).alloc (Nat.le_refl _) o) (Nat.le_refl _)
theorem sg_lit1 (w:World)(v:Value)(z:List Int)(T:TypeId)(n:Nat)(hn:w.heap.size=n)(h:Holds w v z):Sg (w.alloc (.cells #[v] T)) (some ⟨n,0,none⟩) [z]:=by
 subst hn
 exact Sg.lit [v] [z] T (by
  intro j hj
  match j,hj with
  | 0,_=>exact⟨_,rfl,h⟩
  | n+1,h=>exact absurd h (by simp))
end Go.Proofs.YtfaflahfjgnphaaDoor
