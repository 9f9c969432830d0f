/- The texts Maps, Msg, MsgOwn, FrameNum, Ref04 (what is wanted of them), one after the other. -/
import Derived.Test.YtfaflahfjgnphaaGreatDoorMg1
import Derived.WideMake
import Derived.MapKept
import Derived.Maps.Own
namespace Go.Proofs.YtfaflahfjgnphaaGreatDoor
open Go.RowKit Go.ChangeShapes Go.WideShapes Go.ChangeAt
set_option linter.unusedVariables false
set_option linter.unusedSimpArgs false
set_option maxRecDepth 100000
theorem alloc_setAt (w:World)(o o':Obj):{ (w.alloc o) with heap:=(w.alloc o).heap.setIfInBounds w.heap.size o' }=w.alloc o':=by
 unfold World.alloc
 simp only [World.mk.injEq,and_true]
 apply Array.ext'
 simp
theorem run_insert_new {P:Program}(w:World)(t k e:TypeId)(es:Array MapEntry)(clock:Nat)(key:Int)(val:Value)(ht:P.underlying t=some (.map k e))(hk:P.underlying k=some (.int .i64))
  (hf:Instr.findNow (.int .i64) (.int .i64 key) es.toList 0=some none) :
  (Instr.mapUpdate t (.map (some w.heap.size)) (.int .i64 key) val).run P (w.alloc (.map es clock))=.ok () (w.alloc (.map (es.push { key:=.int .i64 key,val:=val,born:=clock }) (clock+1))):=by
 have hc:(Instr.checkKey false 10000 k (.int .i64 key)).run P (w.alloc (.map es clock))=.ok () (w.alloc (.map es clock)):=MapKept.run_checkKey hk (by simp [MapKept.IsKey]) false 9999
 have hb:(w.alloc (.map es clock)).heap[w.heap.size]?=some (.map es clock):=by unfold World.alloc;simp
 simp [Instr.mapUpdate,run_underlying ht,MapKept.run_getObj_map hb,hc,MapKept.run_findKey hk hf,MapKept.run_setObj_map _ hb,Result.andThen]
 exact alloc_setAt w _ _
theorem run_lookup_yes {P:Program}(w:World)(t k e:TypeId)(r:Nat)(es:Array MapEntry)(clock:Nat)(key:Int)(i:Nat)(v:Value)(ht:P.underlying t=some (.map k e))(hk:P.underlying k=some (.int .i64))
  (hb:w.heap[r]?=some (.map es clock)) (hf:Instr.findNow (.int .i64) (.int .i64 key) es.toList 0=some (some (i,v))) :
  (Instr.lookup t (.map (some r)) (.int .i64 key) true).run P w=.ok (.tuple #[v,.bool true]) w:=by
 have hc:(Instr.checkKey es.isEmpty 10000 k (.int .i64 key)).run P w=.ok () w:=MapKept.run_checkKey hk (by simp [MapKept.IsKey]) _ 9999
 simp [Instr.lookup,run_underlying ht,MapKept.run_getObj_map hb,hc,MapKept.run_findKey hk hf,Result.andThen]
def IsMap (es:Array MapEntry)(clock:Nat)(v:Value)(w:World):Prop:=∃r,v=.map (some r)∧w.heap[r]?=some (.map es clock)
theorem IsMap.below {es:Array MapEntry}{clock:Nat}{v:Value}{w w':World}(h:IsMap es clock v w)(hb:Below w.heap.size w w'):IsMap es clock v w':=by
 obtain⟨r,rfl,h⟩:=h
 refine⟨r,rfl,?_⟩
 have hlt:r<w.heap.size:=by
  rcases Nat.lt_or_ge r w.heap.size with hlt|hge
  ·exact hlt
  ·rw [Array.getElem?_eq_none hge] at h;cases h
 rw [hb.block r hlt]
 exact h
theorem bel_drew {B:Nat}{a w:World}(h:Below B a w):Below B a w.drew:=⟨h.os,h.tape,h.output,h.size,h.block⟩
theorem bcell {W w1:World}(hb:Below W.heap.size W w1):(∀b o,b<W.heap.size→w1.cell? ⟨b,o,none⟩=W.cell? ⟨b,o,none⟩)∧(∀b o,b<W.heap.size→w1.frozen? ⟨b,o,none⟩=W.frozen? ⟨b,o,none⟩):=
 ⟨fun b o h=>hb.cell (p:=⟨b,o,none⟩) h,fun b o h=>hb.frozen (p:=⟨b,o,none⟩) h⟩
theorem blk_new (w:World)(cs:Array Value)(T:TypeId):∀o,(w.alloc (.cells cs T)).cell? ⟨w.heap.size,o,none⟩=cs[o]?:=fun o=>World.cell?_alloc_new w cs T o
theorem blk_below {w w':World}{B b:Nat}{cs:Array Value}(h:∀o,w.cell? ⟨b,o,none⟩=cs[o]?)(hb:Below B w w')(hB:b<B):∀o,w'.cell? ⟨b,o,none⟩=cs[o]?:=
 fun o=>(hb.cell (p:=⟨b,o,none⟩) hB).trans (h o)
theorem blk_alloc {w:World}{b:Nat}{cs:Array Value}(h:∀o,w.cell? ⟨b,o,none⟩=cs[o]?)(hB:b<w.heap.size)(x:Obj):∀o,(w.alloc x).cell? ⟨b,o,none⟩=cs[o]?:=
 blk_below h ((Below.refl _ _).alloc (Nat.le_refl _) x) hB
def seg (ls:List (List Int))(j:Nat):List Int:=ls.getD j []
theorem seg_mem {ls:List (List Int)}{j:Nat}(h:j<ls.length):seg ls j∈ls:=by
 rw [seg,List.getD_eq_getElem?_getD,List.getElem?_eq_getElem h]
 exact List.getElem_mem h
theorem seg_out {ls:List (List Int)}{j:Nat}(h:ls.length≤j):seg ls j=[]:=by
 rw [seg,List.getD_eq_getElem?_getD,List.getElem?_eq_none h];rfl
theorem ext_seg {a b:List (List Int)}(hl:a.length=b.length)(h:∀i,i<a.length→seg a i=seg b i):a=b:=by
 apply List.ext_getElem hl
 intro i h1 h2
 have:=h i h1
 simpa [seg,List.getD_eq_getElem?_getD,h1,h2] using this
def Wd2 (ls:List (List Int)):Prop:=∀l∈ls,Wds l
theorem Wd2.at {ls:List (List Int)}(h:Wd2 ls)(j:Nat):Wds (seg ls j):=by
 by_cases hj:j<ls.length
 ·exact h _ (seg_mem hj)
 ·rw [seg_out (by omega)];intro z hz;cases hz
def Holds (w:World)(v:Value)(l:List Int):Prop:=∃A c,v=.slice A l.length c∧Ri w .u64 A l∧(A=none→c=0)∧l.length≤c∧c≤maxLen
theorem Holds.below {w w':World}{v:Value}{l:List Int}{B:Nat}(h:Holds w v l)(hb:Below B w w')(hB:w.heap.size≤B):Holds w' v l:=by
 obtain⟨A,c,h1,h2,h3⟩:=h
 exact⟨A,c,h1,h2.below hb hB,h3⟩
def Sg (w:World)(A:Option Addr)(ls:List (List Int)):Prop:=
 ls=[]∨∃b off,A=some ⟨b,off,none⟩∧∀j,j<ls.length→∃v,w.cell? ⟨b,off+j,none⟩=some v∧Holds w v (seg ls j)
theorem Sg.nil (w:World)(A:Option Addr):Sg w A []:=.inl rfl
theorem Sg.at {w:World}{A:Option Addr}{ls:List (List Int)}(h:Sg w A ls){i:Nat}(hi:i<ls.length):
  ∃b off,A=some ⟨b,off,none⟩∧∀j,j<ls.length→∃v,w.cell? ⟨b,off+j,none⟩=some v∧Holds w v (seg ls j):=by
 rcases h with rfl|h
 ·simp at hi
 ·exact h
theorem Sg.one {w:World}{A:Option Addr}{ls:List (List Int)}(h:Sg w A ls){i:Nat}(hi:i<ls.length):
  ∃b off A' c,A=some ⟨b,off,none⟩∧w.cell? ⟨b,off+i,none⟩=some (.slice A' (seg ls i).length c)∧Ri w .u64 A' (seg ls i)∧(A'=none→c=0)∧(seg ls i).length≤c∧c≤9223372036854775807:=by
 obtain⟨b,off,hA,hc⟩:=h.at hi
 obtain⟨v,hv,A',c,rfl,h1,h2,h3,h4⟩:=hc i hi
 unfold maxLen at h4
 exact⟨b,off,A',c,hA,hv,h1,h2,h3,by omega⟩
theorem Sg.below {w w':World}{A:Option Addr}{ls:List (List Int)}{B:Nat}(h:Sg w A ls)(hb:Below B w w')(hB:w.heap.size≤B):Sg w' A ls:=by
 rcases h with rfl|⟨b,off,rfl,h⟩
 ·exact .inl rfl
 ·refine .inr ⟨b,off,rfl,fun j hj=>?_⟩
  obtain⟨v,hv,hh⟩:=h j hj
  have hlt:b<w.heap.size:=World.block_lt_of_cell? w ⟨b,off+j,none⟩ hv
  exact⟨v,(hb.cell (p:=⟨b,off+j,none⟩) (by show b<B;omega)).trans hv,hh.below hb hB⟩
def inB (ls:List (List Int))(s a n:Int):Bool:=decide (0≤s∧s<ls.length∧0≤a∧0≤n∧a≤(seg ls s.toNat).length∧n≤(seg ls s.toNat).length-a)
def hasB (ls:List (List Int))(s a:Int):Bool:=decide (0≤s∧s<ls.length∧0≤a∧a<(seg ls s.toNat).length)
def wordV (ls:List (List Int))(s a:Int):Int:=if hasB ls s a then zat (seg ls s.toNat) a.toNat else 0
def sliceL (ls:List (List Int))(s a n:Int):List Int:=((seg ls s.toNat).drop a.toNat).take n.toNat
def fewB (ls:List (List Int)):Bool:=decide ((∀j,j<ls.length→(seg ls j).length≤300)∧ls.length≤20)
theorem few_fits {ls:List (List Int)}(h:fewB ls=true):(∀j,(seg ls j).length≤300)∧ls.length≤20:=by
 obtain⟨h1,h2⟩:=of_decide_eq_true h
 refine⟨fun j=>?_,h2⟩
 by_cases hj:j<ls.length
 ·exact h1 j hj
 ·rw [seg_out (by omega)];simp
def GotS (w:World)(base:Nat)(v:Value)(ls:List (List Int)):Prop:=
 ∃vs:List Value,w.ownsRow base 25 1 v ls.length vs∧∀j,j<ls.length→∃u,vs[j]?=some u∧Got w base 39 .u64 u (seg ls j)
theorem GotS.empty (w:World)(base:Nat):GotS w base (.slice none 0 0) []:=⟨[],World.ownsRow_nil w base _ 1,fun j hj=>by simp at hj⟩
theorem ownsRow_belowS {w w':World}{base B n size:Nat}{e:TypeId}{v:Value}{xs:List Value}(h:w.ownsRow base e size v n xs)(hb:Below B w w')(hB:w.heap.size≤B):w'.ownsRow base e size v n xs:=by
 obtain⟨h1,h2⟩:=h
 refine⟨h1,?_⟩
 rcases h2 with h2|⟨g,cap,cur,hv,hg,hh,r⟩
 ·exact .inl h2
 ·refine .inr ⟨g,cap,cur,hv,hg,?_,r⟩
  have hlt:g<w.heap.size:=by
   rcases Nat.lt_or_ge g w.heap.size with hlt|hge
   ·exact hlt
   ·rw [Array.getElem?_eq_none hge] at hh;cases hh
  rw [hb.block g (by omega)]
  exact hh
theorem GotS.below {w w':World}{base B:Nat}{v:Value}{ls:List (List Int)}(h:GotS w base v ls)(hb:Below B w w')(hB:w.heap.size≤B):GotS w' base v ls:=by
 obtain⟨vs,h1,h2⟩:=h
 refine⟨vs,ownsRow_belowS h1 hb hB,fun j hj=>?_⟩
 obtain⟨u,hu,hg⟩:=h2 j hj
 exact⟨u,hu,hg.below hb hB⟩
theorem GotS.mono {w:World}{base base':Nat}{v:Value}{ls:List (List Int)}(h:GotS w base v ls)(hb:base'≤base):GotS w base' v ls:=by
 obtain⟨vs,⟨h0,h1⟩,h2⟩:=h
 refine⟨vs,⟨h0,?_⟩,fun j hj=>?_⟩
 ·rcases h1 with h1|⟨g,cap,cur,hv,hg,r⟩
  ·exact .inl h1
  ·exact .inr ⟨g,cap,cur,hv,by omega,r⟩
 ·obtain⟨u,hu,hg⟩:=h2 j hj
  exact⟨u,hu,hg.mono hb⟩
theorem Got.holds {w:World}{base:Nat}{v:Value}{l:List Int}(h:Got w base 39 .u64 v l):Holds w v l:=by
 rcases h.2 with ⟨rfl,hn⟩|⟨g,cap,cur,hv,_⟩
 ·have:l=[]:=List.eq_nil_of_length_eq_zero hn
  subst this
  exact⟨none,0,rfl,Ri.nil _ _ _,fun _=>rfl,Nat.le_refl _,Nat.zero_le _⟩
 ·obtain⟨A,c,h1,h2,h3,h4⟩:=h.slice
  refine⟨A,c,h1,h4,fun hA=>?_,h2,h3⟩
  subst hA
  rw [h1] at hv
  injection hv with e
  cases e
theorem GotS.slice {w:World}{base:Nat}{v:Value}{ls:List (List Int)}(h:GotS w base v ls):∃A c,v=.slice A ls.length c∧ls.length≤c∧c≤maxLen∧Sg w A ls:=by
 obtain⟨vs,h1,h2⟩:=h
 have h0:=h1
 rcases h1.2 with ⟨rfl,hn⟩|⟨g,cap,cur,rfl,hg,hh,hc,hm,hs,ht⟩
 ·have:ls=[]:=List.eq_nil_of_length_eq_zero hn
  subst this
  exact⟨none,0,rfl,Nat.le_refl _,Nat.zero_le _,.inl rfl⟩
 ·refine⟨some ⟨g,0,none⟩,cap,rfl,hc,hm,.inr ⟨g,0,rfl,fun j hj=>?_⟩⟩
  obtain⟨u,hu,hgu⟩:=h2 j hj
  refine⟨u,?_,hgu.holds⟩
  rw [Nat.zero_add,World.ownsRow.cellAt h0 j (by omega)]
  exact hu
def ent (b:List Int)(i:Nat):Int:=zat b (4*i)+256*zat b (4*i+1)+65536*zat b (4*i+2)+16777216*zat b (4*i+3)
def tbl (n:Int):Int:=8*(n / 2)+8
def cntF (b:List Int):Int:=ent b 0+1
def atF (b:List Int):Nat→Int
 | 0=>tbl (cntF b)
 | k+1=>atF b k+8*ent b (k+1)
def headP (b:List Int):Prop:=4≤b.length∧cntF b≤512∧tbl (cntF b)≤b.length∧(cntF b % 2=0→ent b ((cntF b).toNat+1)=0)
def stepP (b:List Int)(k:Nat):Prop:=ent b (k+1)<536870912∧atF b (k+1)≤b.length
def okP (b:List Int):Prop:=headP b∧(∀k,k<(cntF b).toNat→stepP b k)∧atF b (cntF b).toNat=b.length
instance (b:List Int):Decidable (headP b):=by unfold headP;infer_instance
instance (b:List Int) (k:Nat):Decidable (stepP b k):=by unfold stepP;infer_instance
instance (b:List Int):Decidable (okP b):=by unfold okP;infer_instance
section
def sameS (a b:List (List Int)):Bool:=decide (a=b)
theorem sameS_no (a b:List (List Int))(k:Nat)(h:sameB (seg a k) (seg b k)=false):sameS a b=false:=by
 unfold sameS
 simp
 rintro rfl
 rw [sameB_self] at h
 cases h
theorem sameS_len (a b:List (List Int))(h:a.length≠b.length):sameS a b=false:=by
 unfold sameS
 simp
 rintro rfl
 exact h rfl
theorem sameS_yes (a b:List (List Int))(hl:a.length=b.length)(h:∀i,i<a.length→sameB (seg a i) (seg b i)=true):sameS a b=true:=by
 unfold sameS
 simp
 exact ext_seg hl fun i hi=>of_decide_eq_true (h i hi)
theorem SameWords_is (A B:Option Addr)(c d:Nat)(a b:List Int)(w:World)(ha:Ri w .u64 A a)(hb:Ri w .u64 B b)(hm:a.length≤9223372036854775807)(hm2:b.length≤9223372036854775807){x:Bool}(hx:sameB a b=x):
  Calls Tryz.prog 22 #[.slice A a.length c,.slice B b.length d] w fun e w'=>e=.returned (.bool x)∧∃m,w'=w.drewN m:=by
 subst hx
 exact SameWords_any A B c d a b w ha hb hm hm2
theorem Sg.drewN {w:World}{A:Option Addr}{ls:List (List Int)}(h:Sg w A ls)(n:Nat):Sg (w.drewN n) A ls:=h
theorem Same4_any (A B:Option Addr)(c d:Nat)(a b:List (List Int))(w:World)(ha:Sg w A a)(hb:Sg w B b)(hm:a.length≤9223372036854775807)(hm2:b.length≤9223372036854775807):
  Calls Tryz.prog 12 #[.slice A a.length c,.slice B b.length d] w fun e w'=>e=.returned (.bool (sameS a b))∧∃m,w'=w.drewN m:=by
 have Ha:=Lib.hid ha
 have Hb:=Lib.hid hb
 clear ha hb
 by_cases hl:a.length=b.length
 ·have HL:=Lib.hid hl
  have hlen:((a.length:Int) != (b.length:Int))=false:=by simp [hl]
  have hlen2:((a.length:Int)==(b.length:Int))=true:=by simp [hl]
  clear hl
  go_enter Tryz.func12,Tryz.ntmps12
  go_wp2
  go_loopw [5] (fun i wr=>∃k:Nat,k≤a.length∧i=.int .i64 k∧(∀j,j<k→sameB (seg a j) (seg b j)=true)∧∃m,wr=w.drewN m) (fun i _=>a.length-(intOf i).toNat)
  case atStart=>exact⟨0,by omega,rfl,by intro j hj;omega,0,rfl⟩
  case round=>
   obtain⟨k,hk,rfl,hsame,hwr⟩:=hrel
   have HS:=Lib.hid hsame
   have HW:=Lib.hid hwr
   have HA2:Hid (Sg wr A a):=Lib.hid (by obtain⟨m,rfl⟩:=hwr;exact Ha.out.drewN m)
   have HB2:Hid (Sg wr B b):=Lib.hid (by obtain⟨m,rfl⟩:=hwr;exact Hb.out.drewN m)
   clear hsame hwr
   by_cases hlt:k<a.length
   ·obtain⟨g,off,A1,c1,rfl,hc1,hr1,-,hd1,hd2⟩:=HA2.out.one hlt
    have hltb:k<b.length:=by rw [←HL.out];exact hlt
    obtain⟨g',off',A2,c2,rfl,hc2,hr2,-,he1,he2⟩:=HB2.out.one hltb
    have hi1:(k:Int)<(a.length:Int):=by omega
    have hi2:(k:Int)<(b.length:Int):=by omega
    have HR1:=Lib.hid hr1
    have HR2:=Lib.hid hr2
    clear hr1 hr2
    cases hx:sameB (seg a k) (seg b k)
    ·have HX:=Lib.hid hx
     clear hx
     go_wp2
     go_quiet ((go_at_call 22;exact Calls.quiet_of (SameWords_is _ _ _ _ _ _ _ (HR1.out.drewN _) (HR2.out.drewN _) (by omega) (by omega) HX.out)))
     go_wp2
     go_ret
     exact⟨by rw [sameS_no a b k HX.out];rfl,by obtain⟨m,h⟩:=HW.out;exact⟨_,by rw [h,World.drewN_drewN]⟩⟩
    ·have HX:=Lib.hid hx
     clear hx
     go_wp2
     go_quiet ((go_at_call 22;exact Calls.quiet_of (SameWords_is _ _ _ _ _ _ _ (HR1.out.drewN _) (HR2.out.drewN _) (by omega) (by omega) HX.out)))
     go_wp2
     go_roundw
     case rel=>exact⟨k+1,by omega,by go_num,fun j hj=>by
      by_cases e:j=k
      ·subst e;exact HX.out
      ·exact HS.out j (by omega),by obtain⟨m,h⟩:=HW.out;exact⟨_,by rw [h,World.drewN_drewN]⟩⟩
     case measure=>simp [intOf];omega
   ·obtain rfl:k=a.length:=by omega
    go_wp2
    go_ret
    exact⟨by rw [sameS_yes a b HL.out HS.out];rfl,HW.out⟩
 ·have HL:=Lib.hid (sameS_len a b hl)
  have hlen:((a.length:Int) != (b.length:Int))=true:=by simp;omega
  have hlen2:((a.length:Int)==(b.length:Int))=false:=by simp;omega
  clear hl
  go_enter Tryz.func12,Tryz.ntmps12
  go_wp2
  go_ret
  exact⟨by rw [HL.out];rfl,0,rfl⟩
def entN (b:List Int)(i:Nat):Nat:=(ent b i).toNat
def atN (b:List Int)(k:Nat):Nat:=(atF b k).toNat
attribute [local irreducible] atN entN
end
end Go.Proofs.YtfaflahfjgnphaaGreatDoor
