/- The texts TrimN, Msg, MsgOwn, RegionP, MsgLit, App0 (what is wanted of them), one after the other. -/
import Derived.Test.YtclpapddejgpnaaDoorMg9
namespace Go.Proofs.YtclpapddejgpnaaDoor
open Go.ChangeShapes Go.WideShapes Go.ChangeAt Go.RowKit
set_option linter.unusedVariables false
set_option linter.unusedSimpArgs false
set_option maxRecDepth 100000
def wordsF (d:List Int):Nat→Nat
 | 0=>0
 | i+1=>if zat d i=0 then wordsF d i else i / 8+1
def wordsT (d:List Int):Nat:=wordsF d d.length
def kAt (ks:List Nd)(i:Nat):Int:=(ks[i]?.map Nd.k).getD 0
def ptrsF (ks:List Nd):Nat→Nat
 | 0=>0
 | i+1=>if kAt ks i=0 then ptrsF ks i else i+1
def ptrsT (ks:List Nd):Nat:=ptrsF ks ks.length
theorem kAt_get {ks:List Nd}{i:Nat}(h:i<ks.length):kAt ks i=(ks[i]).k:=by simp [kAt,h]
theorem wordsF_le (d:List Int):∀i,8*wordsF d i<i+8
 | 0=>by simp [wordsF]
 | i+1=>by
  have:=wordsF_le d i
  unfold wordsF
  split<;>omega
theorem wordsT_le (d:List Int)(h:d.length % 8=0):8*wordsT d≤d.length:=by
 have:=wordsF_le d d.length
 unfold wordsT
 omega
theorem ptrsF_le (ks:List Nd):∀i,ptrsF ks i≤i
 | 0=>by simp [ptrsF]
 | i+1=>by
  have:=ptrsF_le ks i
  unfold ptrsF
  split<;>omega
theorem ptrsT_le (ks:List Nd):ptrsT ks≤ks.length:=ptrsF_le ks ks.length
mutual
def trimN:Nd→Nd
 | .mk k e n d ks=>.mk k e n (if k=1 then d.take (8*wordsT d) else d) (if k=1 then (trimK ks).take (ptrsT ks) else trimK ks)
def trimK:List Nd→List Nd
 | []=>[]
 | x::xs=>trimN x::trimK xs
end
theorem trimK_map (ks:List Nd):trimK ks=ks.map trimN:=by
 induction ks with
 | nil=>simp [trimK]
 | cons x xs ih=>simp [trimK,ih]
theorem trimK_length (ks:List Nd):(trimK ks).length=ks.length:=by rw [trimK_map,List.length_map]
theorem trimK_get (ks:List Nd)(j:Nat)(h:j<ks.length):(trimK ks)[j]'(by rw [trimK_length];exact h)=trimN ks[j]:=by simp [trimK_map]
theorem trimN_k (x:Nd):(trimN x).k=x.k:=by obtain⟨k,e,n,d,ks⟩:=x;simp [trimN,Nd.k]
mutual
def trimmedN:Nd→Bool
 | .mk k e n d ks=>decide (k=1→8*wordsT d=d.length∧ptrsT ks=ks.length)&&trimmedK ks
def trimmedK:List Nd→Bool
 | []=>true
 | x::xs=>trimmedN x&&trimmedK xs
end
theorem trimmedK_append (a b:List Nd):trimmedK (a++b)=(trimmedK a&&trimmedK b):=by
 induction a with
 | nil=>simp [trimmedK]
 | cons x xs ih=>simp only [List.cons_append,trimmedK,ih,Bool.and_assoc]
theorem trimmedK_take (l:List Nd)(j:Nat)(h:j<l.length):trimmedK (l.take (j+1))=(trimmedK (l.take j)&&trimmedN l[j]):=by
 rw [List.take_succ_eq_append_getElem h,trimmedK_append]
 simp [trimmedK]
theorem trimmedK_no (l:List Nd)(j:Nat)(h:j<l.length)(hb:trimmedN l[j]=false):trimmedK l=false:=by
 have h1:=trimmedK_take l j h
 have h2:=trimmedK_append (l.take (j+1)) (l.drop (j+1))
 rw [List.take_append_drop] at h2
 rw [h2,h1,hb]
 simp
def uniD (ks:List Nd):Nat→Nat
 | 0=>0
 | i+1=>max (uniD ks i) (((ks[i]?.map Nd.d).getD []).length / 8)
def uniP (ks:List Nd):Nat→Nat
 | 0=>0
 | i+1=>max (uniP ks i) (((ks[i]?.map Nd.ks).getD []).length)
theorem uniD_succ {ks:List Nd}{i:Nat}(h:i<ks.length):uniD ks (i+1)=max (uniD ks i) ((ks[i]).d.length / 8):=by simp [uniD,h]
theorem uniP_succ {ks:List Nd}{i:Nat}(h:i<ks.length):uniP ks (i+1)=max (uniP ks i) ((ks[i]).ks.length):=by simp [uniP,h]
def seg (ls:List (List Int))(j:Nat):List Int:=ls.getD j []
theorem seg_mem {ls:List (List Int)}{j:Nat}(h:j<ls.length):seg ls j∈ls:=by
 rw [seg,List.getD_eq_getElem?_getD,List.getElem?_eq_getElem h]
 exact List.getElem_mem h
theorem seg_out {ls:List (List Int)}{j:Nat}(h:ls.length≤j):seg ls j=[]:=by
 rw [seg,List.getD_eq_getElem?_getD,List.getElem?_eq_none h];rfl
def Wd2 (ls:List (List Int)):Prop:=∀l∈ls,Wds l
theorem Wd2.at {ls:List (List Int)}(h:Wd2 ls)(j:Nat):Wds (seg ls j):=by
 by_cases hj:j<ls.length
 ·exact h _ (seg_mem hj)
 ·rw [seg_out (by omega)];intro z hz;cases hz
def Holds (w:World)(v:Value)(l:List Int):Prop:=∃A c,v=.slice A l.length c∧Ri w .u64 A l∧(A=none→c=0)∧l.length≤c∧c≤maxLen
theorem Holds.below {w w':World}{v:Value}{l:List Int}{B:Nat}(h:Holds w v l)(hb:Below B w w')(hB:w.heap.size≤B):Holds w' v l:=by
 obtain⟨A,c,h1,h2,h3⟩:=h
 exact⟨A,c,h1,h2.below hb hB,h3⟩
def Sg (w:World)(A:Option Addr)(ls:List (List Int)):Prop:=
 ls=[]∨∃b off,A=some ⟨b,off,none⟩∧∀j,j<ls.length→∃v,w.cell? ⟨b,off+j,none⟩=some v∧Holds w v (seg ls j)
theorem Sg.nil (w:World)(A:Option Addr):Sg w A []:=.inl rfl
theorem Sg.at {w:World}{A:Option Addr}{ls:List (List Int)}(h:Sg w A ls){i:Nat}(hi:i<ls.length):
  ∃b off,A=some ⟨b,off,none⟩∧∀j,j<ls.length→∃v,w.cell? ⟨b,off+j,none⟩=some v∧Holds w v (seg ls j):=by
 rcases h with rfl|h
 ·simp at hi
 ·exact h
theorem Sg.one {w:World}{A:Option Addr}{ls:List (List Int)}(h:Sg w A ls){i:Nat}(hi:i<ls.length):
  ∃b off A' c,A=some ⟨b,off,none⟩∧w.cell? ⟨b,off+i,none⟩=some (.slice A' (seg ls i).length c)∧Ri w .u64 A' (seg ls i)∧(A'=none→c=0)∧(seg ls i).length≤c∧c≤9223372036854775807:=by
 obtain⟨b,off,hA,hc⟩:=h.at hi
 obtain⟨v,hv,A',c,rfl,h1,h2,h3,h4⟩:=hc i hi
 unfold maxLen at h4
 exact⟨b,off,A',c,hA,hv,h1,h2,h3,by omega⟩
theorem Sg.below {w w':World}{A:Option Addr}{ls:List (List Int)}{B:Nat}(h:Sg w A ls)(hb:Below B w w')(hB:w.heap.size≤B):Sg w' A ls:=by
 rcases h with rfl|⟨b,off,rfl,h⟩
 ·exact .inl rfl
 ·refine .inr ⟨b,off,rfl,fun j hj=>?_⟩
  obtain⟨v,hv,hh⟩:=h j hj
  have hlt:b<w.heap.size:=World.block_lt_of_cell? w ⟨b,off+j,none⟩ hv
  exact⟨v,(hb.cell (p:=⟨b,off+j,none⟩) (by show b<B;omega)).trans hv,hh.below hb hB⟩
def inB (ls:List (List Int))(s a n:Int):Bool:=decide (0≤s∧s<ls.length∧0≤a∧0≤n∧a≤(seg ls s.toNat).length∧n≤(seg ls s.toNat).length-a)
def hasB (ls:List (List Int))(s a:Int):Bool:=decide (0≤s∧s<ls.length∧0≤a∧a<(seg ls s.toNat).length)
def wordV (ls:List (List Int))(s a:Int):Int:=if hasB ls s a then zat (seg ls s.toNat) a.toNat else 0
def sliceL (ls:List (List Int))(s a n:Int):List Int:=((seg ls s.toNat).drop a.toNat).take n.toNat
def fewB (ls:List (List Int)):Bool:=decide ((∀j,j<ls.length→(seg ls j).length≤300)∧ls.length≤20)
theorem few_fits {ls:List (List Int)}(h:fewB ls=true):(∀j,(seg ls j).length≤300)∧ls.length≤20:=by
 obtain⟨h1,h2⟩:=of_decide_eq_true h
 refine⟨fun j=>?_,h2⟩
 by_cases hj:j<ls.length
 ·exact h1 j hj
 ·rw [seg_out (by omega)];simp
def GotS (w:World)(base:Nat)(v:Value)(ls:List (List Int)):Prop:=
 ∃vs:List Value,w.ownsRow base 22 1 v ls.length vs∧∀j,j<ls.length→∃u,vs[j]?=some u∧Got w base 32 .u64 u (seg ls j)
theorem GotS.empty (w:World)(base:Nat):GotS w base (.slice none 0 0) []:=⟨[],World.ownsRow_nil w base _ 1,fun j hj=>by simp at hj⟩
theorem ownsRow_belowS {w w':World}{base B n size:Nat}{e:TypeId}{v:Value}{xs:List Value}(h:w.ownsRow base e size v n xs)(hb:Below B w w')(hB:w.heap.size≤B):w'.ownsRow base e size v n xs:=by
 obtain⟨h1,h2⟩:=h
 refine⟨h1,?_⟩
 rcases h2 with h2|⟨g,cap,cur,hv,hg,hh,r⟩
 ·exact .inl h2
 ·refine .inr ⟨g,cap,cur,hv,hg,?_,r⟩
  have hlt:g<w.heap.size:=by
   rcases Nat.lt_or_ge g w.heap.size with hlt|hge
   ·exact hlt
   ·rw [Array.getElem?_eq_none hge] at hh;cases hh
  rw [hb.block g (by omega)]
  exact hh
theorem GotS.below {w w':World}{base B:Nat}{v:Value}{ls:List (List Int)}(h:GotS w base v ls)(hb:Below B w w')(hB:w.heap.size≤B):GotS w' base v ls:=by
 obtain⟨vs,h1,h2⟩:=h
 refine⟨vs,ownsRow_belowS h1 hb hB,fun j hj=>?_⟩
 obtain⟨u,hu,hg⟩:=h2 j hj
 exact⟨u,hu,hg.below hb hB⟩
theorem GotS.mono {w:World}{base base':Nat}{v:Value}{ls:List (List Int)}(h:GotS w base v ls)(hb:base'≤base):GotS w base' v ls:=by
 obtain⟨vs,⟨h0,h1⟩,h2⟩:=h
 refine⟨vs,⟨h0,?_⟩,fun j hj=>?_⟩
 ·rcases h1 with h1|⟨g,cap,cur,hv,hg,r⟩
  ·exact .inl h1
  ·exact .inr ⟨g,cap,cur,hv,by omega,r⟩
 ·obtain⟨u,hu,hg⟩:=h2 j hj
  exact⟨u,hu,hg.mono hb⟩
theorem Got.holds {w:World}{base:Nat}{v:Value}{l:List Int}(h:Got w base 32 .u64 v l):Holds w v l:=by
 rcases h.2 with ⟨rfl,hn⟩|⟨g,cap,cur,hv,_⟩
 ·have:l=[]:=List.eq_nil_of_length_eq_zero hn
  subst this
  exact⟨none,0,rfl,Ri.nil _ _ _,fun _=>rfl,Nat.le_refl _,Nat.zero_le _⟩
 ·obtain⟨A,c,h1,h2,h3,h4⟩:=h.slice
  refine⟨A,c,h1,h4,fun hA=>?_,h2,h3⟩
  subst hA
  rw [h1] at hv
  injection hv with e
  cases e
theorem GotS.slice {w:World}{base:Nat}{v:Value}{ls:List (List Int)}(h:GotS w base v ls):∃A c,v=.slice A ls.length c∧ls.length≤c∧c≤maxLen∧Sg w A ls:=by
 obtain⟨vs,h1,h2⟩:=h
 have h0:=h1
 rcases h1.2 with ⟨rfl,hn⟩|⟨g,cap,cur,rfl,hg,hh,hc,hm,hs,ht⟩
 ·have:ls=[]:=List.eq_nil_of_length_eq_zero hn
  subst this
  exact⟨none,0,rfl,Nat.le_refl _,Nat.zero_le _,.inl rfl⟩
 ·refine⟨some ⟨g,0,none⟩,cap,rfl,hc,hm,.inr ⟨g,0,rfl,fun j hj=>?_⟩⟩
  obtain⟨u,hu,hgu⟩:=h2 j hj
  refine⟨u,?_,hgu.holds⟩
  rw [Nat.zero_add,World.ownsRow.cellAt h0 j (by omega)]
  exact hu
section
theorem exits_ok (b:Bool)(Q:Exit→Act→World→Prop):∀e a w,(if b=true then Q else NoWay) e a w→Q e a w:=by
 intro e a w h
 cases b with
 | true=>exact h
 | false=>exact h.elim
theorem wpOp_exits {P:Program}{ops:Array Oper}{Q R:Exit→Act→World→Prop}{i:Nat}{o:Oper}{a:Act}{w:World}{K K':Act→World→Prop}(hi:ops[i]?=some o)
  (hR:∀e a w,R e a w→Q e a w) (hk:∀a' w',K a' w'→K' a' w')
  (h:if Region.wanted o (yielded ops a.tmps) then o.wp P a w K R else K (a.put o.dst undef) w):wpOp P ops Q i K' a w:=by
 unfold wpOp
 rw [hi]
 simp only
 by_cases hw:Region.wanted o (yielded ops a.tmps)=true
 ·rw [if_pos hw] at h ⊢
  left
  unfold Oper.wp at *
  generalize (execOp a.eval o).run P w=r at *
  cases r with
  | ok n w'=>
   cases n<;>simp only [Oper.upon] at h ⊢ <;>
    first
     | exact hk _ _ h
     | exact Calls.mono h (fun e w'' he=>by
       cases e with
       | returned v=>exact hk _ _ he
       | panicked c=>exact hR _ _ _ he
       | outgrown=>obtain⟨a1,w1,h'⟩:=he;exact⟨a1,w1,hR _ _ _ h'⟩)
     | exact Rows.mono h (fun _ _ he=>hk _ _ he)
  | halt x w'=>
   cases x<;>simp only [Oper.upon] at h ⊢ <;>
    first
     | exact h.elim
     | exact hR _ _ _ h
 ·rw [if_neg hw] at h ⊢
  exact hk _ _ h
def StepP (P:Program)(ops:Array Oper)(l:List Oper)(m:Nat)(S:Nat→Prop)(Q:Exit→Act→World→Prop)(F G:List (Tmp×Fact))(a0:Act)(w0:World)(i:Nat)(o:Oper)(T:Fact):Prop:=
 ∀a w,a.defers=a0.defers→Keeps S w0 w→(before l i m=true→Below w0.heap.size w0 w)→(∀s∈o.looksAt ops,Knows (if before l i m=true then F else G) a0 a w s) →
  if Region.wanted o (yielded ops a.tmps) then o.wp P a w (AfterA S (i==m) T a o.dst w) (if (i==m)=true then Q else NoWay) else (T undef w∧i≠m)
def ChainP (P:Program)(ops:Array Oper)(l:List Oper)(t:Oper)(m:Nat)(S:Nat→Prop)(a0:Act)(w0:World)(Q:Exit→Act→World→Prop):List Oper→Nat→List (Tmp×Fact)→List (Tmp×Fact)→Prop
 | [],_,_,G=>∀a w,Keeps S w0 w→a.defers=a0.defers→a.tmps.size=a0.tmps.size→(∀s,s<a0.tmps.size→Knows G a0 a w s)→wpList P ops Q [t] a w
 | o::r,i,F,G=>∃d T U,o.dst=some d∧stable T∧stable U∧(i≠m→stableK S U)∧(∀v w,T v w→U v w)∧StepP P ops l m S Q F G a0 w0 i o T∧ChainP P ops l t m S a0 w0 Q r (i+1) ((d,T)::F) ((d,U)::G)
structure FactsP (P:Program) (l:List Oper) (t:Oper) (m:Nat) (S:Nat→Prop) (Q:Exit→Act→World→Prop) (a0:Act) (w0:World) (Ts Us:List Fact) (i:Nat):Prop where
 len:Ts.length=i
 len2:Us.length=i
 st:∀(j:Nat) (T:Fact),Ts[j]?=some T→stable T
 su:∀(j:Nat) (U:Fact),Us[j]?=some U→stable U
 sk:∀(j:Nat) (U:Fact),Us[j]?=some U→j≠m→stableK S U
 weak:∀(j:Nat) (T U:Fact),Ts[j]?=some T→Us[j]?=some U→∀v w,T v w→U v w
 step:∀(j:Nat) (o:Oper) (T:Fact),l[j]?=some o→Ts[j]?=some T→StepP P (l++[t]).toArray l m S Q (factsTo l Ts j) (factsTo l Us j) a0 w0 j o T
theorem chainP_facts {P:Program}{a0:Act}{w0:World}{Q:Exit→Act→World→Prop}{l:List Oper}{t:Oper}{m:Nat}{S:Nat→Prop}:
  ∀(r:List Oper) (i:Nat) (Ts Us:List Fact),l.drop i=r→i≤l.length→ChainP P (l++[t]).toArray l t m S a0 w0 Q r i (factsTo l Ts i) (factsTo l Us i)→FactsP P l t m S Q a0 w0 Ts Us i →
   ∃Ts Us:List Fact,FactsP P l t m S Q a0 w0 Ts Us l.length∧ChainP P (l++[t]).toArray l t m S a0 w0 Q [] l.length (factsTo l Ts l.length) (factsTo l Us l.length):=by
 intro r
 induction r with
 | nil=>
  intro i Ts Us hd hi hc hF
  have:i=l.length:=by
   have:=congrArg List.length hd
   simp at this
   omega
  subst this
  exact⟨Ts,Us,hF,hc⟩
 | cons o r ih=>
  intro i Ts Us hd hi hc hF
  obtain⟨d,T,U,hdst,hs1,hs2,hs3,hw,hstep,hrest⟩:=hc
  have hlt:i<l.length:=by
   have:=congrArg List.length hd
   simp at this
   omega
  have hli:l[i]?=some o:=by
   have:=congrArg (fun x=>x[0]?) hd
   simpa using this
  have hdi:dstAt l i=some d:=by simp [dstAt,hli,hdst]
  have fT:=factsTo_app (l:=l) (T:=T) hF.len
  have fU:=factsTo_app (l:=l) (T:=U) hF.len2
  have gT:(Ts++[T])[i]?=some T:=by rw [List.getElem?_append_right (by have:=hF.len;omega)];simp [hF.len]
  have gU:(Us++[U])[i]?=some U:=by rw [List.getElem?_append_right (by have:=hF.len2;omega)];simp [hF.len2]
  refine ih (i+1) (Ts++[T]) (Us++[U]) (by rw [←List.drop_drop,hd];rfl) (by omega) ?_ ⟨by simp [hF.len],by simp [hF.len2],?_,?_,?_,?_,?_⟩
  ·have e1:factsTo l (Ts++[T]) (i+1)=(d,T)::factsTo l Ts i:=by rw [factsTo,hdi,gT,fT i (Nat.le_refl _)]
   have e2:factsTo l (Us++[U]) (i+1)=(d,U)::factsTo l Us i:=by rw [factsTo,hdi,gU,fU i (Nat.le_refl _)]
   rw [e1,e2]
   exact hrest
  ·intro j V hV
   rcases get_app hF.len hV with ⟨_,h⟩|⟨_,rfl⟩
   ·exact hF.st j V h
   ·exact hs1
  ·intro j V hV
   rcases get_app hF.len2 hV with ⟨_,h⟩|⟨_,rfl⟩
   ·exact hF.su j V h
   ·exact hs2
  ·intro j V hV hm
   rcases get_app hF.len2 hV with ⟨_,h⟩|⟨rfl,rfl⟩
   ·exact hF.sk j V h hm
   ·exact hs3 hm
  ·intro j V V' hV hV'
   rcases get_app hF.len hV with ⟨h0,h⟩|⟨rfl,rfl⟩
   ·rcases get_app hF.len2 hV' with ⟨_,h'⟩|⟨h1,_⟩
    ·exact hF.weak j V V' h h'
    ·omega
   ·rcases get_app hF.len2 hV' with ⟨h1,_⟩|⟨_,rfl⟩
    ·omega
    ·exact hw
  ·intro j o' V ho' hV
   rcases get_app hF.len hV with ⟨h0,h⟩|⟨rfl,rfl⟩
   ·rw [fT j (by omega),fU j (by omega)]
    exact hF.step j o' V ho' h
   ·rw [hli] at ho'
    injection ho' with ho'
    subst ho'
    rw [fT j (Nat.le_refl _),fU j (Nat.le_refl _)]
    exact hstep
structure InvP (l:List Oper) (m:Nat) (S:Nat→Prop) (Ts Us:List Fact) (a0:Act) (w0:World) (listed:Array Bool) (a:Act) (w:World):Prop where
 keep:Keeps S w0 w
 early:listed.getD m false=false→Below w0.heap.size w0 w
 defers:a.defers=a0.defers
 size:a.tmps.size=a0.tmps.size
 done:∀(j:Nat) (d:Tmp) (T:Fact),listed.getD j false=true→listed.getD m false=false→dstAt l j=some d→Ts[j]?=some T→T (a.tmps.getD d undef) w
 weak:∀(j:Nat) (d:Tmp) (U:Fact),listed.getD j false=true→dstAt l j=some d→Us[j]?=some U→U (a.tmps.getD d undef) w
 rest:∀s:Tmp,(∀j,listed.getD j false=true→dstAt l j≠some s)→a.tmps.getD s undef=a0.tmps.getD s undef
 closed:∀(j:Nat) (o:Oper),listed.getD j false=true→l[j]?=some o→∀e∈o.after,Region.binds .any e=true→listed.getD e.on false=true
theorem invp_any {P:Program}{l:List Oper}{t:Oper}{m:Nat}{S:Nat→Prop}{Ts Us:List Fact}{a0:Act}{w0:World}{Q:Exit→Act→World→Prop}(hB:chainAB a0.tmps.size l t=true)
  (hF:FactsP P l t m S Q a0 w0 Ts Us l.length) (hend:ChainP P (l++[t]).toArray l t m S a0 w0 Q [] l.length (factsTo l Ts l.length) (factsTo l Us l.length)) :
  ∀(fuel:Nat) (listed:Array Bool) (a:Act) (w:World),listed.size=l.length+1→listed.getD l.length true=false→(∃n,n≤fuel∧n=(List.range (l.length+1)).countP (fun j=>!listed.getD j true))→InvP l m S Ts Us a0 w0 listed a w→wpAny P .any (l++[t]).toArray Q fuel listed a w:=by
 have hget:∀j,j<l.length→(l++[t]).toArray[j]?=l[j]?:=fun j hj=>by
  rw [List.getElem?_toArray,List.getElem?_append_left hj]
 have hgetn:(l++[t]).toArray[l.length]?=some t:=by
  rw [List.getElem?_toArray,List.getElem?_append_right (Nat.le_refl _)];simp
 obtain⟨htail,htail2⟩:=chainAB_tail hB
 have hsome:∀(listed:Array Bool),listed.size=l.length+1→listed.getD l.length true=false→Region.ready .any (l++[t]).toArray listed≠[]:=by
  intro listed hsz hn hr
  have hall:∀j,j<l.length→listed.getD j false=true:=by
   intro j
   induction j using Nat.strongRecOn with
   | _ j ih=>
    intro hj
    cases hb:listed.getD j false with
    | true=>rfl
    | false=>
     exfalso
     have hj':l[j]?=some l[j]:=List.getElem?_eq_getElem hj
     have hc:=chainAB_at hB hj'
     have hm:j∈Region.ready .any (l++[t]).toArray listed:=by
      rw [mem_ready]
      refine⟨?_,l[j],by rw [hget j hj,hj'],fun e he hbi=>ih e.on (hc.2.2.1 e he hbi) (Nat.lt_trans (hc.2.2.1 e he hbi) hj)⟩
      have:j<listed.size:=by omega
      simp only [Array.getD_eq_getD_getElem?,Array.getElem?_eq_getElem this,Option.getD_some] at hb ⊢
      exact hb
     rw [hr] at hm
     cases hm
  have hm:l.length∈Region.ready .any (l++[t]).toArray listed:=by
   rw [mem_ready]
   exact⟨hn,t,hgetn,fun e he hb=>hall _ (htail2 e he hb)⟩
  rw [hr] at hm
  cases hm
 intro fuel
 induction fuel with
 | zero=>
  intro listed a w hsz hln hn hI
  exfalso
  obtain⟨n,hn0,hn⟩:=hn
  have:0<(List.range (l.length+1)).countP (fun j=>!listed.getD j true):=List.countP_pos_iff.2 ⟨l.length,List.mem_range.2 (by omega),by simp [hln]⟩
  omega
 | succ fuel ih=>
  intro listed a w hsz hln hn hI
  refine⟨fun hr=>absurd hr (hsome listed hsz hln),fun i hi=>?_⟩
  obtain⟨hu,o,ho,hedges⟩:=mem_ready.1 hi
  have hisz:i<l.length+1:=by
   rcases Nat.lt_or_ge i (l.length+1) with h1|h1
   ·exact h1
   ·rw [List.getElem?_toArray,List.getElem?_eq_none (by simp;omega)] at ho;cases ho
  by_cases hil:i<l.length
  ·
   have hol:l[i]?=some o:=by rw [←hget i hil];exact ho
   obtain⟨⟨d,hd,hdm⟩,hdis,hbe,hlook⟩:=chainAB_at hB hol
   have hdi:dstAt l i=some d:=by simp [dstAt,hol,hd]
   have hl1:=hF.len
   have hl2:=hF.len2
   have hTi:Ts[i]?=some (Ts[i]'(by omega)):=List.getElem?_eq_getElem (by omega)
   have hUi:Us[i]?=some (Us[i]'(by omega)):=List.getElem?_eq_getElem (by omega)
   have hearly:before l i m=true→listed.getD m false=false:=by
    intro hb
    cases hm:listed.getD m false with
    | false=>rfl
    | true=>
     exfalso
     have hui:=getD_ff hu
     unfold before at hb
     rw [Bool.or_eq_true,beq_iff_eq] at hb
     rcases hb with hb|hb
     ·subst hb
      rw [hm] at hui
      cases hui
     ·cases hom:l[m]? with
      | none=>rw [hom] at hb;cases hb
      | some om=>
       rw [hom] at hb
       simp only [Array.any_eq_true',Bool.and_eq_true,beq_iff_eq] at hb
       obtain⟨e,he,hbi,hon⟩:=hb
       have:=hI.closed m om hm hom e he hbi
       rw [hon,hui] at this
       cases this
   have hK:∀(F:List Fact),F.length=l.length→(∀(j:Nat) (d:Tmp) (V:Fact),listed.getD j false=true→dstAt l j=some d→F[j]?=some V→V (a.tmps.getD d undef) w)→∀s∈o.looksAt (l++[t]).toArray,Knows (factsTo l F i) a0 a w s:=by
    intro F hlF hdone s hs
    unfold Knows
    cases hl:look (factsTo l F i) s with
    | some V=>
     obtain⟨j,hj,hdj,hVj⟩:=mem_factsTo (look_some hl)
     obtain⟨e,he,hb,rfl⟩:=(hlook s hs).2 j (by omega) hdj
     exact hdone _ s V (hedges e he hb) hdj hVj
    | none=>
     refine hI.rest s fun j hj hdj=>?_
     have hjl:=dst_lt hdj
     obtain⟨e,he,hb,rfl⟩:=(hlook s hs).2 j hjl hdj
     have hlt:=hbe e he hb
     have hV:F[e.on]?=some (F[e.on]'(by omega)):=List.getElem?_eq_getElem (by omega)
     obtain⟨V,hV'⟩:=look_mem ⟨_,factsTo_mem (i:=i) hlt hdj hV,rfl⟩
     rw [hV'] at hl
     cases hl
   have hS:=hF.step i o _ hol hTi a w hI.defers hI.keep (fun hb=>hI.early (hearly hb)) (by
    by_cases hb:before l i m=true
    ·rw [if_pos hb]
     exact hK Ts hl1 fun j d V h1 h2 h3=>hI.done j d V h1 (hearly hb) h2 h3
    ·rw [if_neg hb]
     exact hK Us hl2 hI.weak)
   refine wpOp_exits ho (K:=AfterA S (i==m) (Ts[i]'(by omega)) a o.dst w) (R:=if (i==m)=true then Q else NoWay) ?_ ?_ ?_
   ·exact exits_ok (i==m) Q
   ·rintro a' w' ⟨v,rfl,hT,hrel⟩
    have hds:d<a.tmps.size:=by rw [hI.size];exact hdm
    have hkeep:Keeps S w w':=by
     cases hsp:i==m with
     | true=>rw [hsp,if_pos rfl] at hrel;exact hrel
     | false=>rw [hsp,if_neg (by simp)] at hrel;exact keeps_of hrel
    have hsame:∀j,j<l.length→(listed.setIfInBounds i true).getD j false=true→j=i∨listed.getD j false=true:=fun j _ h=>getD_set_cases h
    refine ih _ _ _ (by simpa using hsz) (by rw [getD_set_ne true (by omega)];exact hln) ?_ ⟨hI.keep.trans hkeep,?_,?_,?_,?_,?_,?_,?_⟩
    ·obtain⟨n,hn0,hn⟩:=hn
     refine⟨_,?_,rfl⟩
     have hlt:(List.range (l.length+1)).countP (fun j=>!(listed.setIfInBounds i true).getD j true)<(List.range (l.length+1)).countP (fun j=>!listed.getD j true):=by
      refine countP_lt (i:=i) (fun x _ hx=>?_) (List.mem_range.2 hisz) (by simp [hu]) ?_
      ·by_cases e:i=x
       ·subst e;simp [hu]
       ·rw [getD_set_ne true e] at hx;exact hx
      ·have:i<listed.size:=by omega
       simp [this]
     omega
    ·intro hm
     by_cases e:i=m
     ·subst e
      have:i<listed.size:=by omega
      simp [this] at hm
     ·rw [getD_set_ne false e] at hm
      have hsp:(i==m)=false:=by simpa using e
      rw [hsp,if_neg (by simp)] at hrel
      exact(hI.early hm).trans (hrel.mono (hI.early hm).size)
    ·rw [hd];exact hI.defers
    ·rw [hd];simp [Act.put,hI.size]
    ·intro j d' T hj hm hdj hTj
     rw [hd]
     by_cases e:i=m
     ·subst e
      have:i<listed.size:=by omega
      simp [this] at hm
     ·rw [getD_set_ne false e] at hm
      have hsp:(i==m)=false:=by simpa using e
      rw [hsp,if_neg (by simp)] at hrel
      rcases getD_set_cases hj with rfl|hj2
      ·rw [hdi] at hdj
       injection hdj with hdj
       subst hdj
       rw [hTi] at hTj
       injection hTj with hTj
       subst hTj
       rw [getD_put_same hds]
       exact hT
      ·have hne:d≠d':=by
        rintro rfl
        have hji:j≠i:=by
         rintro rfl
         rw [getD_ff hu] at hj2
         cases hj2
        exact hdis j (dst_lt hdj) hji (by rw [hdj,hd])
       rw [getD_put_ne hne]
       exact hF.st j T hTj _ _ _ (hI.done j d' T hj2 hm hdj hTj) hrel
    ·intro j d' U hj hdj hUj
     rw [hd]
     rcases getD_set_cases hj with rfl|hj2
     ·rw [hdi] at hdj
      injection hdj with hdj
      subst hdj
      rw [getD_put_same hds]
      exact hF.weak j _ U hTi hUj _ _ hT
     ·have hji:j≠i:=by
       rintro rfl
       rw [getD_ff hu] at hj2
       cases hj2
      have hne:d≠d':=by
       rintro rfl
       exact hdis j (dst_lt hdj) hji (by rw [hdj,hd])
      rw [getD_put_ne hne]
      have hold:=hI.weak j d' U hj2 hdj hUj
      by_cases e:i=m
      ·exact hF.sk j U hUj (by omega) _ _ _ hold hkeep
      ·have hsp:(i==m)=false:=by simpa using e
       rw [hsp,if_neg (by simp)] at hrel
       exact hF.su j U hUj _ _ _ hold hrel
    ·intro s hs
     have hne:d≠s:=by
      rintro rfl
      refine hs i ?_ hdi
      have:i<listed.size:=by omega
      simp [this]
     rw [hd,getD_put_ne hne]
     refine hI.rest s fun j hj hdj=>hs j (getD_set_true hj) hdj
    ·intro jj om hm hom e he hbi
     rcases getD_set_cases hm with rfl|hm2
     ·rw [hol] at hom
      injection hom with hom
      subst hom
      exact getD_set_true (hedges e he hbi)
     ·exact getD_set_true (hI.closed jj om hm2 hom e he hbi)
   ·by_cases hw:Region.wanted o (yielded (l++[t]).toArray a.tmps)=true
    ·rw [if_pos hw] at hS ⊢
     exact hS
    ·rw [if_neg hw] at hS ⊢
     refine⟨undef,rfl,hS.1,?_⟩
     have hsp:(i==m)=false:=by simpa using hS.2
     rw [hsp,if_neg (by simp)]
     exact Below.refl _ _
  ·
   obtain rfl:i=l.length:=by omega
   rw [hgetn] at ho
   injection ho with ho
   subst ho
   have hall:∀j,j<l.length→listed.getD j false=true:=listed_all hI.closed hedges htail
   have hE:=hend a w hI.keep hI.defers hI.size fun s hs=>by
    unfold Knows
    cases hl:look (factsTo l Us l.length) s with
    | some U=>
     obtain⟨j,hj,hd,hU⟩:=mem_factsTo (look_some hl)
     exact hI.weak j s U (hall j hj) hd hU
    | none=>
     refine hI.rest s fun j hj hd=>?_
     have hjl:=dst_lt hd
     have hU:Us[j]?=some (Us[j]'(by have:=hF.len2;omega)):=List.getElem?_eq_getElem (by have:=hF.len2;omega)
     obtain⟨U,hU'⟩:=look_mem ⟨_,factsTo_mem (i:=l.length) hjl hd hU,rfl⟩
     rw [hU'] at hl
     cases hl
   have hE2:wpOp P (l++[t]).toArray Q l.length (fun a w=>Q .normal a w) a w:=by
    unfold wpOp
    rw [hgetn]
    exact hE
   refine wpOp_mono (fun a' w' hQ=>?_) hE2
   have hnone:Region.ready .any (l++[t]).toArray (listed.setIfInBounds l.length true)=[]:=by
    rw [List.eq_nil_iff_forall_not_mem]
    intro j hj
    obtain⟨hu',o',ho',_⟩:=mem_ready.1 hj
    have hjl:j<l.length+1:=by
     rcases Nat.lt_or_ge j (l.length+1) with h1|h1
     ·exact h1
     ·rw [List.getElem?_toArray,List.getElem?_eq_none (by simp;omega)] at ho';cases ho'
    by_cases e:l.length=j
    ·subst e
     have:l.length<listed.size:=by omega
     simp [this] at hu'
    ·rw [getD_set_ne true e] at hu'
     have:=getD_ff hu'
     rw [hall j (by omega)] at this
     cases this
   cases fuel with
   | zero=>exact⟨hnone,hQ⟩
   | succ f=>exact⟨fun _=>hQ,fun i hi=>by rw [hnone] at hi;cases hi⟩
theorem wp_region_p {P:Program}{id:Nat}{ops:Array Oper}(l:List Oper)(t:Oper)(m:Nat)(S:Nat→Prop){Q:Exit→Act→World→Prop}{a:Act}{w:World}(hops:ops=(l++[t]).toArray)(hm:P.follows .mixedOrders=true)(hB:chainAB a.tmps.size l t=true)
  (h:ChainP P (l++[t]).toArray l t m S a w.drew Q l 0 [] []):(Code.region id ops true).wp P Q a w:=by
 subst hops
 obtain⟨Ts,Us,hF,hend⟩:=chainP_facts (l:=l) l 0 [] [] rfl (Nat.zero_le _) h ⟨rfl,rfl,fun j T hT=>by simp at hT,fun j T hT=>by simp at hT,fun j T hT=>by simp at hT,fun j T U hT=>by simp at hT,fun j o T _ hT=>by simp at hT⟩
 refine wp_region_any hm ?_
 have hff:∀j,(Array.replicate (l++[t]).toArray.size false).getD j false=false:=by
  intro j
  by_cases hlt:j<l.length+1<;>simp [hlt]
 refine invp_any hB hF hend _ _ _ _ (by simp) (by simp) ⟨_,?_,rfl⟩ ⟨Keeps.refl _ _,fun _=>Below.refl _ _,rfl,rfl,?_,?_,fun s _=>rfl,?_⟩
 ·refine Nat.le_trans List.countP_le_length ?_
  simp
 ·intro j d T hj
  rw [hff] at hj;cases hj
 ·intro j d U hj
  rw [hff] at hj;cases hj
 ·intro jj om hj
  rw [hff] at hj;cases hj
section
variable {P:Program} {ops:Array Oper} {l:List Oper} {t:Oper} {m:Nat} {S:Nat→Prop} {a0:Act} {w0:World} {Q:Exit→Act→World→Prop} {o:Oper} {r:List Oper} {i:Nat} {F G:List (Tmp×Fact)} {d:Tmp}
theorem p_val {u:Value}(L:List Tmp)(hE:before l i m=true)(hm:(i==m)=false)(hd:o.dst=some d)(hL:(L.all fun s=>(o.looksAt ops).contains s)=true)(hg:GuardOK ops F a0 o)
  (h:∀ρ w,Below w0.heap.size w0 w→Plain ρ→AllK F a0 w ρ L→(execOp ρ o).run P w=.ok (.value u) w) (hr:ChainP P ops l t m S a0 w0 Q r (i+1) ((d,Is u)::F) ((d,Is u)::G)):ChainP P ops l t m S a0 w0 Q (o::r) i F G:=by
 refine⟨d,Is u,Is u,hd,stable_is u,stable_is u,fun _=>stableK_is S u,fun _ _ h=>h,fun a w _ hK hb hk=>?_,hr⟩
 rw [if_pos hE] at hk
 rw [if_pos (wanted_of hg hk)]
 unfold Oper.wp
 rw [h a.eval w (hb hE) (plain_eval a) (allK_of hk hL)]
 exact⟨u,rfl,rfl,by rw [hm,if_neg (by simp)];exact Below.refl _ _⟩
theorem p_val_l {u:Value}(L:List Tmp)(hE:before l i m=false)(hd:o.dst=some d)(hL:(L.all fun s=>(o.looksAt ops).contains s)=true)(hg:GuardOK ops G a0 o)
  (h:∀ρ w,Keeps S w0 w→Plain ρ→AllK G a0 w ρ L→(execOp ρ o).run P w=.ok (.value u) w) (hr:ChainP P ops l t m S a0 w0 Q r (i+1) ((d,Is u)::F) ((d,Is u)::G)):ChainP P ops l t m S a0 w0 Q (o::r) i F G:=by
 refine⟨d,Is u,Is u,hd,stable_is u,stable_is u,fun _=>stableK_is S u,fun _ _ h=>h,fun a w _ hK hb hk=>?_,hr⟩
 rw [if_neg (by rw [hE];simp)] at hk
 rw [if_pos (wanted_of hg hk)]
 have hm:(i==m)=false:=by
  unfold before at hE
  rw [Bool.or_eq_false_iff] at hE
  exact hE.1
 unfold Oper.wp
 rw [h a.eval w hK (plain_eval a) (allK_of hk hL)]
 exact⟨u,rfl,rfl,by rw [hm,if_neg (by simp)];exact Below.refl _ _⟩
theorem p_call {T:Fact}(f:FuncId)(L:List Tmp)(hE:before l i m=true)(hm:(i==m)=false)(hd:o.dst=some d)(hL:(L.all fun s=>(o.looksAt ops).contains s)=true)(hg:GuardOK ops F a0 o)(hs:stable T)(hs2:stableK S T)
  (h:∀ρ w,Below w0.heap.size w0 w→Plain ρ→AllK F a0 w ρ L→∃args,(execOp ρ o).run P w=.ok (.enter f args) w∧Calls P f args w fun e w'=>∃v,e=.returned v∧T v w'∧Below w.heap.size w w') (hr:ChainP P ops l t m S a0 w0 Q r (i+1) ((d,T)::F) ((d,T)::G)):ChainP P ops l t m S a0 w0 Q (o::r) i F G:=by
 refine⟨d,T,T,hd,hs,hs,fun _=>hs2,fun _ _ h=>h,fun a w _ hK hb hk=>?_,hr⟩
 rw [if_pos hE] at hk
 rw [if_pos (wanted_of hg hk)]
 obtain⟨args,h1,h2⟩:=h a.eval w (hb hE) (plain_eval a) (allK_of hk hL)
 unfold Oper.wp
 rw [h1]
 refine h2.mono fun e w' ⟨v,he,hT,hbel⟩=>?_
 subst he
 exact⟨v,rfl,hT,by rw [hm,if_neg (by simp)];exact hbel⟩
theorem p_sp {T:Fact}(f:FuncId)(L:List Tmp)(hm:(i==m)=true)(hd:o.dst=some d)(hL:(L.all fun s=>(o.looksAt ops).contains s)=true)(hg:GuardOK ops F a0 o)(hs:stable T)
  (h:∀ρ w,Below w0.heap.size w0 w→Plain ρ→AllK F a0 w ρ L→∃args,(execOp ρ o).run P w=.ok (.enter f args) w∧Calls P f args w fun e w'=>(∃v,e=.returned v∧T v w'∧Keeps S w w')∨∃c,e=.panicked c∧∀a,a.defers=a0.defers→Q (.panic c) a w')
  (hr:ChainP P ops l t m S a0 w0 Q r (i+1) ((d,T)::F) ((d,T)::G)):ChainP P ops l t m S a0 w0 Q (o::r) i F G:=by
 have hE:before l i m=true:=by unfold before;rw [hm];rfl
 refine⟨d,T,T,hd,hs,hs,fun hne=>absurd (by simpa using hm) hne,fun _ _ h=>h,fun a w had hK hb hk=>?_,hr⟩
 rw [if_pos hE] at hk
 rw [if_pos (wanted_of hg hk),hm,if_pos rfl]
 obtain⟨args,h1,h2⟩:=h a.eval w (hb hE) (plain_eval a) (allK_of hk hL)
 unfold Oper.wp
 rw [h1]
 refine h2.mono ?_
 rintro e w' (⟨v,rfl,hT,hk⟩|⟨c,rfl,hp⟩)
 ·exact⟨v,rfl,hT,by rw [if_pos rfl];exact hk⟩
 ·exact hp a had
theorem p_end_lit (n:Nat)(hn:a0.tmps.size=n)
  (h:∀(f:Tmp→Value) (w:World),Keeps S w0 w→AllN (fun s=>KnowsV G a0 w s (f s)) n 0→wpList P ops Q [t] { tmps:=(frameL f n 0).toArray,defers:=a0.defers } w):ChainP P ops l t m S a0 w0 Q [] i F G:=by
 intro a w hb hd hs hk
 have e:a={ tmps:=(frameL (fun s=>a.tmps.getD s undef) n 0).toArray,defers:=a0.defers }:=by
  obtain⟨tm,df⟩:=a
  simp only at hd hs
  subst hd
  congr 1
  apply Array.ext'
  apply List.ext_getElem?
  intro j
  by_cases hj:j<n
  ·rw [show ((frameL (fun s=>tm.getD s undef) n 0).toArray.toList)=frameL (fun s=>tm.getD s undef) n 0 from rfl,frameL_get _ _ _ _ hj]
   have:j<tm.size:=by omega
   simp [this]
  ·rw [show ((frameL (fun s=>tm.getD s undef) n 0).toArray.toList)=frameL (fun s=>tm.getD s undef) n 0 from rfl]
   rw [List.getElem?_eq_none (by simp;omega),List.getElem?_eq_none (by rw [frameL_length];omega)]
 rw [e]
 exact h _ w hb (allN_of n 0 fun j _ hj=>hk j (by rw [hn];omega))
end
end
theorem Sg.lit {w:World}(vs:List Value)(ls:List (List Int))(T:TypeId)(h:∀j,j<ls.length→∃v,vs[j]?=some v∧Holds w v (seg ls j)):
  Sg (w.alloc (.cells vs.toArray T)) (some ⟨w.heap.size,0,none⟩) ls:=by
 refine .inr ⟨w.heap.size,0,rfl,fun j hj=>?_⟩
 obtain⟨v,hv,hh⟩:=h j hj
 refine⟨v,?_,hh.below ((Below.refl _ _).alloc (Nat.le_refl _) _) (Nat.le_refl _)⟩
 rw [World.cell?_alloc_new]
 simpa using hv
theorem Holds.lit (w:World)(zs:List Int)(T:TypeId)(n:Nat)(hn:n=zs.length)(hm:n≤maxLen):Holds (w.alloc (.cells (zs.map (Value.int .u64)).toArray T)) (.slice (some ⟨w.heap.size,0,none⟩) n n) zs:=by
 subst hn
 exact⟨_,_,rfl,Ri.lit w .u64 zs T,(fun h=>by cases h),Nat.le_refl _,hm⟩
theorem Holds.alloc {w:World}{v:Value}{l:List Int}(h:Holds w v l)(o:Obj):Holds (w.alloc o) v l:=h.below ((Below.refl _ _).alloc (Nat.le_refl _) o) (Nat.le_refl _)
theorem sg_lit1 (w:World)(v:Value)(z:List Int)(T:TypeId)(n:Nat)(hn:w.heap.size=n)(h:Holds w v z):Sg (w.alloc (.cells #[v] T)) (some ⟨n,0,none⟩) [z]:=by
 subst hn
 exact Sg.lit [v] [z] T (by
  intro j hj
  match j,hj with
  | 0,_=>exact⟨_,rfl,h⟩
  | n+1,h=>exact absurd h (by simp))
section
theorem exec_app0 {P:Program}{o:Oper}{ρ:Operand→Value}{w:World}(s x:Operand)(t:TypeId)(ho:o.op=.call { callee:=.builtin .append,args:=#[s,x],argTypes:=#[t,t] })
  {base q0:Nat} {e:TypeId} {i:TypeInfo} {k:IntKind} (ht:P.underlying t=some (.slice e)) (hi:P.info? e=some i) (hz0:i.zero=some (.int k 0)) (hz1:i.size=1) (hz2:i.bytes=8)
  {ys:List Int} {A:Option Addr} {c:Nat} (hs:ρ s=.slice (some ⟨q0,0,none⟩) 0 0) (hq:w.heap[q0]?=some (.cells #[] e (0,0))) (hb:base≤q0) (hx:ρ x=.slice A ys.length c) (hr:Ri w k A ys) (hnil:A=none→c=0) (hle:ys.length≤c) (hn:ys.length≤1099511627776) :
  ∃v' w',(execOp ρ o).run P w=.ok (.value v') w'∧Got w' base e k v' ys∧Below w.heap.size w w':=by
 have hown:w.ownsRow base e 1 (.slice (some ⟨q0,0,none⟩) 0 0) 0 []:=⟨rfl,.inr ⟨q0,0,#[],rfl,hb,hq,by omega,by unfold maxLen;omega,rfl,rfl⟩⟩
 have fin:∀{v' w'},(Builtin.append_ #[t,t] o.type #[.slice (some ⟨q0,0,none⟩) 0 0,.slice A ys.length c]).run P w=.ok v' w'→(execOp ρ o).run P w=.ok (.value v') w':=by
  intro v' w' hr
  unfold execOp
  simp only [ho,resolve,invoke,builtin,Sem.run_bind,Sem.run_pure,Result.andThen_ok,List.map_toArray,List.map_cons,List.map_nil,hs,hx,hr]
 cases A with
 | none=>
  have hc:=hnil rfl
  subst hc
  obtain rfl:ys=[]:=List.eq_nil_of_length_eq_zero (by omega)
  have hr:=run_append_owned_none (P:=P) (w:=w) base t o.type _ i 1 ht hi _ 0 [] hown
  exact⟨_,_,fin hr,hown,Below.refl _ _⟩
 | some ad=>
  by_cases h0:ys=[]
  ·subst h0
   have hr:=run_append_room (P:=P) w t o.type _ i ht hi q0 0 0 #[] hq ad 0 c [] (by simp) (fun j u hj=>by simp at hj) (fun u hu=>by cases hu) (by omega) (by simp)
   simp only [List.take_nil,List.drop_nil,List.append_nil,Nat.add_zero] at hr
   refine⟨_,_,fin hr,⟨rfl,.inr ⟨q0,0,#[],rfl,hb,setRow_heap w q0 #[] #[] _ _ hq,by simp,by unfold maxLen;omega,rfl,rfl⟩⟩,rfl,rfl,rfl,by simp,fun k hk2=>?_⟩
   by_cases e:k=q0
   ·subst e
    rw [setRow_heap w k #[] #[] _ _ hq,hq]
   ·exact setRow_other w q0 k _ e
  ·have hpos:0<ys.length:=List.length_pos_iff.2 h0
   obtain⟨b,off,rfl,hcell⟩:∃b off,ad=⟨b,off,none⟩∧∀j,j<ys.length→w.cell? ⟨b,off+j,none⟩=some (.int k (zat ys j)):=by
    rcases hr with h|⟨b,off,hB,h⟩
    ·exact absurd h h0
    ·injection hB with hB
     subst hB
     exact⟨b,off,rfl,h⟩
   have n1:(ys.map (Value.int k)).length=ys.length*1:=by simp
   have n2:∀q u,(ys.map (Value.int k))[q]?=some u→w.cell? ((⟨b,off,none⟩:Addr).add q)=some u:=by
    intro j u hj
    have hlt:j<ys.length:=by
     rcases Nat.lt_or_ge j ys.length with h1|h1
     ·exact h1
     ·rw [List.getElem?_eq_none (by simpa using h1)] at hj;cases hj
    rw [add_plain,hcell j hlt]
    simp [hlt] at hj
    subst hj
    simp [zat,List.getD_eq_getElem?_getD,hlt]
   have hr:=run_append_grow (P:=P) w t o.type _ i _ ht hi hz0 ⟨q0,0,none⟩ 0 0 [] (by simp) (fun j v hj=>by simp at hj) ⟨b,off,none⟩ ys.length c (ys.map (Value.int k)) (by rw [hz1];exact n1) n2 (by omega) (by omega) (growslice_fits (by omega) (by rw [hz2];omega))
   obtain⟨v2,w2,hr2,k2,k3,-⟩:=run_append_own (P:=P) w base t o.type e i _ 1 8 ht hi hz0 hz1 hz2 rfl (by decide) _ 0 [] hown ⟨b,off,none⟩ ys.length c (ys.map (Value.int k)) n1 n2 (by
    intro u hu
    simp at hu
    obtain⟨z,_,rfl⟩:=hu
    rfl) (by unfold maxLen;omega) (by omega) (Nat.le_of_lt (Nat.lt_of_le_of_lt hb (Array.getElem?_eq_some_iff.1 hq).1))
   rw [hr] at hr2
   injection hr2 with e1 e2
   subst e1
   subst e2
   refine⟨_,_,fin hr,?_,rfl,rfl,rfl,by simp,fun k hk2=>by rw [Below.heap_alloc _ _ _ (by simpa using hk2)];rfl⟩
   rw [Nat.zero_add] at k2
   unfold Got
   simpa using k2
def EmpW (E:TypeId)(base:Nat):Fact:=fun v w=>∃q,v=.slice (some ⟨q,0,none⟩) 0 0∧base≤q∧w.heap[q]?=some (.cells #[] E (0,0))
theorem stable_empW (E:TypeId)(base:Nat):stable (EmpW E base):=by
 rintro v w w' ⟨q,h1,h2,h3⟩ hb
 exact⟨q,h1,h2,by rw [hb.block q (Array.getElem?_eq_some_iff.1 h3).1];exact h3⟩
def GotW (E:TypeId)(base:Nat)(l:List Int):Fact:=fun v w=>Got w base E .u64 v l
theorem stable_gotW (E:TypeId)(base:Nat)(l:List Int):stable (GotW E base l):=fun v w w' h hb=>Got.below h hb (Nat.le_refl _)
def HoldW (l:List Int):Fact:=fun v w=>Holds w v l
theorem stable_holdW (l:List Int):stable (HoldW l):=fun v w w' h hb=>Holds.below h hb (Nat.le_refl _)
section
variable {P:Program} {ops:Array Oper} {l:List Oper} {t:Oper} {m:Nat} {S:Nat→Prop} {a0:Act} {w0:World} {Q:Exit→Act→World→Prop} {o:Oper} {r:List Oper} {i:Nat} {F G:List (Tmp×Fact)} {d:Tmp}
theorem a_call_l {u:Value}(f:FuncId)(L:List Tmp)(hE:before l i m=false)(hd:o.dst=some d)(hL:(L.all fun s=>(o.looksAt ops).contains s)=true)(hg:GuardOK ops G a0 o)
  (h:∀ρ w,Keeps S w0 w→Plain ρ→AllK G a0 w ρ L→∃args,(execOp ρ o).run P w=.ok (.enter f args) w∧Calls P f args w fun e w'=>e=.returned u∧Below w.heap.size w w') (hr:ChainA P ops l t m S a0 w0 Q r (i+1) ((d,Is u)::F) ((d,Is u)::G)):ChainA P ops l t m S a0 w0 Q (o::r) i F G:=by
 have hm:(i==m)=false:=by
  unfold before at hE
  rw [Bool.or_eq_false_iff] at hE
  exact hE.1
 refine⟨d,Is u,Is u,hd,stable_is u,stable_is u,fun _=>stableK_is S u,fun _ _ h=>h,fun a w hK hb hk=>?_,hr⟩
 rw [if_neg (by rw [hE];simp)] at hk
 rw [if_pos (wanted_of hg hk)]
 obtain⟨args,h1,h2⟩:=h a.eval w hK (plain_eval a) (allK_of hk hL)
 unfold Oper.wp
 rw [h1]
 refine h2.mono fun e w' ⟨he,hbel⟩=>?_
 subst he
 exact⟨u,rfl,rfl,by rw [hm,if_neg (by simp)];exact hbel⟩
theorem a_sp_g {T:Fact}(L:List Tmp)(hm:(i==m)=true)(hd:o.dst=some d)(hL:(L.all fun s=>(o.looksAt ops).contains s)=true)(hg:GuardOK ops F a0 o)(hs:stable T)
  (h:∀a w,Below w0.heap.size w0 w→Plain a.eval→Region.wanted o (yielded ops a.tmps)=true→AllK F a0 w a.eval L→wpList P ops (OnlyN (AfterA S true T a o.dst w)) [o] a w) (hr:ChainA P ops l t m S a0 w0 Q r (i+1) ((d,T)::F) ((d,T)::G)):ChainA P ops l t m S a0 w0 Q (o::r) i F G:=by
 have hE:before l i m=true:=by unfold before;rw [hm];rfl
 refine⟨d,T,T,hd,hs,hs,fun hne=>absurd (by simpa using hm) hne,fun _ _ h=>h,fun a w hK hb hk=>?_,hr⟩
 rw [if_pos hE] at hk
 have hw:=wanted_of hg hk
 rw [if_pos hw,hm]
 exact wp_of_list hw (h a w (hb hE) (plain_eval a) hw (allK_of hk hL))
end
theorem wp_region_a13 {P:Program}{id:Nat}{o0 o1 o2 o3 o4 o5 o6 o7 o8 o9 o10 o11 o12 t:Oper}(m:Nat)(S:Nat→Prop){Q:Exit→Act→World→Prop}{a:Act}{w:World}(hm:P.follows .mixedOrders=true)(hB:chainAB a.tmps.size [o0,o1,o2,o3,o4,o5,o6,o7,o8,o9,o10,o11,o12] t=true)
  (h:ChainA P #[o0,o1,o2,o3,o4,o5,o6,o7,o8,o9,o10,o11,o12,t] [o0,o1,o2,o3,o4,o5,o6,o7,o8,o9,o10,o11,o12] t m S a w.drew Q [o0,o1,o2,o3,o4,o5,o6,o7,o8,o9,o10,o11,o12] 0 [] []):(Code.region id #[o0,o1,o2,o3,o4,o5,o6,o7,o8,o9,o10,o11,o12,t] true).wp P Q a w:=
 wp_region_a [o0,o1,o2,o3,o4,o5,o6,o7,o8,o9,o10,o11,o12] t m S rfl hm hB h
theorem wp_region_a17 {P:Program}{id:Nat}{o0 o1 o2 o3 o4 o5 o6 o7 o8 o9 o10 o11 o12 o13 o14 o15 o16 t:Oper}(m:Nat)(S:Nat→Prop){Q:Exit→Act→World→Prop}{a:Act}{w:World}(hm:P.follows .mixedOrders=true)(hB:chainAB a.tmps.size [o0,o1,o2,o3,o4,o5,o6,o7,o8,o9,o10,o11,o12,o13,o14,o15,o16] t=true)
  (h:ChainA P #[o0,o1,o2,o3,o4,o5,o6,o7,o8,o9,o10,o11,o12,o13,o14,o15,o16,t] [o0,o1,o2,o3,o4,o5,o6,o7,o8,o9,o10,o11,o12,o13,o14,o15,o16] t m S a w.drew Q [o0,o1,o2,o3,o4,o5,o6,o7,o8,o9,o10,o11,o12,o13,o14,o15,o16] 0 [] []):(Code.region id #[o0,o1,o2,o3,o4,o5,o6,o7,o8,o9,o10,o11,o12,o13,o14,o15,o16,t] true).wp P Q a w:=
 wp_region_a [o0,o1,o2,o3,o4,o5,o6,o7,o8,o9,o10,o11,o12,o13,o14,o15,o16] t m S rfl hm hB h
end
end Go.Proofs.YtclpapddejgpnaaDoor
