/- The texts RegionT, Ref14b, TrimU (what is wanted of them), one after the other. -/
import Derived.Test.YtclpapddejgpnaaDoorMg15
namespace Go.Proofs.YtclpapddejgpnaaDoor
open Go.RowKit Go.ChangeShapes Go.WideShapes Go.ChangeAt
set_option linter.unusedVariables false
set_option linter.unusedSimpArgs false
set_option maxRecDepth 100000
section
def isA (late:List Nat)(i:Nat):Bool:=!late.contains i
def free (U:Fact):Prop:=∀v w w',U v w→U v w'
theorem free_is (u:Value):free (Is u):=fun _ _ _ h=>h
theorem free_any:free Any:=fun _ _ _ h=>h
def PureOK (P:Program)(ops:Array Oper)(G:List (Tmp×Fact))(a0:Act)(o:Oper)(T:Fact):Prop:=
 o.guard=none∧∃u,T=Is u∧∀a w,(∀s∈o.looksAt ops,Knows G a0 a w s)→(execOp a.eval o).run P w=.ok (.value u) w
def ChainT (P:Program)(ops:Array Oper)(late:List Nat)(a0:Act)(w0:World)(E:Act→World→Prop):List Oper→Nat→List (Tmp×Fact)→List (Tmp×Fact)→Prop
 | [],_,F,_=>∀a w,Below w0.heap.size w0 w→a.defers=a0.defers→a.tmps.size=a0.tmps.size→(∀s,s<a0.tmps.size→Knows F a0 a w s)→E a w
 | o::r,i,F,G=>∃d T U,o.dst=some d∧stable T∧free U∧(∀v w,T v w→U v w)∧(if isA late i=true then StepOK P ops F a0 w0 o T else PureOK P ops G a0 o T)∧ChainT P ops late a0 w0 E r (i+1) ((d,T)::F) ((d,U)::G)
structure FactsT (P:Program) (ops:Array Oper) (l:List Oper) (late:List Nat) (a0:Act) (w0:World) (Ts Us:List Fact) (i:Nat):Prop where
 len:Ts.length=i
 len2:Us.length=i
 st:∀(j:Nat) (T:Fact),Ts[j]?=some T→stable T
 fr:∀(j:Nat) (U:Fact),Us[j]?=some U→free U
 weak:∀(j:Nat) (T U:Fact),Ts[j]?=some T→Us[j]?=some U→∀v w,T v w→U v w
 step:∀(j:Nat) (o:Oper) (T:Fact),l[j]?=some o→Ts[j]?=some T→if isA late j=true then StepOK P ops (factsTo l Ts j) a0 w0 o T else PureOK P ops (factsTo l Us j) a0 o T
theorem chainT_facts {P:Program}{ops:Array Oper}{a0:Act}{w0:World}{E:Act→World→Prop}{l:List Oper}{late:List Nat}:
  ∀(r:List Oper) (i:Nat) (Ts Us:List Fact),l.drop i=r→i≤l.length→ChainT P ops late a0 w0 E r i (factsTo l Ts i) (factsTo l Us i)→FactsT P ops l late a0 w0 Ts Us i →
   ∃Ts Us:List Fact,FactsT P ops l late a0 w0 Ts Us l.length∧ChainT P ops late a0 w0 E [] l.length (factsTo l Ts l.length) (factsTo l Us l.length):=by
 intro r
 induction r with
 | nil=>
  intro i Ts Us hd hi hc hF
  have:i=l.length:=by
   have:=congrArg List.length hd
   simp at this
   omega
  subst this
  exact⟨Ts,Us,hF,hc⟩
 | cons o r ih=>
  intro i Ts Us hd hi hc hF
  obtain⟨d,T,U,hdst,hs1,hs2,hw,hstep,hrest⟩:=hc
  have hlt:i<l.length:=by
   have:=congrArg List.length hd
   simp at this
   omega
  have hli:l[i]?=some o:=by
   have:=congrArg (fun x=>x[0]?) hd
   simpa using this
  have hdi:dstAt l i=some d:=by simp [dstAt,hli,hdst]
  have fT:=factsTo_app (l:=l) (T:=T) hF.len
  have fU:=factsTo_app (l:=l) (T:=U) hF.len2
  have gT:(Ts++[T])[i]?=some T:=by rw [List.getElem?_append_right (by have:=hF.len;omega)];simp [hF.len]
  have gU:(Us++[U])[i]?=some U:=by rw [List.getElem?_append_right (by have:=hF.len2;omega)];simp [hF.len2]
  refine ih (i+1) (Ts++[T]) (Us++[U]) (by rw [←List.drop_drop,hd];rfl) (by omega) ?_ ⟨by simp [hF.len],by simp [hF.len2],?_,?_,?_,?_⟩
  ·have e1:factsTo l (Ts++[T]) (i+1)=(d,T)::factsTo l Ts i:=by rw [factsTo,hdi,gT,fT i (Nat.le_refl _)]
   have e2:factsTo l (Us++[U]) (i+1)=(d,U)::factsTo l Us i:=by rw [factsTo,hdi,gU,fU i (Nat.le_refl _)]
   rw [e1,e2]
   exact hrest
  ·intro j V hV
   rcases get_app hF.len hV with ⟨_,h⟩|⟨_,rfl⟩
   ·exact hF.st j V h
   ·exact hs1
  ·intro j V hV
   rcases get_app hF.len2 hV with ⟨_,h⟩|⟨_,rfl⟩
   ·exact hF.fr j V h
   ·exact hs2
  ·intro j V V' hV hV'
   rcases get_app hF.len hV with ⟨h0,h⟩|⟨rfl,rfl⟩
   ·rcases get_app hF.len2 hV' with ⟨_,h'⟩|⟨h1,_⟩
    ·exact hF.weak j V V' h h'
    ·omega
   ·rcases get_app hF.len2 hV' with ⟨h1,_⟩|⟨_,rfl⟩
    ·omega
    ·exact hw
  ·intro j o' V ho' hV
   rcases get_app hF.len hV with ⟨h0,h⟩|⟨rfl,rfl⟩
   ·rw [fT j (by omega),fU j (by omega)]
    exact hF.step j o' V ho' h
   ·rw [hli] at ho'
    injection ho' with ho'
    subst ho'
    rw [fT j (Nat.le_refl _),fU j (Nat.le_refl _)]
    exact hstep
def storeOf (o:Oper):Option (Tmp×Tmp):=match o.op with
 | .store _ (.tmp p) (.tmp v)=>some (p,v)
 | _=>none
def chainTB (n:Nat)(late:List Nat)(l ts:List Oper):Bool:=
  (List.range l.length).all (fun i=>match l[i]? with
    | none=>true
    | some o=>
      (match o.dst with
       | none=>false
       | some d=>decide (d<n)) &&
      (List.range l.length).all (fun j=>j==i||dstAt l j != o.dst) &&
      o.after.all (fun e=>!Region.binds .any e||decide (e.on<i)) &&
      (o.looksAt (l++ts).toArray).all (fun s=>decide (s<n)&&(List.range l.length).all fun j=>dstAt l j != some s||(o.after.any (fun e=>Region.binds .any e&&e.on==j)&&(isA late i||isA late j)))) &&
  (List.range ts.length).all (fun k=>match ts[k]? with
    | none=>true
    | some o=>
      o.guard.isNone &&
      o.after.all (fun e=>!Region.binds .any e||decide (e.on<l.length+k)) &&
      (List.range l.length).all (fun j=>(!isA late j&&decide (k+1<ts.length))||o.after.any (fun e=>Region.binds .any e&&e.on==j)) &&
      (k==0||o.after.any (fun e=>Region.binds .any e&&e.on==l.length+k-1)) &&
      (k+1==ts.length||(o.dst.isNone&&match storeOf o with
        | none=>false
        | some (p,v)=>decide (p<n)&&decide (v<n)&&(List.range l.length).all fun j=>(dstAt l j != some p&&dstAt l j != some v)||o.after.any (fun e=>Region.binds .any e&&e.on==j))))
theorem chainTB_at {n:Nat}{late:List Nat}{l ts:List Oper}(h:chainTB n late l ts=true){i:Nat}{o:Oper}(ho:l[i]?=some o):
  (∃d,o.dst=some d∧d<n)∧(∀j,j<l.length→j≠i→dstAt l j≠o.dst)∧(∀e∈o.after,Region.binds .any e=true→e.on<i) ∧
  (∀s∈o.looksAt (l++ts).toArray,s<n∧∀j,j<l.length→dstAt l j=some s→(∃e∈o.after,Region.binds .any e=true∧e.on=j)∧(isA late i=true∨isA late j=true)):=by
 have hlt:i<l.length:=by
  rcases Nat.lt_or_ge i l.length with h1|h1
  ·exact h1
  ·rw [List.getElem?_eq_none h1] at ho;cases ho
 unfold chainTB at h
 rw [Bool.and_eq_true,List.all_eq_true] at h
 have h1:=h.1 i (List.mem_range.2 hlt)
 rw [ho] at h1
 simp only [Bool.and_eq_true,List.all_eq_true,List.mem_range,Bool.or_eq_true,beq_iff_eq,bne_iff_ne,Bool.not_eq_true',decide_eq_true_eq,Array.all_eq_true_iff_forall_mem,Array.any_eq_true'] at h1
 obtain⟨⟨⟨h2,h3⟩,h4⟩,h5⟩:=h1
 refine⟨?_,fun j hj hne=>?_,fun e he hb=>?_,fun s hs=>⟨(h5 s hs).1,fun j hj hd=>?_⟩⟩
 ·cases hd:o.dst with
  | none=>rw [hd] at h2;cases h2
  | some d=>rw [hd] at h2;exact⟨d,rfl,by simpa using h2⟩
 ·rcases h3 j hj with h|h
  ·exact absurd h hne
  ·exact h
 ·rcases h4 e he with h|h
  ·rw [h] at hb;cases hb
  ·exact h
 ·rcases(h5 s hs).2 j hj with h|⟨⟨e,he,hb⟩,h2⟩
  ·exact absurd hd h
  ·exact⟨⟨e,he,hb⟩,h2⟩
theorem chainTB_tail {n:Nat}{late:List Nat}{l ts:List Oper}(h:chainTB n late l ts=true){k:Nat}{o:Oper}(ho:ts[k]?=some o):
  o.guard=none∧(∀e∈o.after,Region.binds .any e=true→e.on<l.length+k) ∧
  (∀j,j<l.length→(isA late j=true∨k+1=ts.length)→∃e∈o.after,Region.binds .any e=true∧e.on=j) ∧
  (0<k→∃e∈o.after,Region.binds .any e=true∧e.on=l.length+k-1) ∧
  (k+1≠ts.length→o.dst=none∧∃t p v,o.op=.store t (.tmp p) (.tmp v)∧∀j,j<l.length→dstAt l j=some p∨dstAt l j=some v→∃e∈o.after,Region.binds .any e=true∧e.on=j):=by
 have hlt:k<ts.length:=by
  rcases Nat.lt_or_ge k ts.length with h1|h1
  ·exact h1
  ·rw [List.getElem?_eq_none h1] at ho;cases ho
 unfold chainTB at h
 rw [Bool.and_eq_true] at h
 have h1:=(List.all_eq_true.1 h.2) k (List.mem_range.2 hlt)
 rw [ho] at h1
 simp only [Bool.and_eq_true,List.all_eq_true,List.mem_range,Bool.or_eq_true,beq_iff_eq,bne_iff_ne,Bool.not_eq_true',decide_eq_true_eq,Array.all_eq_true_iff_forall_mem,Array.any_eq_true',Option.isNone_iff_eq_none] at h1
 obtain⟨⟨⟨⟨h2,h3⟩,h4⟩,h5⟩,h6⟩:=h1
 refine⟨h2,fun e he hb=>?_,fun j hj hor=>?_,fun hk=>?_,fun hne=>?_⟩
 ·rcases h3 e he with h|h
  ·rw [h] at hb;cases hb
  ·exact h
 ·rcases h4 j hj with ⟨h7,h8⟩|⟨e,he,hb⟩
  ·rcases hor with h|h
   ·rw [h7] at h;cases h
   ·omega
  ·exact⟨e,he,hb⟩
 ·rcases h5 with h|⟨e,he,hb⟩
  ·omega
  ·exact⟨e,he,hb⟩
 ·rcases h6 with h|⟨h7,h8⟩
  ·exact absurd h hne
  ·refine⟨h7,?_⟩
   unfold storeOf at h8
   split at h8
   ·cases h8
   ·rename_i p v hst
    split at hst
    ·rename_i t p' v' hop
     injection hst with hst
     injection hst with e1 e2
     subst e1 e2
     simp only [Bool.and_eq_true,List.all_eq_true,List.mem_range,Bool.or_eq_true,beq_iff_eq,bne_iff_ne,decide_eq_true_eq,Array.any_eq_true'] at h8
     refine⟨t,p',v',hop,fun j hj hd=>?_⟩
     rcases h8.2 j hj with h|⟨e,he,hb⟩
     ·rcases hd with hd|hd
      ·exact absurd hd h.1
      ·exact absurd hd h.2
     ·exact⟨e,he,hb⟩
    ·cases hst
structure Ph2 (l ts:List Oper) (late:List Nat) (b a:Act) (listed:Array Bool) (k:Nat):Prop where
 size:listed.size=l.length+ts.length
 kle:k≤ts.length
 la:∀j,j<l.length→isA late j=true∨k=ts.length→listed.getD j false=true
 ldone:∀q,q<k→listed.getD (l.length+q) false=true
 lopen:∀q,k≤q→q<ts.length→listed.getD (l.length+q) true=false
 agree:∀s:Tmp,(∀j,j<l.length→listed.getD j false=false→dstAt l j≠some s)→a.tmps.getD s undef=b.tmps.getD s undef
 defers:a.defers=b.defers
 tmps:a.tmps.size=b.tmps.size
theorem act_ext {a b:Act}(h1:a.defers=b.defers)(h2:a.tmps.size=b.tmps.size)(h3:∀s,a.tmps.getD s undef=b.tmps.getD s undef):a=b:=by
 obtain⟨ta,da⟩:=a
 obtain⟨tb,db⟩:=b
 simp only at h1 h2
 subst h1
 congr 1
 apply Array.ext h2
 intro i hi hi'
 have:=h3 i
 simpa [hi,hi'] using this
theorem eval_tmp (a:Act)(s:Tmp):a.eval (.tmp s)=a.tmps.getD s undef:=rfl
theorem drop_cons {α:Type}{l:List α}{k:Nat}{x:α}(h:l[k]?=some x):l.drop k=x::l.drop (k+1):=by
 obtain⟨hk,rfl⟩:=List.getElem?_eq_some_iff.1 h
 exact List.drop_eq_getElem_cons hk
theorem ph2_any {P:Program}{l ts:List Oper}{late:List Nat}{Q:Exit→Act→World→Prop}{b:Act}(hB:chainTB b.tmps.size late l ts=true)
  (hE:∀j o,l[j]?=some o→isA late j=false→o.guard=none∧∃d,o.dst=some d∧∀(a:Act) (w:World),(∀s∈o.looksAt (l++ts).toArray,a.tmps.getD s undef=b.tmps.getD s undef)→(execOp a.eval o).run P w=.ok (.value (b.tmps.getD d undef)) w) :
  ∀(fuel:Nat) (listed:Array Bool) (a:Act) (w:World) (k:Nat),Ph2 l ts late b a listed k→(∃n,n≤fuel∧n=(List.range (l.length+ts.length)).countP (fun j=>!listed.getD j true))→wpList P (l++ts).toArray (OnlyN fun a w=>Q .normal a w) (ts.drop k) b w→wpAny P .any (l++ts).toArray Q fuel listed a w:=by
 have hgl:∀j,j<l.length→(l++ts).toArray[j]?=l[j]?:=fun j hj=>by rw [List.getElem?_toArray,List.getElem?_append_left hj]
 have hgt:∀q,(l++ts).toArray[l.length+q]?=ts[q]?:=fun q=>by
  rw [List.getElem?_toArray,List.getElem?_append_right (by omega)];congr 1;omega
 have hff:∀{listed:Array Bool} {j:Nat},j<listed.size→(listed.getD j true=false↔listed.getD j false=false):=by
  intro listed j hj
  simp [hj]
 have hdec:∀{listed:Array Bool} {i:Nat} {n f:Nat},listed.size=l.length+ts.length→i<l.length+ts.length→listed.getD i true=false→n=(List.range (l.length+ts.length)).countP (fun j=>!listed.getD j true)→n≤f+1→∃m,m≤f∧m=(List.range (l.length+ts.length)).countP (fun j=>!(listed.setIfInBounds i true).getD j true):=by
  intro listed i n f hsz hi hu hn hf
  refine⟨_,?_,rfl⟩
  have hlt:(List.range (l.length+ts.length)).countP (fun j=>!(listed.setIfInBounds i true).getD j true)<(List.range (l.length+ts.length)).countP (fun j=>!listed.getD j true):=by
   refine countP_lt (i:=i) (fun x _ hx=>?_) (List.mem_range.2 hi) (by simp [hu]) ?_
   ·by_cases e:i=x
    ·subst e;simp [hu]
    ·rw [getD_set_ne true e] at hx;exact hx
   ·have:i<listed.size:=by omega
    simp [this]
  omega
 have hallEnd:∀(listed:Array Bool) (a:Act) (w:World),Ph2 l ts late b a listed ts.length→wpList P (l++ts).toArray (OnlyN fun a w=>Q .normal a w) (ts.drop ts.length) b w→Region.ready .any (l++ts).toArray listed=[]∧Q .normal a w:=by
  intro listed a w hP hw
  have hall:∀j,j<l.length+ts.length→listed.getD j false=true:=by
   intro j hj
   by_cases h1:j<l.length
   ·exact hP.la j h1 (.inr rfl)
   ·have:=hP.ldone (j-l.length) (by omega)
    rwa [show l.length+(j-l.length)=j by omega] at this
  refine⟨?_,?_⟩
  ·rw [List.eq_nil_iff_forall_not_mem]
   intro j hj
   obtain⟨hu,o,ho,_⟩:=mem_ready.1 hj
   have hjl:j<l.length+ts.length:=by
    rcases Nat.lt_or_ge j (l.length+ts.length) with h1|h1
    ·exact h1
    ·rw [List.getElem?_toArray,List.getElem?_eq_none (by simpa using h1)] at ho;cases ho
   exact absurd (hall j hjl) (by rw [getD_ff hu];simp)
  ·have he:a=b:=act_ext hP.defers hP.tmps fun s=>hP.agree s fun j hj hn=>by
    rw [hall j (by omega)] at hn;cases hn
   subst he
   rw [List.drop_length] at hw
   exact hw.2
 intro fuel
 induction fuel with
 | zero=>
  intro listed a w k hP hn hw
  obtain⟨n,hn0,hn⟩:=hn
  have hk:k=ts.length:=by
   refine Classical.byContradiction fun hne=>?_
   have hlt:k<ts.length:=by have:=hP.kle;omega
   have:0<(List.range (l.length+ts.length)).countP (fun j=>!listed.getD j true):=List.countP_pos_iff.2 ⟨l.length+k,List.mem_range.2 (by omega),by simp [hP.lopen k (Nat.le_refl _) hlt]⟩
   omega
  subst hk
  exact hallEnd listed a w hP hw
 | succ fuel ih=>
  intro listed a w k hP hn hw
  obtain⟨n,hn0,hn⟩:=hn
  by_cases hk:k=ts.length
  ·subst hk
   obtain⟨h1,h2⟩:=hallEnd listed a w hP hw
   exact⟨fun _=>h2,fun i hi=>by rw [h1] at hi;cases hi⟩
  have hkl:k<ts.length:=by have:=hP.kle;omega
  have hok:ts[k]?=some ts[k]:=List.getElem?_eq_getElem hkl
  refine⟨fun hr=>?_,fun i hi=>?_⟩
  ·exfalso
   have hall:∀j,j<l.length→listed.getD j false=true:=by
    intro j
    induction j using Nat.strongRecOn with
    | _ j ihj=>
     intro hj
     cases hb:listed.getD j false with
     | true=>rfl
     | false=>
      exfalso
      have hj':l[j]?=some l[j]:=List.getElem?_eq_getElem hj
      have hc:=chainTB_at hB hj'
      have hm:j∈Region.ready .any (l++ts).toArray listed:=by
       rw [mem_ready]
       refine⟨(hff (by rw [hP.size];omega)).2 hb,l[j],by rw [hgl j hj,hj'],fun e he hbi=>ihj e.on (hc.2.2.1 e he hbi) (Nat.lt_trans (hc.2.2.1 e he hbi) hj)⟩
      rw [hr] at hm
      cases hm
   have hm:l.length+k∈Region.ready .any (l++ts).toArray listed:=by
    rw [mem_ready]
    refine⟨hP.lopen k (Nat.le_refl _) hkl,ts[k],by rw [hgt k,hok],fun e he hb=>?_⟩
    have hlt:=(chainTB_tail hB hok).2.1 e he hb
    by_cases h1:e.on<l.length
    ·exact hall _ h1
    ·have:=hP.ldone (e.on-l.length) (by omega)
     rwa [show l.length+(e.on-l.length)=e.on by omega] at this
   rw [hr] at hm
   cases hm
  ·obtain⟨hu,o,ho,hedges⟩:=mem_ready.1 hi
   have hisz:i<l.length+ts.length:=by
    rcases Nat.lt_or_ge i (l.length+ts.length) with h1|h1
    ·exact h1
    ·rw [List.getElem?_toArray,List.getElem?_eq_none (by simpa using h1)] at ho;cases ho
   by_cases hil:i<l.length
   ·
    have hol:l[i]?=some o:=by rw [←hgl i hil];exact ho
    have hei:isA late i=false:=by
     refine Bool.eq_false_iff.2 fun h=>?_
     have:=hP.la i hil (.inl h)
     rw [getD_ff hu] at this
     cases this
    obtain⟨hg,d,hd,hrun⟩:=hE i o hol hei
    obtain⟨⟨d',hd',hdm⟩,hdis,hbe,hlook⟩:=chainTB_at hB hol
    rw [hd] at hd'
    injection hd' with hd'
    subst hd'
    have hdi:dstAt l i=some d:=by simp [dstAt,hol,hd]
    have hds:d<a.tmps.size:=by rw [hP.tmps];exact hdm
    have hlooks:∀s∈o.looksAt (l++ts).toArray,a.tmps.getD s undef=b.tmps.getD s undef:=fun s hs=>hP.agree s fun j hj hnl hdj=>by
     obtain⟨-,h2⟩:=(hlook s hs).2 j hj hdj
     have:=hP.la j hj (.inl (h2.resolve_left (by rw [hei];simp)))
     rw [hnl] at this
     cases this
    refine wpOp_noWay ho (K:=fun a' w'=>a'=a.put o.dst (b.tmps.getD d undef)∧w'=w) ?_ ?_
    ·rintro a' w' ⟨rfl,rfl⟩
     refine ih _ _ _ k ⟨by simpa using hP.size,hP.kle,fun j hj hor=>getD_set_true (hP.la j hj hor),fun q hq=>getD_set_true (hP.ldone q hq),fun q h1 h2=>by rw [getD_set_ne true (by omega)];exact hP.lopen q h1 h2,fun s hs=>?_,by rw [hd];exact hP.defers,by rw [hd];simp [Act.put,hP.tmps]⟩ (hdec hP.size hisz hu hn hn0) hw
     rw [hd]
     by_cases e:d=s
     ·subst e
      rw [getD_put_same hds]
     ·rw [getD_put_ne e]
      refine hP.agree s fun j hj hnl hdj=>?_
      by_cases hji:j=i
      ·subst hji
       rw [hdi] at hdj
       injection hdj with hdj
       exact e hdj
      ·exact hs j hj (by rw [getD_set_ne false (fun h=>hji h.symm)];exact hnl) hdj
    ·have hwn:Region.wanted o (yielded (l++ts).toArray a.tmps)=true:=by unfold Region.wanted;rw [hg]
     rw [if_pos hwn]
     unfold Oper.wp
     rw [hrun a w hlooks]
     exact⟨rfl,rfl⟩
   ·
    obtain⟨q,rfl⟩:∃q,i=l.length+q:=⟨i-l.length,by omega⟩
    have hql:q<ts.length:=by omega
    have hqk:k≤q:=by
     refine Nat.le_of_not_lt fun h=>?_
     have:=hP.ldone q h
     rw [getD_ff hu] at this
     cases this
    rw [hgt q] at ho
    obtain⟨hg,hbe,hbl,hprev,hst⟩:=chainTB_tail hB ho
    obtain rfl:q=k:=by
     refine Classical.byContradiction fun hne=>?_
     obtain⟨e,he,hb,hon⟩:=hprev (by omega)
     have h1:=hedges e he hb
     have h2:=hP.lopen (q-1) (by omega) (by omega)
     rw [hon,show l.length+q-1=l.length+(q-1) by omega,getD_ff h2] at h1
     cases h1
    have hwn:∀a:Act,Region.wanted o (yielded (l++ts).toArray a.tmps)=true:=fun a=>by unfold Region.wanted;rw [hg]
    rw [drop_cons ho] at hw
    have hwl:o.wp P b w (wpList P (l++ts).toArray (OnlyN fun a w=>Q .normal a w) (ts.drop (q+1))) (OnlyN fun a w=>Q .normal a w):=by
     unfold wpList at hw
     rw [if_pos (hwn b)] at hw
     rcases hw with hw|⟨_,a',w',he,_⟩
     ·exact hw
     ·cases he
    have hgo:(l++ts).toArray[l.length+q]?=some o:=by rw [hgt q];exact ho
    by_cases hlast:q+1=ts.length
    ·
     have hall:∀j,j<l.length→listed.getD j false=true:=fun j hj=>by
      obtain⟨e,he,hb,hon⟩:=hbl j hj (.inr hlast)
      rw [←hon];exact hedges e he hb
     have hab:a=b:=act_ext hP.defers hP.tmps fun s=>hP.agree s fun j hj hn=>by rw [hall j hj] at hn;cases hn
     subst hab
     refine wpOp_noWay hgo (K:=wpList P (l++ts).toArray (OnlyN fun a w=>Q .normal a w) (ts.drop (q+1))) (fun a' w' hw'=>?_) ?_
     ·rw [hlast,List.drop_length] at hw'
      have hempty:Region.ready .any (l++ts).toArray (listed.setIfInBounds (l.length+q) true)=[]:=by
       rw [List.eq_nil_iff_forall_not_mem]
       intro j hj
       obtain⟨hu',o',ho',_⟩:=mem_ready.1 hj
       have hjl:j<l.length+ts.length:=by
        rcases Nat.lt_or_ge j (l.length+ts.length) with h1|h1
        ·exact h1
        ·rw [List.getElem?_toArray,List.getElem?_eq_none (by simpa using h1)] at ho';cases ho'
       have hu2:=getD_ff hu'
       by_cases h1:j<l.length
       ·rw [getD_set_ne false (by omega),hall j h1] at hu2;cases hu2
       ·by_cases h2:j=l.length+q
        ·subst h2
         have:l.length+q<listed.size:=by rw [hP.size];omega
         simp [this] at hu'
        ·have:=hP.ldone (j-l.length) (by omega)
         rw [show l.length+(j-l.length)=j by omega] at this
         rw [getD_set_ne false (fun h=>h2 h.symm),this] at hu2
         cases hu2
      cases fuel with
      | zero=>exact⟨hempty,hw'.2⟩
      | succ f=>exact⟨fun _=>hw'.2,fun i hi=>by rw [hempty] at hi;cases hi⟩
     ·rw [if_pos (hwn a)]
      unfold Oper.wp at hwl ⊢
      generalize (execOp a.eval o).run P w=r at *
      cases r with
      | ok n w'=>
       cases n<;>simp only [Oper.upon] at hwl ⊢ <;>
        first
         | exact hwl
         | exact Calls.mono hwl (fun e w'' he=>by
           cases e with
           | returned v=>exact he
           | panicked c=>exact absurd he.1 (by simp)
           | outgrown=>obtain⟨_,_,h',_⟩:=he;cases h')
         | exact hwl.elim
      | halt x w'=>
       cases x<;>simp only [Oper.upon] at hwl ⊢ <;>
        first
         | exact hwl.elim
         | exact absurd hwl.1 (by simp)
    ·obtain⟨hdn,t,p,v,hop,hdat⟩:=hst hlast
     have hpv:∀s,(s=p∨s=v)→a.tmps.getD s undef=b.tmps.getD s undef:=fun s hs=>hP.agree s fun j hj hnl hdj=>by
      obtain⟨e,he,hb,hon⟩:=hdat j hj (by rcases hs with rfl|rfl;exact .inl hdj;exact .inr hdj)
      have:=hedges e he hb
      rw [hon,hnl] at this
      cases this
     have hex:execOp a.eval o=execOp b.eval o:=by
      unfold execOp
      rw [hop]
      simp only [eval_tmp,hpv p (.inl rfl),hpv v (.inr rfl)]
     refine wpOp_noWay hgo (K:=fun a' w'=>a'=a∧wpList P (l++ts).toArray (OnlyN fun a w=>Q .normal a w) (ts.drop (q+1)) b w') ?_ ?_
     ·rintro a' w' ⟨rfl,hw'⟩
      refine ih _ _ _ (q+1) ⟨by simpa using hP.size,by omega,fun j hj hor=>?_,fun r hr=>?_,fun r h1 h2=>?_,fun s hs=>hP.agree s fun j hj hnl=>hs j hj (by rw [getD_set_ne false (by omega)];exact hnl),hP.defers,hP.tmps⟩ (hdec hP.size hisz hu hn hn0) hw'
      ·rcases hor with h|h
       ·exact getD_set_true (hP.la j hj (.inl h))
       ·exact absurd h hlast
      ·by_cases e:r=q
       ·subst e
        have:l.length+r<listed.size:=by rw [hP.size];omega
        simp [this]
       ·exact getD_set_true (hP.ldone r (by omega))
      ·rw [getD_set_ne true (by omega)];exact hP.lopen r (by omega) h2
     ·rw [if_pos (hwn a)]
      unfold Oper.wp at hwl ⊢
      rw [hex]
      have hsk:∀n w',(execOp b.eval o).run P w=.ok n w'→n=.skip:=by
       intro n w' h
       unfold execOp at h
       rw [hop] at h
       simp only [Sem.run_bind,Sem.run_pure] at h
       cases hr:(Instr.storeAt t (b.eval (.tmp p)) (b.eval (.tmp v))).run P w with
       | ok x w2=>rw [hr] at h;simp at h;exact h.1.symm
       | halt x w2=>rw [hr] at h;simp at h
      generalize hrr:(execOp b.eval o).run P w=r at *
      cases r with
      | ok n w'=>
       obtain rfl:=hsk n w' rfl
       simp only [Oper.upon,hdn] at hwl ⊢
       exact⟨rfl,hwl⟩
      | halt x w'=>
       cases x<;>simp only [Oper.upon] at hwl ⊢ <;>
        first
         | exact hwl.elim
         | exact absurd hwl.1 (by simp)
def Pend (l:List Oper)(listed:Array Bool)(s:Nat):Prop:=∃j,j<l.length∧listed.getD j false=false∧dstAt l j=some s
noncomputable def fillB (l:List Oper) (listed:Array Bool) (u:Nat→Value) (a:Act):Act:=
 { a with tmps:=Array.ofFn fun s:Fin a.tmps.size=>open Classical in if h:Pend l listed s.1 then u (Classical.choose h) else a.tmps.getD s.1 undef }
theorem fillB_yes {l:List Oper}{listed:Array Bool}{u:Nat→Value}{a:Act}{j d:Nat}(hj:j<l.length)(hn:listed.getD j false=false)(hd:dstAt l j=some d)(hs:d<a.tmps.size)(hu:∀j',j'<l.length→dstAt l j'=some d→j'=j):(fillB l listed u a).tmps.getD d undef=u j:=by
 have h:Pend l listed d:=⟨j,hj,hn,hd⟩
 have hc:=Classical.choose_spec h
 have he:Classical.choose h=j:=hu _ hc.1 hc.2.2
 unfold fillB
 rw [Array.getD_eq_getD_getElem?,Array.getElem?_ofFn,dif_pos hs,Option.getD_some]
 refine(dif_pos h).trans ?_
 rw [he]
theorem fillB_no {l:List Oper}{listed:Array Bool}{u:Nat→Value}{a:Act}{s:Nat}(h:∀j,j<l.length→listed.getD j false=false→dstAt l j≠some s):(fillB l listed u a).tmps.getD s undef=a.tmps.getD s undef:=by
 have hn:¬Pend l listed s:=fun ⟨j,h1,h2,h3⟩=>h j h1 h2 h3
 by_cases hs:s<a.tmps.size
 ·simp [fillB,hs,hn]
 ·simp [fillB,hs]
theorem inv1_any {P:Program}{l ts:List Oper}{late:List Nat}{Ts Us:List Fact}{a0:Act}{w0:World}{Q:Exit→Act→World→Prop}(hts:0<ts.length)(hB:chainTB a0.tmps.size late l ts=true)
  (hF:FactsT P (l++ts).toArray l late a0 w0 Ts Us l.length)
  (hend:ChainT P (l++ts).toArray late a0 w0 (fun a w=>wpList P (l++ts).toArray (OnlyN fun a w=>Q .normal a w) ts a w) [] l.length (factsTo l Ts l.length) (factsTo l Us l.length)) :
  ∀(fuel:Nat) (listed:Array Bool) (a:Act) (w:World),listed.size=l.length+ts.length→(∀q,q<ts.length→listed.getD (l.length+q) true=false)→(∃n,n≤fuel∧n=(List.range (l.length+ts.length)).countP (fun j=>!listed.getD j true))→Inv l Ts a0 w0 listed a w→wpAny P .any (l++ts).toArray Q fuel listed a w:=by
 have hgl:∀j,j<l.length→(l++ts).toArray[j]?=l[j]?:=fun j hj=>by rw [List.getElem?_toArray,List.getElem?_append_left hj]
 have hgt:∀q,(l++ts).toArray[l.length+q]?=ts[q]?:=fun q=>by
  rw [List.getElem?_toArray,List.getElem?_append_right (by omega)];congr 1;omega
 have hl1:=hF.len
 have hl2:=hF.len2
 have hpure:∀j o,l[j]?=some o→isA late j=false→o.guard=none∧∃u,Ts[j]?=some (Is u)∧∀a w,(∀s∈o.looksAt (l++ts).toArray,Knows (factsTo l Us j) a0 a w s)→(execOp a.eval o).run P w=.ok (.value u) w:=by
  intro j o ho hj
  have hjl:j<l.length:=(List.getElem?_eq_some_iff.1 ho).1
  have hT:Ts[j]?=some (Ts[j]'(by omega)):=List.getElem?_eq_getElem (by omega)
  have h:=hF.step j o _ ho hT
  rw [if_neg (by rw [hj];simp)] at h
  obtain⟨hg,u,hu,hr⟩:=h
  exact⟨hg,u,by rw [hT,hu],hr⟩
 intro fuel
 induction fuel with
 | zero=>
  intro listed a w hsz hop hn hI
  exfalso
  obtain⟨n,hn0,hn⟩:=hn
  have:0<(List.range (l.length+ts.length)).countP (fun j=>!listed.getD j true):=List.countP_pos_iff.2 ⟨l.length+0,List.mem_range.2 (by omega),by simp only [hop 0 hts];rfl⟩
  omega
 | succ fuel ih=>
  intro listed a w hsz hop hn hI
  have hff:∀{j:Nat},j<listed.size→(listed.getD j true=false↔listed.getD j false=false):=by
   intro j hj
   simp [hj]
  refine⟨fun hr=>?_,fun i hi=>?_⟩
  ·exfalso
   have hall:∀j,j<l.length→listed.getD j false=true:=by
    intro j
    induction j using Nat.strongRecOn with
    | _ j ihj=>
     intro hj
     cases hb:listed.getD j false with
     | true=>rfl
     | false=>
      exfalso
      have hj':l[j]?=some l[j]:=List.getElem?_eq_getElem hj
      have hc:=chainTB_at hB hj'
      have hm:j∈Region.ready .any (l++ts).toArray listed:=by
       rw [mem_ready]
       exact⟨(hff (by rw [hsz];omega)).2 hb,l[j],by rw [hgl j hj,hj'],fun e he hbi=>ihj e.on (hc.2.2.1 e he hbi) (Nat.lt_trans (hc.2.2.1 e he hbi) hj)⟩
      rw [hr] at hm
      cases hm
   have hok:ts[0]?=some ts[0]:=List.getElem?_eq_getElem hts
   have hm:l.length+0∈Region.ready .any (l++ts).toArray listed:=by
    rw [mem_ready]
    exact⟨hop 0 hts,ts[0],by rw [hgt 0,hok],fun e he hb=>hall _ (by have:=(chainTB_tail hB hok).2.1 e he hb;omega)⟩
   rw [hr] at hm
   cases hm
  ·obtain⟨hu,o,ho,hedges⟩:=mem_ready.1 hi
   have hisz:i<l.length+ts.length:=by
    rcases Nat.lt_or_ge i (l.length+ts.length) with h1|h1
    ·exact h1
    ·rw [List.getElem?_toArray,List.getElem?_eq_none (by simpa using h1)] at ho;cases ho
   by_cases hil:i<l.length
   ·have hol:l[i]?=some o:=by rw [←hgl i hil];exact ho
    obtain⟨⟨d,hd,hdm⟩,hdis,hbe,hlook⟩:=chainTB_at hB hol
    have hdi:dstAt l i=some d:=by simp [dstAt,hol,hd]
    have hTi:Ts[i]?=some (Ts[i]'(by omega)):=List.getElem?_eq_getElem (by omega)
    have hK:∀(F:List Fact),F.length=l.length→(∀(j:Nat) (d:Tmp) (V:Fact),listed.getD j false=true→dstAt l j=some d→F[j]?=some V→V (a.tmps.getD d undef) w)→∀s∈o.looksAt (l++ts).toArray,Knows (factsTo l F i) a0 a w s:=by
     intro F hlF hdone s hs
     unfold Knows
     cases hl:look (factsTo l F i) s with
     | some V=>
      obtain⟨j,hj,hdj,hVj⟩:=mem_factsTo (look_some hl)
      obtain⟨⟨e,he,hb,rfl⟩,-⟩:=(hlook s hs).2 j (by omega) hdj
      exact hdone _ s V (hedges e he hb) hdj hVj
     | none=>
      refine hI.rest s fun j hj hdj=>?_
      have hjl:=dst_lt hdj
      obtain⟨⟨e,he,hb,rfl⟩,-⟩:=(hlook s hs).2 j hjl hdj
      have hlt:=hbe e he hb
      have hV:F[e.on]?=some (F[e.on]'(by omega)):=List.getElem?_eq_getElem (by omega)
      obtain⟨V,hV'⟩:=look_mem ⟨_,factsTo_mem (i:=i) hlt hdj hV,rfl⟩
      rw [hV'] at hl
      cases hl
    have hS:if Region.wanted o (yielded (l++ts).toArray a.tmps) then o.wp P a w (After (Ts[i]'(by omega)) a o.dst w) NoWay else (Ts[i]'(by omega)) undef w:=by
     by_cases he:isA late i=true
     ·have h:=hF.step i o _ hol hTi
      rw [if_pos he] at h
      exact h a w hI.below (hK Ts hl1 fun j d V h1 h2 h3=>hI.done j d V h1 h2 h3)
     ·obtain⟨hg,u,hTu,hrun⟩:=hpure i o hol (Bool.eq_false_iff.2 he)
      rw [hTi] at hTu
      injection hTu with hTu
      have hwn:Region.wanted o (yielded (l++ts).toArray a.tmps)=true:=by unfold Region.wanted;rw [hg]
      rw [if_pos hwn]
      have hr:=hrun a w (hK Us hl2 fun j d V h1 h2 h3=>by
       have hjl:=dst_lt h2
       have hT:Ts[j]?=some (Ts[j]'(by omega)):=List.getElem?_eq_getElem (by omega)
       exact hF.weak j _ V hT h3 _ _ (hI.done j d _ h1 h2 hT))
      unfold Oper.wp
      rw [hr]
      exact⟨u,rfl,by rw [hTu];rfl,Below.refl _ _⟩
    refine wpOp_noWay ho (K:=After (Ts[i]'(by omega)) a o.dst w) ?_ ?_
    ·rintro a' w' ⟨v,rfl,hT,hbel⟩
     have hds:d<a.tmps.size:=by rw [hI.size];exact hdm
     refine ih _ _ _ (by simpa using hsz) (fun q hq=>by rw [getD_set_ne true (by omega)];exact hop q hq) ?_ ⟨hI.below.trans (hbel.mono hI.below.size),?_,?_,?_,?_⟩
     ·obtain⟨n,hn0,hn⟩:=hn
      refine⟨_,?_,rfl⟩
      have hlt:(List.range (l.length+ts.length)).countP (fun j=>!(listed.setIfInBounds i true).getD j true)<(List.range (l.length+ts.length)).countP (fun j=>!listed.getD j true):=by
       refine countP_lt (i:=i) (fun x _ hx=>?_) (List.mem_range.2 hisz) (by simp [hu]) ?_
       ·by_cases e:i=x
        ·subst e;simp [hu]
        ·rw [getD_set_ne true e] at hx;exact hx
       ·have:i<listed.size:=by omega
        simp [this]
      omega
     ·rw [hd];exact hI.defers
     ·rw [hd];simp [Act.put,hI.size]
     ·intro j d' T hj hdj hTj
      rw [hd]
      rcases getD_set_cases hj with rfl|hj2
      ·rw [hdi] at hdj
       injection hdj with hdj
       subst hdj
       rw [hTi] at hTj
       injection hTj with hTj
       subst hTj
       rw [getD_put_same hds]
       exact hT
      ·have hne:d≠d':=by
        rintro rfl
        have hji:j≠i:=by
         rintro rfl
         rw [getD_ff hu] at hj2
         cases hj2
        exact hdis j (dst_lt hdj) hji (by rw [hdj,hd])
       rw [getD_put_ne hne]
       exact hF.st j T hTj _ _ _ (hI.done j d' T hj2 hdj hTj) hbel
     ·intro s hs
      have hne:d≠s:=by
       rintro rfl
       refine hs i ?_ hdi
       have:i<listed.size:=by omega
       simp [this]
      rw [hd,getD_put_ne hne]
      refine hI.rest s fun j hj hdj=>hs j (getD_set_true hj) hdj
    ·by_cases hw:Region.wanted o (yielded (l++ts).toArray a.tmps)=true
     ·rw [if_pos hw] at hS ⊢
      exact hS
     ·rw [if_neg hw] at hS ⊢
      exact⟨undef,rfl,hS,Below.refl _ _⟩
   ·
    obtain⟨q,rfl⟩:∃q,i=l.length+q:=⟨i-l.length,by omega⟩
    have hql:q<ts.length:=by omega
    rw [hgt q] at ho
    obtain⟨hg,hbe,hbl,hprev,hst⟩:=chainTB_tail hB ho
    obtain rfl:q=0:=by
     refine Classical.byContradiction fun hne=>?_
     obtain⟨e,he,hb,hon⟩:=hprev (by omega)
     have h1:=hedges e he hb
     have h2:=hop (q-1) (by omega)
     rw [hon,show l.length+q-1=l.length+(q-1) by omega,getD_ff h2] at h1
     cases h1
    have hA:∀j,j<l.length→isA late j=true→listed.getD j false=true:=fun j hj hje=>by
     obtain⟨e,he,hb,hon⟩:=hbl j hj (.inl hje)
     rw [←hon];exact hedges e he hb
    have hdu:∀j j' d,j<l.length→j'<l.length→dstAt l j=some d→dstAt l j'=some d→j'=j:=fun j j' d hj hj' h h'=>by
     refine Classical.byContradiction fun hne=>?_
     have hj2:l[j]?=some l[j]:=List.getElem?_eq_getElem hj
     have hd2:l[j].dst=some d:=by simpa [dstAt,hj2] using h
     exact(chainTB_at hB hj2).2.1 j' hj' hne (by rw [h',hd2])
    obtain⟨u,hu2⟩:∃u:Nat→Value,∀j,j<l.length→isA late j=false→Ts[j]?=some (Is (u j)):=by
     have hex:∀j,∃u,j<l.length→isA late j=false→Ts[j]?=some (Is u):=fun j=>by
      by_cases h:j<l.length∧isA late j=false
      ·obtain⟨-,u,hu,-⟩:=hpure j _ (List.getElem?_eq_getElem h.1) h.2
       exact⟨u,fun _ _=>hu⟩
      ·exact⟨undef,fun h1 h2=>absurd ⟨h1,h2⟩ h⟩
     exact⟨fun j=>Classical.choose (hex j),fun j h1 h2=>Classical.choose_spec (hex j) h1 h2⟩
    have hbs:(fillB l listed u a).tmps.size=a.tmps.size:=by simp [fillB]
    have hbd:∀j d,j<l.length→isA late j=false→dstAt l j=some d→(fillB l listed u a).tmps.getD d undef=u j:=fun j d hj he hd=>by
     have hj2:l[j]?=some l[j]:=List.getElem?_eq_getElem hj
     obtain⟨⟨d',hd',hdm⟩,-⟩:=chainTB_at hB hj2
     have hdd:d'=d:=by
      have:dstAt l j=some d':=by simp [dstAt,hj2,hd']
      rw [hd] at this
      injection this with this
      exact this.symm
     subst hdd
     cases hn:listed.getD j false with
     | false=>exact fillB_yes hj hn hd (by rw [hI.size];exact hdm) (fun j' hj' h'=>hdu j j' _ hj hj' hd h')
     | true=>
      rw [fillB_no (fun j' hj' hn' h'=>by
       obtain rfl:=hdu j j' _ hj hj' hd h'
       rw [hn] at hn';cases hn')]
      exact hI.done j _ _ hn hd (hu2 j hj he)
    have hba:∀s,(∀j,j<l.length→dstAt l j=some s→isA late j=true)→(fillB l listed u a).tmps.getD s undef=a.tmps.getD s undef:=fun s hs=>fillB_no fun j hj hn hd=>by
     rw [hA j hj (hs j hj hd)] at hn;cases hn
    have hph:Ph2 l ts late (fillB l listed u a) a listed 0:=⟨hsz,Nat.zero_le _,fun j hj hor=>by
     rcases hor with h|h
     ·exact hA j hj h
     ·omega,fun q hq=>by omega,fun q _ hq=>hop q hq,fun s hs=>(fillB_no hs).symm,rfl,hbs.symm⟩
    have hwl:=hend (fillB l listed u a) w hI.below hI.defers (by rw [hbs];exact hI.size) fun s hs=>by
     unfold Knows
     cases hl:look (factsTo l Ts l.length) s with
     | some T=>
      obtain⟨j,hj,hd,hT⟩:=mem_factsTo (look_some hl)
      by_cases he:isA late j=false
      ·rw [hbd j s hj he hd]
       rw [hu2 j hj he] at hT
       injection hT with hT
       subst hT
       rfl
      ·have he':isA late j=true:=by simpa using he
       rw [hba s (fun j' hj' hd'=>by obtain rfl:=hdu j j' _ hj hj' hd hd';exact he')]
       exact hI.done j s T (hA j hj he') hd hT
     | none=>
      have hnd:∀j,j<l.length→dstAt l j≠some s:=fun j hj hd=>by
       have hT:Ts[j]?=some (Ts[j]'(by omega)):=List.getElem?_eq_getElem (by omega)
       obtain⟨T,hT'⟩:=look_mem ⟨_,factsTo_mem (i:=l.length) hj hd hT,rfl⟩
       rw [hT'] at hl
       cases hl
      rw [fillB_no (fun j hj _=>hnd j hj)]
      exact hI.rest s fun j _ hd=>hnd j (dst_lt hd) hd
    refine(ph2_any (by rw [hbs,hI.size];exact hB) ?_ (fuel+1) listed a w 0 hph hn (by simpa using hwl)).2 _ hi
    intro j o ho hj
    have hjl:j<l.length:=(List.getElem?_eq_some_iff.1 ho).1
    obtain⟨hg,u',hTu,hrun⟩:=hpure j o ho hj
    obtain⟨⟨d,hd,hdm⟩,hdis,hbe,hlook⟩:=chainTB_at hB ho
    have hdj:dstAt l j=some d:=by simp [dstAt,ho,hd]
    refine⟨hg,d,hd,fun a' w' hag=>?_⟩
    have huu:u'=u j:=by
     have h2:=hu2 j hjl hj
     rw [hTu] at h2
     injection h2 with h2
     have h3:Is u' u' w:=rfl
     rw [h2] at h3
     exact h3
    rw [hbd j d hjl hj hdj,←huu]
    refine hrun a' w' fun s hs=>?_
    have hsA:∀j',j'<l.length→dstAt l j'=some s→isA late j'=true:=fun j' hj' hd'=>by
     obtain⟨-,h2⟩:=(hlook s hs).2 j' hj' hd'
     exact h2.resolve_left (by rw [hj];simp)
    have hsv:a'.tmps.getD s undef=a.tmps.getD s undef:=by rw [hag s hs,hba s hsA]
    unfold Knows
    rw [hsv]
    cases hl:look (factsTo l Us j) s with
    | some V=>
     obtain⟨j',hj',hd',hV⟩:=mem_factsTo (look_some hl)
     have hT:Ts[j']?=some (Ts[j']'(by omega)):=List.getElem?_eq_getElem (by omega)
     exact hF.fr j' V hV _ w w' (hF.weak j' _ V hT hV _ _ (hI.done j' s _ (hA j' (by omega) (hsA j' (by omega) hd')) hd' hT))
    | none=>
     refine hI.rest s fun j' hj' hd'=>?_
     have hjl':=dst_lt hd'
     obtain⟨⟨e,he,hb,rfl⟩,-⟩:=(hlook s hs).2 j' hjl' hd'
     have hlt:=hbe e he hb
     have hV:Us[e.on]?=some (Us[e.on]'(by omega)):=List.getElem?_eq_getElem (by omega)
     obtain⟨V,hV'⟩:=look_mem ⟨_,factsTo_mem (i:=j) hlt hd' hV,rfl⟩
     rw [hV'] at hl
     cases hl
theorem wp_region_t {P:Program}{id:Nat}{ops:Array Oper}(l ts:List Oper)(late:List Nat){Q:Exit→Act→World→Prop}{a:Act}{w:World}(hops:ops=(l++ts).toArray)(hts:0<ts.length)(hm:P.follows .mixedOrders=true)(hB:chainTB a.tmps.size late l ts=true)
  (h:ChainT P (l++ts).toArray late a w.drew (fun a w=>wpList P (l++ts).toArray (OnlyN fun a w=>Q .normal a w) ts a w) l 0 [] []):(Code.region id ops true).wp P Q a w:=by
 subst hops
 obtain⟨Ts,Us,hF,hend⟩:=chainT_facts (l:=l) l 0 [] [] rfl (Nat.zero_le _) h ⟨rfl,rfl,fun j T hT=>by simp at hT,fun j T hT=>by simp at hT,fun j T U hT=>by simp at hT,fun j o T _ hT=>by simp at hT⟩
 refine wp_region_any hm ?_
 have hff:∀j b,j<l.length+ts.length→(Array.replicate (l++ts).toArray.size false).getD j b=false:=by
  intro j b hlt
  simp [hlt]
 refine inv1_any hts hB hF hend _ _ _ _ (by simp) (fun q hq=>hff _ _ (by omega)) ⟨_,?_,rfl⟩ ⟨Below.refl _ _,rfl,rfl,?_,fun s _=>rfl⟩
 ·refine Nat.le_trans List.countP_le_length ?_
  simp
 ·intro j d T hj
  exfalso
  have h0:(Array.replicate (l++ts).toArray.size false).getD j false=false:=by
   simp only [Array.getD_eq_getD_getElem?,Array.getElem?_replicate]
   split<;>rfl
  rw [h0] at hj
  cases hj
section
variable {P:Program} {ops:Array Oper} {late:List Nat} {a0:Act} {w0:World} {E:Act→World→Prop} {o:Oper} {r:List Oper} {i:Nat} {F G:List (Tmp×Fact)} {d:Tmp}
theorem t_val {u:Value}(L:List Tmp)(hi:isA late i=true)(hd:o.dst=some d)(hL:(L.all fun s=>(o.looksAt ops).contains s)=true)(hg:GuardOK ops F a0 o)
  (h:∀ρ w,Below w0.heap.size w0 w→Plain ρ→AllK F a0 w ρ L→(execOp ρ o).run P w=.ok (.value u) w) (hr:ChainT P ops late a0 w0 E r (i+1) ((d,Is u)::F) ((d,Is u)::G)):ChainT P ops late a0 w0 E (o::r) i F G:=by
 refine⟨d,Is u,Is u,hd,stable_is u,free_is u,fun _ _ h=>h,?_,hr⟩
 rw [if_pos (hi)]
 intro a w hb hk
 rw [if_pos (wanted_of hg hk)]
 unfold Oper.wp
 rw [h a.eval w hb (plain_eval a) (allK_of hk hL)]
 exact⟨u,rfl,rfl,Below.refl _ _⟩
theorem t_new {T:Fact}(U:Fact)(L:List Tmp)(hi:isA late i=true)(hd:o.dst=some d)(hL:(L.all fun s=>(o.looksAt ops).contains s)=true)(hg:GuardOK ops F a0 o)(hs:stable T)(hf:free U)(hTU:∀v w,T v w→U v w)
  (h:∀ρ w,Below w0.heap.size w0 w→Plain ρ→AllK F a0 w ρ L→∃v w',(execOp ρ o).run P w=.ok (.value v) w'∧T v w'∧Below w.heap.size w w') (hr:ChainT P ops late a0 w0 E r (i+1) ((d,T)::F) ((d,U)::G)):ChainT P ops late a0 w0 E (o::r) i F G:=by
 refine⟨d,T,U,hd,hs,hf,hTU,?_,hr⟩
 rw [if_pos (hi)]
 intro a w hb hk
 rw [if_pos (wanted_of hg hk)]
 obtain⟨v,w',h1,h2,h3⟩:=h a.eval w hb (plain_eval a) (allK_of hk hL)
 unfold Oper.wp
 rw [h1]
 exact⟨v,rfl,h2,h3⟩
theorem t_call {T:Fact}(U:Fact)(f:FuncId)(L:List Tmp)(hi:isA late i=true)(hd:o.dst=some d)(hL:(L.all fun s=>(o.looksAt ops).contains s)=true)(hg:GuardOK ops F a0 o)(hs:stable T)(hf:free U)(hTU:∀v w,T v w→U v w)
  (h:∀ρ w,Below w0.heap.size w0 w→Plain ρ→AllK F a0 w ρ L→∃args,(execOp ρ o).run P w=.ok (.enter f args) w∧Calls P f args w fun e w'=>∃v,e=.returned v∧T v w'∧Below w.heap.size w w') (hr:ChainT P ops late a0 w0 E r (i+1) ((d,T)::F) ((d,U)::G)):ChainT P ops late a0 w0 E (o::r) i F G:=by
 refine⟨d,T,U,hd,hs,hf,hTU,?_,hr⟩
 rw [if_pos (hi)]
 intro a w hb hk
 rw [if_pos (wanted_of hg hk)]
 obtain⟨args,h1,h2⟩:=h a.eval w hb (plain_eval a) (allK_of hk hL)
 unfold Oper.wp
 rw [h1]
 refine h2.mono fun e w' ⟨v,he,hT,hbel⟩=>?_
 subst he
 exact⟨v,rfl,hT,hbel⟩
theorem t_pure {u:Value}(L:List Tmp)(hi:isA late i=false)(hd:o.dst=some d)(hL:(L.all fun s=>(o.looksAt ops).contains s)=true)(hg:o.guard=none)
  (h:∀ρ w,Plain ρ→AllK G a0 w ρ L→(execOp ρ o).run P w=.ok (.value u) w) (hr:ChainT P ops late a0 w0 E r (i+1) ((d,Is u)::F) ((d,Is u)::G)):ChainT P ops late a0 w0 E (o::r) i F G:=by
 refine⟨d,Is u,Is u,hd,stable_is u,free_is u,fun _ _ h=>h,?_,hr⟩
 rw [if_neg (by rw [hi];exact Bool.false_ne_true)]
 exact⟨hg,u,rfl,fun a w hk=>h a.eval w (plain_eval a) (allK_of hk hL)⟩
theorem t_end_lit (n:Nat)(hn:a0.tmps.size=n)
  (h:∀(f:Tmp→Value) (w:World),Below w0.heap.size w0 w→AllN (fun s=>KnowsV F a0 w s (f s)) n 0→E { tmps:=(frameL f n 0).toArray,defers:=a0.defers } w):ChainT P ops late a0 w0 E [] i F G:=by
 intro a w hb hd hs hk
 have e:a={ tmps:=(frameL (fun s=>a.tmps.getD s undef) n 0).toArray,defers:=a0.defers }:=by
  obtain⟨tm,df⟩:=a
  simp only at hd hs
  subst hd
  congr 1
  apply Array.ext'
  apply List.ext_getElem?
  intro j
  by_cases hj:j<n
  ·rw [show ((frameL (fun s=>tm.getD s undef) n 0).toArray.toList)=frameL (fun s=>tm.getD s undef) n 0 from rfl,frameL_get _ _ _ _ hj]
   have:j<tm.size:=by omega
   simp [this]
  ·rw [show ((frameL (fun s=>tm.getD s undef) n 0).toArray.toList)=frameL (fun s=>tm.getD s undef) n 0 from rfl]
   rw [List.getElem?_eq_none (by simp;omega),List.getElem?_eq_none (by rw [frameL_length];omega)]
 rw [e]
 exact h _ w hb (allN_of n 0 fun j _ hj=>hk j (by rw [hn];omega))
end
theorem wp_region_t12_3 {P:Program}{id:Nat}{o0 o1 o2 o3 o4 o5 o6 o7 o8 o9 o10 o11 t0 t1 t2:Oper}(late:List Nat){Q:Exit→Act→World→Prop}{a:Act}{w:World}(hm:P.follows .mixedOrders=true)(hB:chainTB a.tmps.size late [o0,o1,o2,o3,o4,o5,o6,o7,o8,o9,o10,o11] [t0,t1,t2]=true)
  (h:ChainT P #[o0,o1,o2,o3,o4,o5,o6,o7,o8,o9,o10,o11,t0,t1,t2] late a w.drew (fun a w=>wpList P #[o0,o1,o2,o3,o4,o5,o6,o7,o8,o9,o10,o11,t0,t1,t2] (OnlyN fun a w=>Q .normal a w) [t0,t1,t2] a w) [o0,o1,o2,o3,o4,o5,o6,o7,o8,o9,o10,o11] 0 [] []):(Code.region id #[o0,o1,o2,o3,o4,o5,o6,o7,o8,o9,o10,o11,t0,t1,t2] true).wp P Q a w:=
 wp_region_t [o0,o1,o2,o3,o4,o5,o6,o7,o8,o9,o10,o11] [t0,t1,t2] late rfl (by simp) hm hB h
end
def natsI (l:List Nat):List Int:=l.map (fun i:Nat=>(i:Int))
theorem int_info14:(Tryd.prog.info? 3).map (fun i=>(i.zero,i.size,i.bytes))=some (some (.int .i64 0),1,8):=by kernel_rfl
theorem natsI_snoc (l:List Nat)(i:Nat):natsI (l++[i])=natsI l++[(i:Int)]:=by simp [natsI]
theorem natsI_length (l:List Nat):(natsI l).length=l.length:=by simp [natsI]
def posS (D j:Nat):List Nat:=(List.range j).map (fun i=>D+i)
theorem posS_length (D j:Nat):(posS D j).length=j:=by simp [posS]
theorem posS_succ (D j:Nat):posS D (j+1)=posS D j++[D+j]:=by simp [posS,List.range_succ]
theorem padW_len8 {d:List Int}(h8:d.length % 8=0):padW d (d.length / 8)=wordsOf d:=by
 unfold padW
 rw [show 8*(d.length / 8)-d.length=0 by omega]
 simp
set_option maxHeartbeats 1000000 in
set_option maxRecDepth 100000 in
theorem Shallow14_str (d:List Int)(ks:List Nd)(A:Option Addr)(c:Nat)(B:Option Addr)(c2:Nat)(w:World)(hx:NdR w A c B c2 (.mk 1 0 0 d ks))(hv:validN (.mk 1 0 0 d ks)=true):
  Calls Tryd.prog 50 #[.agg #[.int .i64 1,.int .i64 0,.int .i64 0,.slice A d.length c,.slice B ks.length c2]] w fun r w'=>∃v u,r=.returned (.tuple #[v,.agg #[.int .i64 0,.int .i64 0,.int .i64 ((d.length / 8:Nat):Int),.int .i64 ks.length,.int .i64 0,.int .i64 0,.bool false,.int .i64 0,.int .u32 0,.int .u32 0],u]) ∧
   Got w' w.heap.size 32 .u64 v (fillW (.mk 1 0 0 d ks) 0)∧Got w' w.heap.size 3 .i64 u (natsI (posL (.mk 1 0 0 d ks)))∧Below w.heap.size w w':=by
 obtain⟨i0,hi,hz0,hz1,hz2⟩:=info_parts int64_info
 obtain⟨-,-,h8,hd5,hk5⟩:=head_str hv
 have HD:=Lib.hid hx.open.2.2.2.1
 have HBT:=Lib.hid hx.open.2.2.2.2.1
 have HNL:=Lib.hid hx.open.2.2.2.2.2.2.2.1
 have HB0:=Lib.hid (fun o1 o2 o3=>(((Below.refl w.heap.size w).alloc (Nat.le_refl _) o1).alloc (by simp) o2).alloc (by simp;omega) o3)
 clear hx hv
 obtain⟨j0,gj,gj0,gj1,gj2⟩:=info_parts int_info14
 have HPD:=Lib.hid (fun w2 (hr:Ri w2 .u8 A d)=>RefPadded14 A c d (d.length / 8) w2 hr HBT.out HNL.out (by omega) (by omega))
 have HW:Hid (fillW (.mk 1 0 0 d ks) 0=padW d (d.length / 8)++List.replicate ks.length 0):=Lib.hid (by
  unfold fillW
  rw [List.take_zero,List.nil_append,Nat.sub_zero,targN_mk,if_neg (by decide)]
  show wordsOf d++_=_
  rw [padW_len8 h8])
 have HPW:Hid ((padW d (d.length / 8)).length=d.length / 8):=Lib.hid (padW_length (by omega))
 have HPO:Hid (∀j,posS (d.length / 8) (j+1)=posS (d.length / 8) j++[d.length / 8+j]):=Lib.hid (fun j=>posS_succ _ j)
 have HPL:Hid (posL (.mk 1 0 0 d ks)=posS (d.length / 8) ks.length):=Lib.hid rfl
 generalize posL (.mk 1 0 0 d ks)=pl at *
 generalize fillW (.mk 1 0 0 d ks) 0=fb at *
 have HRS:=Lib.hid (fun (l:List Int) (j:Nat)=>rep_snoc l j)
 obtain⟨D,hD⟩:∃D,d.length / 8=D:=⟨_,rfl⟩
 rw [hD] at HPD HW HPW HPO HPL
 rw [hD]
 generalize padW d D=pw at *
 have hD8:(d.length:Int) / 8=(D:Int):=by omega
 go_enter Tryd.func50,Tryd.ntmps50
 go_wp2_with fail
 refine abs_world (F:=fun W=>Blk W w.heap.size #[.int .i64 1,.int .i64 0,.int .i64 0,.slice A d.length c,.slice B ks.length c2]∧Blk W (w.heap.size+1) #[.int .i64 0,.int .i64 0,.int .i64 0,.int .i64 0,.int .i64 0,.int .i64 0,.bool false,.int .i64 0,.int .u32 0,.int .u32 0]∧Blk W (w.heap.size+1+1) #[.int .i64 0,.int .i64 0,.int .i64 D,.int .i64 ks.length,.int .i64 0,.int .i64 0,.bool false,.int .i64 0,.int .u32 0,.int .u32 0]∧Below w.heap.size w W) ⟨?_,?_,?_,?_⟩ ?_
 ·exact((Blk.fresh _ _ _).alloc _).alloc _
 ·exact(Blk.new (by simp)).alloc _
 ·exact Blk.new (by simp)
 ·exact HB0.out _ _ _
 rintro W ⟨hB1,hB2,hB3,hbw⟩
 refine(HPD.out W (HD.out.below hbw (Nat.le_refl _))).mono ?_
 rintro r w4 ⟨v4,rfl,hg4,hb4⟩
 have hz3:w.heap.size+1+1+1≤W.heap.size:=hB3.lt
 have HG0:Hid (Got w4 (w.heap.size+1+1+1) 32 .u64 v4 pw):=Lib.hid (hg4.mono hz3)
 have H1:=Lib.hid (hB1.below hb4)
 have H2:=Lib.hid (hB2.below hb4)
 have H3:=Lib.hid (hB3.below hb4)
 have HB:=Lib.hid (bel_on hbw hb4)
 have hz4:=hb4.size
 obtain⟨x3,y3,z3⟩:=H3.out
 clear hg4 hB1 hB2 hB3 hbw hb4
 go_wp2
 go_loopw [6,7,8] (fun u v i wr=>∃j:Nat,j≤ks.length∧i=.int .i64 j∧Got wr (w.heap.size+1+1+1) 32 .u64 v (pw++List.replicate j 0)∧Got wr (w.heap.size+1+1+1) 3 .i64 u (natsI (posS D j))∧Apart v u∧Below (w.heap.size+1+1+1) w4 wr) (fun _ _ i _=>ks.length-(intOf i).toNat)
 case atStart=>exact⟨0,by omega,rfl,by simpa using HG0.out,Got.empty _ _ _ _,apart_none _,Below.refl _ _⟩
 case round=>
  clear x3 y3 z3
  obtain⟨j,hj',rfl,hg,hu,hap,hbr⟩:=hrel
  have HG:=Lib.hid hg
  have HU:=Lib.hid hu
  have HAP:=Lib.hid hap
  have HBR:=Lib.hid hbr
  have hsz:=hbr.size
  have B3:=H3.out.belowN hbr (Nat.lt_succ_self _)
  obtain⟨x3,y3,z3⟩:=B3
  obtain⟨A5,c5,rfl,-⟩:=hg.slice
  have hL:(pw++List.replicate j 0).length=D+j:=by rw [List.length_append,List.length_replicate,HPW.out]
  have hLU:(natsI (posS D j)).length=j:=by rw [natsI_length,posS_length]
  have HL:=Lib.hid hL
  have HLU:=Lib.hid hLU
  rw [hL]
  clear hg hu hap hbr hL hLU
  by_cases hlt:j<ks.length
  ·have hj1:(j:Int)<(ks.length:Int):=by omega
   have hszz:w.heap.size+1+1+1≤wr.heap.size:=by omega
   go_wp2_with (first
    | (at_builtin;refine wpList_appT1 rfl (.tmp 41) (.tmp 44) 84 rfl Tryd.underlying84 gj gj0 gj1 gj2 (v:=u6) rfl HU.out HG.out HAP.out.symm rfl (by rw [HLU.out];unfold maxLen;omega) (by rw [HLU.out];omega) hszz ?_;intro u5 w5 hu5 hg5 hap5 hb5)
    | (at_builtin;refine wpList_appT1 rfl (.tmp 46) (.tmp 47) 22 rfl Tryd.underlying22 hi hz0 hz1 hz2 (v:=.slice A5 (pw++List.replicate j 0).length c5) (by rw [HL.out];rfl) hg5 hu5 hap5.symm rfl (by rw [HL.out];unfold maxLen;omega) (by rw [HL.out];omega) (Nat.le_trans hszz hb5.size) ?_;intro v6 w6 hg6 hu6 hap6 hb6))
   go_roundw
   case rel=>
    refine⟨j+1,by omega,by go_num,?_,?_,hap6,(HBR.out.trans hb5).trans hb6⟩
    ·rw [←HRS.out];exact hg6
    ·rw [HPO.out,natsI_snoc]
     simpa using hu6
   case measure=>simp [intOf];omega
  ·obtain rfl:j=ks.length:=by omega
   have HBF:Hid (Below w.heap.size w wr):=Lib.hid (HB.out.trans (HBR.out.mono (by omega)))
   have h2:=H2.out.belowN HBR.out (by omega)
   have H2w:=Lib.hid h2
   obtain⟨x2,y2,z2⟩:=h2
   go_wp2_with fail
   go_region
   go_wp2
   have hq1:w.heap.size+1<w.heap.size+1+1+1:=by omega
   have hq2:w.heap.size≤w.heap.size+1:=by omega
   have HG2:Hid (Got wr (w.heap.size+1+1+1) 32 .u64 (.slice A5 (D+ks.length) c5) (pw++List.replicate ks.length 0)):=Lib.hid (by rw [←HL.out];exact HG.out)
   clear HG
   have HG:=HG2
   refine abs_post (F:=fun W=>Blk W (w.heap.size+1) #[.int .i64 0,.int .i64 0,.int .i64 D,.int .i64 ks.length,.int .i64 0,.int .i64 0,.bool false,.int .i64 0,.int .u32 0,.int .u32 0]∧Got W (w.heap.size+1+1+1) 32 .u64 (.slice A5 (D+ks.length) c5) (pw++List.replicate ks.length 0)∧Got W (w.heap.size+1+1+1) 3 .i64 u6 (natsI (posS D ks.length))∧Below w.heap.size w W) ⟨?_,?_,?_,?_⟩ ?_
   rotate_left 2
   ·exact Got.drewT ((((((((((HU.out.far (p:=⟨w.heap.size+1,0,none⟩) hq1 _).far (p:=⟨w.heap.size+1,1,none⟩) hq1 _).far (p:=⟨w.heap.size+1,2,none⟩) hq1 _).far (p:=⟨w.heap.size+1,3,none⟩) hq1 _).far (p:=⟨w.heap.size+1,4,none⟩) hq1 _).far (p:=⟨w.heap.size+1,5,none⟩) hq1 _).far (p:=⟨w.heap.size+1,6,none⟩) hq1 _).far (p:=⟨w.heap.size+1,7,none⟩) hq1 _).far (p:=⟨w.heap.size+1,8,none⟩) hq1 _).far (p:=⟨w.heap.size+1,9,none⟩) hq1 _)
   ·exact bel_drew ((((((((((HBF.out.setCell (p:=⟨w.heap.size+1,0,none⟩) hq2 _).setCell (p:=⟨w.heap.size+1,1,none⟩) hq2 _).setCell (p:=⟨w.heap.size+1,2,none⟩) hq2 _).setCell (p:=⟨w.heap.size+1,3,none⟩) hq2 _).setCell (p:=⟨w.heap.size+1,4,none⟩) hq2 _).setCell (p:=⟨w.heap.size+1,5,none⟩) hq2 _).setCell (p:=⟨w.heap.size+1,6,none⟩) hq2 _).setCell (p:=⟨w.heap.size+1,7,none⟩) hq2 _).setCell (p:=⟨w.heap.size+1,8,none⟩) hq2 _).setCell (p:=⟨w.heap.size+1,9,none⟩) hq2 _)
   ·rintro W9 ⟨B6,hN,hU,hbw⟩
    exact bodyPost_ret (v:=.tuple #[.slice A5 (D+ks.length) c5,.agg #[.int .i64 0,.int .i64 0,.int .i64 D,.int .i64 ks.length,.int .i64 0,.int .i64 0,.bool false,.int .i64 0,.int .u32 0,.int .u32 0],u6]) (by simp [results,Tryd.results50,go_sem,B6.cell]) rfl ⟨_,_,rfl,by rw [HW.out];exact hN.mono (by omega),by rw [HPL.out];exact hU.mono (by omega),hbw⟩
   ·exact((((((((((H2w.out.set 0 (by simp) _).set 1 (by simp) _).set 2 (by simp) _).set 3 (by simp) _).set 4 (by simp) _).set 5 (by simp) _).set 6 (by simp) _).set 7 (by simp) _).set 8 (by simp) _).set 9 (by simp) _).drew
   ·exact Got.drewT ((((((((((HG.out.far (p:=⟨w.heap.size+1,0,none⟩) hq1 _).far (p:=⟨w.heap.size+1,1,none⟩) hq1 _).far (p:=⟨w.heap.size+1,2,none⟩) hq1 _).far (p:=⟨w.heap.size+1,3,none⟩) hq1 _).far (p:=⟨w.heap.size+1,4,none⟩) hq1 _).far (p:=⟨w.heap.size+1,5,none⟩) hq1 _).far (p:=⟨w.heap.size+1,6,none⟩) hq1 _).far (p:=⟨w.heap.size+1,7,none⟩) hq1 _).far (p:=⟨w.heap.size+1,8,none⟩) hq1 _).far (p:=⟨w.heap.size+1,9,none⟩) hq1 _)
def Unf (w:World)(A:Option Addr):Prop:=∀b off,A=some ⟨b,off,none⟩→∀o,w.frozen? ⟨b,o,none⟩=false
def gone (w:World)(b:Nat):World:={ w with heap:=w.heap.setIfInBounds b (.cells #[] 0) }
theorem gone_heap (w:World)(b k:Nat)(h:k≠b):(gone w b).heap[k]?=w.heap[k]?:=by
 unfold gone
 rw [Array.getElem?_setIfInBounds_ne (by omega)]
theorem gone_cell (w:World)(b o:Nat):(gone w b).cell? ⟨b,o,none⟩=none:=by
 unfold gone World.cell?
 by_cases h:b<w.heap.size
 ·simp [h]
 ·simp [Array.getElem?_eq_none (Nat.le_of_not_lt h),h]
theorem NdO.data {lo hi:Nat}{w:World}{A:Option Addr}{c:Nat}{B:Option Addr}{c2:Nat}{x:Nd}(h:NdO lo hi w A c B c2 x)(h0:0<x.d.length):∃b off,A=some ⟨b,off,none⟩∧lo≤b∧b<hi:=by
 obtain⟨k,e,n,d,ks⟩:=x
 obtain⟨b,off,hA,hc⟩:=h.nd.open.2.2.2.1.at (i:=0) h0
 refine⟨b,off,hA,Classical.byContradiction fun hn=>?_⟩
 have h1:=h (gone w b) (fun k hk1 hk2=>gone_heap w b k (fun e=>hn (e ▸ ⟨hk1,hk2⟩)))
 obtain⟨b',off',hA',hc'⟩:=h1.open.2.2.2.1.at (i:=0) h0
 rw [hA] at hA'
 injection hA' with e
 injection e with e1 e2
 subst e1
 have:=hc' 0 h0
 rw [gone_cell] at this
 cases this
theorem NdO.row {lo hi:Nat}{w:World}{A:Option Addr}{c:Nat}{B:Option Addr}{c2:Nat}{x:Nd}(h:NdO lo hi w A c B c2 x){j:Nat}(hj:j<x.ks.length):∃b off,B=some ⟨b,off,none⟩∧lo≤b∧b<hi:=by
 obtain⟨b,off,A',c',B',c2',hB,h0,-⟩:=h.nd.kidsX.1.at hj
 refine⟨b,off,hB,Classical.byContradiction fun hn=>?_⟩
 have h1:=h (gone w b) (fun k hk1 hk2=>gone_heap w b k (fun e=>hn (e ▸ ⟨hk1,hk2⟩)))
 obtain⟨b',off',_,_,_,_,hB',h0',-⟩:=h1.kidsX.1.at hj
 rw [hB] at hB'
 injection hB' with e
 injection e with e1 e2
 subst e1
 rw [gone_cell] at h0'
 cases h0'
def Byt (w:World)(base top:Nat)(A:Option Addr)(n:Nat):Prop:=n=0∨∃b off,A=some ⟨b,off,none⟩∧base≤b∧b<top∧(∀o,w.frozen? ⟨b,o,none⟩=false)∧∀j,j<n→∃z:Int,0≤z∧z<256∧w.cell? ⟨b,off+j,none⟩=some (.int .u8 z)
def Rws (w:World)(base top b off:Nat)(FA:Nat→Option Addr)(FL FC:Nat→Nat)(i kl:Nat):Prop:=base≤b∧b<top∧(∀o,w.frozen? ⟨b,o,none⟩=false)∧∀j,i≤j→j<kl→(∃k e n:Int,∃B l c,w.cell? ⟨b,off+j*5,none⟩=some (.int .i64 k)∧w.cell? ⟨b,off+j*5+1,none⟩=some (.int .i64 e)∧w.cell? ⟨b,off+j*5+2,none⟩=some (.int .i64 n) ∧
 w.cell? ⟨b,off+j*5+3,none⟩=some (.slice (FA j) (FL j) (FC j))∧w.cell? ⟨b,off+j*5+4,none⟩=some (.slice B l c))∧FL j≤FC j∧FC j≤9223372036854775807∧Byt w base top (FA j) (FL j)
theorem cell_same {w:World}{p:Addr}{u v:Value}(h:w.cell? p=some u):(w.setCell p v).cell? p=some v:=World.cell?_setCell_same' _ _ _ (by rw [h];rfl)
theorem cell_diff {w:World}{p q:Addr}{v:Value}(h:p≠q):(w.setCell p v).cell? q=w.cell? q:=World.cell?_setCell_other w p q v h
theorem Byt.put {w:World}{base top n:Nat}{A:Option Addr}(h:Byt w base top A n){p:Addr}{z z':Int}(hp:w.cell? p=some (.int .u8 z))(h0:0≤z')(h1:z'<256):Byt (w.setCell p (.int .u8 z')) base top A n:=by
 rcases h with h|⟨b,off,hA,hb,ht,hf,hc⟩
 ·exact .inl h
 ·refine .inr ⟨b,off,hA,hb,ht,fun o=>by rw [World.frozen?_setCell];exact hf o,fun j hj=>?_⟩
  by_cases e:p=⟨b,off+j,none⟩
  ·subst e
   exact⟨z',h0,h1,cell_same hp⟩
  ·obtain⟨y,h2,h3,h4⟩:=hc j hj
   exact⟨y,h2,h3,by rw [cell_diff e];exact h4⟩
theorem Byt.far {w:World}{base top n:Nat}{A:Option Addr}(h:Byt w base top A n){p:Addr}{u v:Value}(hp:w.cell? p=some u)(hu:∀z,u≠.int .u8 z):Byt (w.setCell p v) base top A n:=by
 rcases h with h|⟨b,off,hA,hb,ht,hf,hc⟩
 ·exact .inl h
 ·refine .inr ⟨b,off,hA,hb,ht,fun o=>by rw [World.frozen?_setCell];exact hf o,fun j hj=>?_⟩
  obtain⟨y,h2,h3,h4⟩:=hc j hj
  have e:p≠⟨b,off+j,none⟩:=by
   intro e
   subst e
   rw [h4] at hp
   injection hp with hp
   exact hu _ hp.symm
  exact⟨y,h2,h3,by rw [cell_diff e];exact h4⟩
theorem Rws.put {w:World}{base top b off i kl:Nat}{FA:Nat→Option Addr}{FL FC:Nat→Nat}(h:Rws w base top b off FA FL FC i kl){p:Addr}{z z':Int}(hp:w.cell? p=some (.int .u8 z))(h0:0≤z')(h1:z'<256):Rws (w.setCell p (.int .u8 z')) base top b off FA FL FC i kl:=by
 obtain⟨g1,g2,g3,g4⟩:=h
 refine⟨g1,g2,fun o=>by rw [World.frozen?_setCell];exact g3 o,fun j hi hj=>?_⟩
 obtain⟨⟨k,e,n,B,l,c,k0,k1,k2,k3,k4⟩,l1,l2,hb⟩:=g4 j hi hj
 have hd:∀q u,w.cell? q=some u→(∀z,u≠.int .u8 z)→(w.setCell p (.int .u8 z')).cell? q=some u:=by
  intro q u hq hu
  rw [cell_diff (fun e=>by subst e;rw [hp] at hq;injection hq with hq;exact hu _ hq.symm),hq]
 exact⟨⟨k,e,n,B,l,c,hd _ _ k0 (fun z h=>by cases h),hd _ _ k1 (fun z h=>by cases h),hd _ _ k2 (fun z h=>by cases h),hd _ _ k3 (fun z h=>by cases h),hd _ _ k4 (fun z h=>by cases h)⟩,l1,l2,hb.put hp h0 h1⟩
theorem Rws.cell {w:World}{base top b off i kl o:Nat}{FA:Nat→Option Addr}{FL FC:Nat→Nat}(h:Rws w base top b off FA FL FC (i+1) kl)(ho:o<5){u v:Value}(hp:w.cell? ⟨b,off+i*5+o,none⟩=some u)(hu:∀z,u≠.int .u8 z):Rws (w.setCell ⟨b,off+i*5+o,none⟩ v) base top b off FA FL FC (i+1) kl:=by
 obtain⟨g1,g2,g3,g4⟩:=h
 refine⟨g1,g2,fun o=>by rw [World.frozen?_setCell];exact g3 o,fun j hi hj=>?_⟩
 obtain⟨⟨k,e,n,B,l,c,k0,k1,k2,k3,k4⟩,l1,l2,hb⟩:=g4 j hi hj
 have hd:∀q,off+i*5+o<q→(w.setCell ⟨b,off+i*5+o,none⟩ v).cell? ⟨b,q,none⟩=w.cell? ⟨b,q,none⟩:=by
  intro q hq
  exact cell_diff (fun e=>by injection e with e1 e2;omega)
 exact⟨⟨k,e,n,B,l,c,by rw [hd _ (by omega)];exact k0,by rw [hd _ (by omega)];exact k1,by rw [hd _ (by omega)];exact k2,by rw [hd _ (by omega)];exact k3,by rw [hd _ (by omega)];exact k4⟩,l1,l2,hb.far hp hu⟩
theorem Rws.next {w:World}{base top b off i kl:Nat}{FA:Nat→Option Addr}{FL FC:Nat→Nat}(h:Rws w base top b off FA FL FC i kl)(hi:i<kl)(v0 v1 v2:Int)(A3:Option Addr)(l3 c3:Nat)(v4:Value):
  Rws (((((w.setCell ⟨b,off+i*5,none⟩ (.int .i64 v0)).setCell ⟨b,off+i*5+1,none⟩ (.int .i64 v1)).setCell ⟨b,off+i*5+2,none⟩ (.int .i64 v2)).setCell ⟨b,off+i*5+3,none⟩ (.slice A3 l3 c3)).setCell ⟨b,off+i*5+4,none⟩ v4) base top b off FA FL FC (i+1) kl:=by
 obtain⟨⟨k,e,n,B,l,c,k0,k1,k2,k3,k4⟩,-,-,-⟩:=h.2.2.2 i (Nat.le_refl _) hi
 have h1:Rws w base top b off FA FL FC (i+1) kl:=⟨h.1,h.2.1,h.2.2.1,fun j hj=>h.2.2.2 j (by omega)⟩
 have d:∀(w:World) (p q:Nat) v,p≠q→(w.setCell ⟨b,p,none⟩ v).cell? ⟨b,q,none⟩=w.cell? ⟨b,q,none⟩:=fun w p q v hpq=>cell_diff (fun e=>by injection e with e1 e2;exact hpq e2)
 refine(((((h1.cell (o:=0) (by omega) k0 (fun z h=>by cases h)).cell (o:=1) (u:=.int .i64 e) (by omega) ?_ (fun z h=>by cases h)).cell (o:=2) (u:=.int .i64 n) (by omega) ?_ (fun z h=>by cases h)).cell (o:=3) (u:=.slice (FA i) (FL i) (FC i)) (by omega) ?_ (fun z h=>by cases h)).cell (o:=4) (u:=.slice B l c) (by omega) ?_ (fun z h=>by cases h))
 ·rw [d _ _ _ _ (by omega)];exact k1
 ·rw [d _ _ _ _ (by omega),d _ _ _ _ (by omega)];exact k2
 ·rw [d _ _ _ _ (by omega),d _ _ _ _ (by omega),d _ _ _ _ (by omega)];exact k3
 ·rw [d _ _ _ _ (by omega),d _ _ _ _ (by omega),d _ _ _ _ (by omega),d _ _ _ _ (by omega)];exact k4
theorem NdO.byt {lo hi:Nat}{w:World}{A:Option Addr}{c:Nat}{B:Option Addr}{c2:Nat}{x:Nd}(h:NdO lo hi w A c B c2 x)(hU:Unf w A):Byt w lo hi A x.d.length:=by
 by_cases h0:x.d.length=0
 ·exact .inl h0
 obtain⟨b,off,hA,h1,h2⟩:=h.data (by omega)
 obtain⟨k,e,n,d,ks⟩:=x
 have hb:=h.nd.open.2.2.2.2.1
 obtain⟨b',off',hA',hc⟩:=h.nd.open.2.2.2.1.at (i:=0) (by simp only [Nd.d] at h0;omega)
 rw [hA] at hA'
 injection hA' with e
 injection e with e1 e2
 subst e1 e2
 exact .inr ⟨b,off,hA,h1,h2,hU b off hA,fun j hj=>⟨zat d j,(hb.at j).1,(hb.at j).2,hc j hj⟩⟩
theorem Byt.below {w w':World}{base top n N:Nat}{A:Option Addr}(h:Byt w base top A n)(hb:Below N w w')(hN:top≤N):Byt w' base top A n:=by
 rcases h with h|⟨b,off,hA,h1,h2,hf,hc⟩
 ·exact .inl h
 ·refine .inr ⟨b,off,hA,h1,h2,fun o=>?_,fun j hj=>?_⟩
  ·rw [hb.frozen (p:=⟨b,o,none⟩) (by show b<N;omega)];exact hf o
  ·obtain⟨z,z0,z1,hz⟩:=hc j hj
   exact⟨z,z0,z1,by rw [hb.cell (p:=⟨b,off+j,none⟩) (by show b<N;omega)];exact hz⟩
theorem Rws.below {w w':World}{base top b off i kl N:Nat}{FA:Nat→Option Addr}{FL FC:Nat→Nat}(h:Rws w base top b off FA FL FC i kl)(hb:Below N w w')(hN:top≤N):Rws w' base top b off FA FL FC i kl:=by
 obtain⟨g1,g2,g3,g4⟩:=h
 refine⟨g1,g2,fun o=>by rw [hb.frozen (p:=⟨b,o,none⟩) (by show b<N;omega)];exact g3 o,fun j hi hj=>?_⟩
 obtain⟨⟨k,e,n,B,l,c,k0,k1,k2,k3,k4⟩,l1,l2,hbt⟩:=g4 j hi hj
 have hc:=fun o=>hb.cell (p:=⟨b,o,none⟩) (by show b<N;omega)
 exact⟨⟨k,e,n,B,l,c,(hc _).trans k0,(hc _).trans k1,(hc _).trans k2,(hc _).trans k3,(hc _).trans k4⟩,l1,l2,hbt.below hb hN⟩
end Go.Proofs.YtclpapddejgpnaaDoor
