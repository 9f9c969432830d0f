/- The texts RegionU (what is wanted of them), one after the other. -/
import Derived.Test.YtclpapddejgpnaaDoorMg18
namespace Go.Proofs.YtclpapddejgpnaaDoor
open Go.RowKit
set_option linter.unusedVariables false
set_option linter.unusedSimpArgs false
set_option maxRecDepth 100000
section
def FactU:Type:=List Nat→Fact
structure Ext (av:List Nat) (w:World) (av':List Nat):Prop where
 old:∀b∈av,b∈av'
 new:∀b∈av',b∈av∨w.heap.size≤b
theorem Ext.refl (av:List Nat)(w:World):Ext av w av:=⟨fun _ h=>h,fun _ h=>.inl h⟩
theorem Ext.cons (av:List Nat)(w:World):Ext av w (w.heap.size::av):=⟨fun _ h=>List.mem_cons_of_mem _ h,fun b h=>by
 rcases List.mem_cons.1 h with rfl|h
 ·exact .inr (Nat.le_refl _)
 ·exact .inl h⟩
def stableU (T:FactU):Prop:=∀av av' v w w',T av v w→Below w.heap.size w w'→Ext av w av'→(∀b∈av,b<w.heap.size)→T av' v w'
theorem stableU_of {T:Fact}(h:stable T):stableU fun _=>T:=fun _ _ v w w' hT hb _ _=>h v w w' hT hb
def AfterU (T:FactU)(av:List Nat)(a:Act)(dst:Option Tmp)(w:World)(a':Act)(w':World):Prop:=∃v av',a'=a.put dst v∧T av' v w'∧Below w.heap.size w w'∧Ext av w av'∧∀b∈av',b<w'.heap.size
def StepU (P:Program)(ops:Array Oper)(F:List Nat→List (Tmp×Fact))(a0:Act)(w0:World)(o:Oper)(T:FactU):Prop:=
 ∀av a w,(∀b∈av,b<w.heap.size)→Below w0.heap.size w0 w→(∀s∈o.looksAt ops,Knows (F av) a0 a w s) →
  if Region.wanted o (yielded ops a.tmps) then o.wp P a w (AfterU T av a o.dst w) NoWay else T av undef w
def PureU (P:Program)(ops:Array Oper)(G:List (Tmp×Fact))(a0:Act)(o:Oper)(T:FactU):Prop:=
 o.guard=none∧∃u,T=(fun _=>Is u)∧∀a w,(∀s∈o.looksAt ops,Knows G a0 a w s)→(execOp a.eval o).run P w=.ok (.value u) w
def ChainU (P:Program)(ops:Array Oper)(late:List Nat)(a0:Act)(w0:World)(E:Act→World→Prop):List Oper→Nat→(List Nat→List (Tmp×Fact))→List (Tmp×Fact)→Prop
 | [],_,F,_=>∀av a w,(∀b∈av,b<w.heap.size)→Below w0.heap.size w0 w→a.defers=a0.defers→a.tmps.size=a0.tmps.size→(∀s,s<a0.tmps.size→Knows (F av) a0 a w s)→E a w
 | o::r,i,F,G=>∃d T U,o.dst=some d∧stableU T∧free U∧(∀av v w,T av v w→U v w)∧(if isA late i=true then StepU P ops F a0 w0 o T else PureU P ops G a0 o T)∧ChainU P ops late a0 w0 E r (i+1) (fun av=>(d,T av)::F av) ((d,U)::G)
def atL (av:List Nat)(Ts:List FactU):List Fact:=Ts.map fun T=>T av
theorem atL_length (av:List Nat)(Ts:List FactU):(atL av Ts).length=Ts.length:=by simp [atL]
theorem atL_app (av:List Nat)(Ts:List FactU)(T:FactU):atL av (Ts++[T])=atL av Ts++[T av]:=by simp [atL]
theorem atL_get (av:List Nat){Ts:List FactU}{j:Nat}{T:FactU}(h:Ts[j]?=some T):(atL av Ts)[j]?=some (T av):=by simp [atL,h]
theorem atL_some {av:List Nat}{Ts:List FactU}{j:Nat}{V:Fact}(h:(atL av Ts)[j]?=some V):∃T,Ts[j]?=some T∧T av=V:=by
 unfold atL at h
 rw [List.getElem?_map] at h
 cases e:Ts[j]? with
 | none=>rw [e] at h;cases h
 | some T=>rw [e] at h;injection h with h;exact⟨T,rfl,h⟩
theorem get_appU {Ts:List FactU}{T U:FactU}{i j:Nat}(hT:Ts.length=i)(h:(Ts++[T])[j]?=some U):(j<i∧Ts[j]?=some U)∨(j=i∧U=T):=by
 by_cases hj:j<Ts.length
 ·rw [List.getElem?_append_left hj] at h
  exact .inl ⟨by omega,h⟩
 ·rw [List.getElem?_append_right (by omega)] at h
  have h0:j-Ts.length=0:=by
   rcases Nat.eq_zero_or_pos (j-Ts.length) with h1|h1
   ·exact h1
   ·rw [List.getElem?_eq_none (by simp;omega)] at h;cases h
  rw [h0] at h
  simp at h
  exact .inr ⟨by omega,h.symm⟩
structure FactsU (P:Program) (ops:Array Oper) (l:List Oper) (late:List Nat) (a0:Act) (w0:World) (Ts:List FactU) (Us:List Fact) (i:Nat):Prop where
 len:Ts.length=i
 len2:Us.length=i
 st:∀(j:Nat) (T:FactU),Ts[j]?=some T→stableU T
 fr:∀(j:Nat) (U:Fact),Us[j]?=some U→free U
 weak:∀(j:Nat) (T:FactU) (U:Fact),Ts[j]?=some T→Us[j]?=some U→∀av v w,T av v w→U v w
 step:∀(j:Nat) (o:Oper) (T:FactU),l[j]?=some o→Ts[j]?=some T→if isA late j=true then StepU P ops (fun av=>factsTo l (atL av Ts) j) a0 w0 o T else PureU P ops (factsTo l Us j) a0 o T
theorem chainU_facts {P:Program}{ops:Array Oper}{a0:Act}{w0:World}{E:Act→World→Prop}{l:List Oper}{late:List Nat}:
  ∀(r:List Oper) (i:Nat) (Ts:List FactU) (Us:List Fact),l.drop i=r→i≤l.length→ChainU P ops late a0 w0 E r i (fun av=>factsTo l (atL av Ts) i) (factsTo l Us i)→FactsU P ops l late a0 w0 Ts Us i →
   ∃(Ts:List FactU) (Us:List Fact),FactsU P ops l late a0 w0 Ts Us l.length∧ChainU P ops late a0 w0 E [] l.length (fun av=>factsTo l (atL av Ts) l.length) (factsTo l Us l.length):=by
 intro r
 induction r with
 | nil=>
  intro i Ts Us hd hi hc hF
  have:i=l.length:=by
   have:=congrArg List.length hd
   simp at this
   omega
  subst this
  exact⟨Ts,Us,hF,hc⟩
 | cons o r ih=>
  intro i Ts Us hd hi hc hF
  obtain⟨d,T,U,hdst,hs1,hs2,hw,hstep,hrest⟩:=hc
  have hlt:i<l.length:=by
   have:=congrArg List.length hd
   simp at this
   omega
  have hli:l[i]?=some o:=by
   have:=congrArg (fun x=>x[0]?) hd
   simpa using this
  have hdi:dstAt l i=some d:=by simp [dstAt,hli,hdst]
  have fT:∀av,∀j,j≤i→factsTo l (atL av (Ts++[T])) j=factsTo l (atL av Ts) j:=fun av=>by rw [atL_app];exact factsTo_app (l:=l) (T:=T av) (by rw [atL_length];exact hF.len)
  have fU:=factsTo_app (l:=l) (T:=U) hF.len2
  have gT:(Ts++[T])[i]?=some T:=by rw [List.getElem?_append_right (by have:=hF.len;omega)];simp [hF.len]
  have gU:(Us++[U])[i]?=some U:=by rw [List.getElem?_append_right (by have:=hF.len2;omega)];simp [hF.len2]
  refine ih (i+1) (Ts++[T]) (Us++[U]) (by rw [←List.drop_drop,hd];rfl) (by omega) ?_ ⟨by simp [hF.len],by simp [hF.len2],?_,?_,?_,?_⟩
  ·have e1:(fun av=>factsTo l (atL av (Ts++[T])) (i+1))=fun av=>(d,T av)::factsTo l (atL av Ts) i:=by
    funext av
    rw [factsTo,hdi,atL_get av gT,fT av i (Nat.le_refl _)]
   have e2:factsTo l (Us++[U]) (i+1)=(d,U)::factsTo l Us i:=by rw [factsTo,hdi,gU,fU i (Nat.le_refl _)]
   rw [e1,e2]
   exact hrest
  ·intro j V hV
   rcases get_appU hF.len hV with ⟨_,h⟩|⟨_,rfl⟩
   ·exact hF.st j V h
   ·exact hs1
  ·intro j V hV
   rcases get_app hF.len2 hV with ⟨_,h⟩|⟨_,rfl⟩
   ·exact hF.fr j V h
   ·exact hs2
  ·intro j V V' hV hV'
   rcases get_appU hF.len hV with ⟨h0,h⟩|⟨rfl,rfl⟩
   ·rcases get_app hF.len2 hV' with ⟨_,h'⟩|⟨h1,_⟩
    ·exact hF.weak j V V' h h'
    ·omega
   ·rcases get_app hF.len2 hV' with ⟨h1,_⟩|⟨_,rfl⟩
    ·omega
    ·exact hw
  ·intro j o' V ho' hV
   rcases get_appU hF.len hV with ⟨h0,h⟩|⟨rfl,rfl⟩
   ·have e1:(fun av=>factsTo l (atL av (Ts++[T])) j)=fun av=>factsTo l (atL av Ts) j:=by
     funext av;exact fT av j (by omega)
    rw [e1,fU j (by omega)]
    exact hF.step j o' V ho' h
   ·rw [hli] at ho'
    injection ho' with ho'
    subst ho'
    have e1:(fun av=>factsTo l (atL av (Ts++[V])) j)=fun av=>factsTo l (atL av Ts) j:=by
     funext av;exact fT av j (Nat.le_refl _)
    rw [e1,fU j (Nat.le_refl _)]
    exact hstep
theorem inv1_anyU {P:Program}{l ts:List Oper}{late:List Nat}{Ts:List FactU}{Us:List Fact}{a0:Act}{w0:World}{Q:Exit→Act→World→Prop}(hts:0<ts.length)(hB:chainTB a0.tmps.size late l ts=true)
  (hF:FactsU P (l++ts).toArray l late a0 w0 Ts Us l.length)
  (hend:ChainU P (l++ts).toArray late a0 w0 (fun a w=>wpList P (l++ts).toArray (OnlyN fun a w=>Q .normal a w) ts a w) [] l.length (fun av=>factsTo l (atL av Ts) l.length) (factsTo l Us l.length)) :
  ∀(fuel:Nat) (listed:Array Bool) (a:Act) (w:World) (av:List Nat),(∀b∈av,b<w.heap.size)→listed.size=l.length+ts.length→(∀q,q<ts.length→listed.getD (l.length+q) true=false)→(∃n,n≤fuel∧n=(List.range (l.length+ts.length)).countP (fun j=>!listed.getD j true))→Inv l (atL av Ts) a0 w0 listed a w→wpAny P .any (l++ts).toArray Q fuel listed a w:=by
 have hgl:∀j,j<l.length→(l++ts).toArray[j]?=l[j]?:=fun j hj=>by rw [List.getElem?_toArray,List.getElem?_append_left hj]
 have hgt:∀q,(l++ts).toArray[l.length+q]?=ts[q]?:=fun q=>by
  rw [List.getElem?_toArray,List.getElem?_append_right (by omega)];congr 1;omega
 have hl1:=hF.len
 have hl2:=hF.len2
 have hpure:∀j o,l[j]?=some o→isA late j=false→o.guard=none∧∃u,Ts[j]?=some (fun _=>Is u)∧∀a w,(∀s∈o.looksAt (l++ts).toArray,Knows (factsTo l Us j) a0 a w s)→(execOp a.eval o).run P w=.ok (.value u) w:=by
  intro j o ho hj
  have hjl:j<l.length:=(List.getElem?_eq_some_iff.1 ho).1
  have hT:Ts[j]?=some (Ts[j]'(by omega)):=List.getElem?_eq_getElem (by omega)
  have h:=hF.step j o _ ho hT
  rw [if_neg (by rw [hj];simp)] at h
  obtain⟨hg,u,hu,hr⟩:=h
  exact⟨hg,u,hT.trans (congrArg some hu),hr⟩
 intro fuel
 induction fuel with
 | zero=>
  intro listed a w av hav hsz hop hn hI
  exfalso
  obtain⟨n,hn0,hn⟩:=hn
  have:0<(List.range (l.length+ts.length)).countP (fun j=>!listed.getD j true):=List.countP_pos_iff.2 ⟨l.length+0,List.mem_range.2 (by omega),by simp only [hop 0 hts];rfl⟩
  omega
 | succ fuel ih=>
  intro listed a w av hav hsz hop hn hI
  have hlA:(atL av Ts).length=l.length:=by rw [atL_length];exact hl1
  have hff:∀{j:Nat},j<listed.size→(listed.getD j true=false↔listed.getD j false=false):=by
   intro j hj
   simp [hj]
  refine⟨fun hr=>?_,fun i hi=>?_⟩
  ·exfalso
   have hall:∀j,j<l.length→listed.getD j false=true:=by
    intro j
    induction j using Nat.strongRecOn with
    | _ j ihj=>
     intro hj
     cases hb:listed.getD j false with
     | true=>rfl
     | false=>
      exfalso
      have hj':l[j]?=some l[j]:=List.getElem?_eq_getElem hj
      have hc:=chainTB_at hB hj'
      have hm:j∈Region.ready .any (l++ts).toArray listed:=by
       rw [mem_ready]
       exact⟨(hff (by rw [hsz];omega)).2 hb,l[j],by rw [hgl j hj,hj'],fun e he hbi=>ihj e.on (hc.2.2.1 e he hbi) (Nat.lt_trans (hc.2.2.1 e he hbi) hj)⟩
      rw [hr] at hm
      cases hm
   have hok:ts[0]?=some ts[0]:=List.getElem?_eq_getElem hts
   have hm:l.length+0∈Region.ready .any (l++ts).toArray listed:=by
    rw [mem_ready]
    exact⟨hop 0 hts,ts[0],by rw [hgt 0,hok],fun e he hb=>hall _ (by have:=(chainTB_tail hB hok).2.1 e he hb;omega)⟩
   rw [hr] at hm
   cases hm
  ·obtain⟨hu,o,ho,hedges⟩:=mem_ready.1 hi
   have hisz:i<l.length+ts.length:=by
    rcases Nat.lt_or_ge i (l.length+ts.length) with h1|h1
    ·exact h1
    ·rw [List.getElem?_toArray,List.getElem?_eq_none (by simpa using h1)] at ho;cases ho
   by_cases hil:i<l.length
   ·have hol:l[i]?=some o:=by rw [←hgl i hil];exact ho
    obtain⟨⟨d,hd,hdm⟩,hdis,hbe,hlook⟩:=chainTB_at hB hol
    have hdi:dstAt l i=some d:=by simp [dstAt,hol,hd]
    have hTi:Ts[i]?=some (Ts[i]'(by omega)):=List.getElem?_eq_getElem (by omega)
    have hK:∀(F:List Fact),F.length=l.length→(∀(j:Nat) (d:Tmp) (V:Fact),listed.getD j false=true→dstAt l j=some d→F[j]?=some V→V (a.tmps.getD d undef) w)→∀s∈o.looksAt (l++ts).toArray,Knows (factsTo l F i) a0 a w s:=by
     intro F hlF hdone s hs
     unfold Knows
     cases hl:look (factsTo l F i) s with
     | some V=>
      obtain⟨j,hj,hdj,hVj⟩:=mem_factsTo (look_some hl)
      obtain⟨⟨e,he,hb,rfl⟩,-⟩:=(hlook s hs).2 j (by omega) hdj
      exact hdone _ s V (hedges e he hb) hdj hVj
     | none=>
      refine hI.rest s fun j hj hdj=>?_
      have hjl:=dst_lt hdj
      obtain⟨⟨e,he,hb,rfl⟩,-⟩:=(hlook s hs).2 j hjl hdj
      have hlt:=hbe e he hb
      have hV:F[e.on]?=some (F[e.on]'(by omega)):=List.getElem?_eq_getElem (by omega)
      obtain⟨V,hV'⟩:=look_mem ⟨_,factsTo_mem (i:=i) hlt hdj hV,rfl⟩
      rw [hV'] at hl
      cases hl
    have hS:if Region.wanted o (yielded (l++ts).toArray a.tmps) then o.wp P a w (AfterU (Ts[i]'(by omega)) av a o.dst w) NoWay else (Ts[i]'(by omega)) av undef w:=by
     by_cases he:isA late i=true
     ·have h:=hF.step i o _ hol hTi
      rw [if_pos he] at h
      exact h av a w hav hI.below (hK (atL av Ts) hlA fun j d V h1 h2 h3=>hI.done j d V h1 h2 h3)
     ·obtain⟨hg,u,hTu,hrun⟩:=hpure i o hol (Bool.eq_false_iff.2 he)
      rw [hTi] at hTu
      injection hTu with hTu
      have hwn:Region.wanted o (yielded (l++ts).toArray a.tmps)=true:=by unfold Region.wanted;rw [hg]
      rw [if_pos hwn]
      have hr:=hrun a w (hK Us hl2 fun j d V h1 h2 h3=>by
       have hjl:=dst_lt h2
       have hT:Ts[j]?=some (Ts[j]'(by omega)):=List.getElem?_eq_getElem (by omega)
       exact hF.weak j _ V hT h3 _ _ _ (hI.done j d _ h1 h2 (atL_get av hT)))
      unfold Oper.wp
      rw [hr]
      exact⟨u,av,rfl,by rw [hTu];rfl,Below.refl _ _,Ext.refl _ _,hav⟩
    refine wpOp_noWay ho (K:=AfterU (Ts[i]'(by omega)) av a o.dst w) ?_ ?_
    ·rintro a' w' ⟨v,av',rfl,hT,hbel,hext,hav'⟩
     have hds:d<a.tmps.size:=by rw [hI.size];exact hdm
     refine ih _ _ _ av' hav' (by simpa using hsz) (fun q hq=>by rw [getD_set_ne true (by omega)];exact hop q hq) ?_ ⟨hI.below.trans (hbel.mono hI.below.size),?_,?_,?_,?_⟩
     ·obtain⟨n,hn0,hn⟩:=hn
      refine⟨_,?_,rfl⟩
      have hlt:(List.range (l.length+ts.length)).countP (fun j=>!(listed.setIfInBounds i true).getD j true)<(List.range (l.length+ts.length)).countP (fun j=>!listed.getD j true):=by
       refine countP_lt (i:=i) (fun x _ hx=>?_) (List.mem_range.2 hisz) (by simp [hu]) ?_
       ·by_cases e:i=x
        ·subst e;simp [hu]
        ·rw [getD_set_ne true e] at hx;exact hx
       ·have:i<listed.size:=by omega
        simp [this]
      omega
     ·rw [hd];exact hI.defers
     ·rw [hd];simp [Act.put,hI.size]
     ·intro j d' T0 hj hdj hTj0
      obtain⟨T,hTj,rfl⟩:=atL_some hTj0
      rw [hd]
      rcases getD_set_cases hj with rfl|hj2
      ·rw [hdi] at hdj
       injection hdj with hdj
       subst hdj
       rw [hTi] at hTj
       injection hTj with hTj
       subst hTj
       rw [getD_put_same hds]
       exact hT
      ·have hne:d≠d':=by
        rintro rfl
        have hji:j≠i:=by
         rintro rfl
         rw [getD_ff hu] at hj2
         cases hj2
        exact hdis j (dst_lt hdj) hji (by rw [hdj,hd])
       rw [getD_put_ne hne]
       exact hF.st j T hTj _ _ _ _ _ (hI.done j d' _ hj2 hdj (atL_get av hTj)) hbel hext hav
     ·intro s hs
      have hne:d≠s:=by
       rintro rfl
       refine hs i ?_ hdi
       have:i<listed.size:=by omega
       simp [this]
      rw [hd,getD_put_ne hne]
      refine hI.rest s fun j hj hdj=>hs j (getD_set_true hj) hdj
    ·by_cases hw:Region.wanted o (yielded (l++ts).toArray a.tmps)=true
     ·rw [if_pos hw] at hS ⊢
      exact hS
     ·rw [if_neg hw] at hS ⊢
      exact⟨undef,av,rfl,hS,Below.refl _ _,Ext.refl _ _,hav⟩
   ·
    obtain⟨q,rfl⟩:∃q,i=l.length+q:=⟨i-l.length,by omega⟩
    have hql:q<ts.length:=by omega
    rw [hgt q] at ho
    obtain⟨hg,hbe,hbl,hprev,hst⟩:=chainTB_tail hB ho
    obtain rfl:q=0:=by
     refine Classical.byContradiction fun hne=>?_
     obtain⟨e,he,hb,hon⟩:=hprev (by omega)
     have h1:=hedges e he hb
     have h2:=hop (q-1) (by omega)
     rw [hon,show l.length+q-1=l.length+(q-1) by omega,getD_ff h2] at h1
     cases h1
    have hA:∀j,j<l.length→isA late j=true→listed.getD j false=true:=fun j hj hje=>by
     obtain⟨e,he,hb,hon⟩:=hbl j hj (.inl hje)
     rw [←hon];exact hedges e he hb
    have hdu:∀j j' d,j<l.length→j'<l.length→dstAt l j=some d→dstAt l j'=some d→j'=j:=fun j j' d hj hj' h h'=>by
     refine Classical.byContradiction fun hne=>?_
     have hj2:l[j]?=some l[j]:=List.getElem?_eq_getElem hj
     have hd2:l[j].dst=some d:=by simpa [dstAt,hj2] using h
     exact(chainTB_at hB hj2).2.1 j' hj' hne (by rw [h',hd2])
    obtain⟨u,hu2⟩:∃u:Nat→Value,∀j,j<l.length→isA late j=false→Ts[j]?=some (fun _=>Is (u j)):=by
     have hex:∀j,∃u,j<l.length→isA late j=false→Ts[j]?=some (fun _=>Is u):=fun j=>by
      by_cases h:j<l.length∧isA late j=false
      ·obtain⟨-,u,hu,-⟩:=hpure j _ (List.getElem?_eq_getElem h.1) h.2
       exact⟨u,fun _ _=>hu⟩
      ·exact⟨undef,fun h1 h2=>absurd ⟨h1,h2⟩ h⟩
     exact⟨fun j=>Classical.choose (hex j),fun j h1 h2=>Classical.choose_spec (hex j) h1 h2⟩
    have hbs:(fillB l listed u a).tmps.size=a.tmps.size:=by simp [fillB]
    have hbd:∀j d,j<l.length→isA late j=false→dstAt l j=some d→(fillB l listed u a).tmps.getD d undef=u j:=fun j d hj he hd=>by
     have hj2:l[j]?=some l[j]:=List.getElem?_eq_getElem hj
     obtain⟨⟨d',hd',hdm⟩,-⟩:=chainTB_at hB hj2
     have hdd:d'=d:=by
      have:dstAt l j=some d':=by simp [dstAt,hj2,hd']
      rw [hd] at this
      injection this with this
      exact this.symm
     subst hdd
     cases hn:listed.getD j false with
     | false=>exact fillB_yes hj hn hd (by rw [hI.size];exact hdm) (fun j' hj' h'=>hdu j j' _ hj hj' hd h')
     | true=>
      rw [fillB_no (fun j' hj' hn' h'=>by
       obtain rfl:=hdu j j' _ hj hj' hd h'
       rw [hn] at hn';cases hn')]
      exact hI.done j _ _ hn hd (atL_get av (hu2 j hj he))
    have hba:∀s,(∀j,j<l.length→dstAt l j=some s→isA late j=true)→(fillB l listed u a).tmps.getD s undef=a.tmps.getD s undef:=fun s hs=>fillB_no fun j hj hn hd=>by
     rw [hA j hj (hs j hj hd)] at hn;cases hn
    have hph:Ph2 l ts late (fillB l listed u a) a listed 0:=⟨hsz,Nat.zero_le _,fun j hj hor=>by
     rcases hor with h|h
     ·exact hA j hj h
     ·omega,fun q hq=>by omega,fun q _ hq=>hop q hq,fun s hs=>(fillB_no hs).symm,rfl,hbs.symm⟩
    have hwl:=hend av (fillB l listed u a) w hav hI.below hI.defers (by rw [hbs];exact hI.size) fun s hs=>by
     unfold Knows
     cases hl:look (factsTo l (atL av Ts) l.length) s with
     | some T0=>
      obtain⟨j,hj,hd,hT0⟩:=mem_factsTo (look_some hl)
      obtain⟨T,hT,rfl⟩:=atL_some hT0
      by_cases he:isA late j=false
      ·rw [hbd j s hj he hd]
       rw [hu2 j hj he] at hT
       injection hT with hT
       subst hT
       rfl
      ·have he':isA late j=true:=by simpa using he
       rw [hba s (fun j' hj' hd'=>by obtain rfl:=hdu j j' _ hj hj' hd hd';exact he')]
       exact hI.done j s _ (hA j hj he') hd (atL_get av hT)
     | none=>
      have hnd:∀j,j<l.length→dstAt l j≠some s:=fun j hj hd=>by
       have hT:Ts[j]?=some (Ts[j]'(by omega)):=List.getElem?_eq_getElem (by omega)
       obtain⟨T,hT'⟩:=look_mem ⟨_,factsTo_mem (i:=l.length) hj hd (atL_get av hT),rfl⟩
       rw [hT'] at hl
       cases hl
      rw [fillB_no (fun j hj _=>hnd j hj)]
      exact hI.rest s fun j _ hd=>hnd j (dst_lt hd) hd
    refine(ph2_any (by rw [hbs,hI.size];exact hB) ?_ (fuel+1) listed a w 0 hph hn (by simpa using hwl)).2 _ hi
    intro j o ho hj
    have hjl:j<l.length:=(List.getElem?_eq_some_iff.1 ho).1
    obtain⟨hg,u',hTu,hrun⟩:=hpure j o ho hj
    obtain⟨⟨d,hd,hdm⟩,hdis,hbe,hlook⟩:=chainTB_at hB ho
    have hdj:dstAt l j=some d:=by simp [dstAt,ho,hd]
    refine⟨hg,d,hd,fun a' w' hag=>?_⟩
    have huu:u'=u j:=by
     have h2:=hu2 j hjl hj
     rw [hTu] at h2
     injection h2 with h2
     have h3:Is u' u' w:=rfl
     have h4:=congrFun h2 av
     rw [h4] at h3
     exact h3
    rw [hbd j d hjl hj hdj,←huu]
    refine hrun a' w' fun s hs=>?_
    have hsA:∀j',j'<l.length→dstAt l j'=some s→isA late j'=true:=fun j' hj' hd'=>by
     obtain⟨-,h2⟩:=(hlook s hs).2 j' hj' hd'
     exact h2.resolve_left (by rw [hj];simp)
    have hsv:a'.tmps.getD s undef=a.tmps.getD s undef:=by rw [hag s hs,hba s hsA]
    unfold Knows
    rw [hsv]
    cases hl:look (factsTo l Us j) s with
    | some V=>
     obtain⟨j',hj',hd',hV⟩:=mem_factsTo (look_some hl)
     have hT:Ts[j']?=some (Ts[j']'(by omega)):=List.getElem?_eq_getElem (by omega)
     exact hF.fr j' V hV _ w w' (hF.weak j' _ V hT hV _ _ _ (hI.done j' s _ (hA j' (by omega) (hsA j' (by omega) hd')) hd' (atL_get av hT)))
    | none=>
     refine hI.rest s fun j' hj' hd'=>?_
     have hjl':=dst_lt hd'
     obtain⟨⟨e,he,hb,rfl⟩,-⟩:=(hlook s hs).2 j' hjl' hd'
     have hlt:=hbe e he hb
     have hV:Us[e.on]?=some (Us[e.on]'(by omega)):=List.getElem?_eq_getElem (by omega)
     obtain⟨V,hV'⟩:=look_mem ⟨_,factsTo_mem (i:=j) hlt hd' hV,rfl⟩
     rw [hV'] at hl
     cases hl
theorem wp_region_u {P:Program}{id:Nat}{ops:Array Oper}(l ts:List Oper)(late:List Nat){Q:Exit→Act→World→Prop}{a:Act}{w:World}(hops:ops=(l++ts).toArray)(hts:0<ts.length)(hm:P.follows .mixedOrders=true)(hB:chainTB a.tmps.size late l ts=true)
  (h:ChainU P (l++ts).toArray late a w.drew (fun a w=>wpList P (l++ts).toArray (OnlyN fun a w=>Q .normal a w) ts a w) l 0 (fun _=>[]) []):(Code.region id ops true).wp P Q a w:=by
 subst hops
 obtain⟨Ts,Us,hF,hend⟩:=chainU_facts (l:=l) l 0 [] [] rfl (Nat.zero_le _) h ⟨rfl,rfl,fun j T hT=>by simp at hT,fun j T hT=>by simp at hT,fun j T U hT=>by simp at hT,fun j o T _ hT=>by simp at hT⟩
 refine wp_region_any hm ?_
 have hff:∀j b,j<l.length+ts.length→(Array.replicate (l++ts).toArray.size false).getD j b=false:=by
  intro j b hlt
  simp [hlt]
 refine inv1_anyU hts hB hF hend _ _ _ _ [] (by simp) (by simp) (fun q hq=>hff _ _ (by omega)) ⟨_,?_,rfl⟩ ⟨Below.refl _ _,rfl,rfl,?_,fun s _=>rfl⟩
 ·refine Nat.le_trans List.countP_le_length ?_
  simp
 ·intro j d T hj
  exfalso
  have h0:(Array.replicate (l++ts).toArray.size false).getD j false=false:=by
   simp only [Array.getD_eq_getD_getElem?,Array.getElem?_replicate]
   split<;>rfl
  rw [h0] at hj
  cases hj
section
variable {P:Program} {ops:Array Oper} {late:List Nat} {a0:Act} {w0:World} {E:Act→World→Prop} {o:Oper} {r:List Oper} {i:Nat} {F:List Nat→List (Tmp×Fact)} {G:List (Tmp×Fact)} {d:Tmp}
theorem u_val {u:Value}(L:List Tmp)(hi:isA late i=true)(hd:o.dst=some d)(hL:(L.all fun s=>(o.looksAt ops).contains s)=true)(hg:∀av,GuardOK ops (F av) a0 o)
  (h:∀av ρ w,Below w0.heap.size w0 w→Plain ρ→AllK (F av) a0 w ρ L→(execOp ρ o).run P w=.ok (.value u) w) (hr:ChainU P ops late a0 w0 E r (i+1) (fun av=>(d,Is u)::F av) ((d,Is u)::G)):ChainU P ops late a0 w0 E (o::r) i F G:=by
 refine⟨d,fun _=>Is u,Is u,hd,stableU_of (stable_is u),free_is u,fun _ _ _ h=>h,?_,hr⟩
 rw [if_pos hi]
 intro av a w hav hb hk
 rw [if_pos (wanted_of (hg av) hk)]
 unfold Oper.wp
 rw [h av a.eval w hb (plain_eval a) (allK_of hk hL)]
 exact⟨u,av,rfl,rfl,Below.refl _ _,Ext.refl _ _,hav⟩
theorem u_new {T:FactU}(U:Fact)(L:List Tmp)(hi:isA late i=true)(hd:o.dst=some d)(hL:(L.all fun s=>(o.looksAt ops).contains s)=true)(hg:∀av,GuardOK ops (F av) a0 o)(hs:stableU T)(hf:free U)(hTU:∀av v w,T av v w→U v w)
  (h:∀av ρ w,(∀b∈av,b<w.heap.size)→Below w0.heap.size w0 w→Plain ρ→AllK (F av) a0 w ρ L→∃v w',(execOp ρ o).run P w=.ok (.value v) w'∧T av v w'∧Below w.heap.size w w') (hr:ChainU P ops late a0 w0 E r (i+1) (fun av=>(d,T av)::F av) ((d,U)::G)):ChainU P ops late a0 w0 E (o::r) i F G:=by
 refine⟨d,T,U,hd,hs,hf,hTU,?_,hr⟩
 rw [if_pos hi]
 intro av a w hav hb hk
 rw [if_pos (wanted_of (hg av) hk)]
 obtain⟨v,w',h1,h2,h3⟩:=h av a.eval w hav hb (plain_eval a) (allK_of hk hL)
 unfold Oper.wp
 rw [h1]
 exact⟨v,av,rfl,h2,h3,Ext.refl _ _,fun b hb=>Nat.lt_of_lt_of_le (hav b hb) h3.size⟩
theorem u_alloc {T:FactU}(U:Fact)(L:List Tmp)(hi:isA late i=true)(hd:o.dst=some d)(hL:(L.all fun s=>(o.looksAt ops).contains s)=true)(hg:∀av,GuardOK ops (F av) a0 o)(hs:stableU T)(hf:free U)(hTU:∀av v w,T av v w→U v w)
  (h:∀av ρ w,(∀b∈av,b<w.heap.size)→Below w0.heap.size w0 w→Plain ρ→AllK (F av) a0 w ρ L→∃v w',(execOp ρ o).run P w=.ok (.value v) w'∧T (w.heap.size::av) v w'∧Below w.heap.size w w'∧w.heap.size<w'.heap.size) (hr:ChainU P ops late a0 w0 E r (i+1) (fun av=>(d,T av)::F av) ((d,U)::G)):ChainU P ops late a0 w0 E (o::r) i F G:=by
 refine⟨d,T,U,hd,hs,hf,hTU,?_,hr⟩
 rw [if_pos hi]
 intro av a w hav hb hk
 rw [if_pos (wanted_of (hg av) hk)]
 obtain⟨v,w',h1,h2,h3,h4⟩:=h av a.eval w hav hb (plain_eval a) (allK_of hk hL)
 unfold Oper.wp
 rw [h1]
 refine⟨v,_,rfl,h2,h3,Ext.cons _ _,fun b hb=>?_⟩
 rcases List.mem_cons.1 hb with rfl|hb
 ·exact h4
 ·exact Nat.lt_of_lt_of_le (hav b hb) h3.size
theorem u_call {T:FactU}(U:Fact)(f:FuncId)(L:List Tmp)(hi:isA late i=true)(hd:o.dst=some d)(hL:(L.all fun s=>(o.looksAt ops).contains s)=true)(hg:∀av,GuardOK ops (F av) a0 o)(hs:stableU T)(hf:free U)(hTU:∀av v w,T av v w→U v w)
  (h:∀av ρ w,(∀b∈av,b<w.heap.size)→Below w0.heap.size w0 w→Plain ρ→AllK (F av) a0 w ρ L→∃args,(execOp ρ o).run P w=.ok (.enter f args) w∧Calls P f args w fun e w'=>∃v,e=.returned v∧T av v w'∧Below w.heap.size w w') (hr:ChainU P ops late a0 w0 E r (i+1) (fun av=>(d,T av)::F av) ((d,U)::G)):ChainU P ops late a0 w0 E (o::r) i F G:=by
 refine⟨d,T,U,hd,hs,hf,hTU,?_,hr⟩
 rw [if_pos hi]
 intro av a w hav hb hk
 rw [if_pos (wanted_of (hg av) hk)]
 obtain⟨args,h1,h2⟩:=h av a.eval w hav hb (plain_eval a) (allK_of hk hL)
 unfold Oper.wp
 rw [h1]
 refine h2.mono fun e w' ⟨v,he,hT,hbel⟩=>?_
 subst he
 exact⟨v,av,rfl,hT,hbel,Ext.refl _ _,fun b hb=>Nat.lt_of_lt_of_le (hav b hb) hbel.size⟩
theorem u_pure {u:Value}(L:List Tmp)(hi:isA late i=false)(hd:o.dst=some d)(hL:(L.all fun s=>(o.looksAt ops).contains s)=true)(hg:o.guard=none)
  (h:∀ρ w,Plain ρ→AllK G a0 w ρ L→(execOp ρ o).run P w=.ok (.value u) w) (hr:ChainU P ops late a0 w0 E r (i+1) (fun av=>(d,Is u)::F av) ((d,Is u)::G)):ChainU P ops late a0 w0 E (o::r) i F G:=by
 refine⟨d,fun _=>Is u,Is u,hd,stableU_of (stable_is u),free_is u,fun _ _ _ h=>h,?_,hr⟩
 rw [if_neg (by rw [hi];exact Bool.false_ne_true)]
 exact⟨hg,u,rfl,fun a w hk=>h a.eval w (plain_eval a) (allK_of hk hL)⟩
theorem u_end_lit (n:Nat)(hn:a0.tmps.size=n)
  (h:∀(av:List Nat) (f:Tmp→Value) (w:World),(∀b∈av,b<w.heap.size)→Below w0.heap.size w0 w→AllN (fun s=>KnowsV (F av) a0 w s (f s)) n 0→E { tmps:=(frameL f n 0).toArray,defers:=a0.defers } w):ChainU P ops late a0 w0 E [] i F G:=by
 intro av a w hav hb hd hs hk
 have e:a={ tmps:=(frameL (fun s=>a.tmps.getD s undef) n 0).toArray,defers:=a0.defers }:=by
  obtain⟨tm,df⟩:=a
  simp only at hd hs
  subst hd
  congr 1
  apply Array.ext'
  apply List.ext_getElem?
  intro j
  by_cases hj:j<n
  ·rw [show ((frameL (fun s=>tm.getD s undef) n 0).toArray.toList)=frameL (fun s=>tm.getD s undef) n 0 from rfl,frameL_get _ _ _ _ hj]
   have:j<tm.size:=by omega
   simp [this]
  ·rw [show ((frameL (fun s=>tm.getD s undef) n 0).toArray.toList)=frameL (fun s=>tm.getD s undef) n 0 from rfl]
   rw [List.getElem?_eq_none (by simp;omega),List.getElem?_eq_none (by rw [frameL_length];omega)]
 rw [e]
 exact h av _ w hav hb (allN_of n 0 fun j _ hj=>hk j (by rw [hn];omega))
end
theorem wp_region_u11_3 {P:Program}{id:Nat}{o0 o1 o2 o3 o4 o5 o6 o7 o8 o9 o10 t0 t1 t2:Oper}(late:List Nat){Q:Exit→Act→World→Prop}{a:Act}{w:World}(hm:P.follows .mixedOrders=true)(hB:chainTB a.tmps.size late [o0,o1,o2,o3,o4,o5,o6,o7,o8,o9,o10] [t0,t1,t2]=true)
  (h:ChainU P #[o0,o1,o2,o3,o4,o5,o6,o7,o8,o9,o10,t0,t1,t2] late a w.drew (fun a w=>wpList P #[o0,o1,o2,o3,o4,o5,o6,o7,o8,o9,o10,t0,t1,t2] (OnlyN fun a w=>Q .normal a w) [t0,t1,t2] a w) [o0,o1,o2,o3,o4,o5,o6,o7,o8,o9,o10] 0 (fun _=>[]) []):(Code.region id #[o0,o1,o2,o3,o4,o5,o6,o7,o8,o9,o10,t0,t1,t2] true).wp P Q a w:=
 wp_region_u [o0,o1,o2,o3,o4,o5,o6,o7,o8,o9,o10] [t0,t1,t2] late rfl (by simp) hm hB h
end
end Go.Proofs.YtclpapddejgpnaaDoor
