/- The texts Write2 (what is wanted of them), one after the other. -/
import Derived.Test.YtfaflahfjgnphaaGreatDoorMg21
namespace Go.Proofs.YtfaflahfjgnphaaGreatDoor
open Go.ChangeShapes Go.WideShapes Go.ChangeAt Go.RowKit
set_option linter.unusedVariables false
set_option linter.unusedSimpArgs false
set_option maxRecDepth 100000
def exO (x:Nd):Int:=if x.k=2∧x.e=7∧uniD x.ks x.ks.length+uniP x.ks x.ks.length=0 then x.n else 0
mutual
def exN:Nd→Int
 | .mk k e n d ks=>(if k=2∧e=7∧uniD ks ks.length+uniP ks ks.length=0 then n else 0)+if k=2∧e=7 then exG ks else exK ks
def exK:List Nd→Int
 | []=>0
 | x::xs=>exN x+exK xs
def exG:List Nd→Int
 | []=>0
 | .mk _ _ _ _ ks::xs=>exK ks+exG xs
end
theorem exK_append (a b:List Nd):exK (a++b)=exK a+exK b:=by
 induction a with
 | nil=>simp [exK]
 | cons x xs ih=>simp only [List.cons_append,exK,ih];omega
theorem exG_kk (l:List Nd):exG l=exK (kk l):=by
 induction l with
 | nil=>simp [exG,kk,exK]
 | cons x xs ih=>
  obtain⟨k,e,n,d,ks⟩:=x
  have h:kk (.mk k e n d ks::xs)=ks++kk xs:=by simp [kk,Nd.ks]
  rw [h,exK_append]
  simp only [exG,ih]
theorem exN_eq (x:Nd):exN x=exO x+exK (targN x):=by
 obtain⟨k,e,n,d,ks⟩:=x
 simp only [exN,targN,exO,Nd.k,Nd.e,Nd.n,Nd.d,Nd.ks]
 by_cases h:k=2∧e=7
 ·rw [if_pos h,if_pos h,exG_kk]
  rfl
 ·rw [if_neg h,if_neg h]
  rfl
def costN (x:Nd):Int:=canN x+exN x
def costK (l:List Nd):Int:=canK l+exK l
theorem costK_append (a b:List Nd):costK (a++b)=costK a+costK b:=by unfold costK;rw [canK_append,exK_append];omega
theorem costK_take (l:List Nd)(j:Nat)(h:j<l.length):costK (l.take (j+1))=costK (l.take j)+costN l[j]:=by
 rw [List.take_succ_eq_append_getElem h,costK_append]
 simp [costK,costN,canK,exK]
theorem costN_eq (x:Nd):costN x=canO x+exO x+costK (targN x):=by
 unfold costN costK
 rw [canN_eq,exN_eq]
 omega
theorem exO_nonneg {x:Nd}(h:validN x=true):0≤exO x:=by
 unfold exO
 split
 ·obtain⟨k,e,n,d,ks⟩:=x
  rename_i h1
  obtain⟨h2,-,-⟩:=h1
  simp only [Nd.k] at h2
  subst h2
  exact(head_lst h).1
 ·omega
theorem cost_nonneg:∀x:Nd,validN x=true→0≤costN x:=size_ind (by
 intro x ih h
 rw [costN_eq]
 have h1:=(canO_size h).1
 have h2:=exO_nonneg h
 have:∀l:List Nd,(∀y∈l,0≤costN y)→0≤costK l:=by
  intro l hl
  induction l with
  | nil=>simp [costK,canK,exK]
  | cons y ys ih2=>
   have h3:=hl y (List.mem_cons_self ..)
   have h4:=ih2 (fun z hz=>hl z (List.mem_cons_of_mem _ hz))
   have:=costK_append [y] ys
   have h5:costK [y]=costN y:=by simp [costK,costN,canK,exK]
   rw [List.singleton_append] at this
   omega
 have:=this _ (fun y hy=>ih y (targ_lt hy) (valid_targ h y hy))
 omega)
theorem costK_take_le {l:List Nd}(h:∀y∈l,validN y=true)(j:Nat):0≤costK (l.take j)∧costK (l.take j)≤costK l:=by
 have hn:∀l:List Nd,(∀y∈l,validN y=true)→0≤costK l:=by
  intro l hl
  induction l with
  | nil=>simp [costK,canK,exK]
  | cons y ys ih2=>
   have h3:=cost_nonneg y (hl y (List.mem_cons_self ..))
   have h4:=ih2 (fun z hz=>hl z (List.mem_cons_of_mem _ hz))
   have:=costK_append [y] ys
   have h5:costK [y]=costN y:=by simp [costK,costN,canK,exK]
   rw [List.singleton_append] at this
   omega
 have h1:=costK_append (l.take j) (l.drop j)
 rw [List.take_append_drop] at h1
 have h2:=hn (l.take j) (fun y hy=>h y (List.mem_of_mem_take hy))
 have h3:=hn (l.drop j) (fun y hy=>h y (List.mem_of_mem_drop hy))
 omega
theorem costK_nulls (ts:List Nd)(q:Nat):costK (ts++List.replicate q nd0)=costK ts:=by
 rw [costK_append]
 have:∀q,costK (List.replicate q nd0)=0:=by
  intro q
  induction q with
  | zero=>rfl
  | succ q ih=>
   rw [List.replicate_succ]
   have:=costK_append [nd0] (List.replicate q nd0)
   rw [List.singleton_append] at this
   rw [this,ih]
   decide
 rw [this]
 omega
def Has (W:List Int)(p:Nat)(l:List Int):Prop:=p+l.length≤W.length∧∀i,i<l.length→zat W (p+i)=zat l i
theorem Has.left {W:List Int}{p:Nat}{a b:List Int}(h:Has W p (a++b)):Has W p a:=by
 obtain⟨h1,h2⟩:=h
 rw [List.length_append] at h1 h2
 exact⟨by omega,fun i hi=>by rw [h2 i (by omega),zat_append_left _ _ _ hi]⟩
theorem Has.right {W:List Int}{p:Nat}{a b:List Int}(h:Has W p (a++b)):Has W (p+a.length) b:=by
 obtain⟨h1,h2⟩:=h
 rw [List.length_append] at h1 h2
 refine⟨by omega,fun i hi=>?_⟩
 have:=h2 (a.length+i) (by omega)
 rw [zat_append_right _ _ _ (by omega)] at this
 rw [Nat.add_assoc,this]
 congr 1
 omega
theorem Has.head {W:List Int}{p:Nat}{x:Int}{l:List Int}(h:Has W p (x::l)):p<W.length∧zat W p=x∧Has W (p+1) l:=by
 refine⟨by have:=h.1;simp at this;omega,by have:=h.2 0 (by simp);simpa [zat] using this,?_⟩
 have:=Has.right (a:=[x]) (b:=l) h
 simpa using this
theorem Has.slice {W:List Int}{p:Nat}{l:List Int}(h:Has W p l):(W.drop p).take l.length=l:=by
 obtain⟨h1,h2⟩:=h
 apply ext_zat
 ·rw [List.length_take,List.length_drop];omega
 ·intro i hi
  rw [List.length_take,List.length_drop] at hi
  rw [zat_take _ _ _ (by omega),zat_drop,h2 i (by omega)]
theorem Has.self (W:List Int):Has W 0 W:=⟨by omega,fun i _=>by rw [Nat.zero_add]⟩
theorem Has.ptrs {W:List Int}:∀{ts:List Nd} {P:Nat} {pos nx:Int},Has W P (ptrsW pos nx ts)→∀j (hj:j<ts.length),P+j<W.length∧zat W (P+j)=ptrW ts[j] (nx+canK (ts.take j)-(pos+j)-1)
 | [],_,_,_,_,j,hj=>by simp at hj
 | t::ts,P,pos,nx,h,j,hj=>by
  obtain⟨h1,h2,h3⟩:=Has.head h
  cases j with
  | zero=>
   refine⟨h1,?_⟩
   rw [Nat.add_zero,h2]
   simp [canK]
  | succ j=>
   obtain⟨g1,g2⟩:=Has.ptrs h3 j (by simpa using hj)
   refine⟨by omega,?_⟩
   rw [show P+(j+1)=P+1+j by omega,g2]
   simp only [List.getElem_cons_succ,List.take_succ_cons,canK]
   congr 1
   omega
theorem Has.objs {W:List Int}{ts:List Nd}{Q:Nat}(h:Has W Q (objK ts))(j:Nat)(hj:j<ts.length):Has W (Q+(objK (ts.take j)).length) (objW ts[j]):=by
 have e:objK ts=objK (ts.take j)++(objW ts[j]++objK (ts.drop (j+1))):=by
  have h1:ts=ts.take j++ts[j]::ts.drop (j+1):=by rw [List.getElem_cons_drop];exact(List.take_append_drop j ts).symm
  calc objK ts=objK (ts.take j++ts[j]::ts.drop (j+1)):=by rw [←h1]
   _=_:=by rw [objK_append];rfl
 rw [e] at h
 exact h.right.left
def Reads (val:Int→Int→Int→Val)(W:List Int)(t:Nd):Prop:=∀(p a:Nat) (m:Int),a<W.length→zat W a=ptrW t ((p:Int)-a-1)→Has W p (objW t)→costN t≤m→∃v,val m 0 a=⟨v,m-costN t,0⟩∧trimN v=t
theorem kids_read {val:Int→Int→Int→Val}{W:List Int}{ts:List Nd}(hv:∀t∈ts,Reads val W t)(hval:∀t∈ts,validN t=true){p pos nx:Nat}(hp:Has W (p+pos) (ptrsW pos nx ts))(hq:Has W (p+nx) (objK ts))(m:Int)(hm:costK ts≤m):
  ∃ks',runK (fun m (i:Nat)=>val m 0 (((p+pos:Nat):Int)+(i:Int))) m ts.length=⟨ks',m-costK ts,0⟩∧ks'.map trimN=ts:=by
 obtain⟨f,hfe⟩:∃f:Int→Nat→Val,f=fun m (i:Nat)=>val m 0 (((p+pos:Nat):Int)+(i:Int)):=⟨_,rfl⟩
 rw [←hfe]
 have:∀j,j≤ts.length→∃ks',runK f m j=⟨ks',m-costK (ts.take j),0⟩∧ks'.map trimN=ts.take j:=by
  intro j
  induction j with
  | zero=>intro _;exact⟨[],by simp [runK,costK,canK,exK],by simp⟩
  | succ j ih=>
   intro hj
   obtain⟨ks',h1,h2⟩:=ih (by omega)
   have hj2:j<ts.length:=by omega
   obtain⟨g1,g2⟩:=hp.ptrs j hj2
   have g3:=hq.objs j hj2
   have hl:((objK (ts.take j)).length:Int)=canK (ts.take j):=objK_length (fun y hy=>objW_length y (hval y (List.mem_of_mem_take hy)))
   have hc:=costK_take ts j hj2
   have hle:=(costK_take_le hval (j+1)).2
   have hle2:=(costK_take_le (l:=ts) hval j).2
   obtain⟨v,h3,h4⟩:=hv ts[j] (List.getElem_mem hj2) (p+nx+(objK (ts.take j)).length) (p+pos+j) (m-costK (ts.take j)) g1 (by rw [g2];congr 1;omega) g3 (by omega)
   have e:(((p+pos:Nat):Int)+(j:Int))=((p+pos+j:Nat):Int):=by omega
   have hf:f (m-costK (ts.take j)) j=⟨v,m-costK (ts.take j)-costN ts[j],0⟩:=by
    rw [hfe]
    show val (m-costK (ts.take j)) 0 (((p+pos:Nat):Int)+(j:Int))=_
    rw [e]
    exact h3
   refine⟨ks'++[v],?_,?_⟩
   ·rw [runK_ok (by rw [h1]) (by rw [h1,hf]),h1,hf]
    simp only [hc,Vls.mk.injEq,true_and,and_true]
    omega
   ·rw [List.map_append,h2,List.take_succ_eq_append_getElem hj2,List.map_singleton,h4]
 obtain⟨ks',h1,h2⟩:=this ts.length (Nat.le_refl _)
 rw [List.take_length] at h1 h2
 exact⟨ks',h1,h2⟩
theorem ptrsT_map (ks:List Nd):ptrsT (ks.map trimN)=ptrsT ks:=by
 rw [←trimK_map]
 refine Nat.le_antisymm ?_ ?_
 ·refine(ptrsT_iff _ _).2 fun t ht hz=>?_
  rw [trimK_length] at ht
  rw [kAt_trim] at hz
  exact ptrsT_at ht hz
 ·refine(ptrsT_iff _ _).2 fun t ht hz=>?_
  exact ptrsT_at (by rw [trimK_length];exact ht) (by rw [kAt_trim];exact hz)
theorem trim_back {d:List Int}{ks ks':List Nd}(h8:d.length % 8=0)(ht:trimmedN (.mk 1 0 0 d ks)=true)(q b:Nat)(hk:ks'.map trimN=ks++List.replicate b nd0):trimN (.mk 1 0 0 (d++List.replicate q 0) ks')=.mk 1 0 0 d ks:=by
 simp only [trimmedN,Bool.and_eq_true,decide_eq_true_eq] at ht
 obtain⟨g1,g2⟩:=ht.1 trivial
 simp only [trimN,if_pos,wordsT_zeros]
 have hp:ptrsT ks'=ks.length:=by rw [←ptrsT_map,hk,ptrsT_nulls _ _ (fun y hy=>by rw [List.eq_of_mem_replicate hy];rfl),g2]
 rw [hp,trimK_map,hk,List.take_left,g1,List.take_left]
end Go.Proofs.YtfaflahfjgnphaaGreatDoor
