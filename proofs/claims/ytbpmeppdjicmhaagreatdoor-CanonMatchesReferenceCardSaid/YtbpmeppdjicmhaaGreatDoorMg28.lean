/- The texts Write2, Write3, Write4 (what is wanted of them), one after the other. -/
import Derived.Test.YtbpmeppdjicmhaaGreatDoorMg23
namespace Go.Proofs.YtbpmeppdjicmhaaGreatDoor
open Go.ChangeShapes Go.WideShapes Go.ChangeAt Go.RowKit
set_option linter.unusedVariables false
set_option linter.unusedSimpArgs false
set_option maxRecDepth 100000
def exO (x:Nd):Int:=if x.k=2∧x.e=7∧uniD x.ks x.ks.length+uniP x.ks x.ks.length=0 then x.n else 0
mutual
def exN:Nd→Int
 | .mk k e n d ks=>(if k=2∧e=7∧uniD ks ks.length+uniP ks ks.length=0 then n else 0)+if k=2∧e=7 then exG ks else exK ks
def exK:List Nd→Int
 | []=>0
 | x::xs=>exN x+exK xs
def exG:List Nd→Int
 | []=>0
 | .mk _ _ _ _ ks::xs=>exK ks+exG xs
end
theorem exK_append (a b:List Nd):exK (a++b)=exK a+exK b:=by
 induction a with
 | nil=>simp [exK]
 | cons x xs ih=>simp only [List.cons_append,exK,ih];omega
theorem exG_kk (l:List Nd):exG l=exK (kk l):=by
 induction l with
 | nil=>simp [exG,kk,exK]
 | cons x xs ih=>
  obtain⟨k,e,n,d,ks⟩:=x
  have h:kk (.mk k e n d ks::xs)=ks++kk xs:=by simp [kk,Nd.ks]
  rw [h,exK_append]
  simp only [exG,ih]
theorem exN_eq (x:Nd):exN x=exO x+exK (targN x):=by
 obtain⟨k,e,n,d,ks⟩:=x
 simp only [exN,targN,exO,Nd.k,Nd.e,Nd.n,Nd.d,Nd.ks]
 by_cases h:k=2∧e=7
 ·rw [if_pos h,if_pos h,exG_kk]
  rfl
 ·rw [if_neg h,if_neg h]
  rfl
def costN (x:Nd):Int:=canN x+exN x
def costK (l:List Nd):Int:=canK l+exK l
theorem costK_append (a b:List Nd):costK (a++b)=costK a+costK b:=by unfold costK;rw [canK_append,exK_append];omega
theorem costK_take (l:List Nd)(j:Nat)(h:j<l.length):costK (l.take (j+1))=costK (l.take j)+costN l[j]:=by
 rw [List.take_succ_eq_append_getElem h,costK_append]
 simp [costK,costN,canK,exK]
theorem costN_eq (x:Nd):costN x=canO x+exO x+costK (targN x):=by
 unfold costN costK
 rw [canN_eq,exN_eq]
 omega
theorem exO_nonneg {x:Nd}(h:validN x=true):0≤exO x:=by
 unfold exO
 split
 ·obtain⟨k,e,n,d,ks⟩:=x
  rename_i h1
  obtain⟨h2,-,-⟩:=h1
  simp only [Nd.k] at h2
  subst h2
  exact(head_lst h).1
 ·omega
theorem cost_nonneg:∀x:Nd,validN x=true→0≤costN x:=size_ind (by
 intro x ih h
 rw [costN_eq]
 have h1:=(canO_size h).1
 have h2:=exO_nonneg h
 have:∀l:List Nd,(∀y∈l,0≤costN y)→0≤costK l:=by
  intro l hl
  induction l with
  | nil=>simp [costK,canK,exK]
  | cons y ys ih2=>
   have h3:=hl y (List.mem_cons_self ..)
   have h4:=ih2 (fun z hz=>hl z (List.mem_cons_of_mem _ hz))
   have:=costK_append [y] ys
   have h5:costK [y]=costN y:=by simp [costK,costN,canK,exK]
   rw [List.singleton_append] at this
   omega
 have:=this _ (fun y hy=>ih y (targ_lt hy) (valid_targ h y hy))
 omega)
theorem costK_take_le {l:List Nd}(h:∀y∈l,validN y=true)(j:Nat):0≤costK (l.take j)∧costK (l.take j)≤costK l:=by
 have hn:∀l:List Nd,(∀y∈l,validN y=true)→0≤costK l:=by
  intro l hl
  induction l with
  | nil=>simp [costK,canK,exK]
  | cons y ys ih2=>
   have h3:=cost_nonneg y (hl y (List.mem_cons_self ..))
   have h4:=ih2 (fun z hz=>hl z (List.mem_cons_of_mem _ hz))
   have:=costK_append [y] ys
   have h5:costK [y]=costN y:=by simp [costK,costN,canK,exK]
   rw [List.singleton_append] at this
   omega
 have h1:=costK_append (l.take j) (l.drop j)
 rw [List.take_append_drop] at h1
 have h2:=hn (l.take j) (fun y hy=>h y (List.mem_of_mem_take hy))
 have h3:=hn (l.drop j) (fun y hy=>h y (List.mem_of_mem_drop hy))
 omega
theorem costK_nulls (ts:List Nd)(q:Nat):costK (ts++List.replicate q nd0)=costK ts:=by
 rw [costK_append]
 have:∀q,costK (List.replicate q nd0)=0:=by
  intro q
  induction q with
  | zero=>rfl
  | succ q ih=>
   rw [List.replicate_succ]
   have:=costK_append [nd0] (List.replicate q nd0)
   rw [List.singleton_append] at this
   rw [this,ih]
   decide
 rw [this]
 omega
def Has (W:List Int)(p:Nat)(l:List Int):Prop:=p+l.length≤W.length∧∀i,i<l.length→zat W (p+i)=zat l i
theorem Has.left {W:List Int}{p:Nat}{a b:List Int}(h:Has W p (a++b)):Has W p a:=by
 obtain⟨h1,h2⟩:=h
 rw [List.length_append] at h1 h2
 exact⟨by omega,fun i hi=>by rw [h2 i (by omega),zat_append_left _ _ _ hi]⟩
theorem Has.right {W:List Int}{p:Nat}{a b:List Int}(h:Has W p (a++b)):Has W (p+a.length) b:=by
 obtain⟨h1,h2⟩:=h
 rw [List.length_append] at h1 h2
 refine⟨by omega,fun i hi=>?_⟩
 have:=h2 (a.length+i) (by omega)
 rw [zat_append_right _ _ _ (by omega)] at this
 rw [Nat.add_assoc,this]
 congr 1
 omega
theorem Has.head {W:List Int}{p:Nat}{x:Int}{l:List Int}(h:Has W p (x::l)):p<W.length∧zat W p=x∧Has W (p+1) l:=by
 refine⟨by have:=h.1;simp at this;omega,by have:=h.2 0 (by simp);simpa [zat] using this,?_⟩
 have:=Has.right (a:=[x]) (b:=l) h
 simpa using this
theorem Has.slice {W:List Int}{p:Nat}{l:List Int}(h:Has W p l):(W.drop p).take l.length=l:=by
 obtain⟨h1,h2⟩:=h
 apply ext_zat
 ·rw [List.length_take,List.length_drop];omega
 ·intro i hi
  rw [List.length_take,List.length_drop] at hi
  rw [zat_take _ _ _ (by omega),zat_drop,h2 i (by omega)]
theorem Has.self (W:List Int):Has W 0 W:=⟨by omega,fun i _=>by rw [Nat.zero_add]⟩
theorem Has.ptrs {W:List Int}:∀{ts:List Nd} {P:Nat} {pos nx:Int},Has W P (ptrsW pos nx ts)→∀j (hj:j<ts.length),P+j<W.length∧zat W (P+j)=ptrW ts[j] (nx+canK (ts.take j)-(pos+j)-1)
 | [],_,_,_,_,j,hj=>by simp at hj
 | t::ts,P,pos,nx,h,j,hj=>by
  obtain⟨h1,h2,h3⟩:=Has.head h
  cases j with
  | zero=>
   refine⟨h1,?_⟩
   rw [Nat.add_zero,h2]
   simp [canK]
  | succ j=>
   obtain⟨g1,g2⟩:=Has.ptrs h3 j (by simpa using hj)
   refine⟨by omega,?_⟩
   rw [show P+(j+1)=P+1+j by omega,g2]
   simp only [List.getElem_cons_succ,List.take_succ_cons,canK]
   congr 1
   omega
theorem Has.objs {W:List Int}{ts:List Nd}{Q:Nat}(h:Has W Q (objK ts))(j:Nat)(hj:j<ts.length):Has W (Q+(objK (ts.take j)).length) (objW ts[j]):=by
 have e:objK ts=objK (ts.take j)++(objW ts[j]++objK (ts.drop (j+1))):=by
  have h1:ts=ts.take j++ts[j]::ts.drop (j+1):=by rw [List.getElem_cons_drop];exact(List.take_append_drop j ts).symm
  calc objK ts=objK (ts.take j++ts[j]::ts.drop (j+1)):=by rw [←h1]
   _=_:=by rw [objK_append];rfl
 rw [e] at h
 exact h.right.left
def Reads (val:Int→Int→Int→Val)(W:List Int)(t:Nd):Prop:=∀(p a:Nat) (m:Int),a<W.length→zat W a=ptrW t ((p:Int)-a-1)→Has W p (objW t)→costN t≤m→∃v,val m 0 a=⟨v,m-costN t,0⟩∧trimN v=t
theorem kids_read {val:Int→Int→Int→Val}{W:List Int}{ts:List Nd}(hv:∀t∈ts,Reads val W t)(hval:∀t∈ts,validN t=true){p pos nx:Nat}(hp:Has W (p+pos) (ptrsW pos nx ts))(hq:Has W (p+nx) (objK ts))(m:Int)(hm:costK ts≤m):
  ∃ks',runK (fun m (i:Nat)=>val m 0 (((p+pos:Nat):Int)+(i:Int))) m ts.length=⟨ks',m-costK ts,0⟩∧ks'.map trimN=ts:=by
 obtain⟨f,hfe⟩:∃f:Int→Nat→Val,f=fun m (i:Nat)=>val m 0 (((p+pos:Nat):Int)+(i:Int)):=⟨_,rfl⟩
 rw [←hfe]
 have:∀j,j≤ts.length→∃ks',runK f m j=⟨ks',m-costK (ts.take j),0⟩∧ks'.map trimN=ts.take j:=by
  intro j
  induction j with
  | zero=>intro _;exact⟨[],by simp [runK,costK,canK,exK],by simp⟩
  | succ j ih=>
   intro hj
   obtain⟨ks',h1,h2⟩:=ih (by omega)
   have hj2:j<ts.length:=by omega
   obtain⟨g1,g2⟩:=hp.ptrs j hj2
   have g3:=hq.objs j hj2
   have hl:((objK (ts.take j)).length:Int)=canK (ts.take j):=objK_length (fun y hy=>objW_length y (hval y (List.mem_of_mem_take hy)))
   have hc:=costK_take ts j hj2
   have hle:=(costK_take_le hval (j+1)).2
   have hle2:=(costK_take_le (l:=ts) hval j).2
   obtain⟨v,h3,h4⟩:=hv ts[j] (List.getElem_mem hj2) (p+nx+(objK (ts.take j)).length) (p+pos+j) (m-costK (ts.take j)) g1 (by rw [g2];congr 1;omega) g3 (by omega)
   have e:(((p+pos:Nat):Int)+(j:Int))=((p+pos+j:Nat):Int):=by omega
   have hf:f (m-costK (ts.take j)) j=⟨v,m-costK (ts.take j)-costN ts[j],0⟩:=by
    rw [hfe]
    show val (m-costK (ts.take j)) 0 (((p+pos:Nat):Int)+(j:Int))=_
    rw [e]
    exact h3
   refine⟨ks'++[v],?_,?_⟩
   ·rw [runK_ok (by rw [h1]) (by rw [h1,hf]),h1,hf]
    simp only [hc,Vls.mk.injEq,true_and,and_true]
    omega
   ·rw [List.map_append,h2,List.take_succ_eq_append_getElem hj2,List.map_singleton,h4]
 obtain⟨ks',h1,h2⟩:=this ts.length (Nat.le_refl _)
 rw [List.take_length] at h1 h2
 exact⟨ks',h1,h2⟩
theorem ptrsT_map (ks:List Nd):ptrsT (ks.map trimN)=ptrsT ks:=by
 rw [←trimK_map]
 refine Nat.le_antisymm ?_ ?_
 ·refine(ptrsT_iff _ _).2 fun t ht hz=>?_
  rw [trimK_length] at ht
  rw [kAt_trim] at hz
  exact ptrsT_at ht hz
 ·refine(ptrsT_iff _ _).2 fun t ht hz=>?_
  exact ptrsT_at (by rw [trimK_length];exact ht) (by rw [kAt_trim];exact hz)
theorem trim_back {d:List Int}{ks ks':List Nd}(h8:d.length % 8=0)(ht:trimmedN (.mk 1 0 0 d ks)=true)(q b:Nat)(hk:ks'.map trimN=ks++List.replicate b nd0):trimN (.mk 1 0 0 (d++List.replicate q 0) ks')=.mk 1 0 0 d ks:=by
 simp only [trimmedN,Bool.and_eq_true,decide_eq_true_eq] at ht
 obtain⟨g1,g2⟩:=ht.1 trivial
 simp only [trimN,if_pos,wordsT_zeros]
 have hp:ptrsT ks'=ks.length:=by rw [←ptrsT_map,hk,ptrsT_nulls _ _ (fun y hy=>by rw [List.eq_of_mem_replicate hy];rfl),g2]
 rw [hp,trimK_map,hk,List.take_left,g1,List.take_left]
theorem one_in {W:List Int}{a n:Nat}(h:a+n≤W.length):inB [W] 0 (a:Int) (n:Int)=true:=by
 refine inB_iff.2 ⟨by omega,by simp,by omega,by omega,?_⟩
 show (a:Int)+n≤(W.length:Int)
 omega
theorem one_has {W:List Int}{a:Nat}(h:a<W.length):hasB [W] 0 (a:Int)=true:=by
 unfold hasB
 rw [decide_eq_true_iff]
 refine⟨by omega,by simp,by omega,?_⟩
 show (a:Int)<(W.length:Int)
 omega
theorem one_word {W:List Int}{a:Nat}(h:a<W.length):wordV [W] 0 (a:Int)=zat W a:=by
 unfold wordV
 rw [one_has h,if_pos rfl]
 rfl
theorem one_dat {W:List Int}{q n:Nat}{l:List Int}(h:Has W q l)(hl:l.length=n):datW [W] 0 (q:Int) (n:Int)=l:=by
 subst hl
 unfold datW
 rw [one_in h.1,if_pos rfl]
 show (W.drop (q:Int).toNat).take (l.length:Int).toNat=l
 rw [Int.toNat_natCast,Int.toNat_natCast]
 exact h.slice
theorem pad_bytes {d:List Int}(hb:Bts d){A:Nat}(h:d.length≤8*A):bytesOf (padW d A)=d++List.replicate (8*A-d.length) 0:=by
 unfold padW
 refine bytesOf_wordsOf _ ?_ ?_
 ·intro z hz
  rcases List.mem_append.1 hz with hz|hz
  ·exact hb z hz
  ·rw [List.eq_of_mem_replicate hz];omega
 ·rw [List.length_append,List.length_replicate];omega
theorem valid_null (q:Nat):∀t∈List.replicate q nd0,validN t=true:=by
 intro t ht
 rw [List.eq_of_mem_replicate ht]
 decide
theorem struct_read {val:Int→Int→Int→Val}{W:List Int}{d:List Int}{ks:List Nd}{A b q p pos nx:Nat}(hv:∀t∈ks,Reads val W t)(hnull:Reads val W nd0)(hval:∀t∈ks,validN t=true)(hq:q+A=p+pos)(hd:Has W q (padW d A))(hA:d.length≤8*A)(h8:d.length % 8=0)(hb:Bts d)
  (hp:Has W (p+pos) (ptrsW pos nx (ks++List.replicate (b-ks.length) nd0))) (hkb:ks.length≤b) (ho:Has W (p+nx) (objK ks)) (ht:trimmedN (.mk 1 0 0 d ks)=true) (m c:Int) (hm:costK ks≤m) :
  ∃v,structV val [W] m ⟨1,0,q,A,b,0,0,c⟩=⟨v,m-costK ks,0⟩∧trimN v=.mk 1 0 0 d ks:=by
 have hE:(ks++List.replicate (b-ks.length) nd0).length=b:=by rw [List.length_append,List.length_replicate];omega
 obtain⟨ks',h1,h2⟩:=kids_read (val:=val) (W:=W) (ts:=ks++List.replicate (b-ks.length) nd0) (p:=p) (pos:=pos) (nx:=nx) (fun t ht=>by
  rcases List.mem_append.1 ht with ht|ht
  ·exact hv t ht
  ·rw [List.eq_of_mem_replicate ht];exact hnull) (fun t ht=>by
  rcases List.mem_append.1 ht with ht|ht
  ·exact hval t ht
  ·exact valid_null _ t ht) hp (by rw [objK_nulls];exact ho) m (by rw [costK_nulls];exact hm)
 rw [hE,costK_nulls] at h1
 have hf:(fun (m:Int) (i:Nat)=>val m 0 ((q:Int)+(A:Int)+(i:Int)))=fun (m:Int) (i:Nat)=>val m 0 (((p+pos:Nat):Int)+(i:Int)):=by
  funext m i
  congr 1
  omega
 refine⟨.mk 1 0 0 (bytesOf (datW [W] 0 q A)) ks',?_,?_⟩
 ·unfold structV
  simp only [Int.toNat_natCast]
  rw [hf,h1]
  simp
 ·rw [one_dat hd (padW_length hA),pad_bytes hb hA]
  exact trim_back h8 ht _ _ h2
theorem Has.els {W:List Int}{A b:Nat}:∀{ys:List Nd} {P:Nat} {pos nx:Int},(∀y∈ys,y.d.length≤8*A∧y.ks.length≤b)→Has W P (elsW A b pos nx ys)→∀j (hj:j<ys.length),
  Has W (P+j*(A+b)) (padW ys[j].d A)∧Has W (P+j*(A+b)+A) (ptrsW (pos+j*(A+b)+A) (nx+canK (kk (ys.take j))) (ys[j].ks++List.replicate (b-ys[j].ks.length) nd0))
 | [],_,_,_,_,_,j,hj=>by simp at hj
 | y::ys,P,pos,nx,hf,h,j,hj=>by
  have h0:=hf y (List.mem_cons_self ..)
  simp only [elsW] at h
  have h1:=h.left
  have h2:=h.right
  rw [padW_length h0.1] at h2
  have h3:=h2.left
  have h4:=h2.right
  rw [ptrsW_length,List.length_append,List.length_replicate] at h4
  cases j with
  | zero=>
   simp only [Nat.zero_mul,Nat.add_zero,List.getElem_cons_zero,List.take_zero]
   refine⟨h1,?_⟩
   have e1:pos+((0:Nat):Int)*((A:Int)+b)+A=pos+A:=by simp
   have e2:nx+canK (kk [])=nx:=by simp [kk,canK]
   rw [e1,e2]
   exact h3
  | succ j=>
   have ih:=Has.els (fun z hz=>hf z (List.mem_cons_of_mem _ hz)) h4 j (by simpa using hj)
   have e0:P+A+(y.ks.length+(b-y.ks.length))+j*(A+b)=P+(j+1)*(A+b):=by rw [Nat.add_mul];omega
   have e1:pos+(A:Int)+b+(j:Int)*((A:Int)+b)+A=pos+((j+1:Nat):Int)*((A:Int)+b)+A:=by
    have:((j+1:Nat):Int)*((A:Int)+b)=(j:Int)*((A:Int)+b)+((A:Int)+b):=by rw [Int.natCast_succ,Int.add_mul,Int.one_mul]
    rw [this]
    omega
   have e2:nx+canK y.ks+canK (kk (ys.take j))=nx+canK (kk ((y::ys).take (j+1))):=by
    have:kk ((y::ys).take (j+1))=y.ks++kk (ys.take j):=by simp [kk]
    rw [this,canK_append]
    omega
   rw [e0,e1,e2] at ih
   exact ih
theorem kkw_split (l:List Nd)(j:Nat)(h:j<l.length):kk l=kk (l.take j)++(l[j].ks++kk (l.drop (j+1))):=by
 have h1:l=l.take j++l[j]::l.drop (j+1):=by rw [List.getElem_cons_drop];exact(List.take_append_drop j l).symm
 calc kk l=kk (l.take j++l[j]::l.drop (j+1)):=by rw [←h1]
  _=_:=by unfold kk;rw [List.flatMap_append,List.flatMap_cons]
theorem els_read {val:Int→Int→Int→Val}{W:List Int}{ks:List Nd}{A b p nx:Nat}(hv:∀t∈kk ks,Reads val W t)(hnull:Reads val W nd0)(hval:∀t∈kk ks,validN t=true)(hfit:∀y∈ks,y.d.length≤8*A∧y.ks.length≤b)
  (hel:∀y∈ks,∃d' ks',y=.mk 1 0 0 d' ks'∧d'.length % 8=0∧Bts d'∧trimmedN y=true) (hp:Has W (p+1) (elsW A b 1 nx ks)) (ho:Has W (p+nx) (objK (kk ks))) (n c:Int) (m:Int) (hm:costK (kk ks)≤m) :
  ∃ks',runK (elemV val [W] ⟨2,0,((p+1:Nat):Int),A,b,7,n,c⟩) m ks.length=⟨ks',m-costK (kk ks),0⟩∧ks'.map trimN=ks:=by
 obtain⟨f,hfe⟩:∃f:Int→Nat→Val,f=elemV val [W] ⟨2,0,((p+1:Nat):Int),A,b,7,n,c⟩:=⟨_,rfl⟩
 rw [←hfe]
 have:∀j,j≤ks.length→∃ks',runK f m j=⟨ks',m-costK (kk (ks.take j)),0⟩∧ks'.map trimN=ks.take j:=by
  intro j
  induction j with
  | zero=>intro _;exact⟨[],by simp [runK,costK,canK,exK,kk],by simp⟩
  | succ j ih=>
   intro hj
   obtain⟨ks',h1,h2⟩:=ih (by omega)
   have hj2:j<ks.length:=by omega
   obtain⟨g1,g2⟩:=hp.els hfit j hj2
   have hsp:=kkw_split ks j hj2
   have g3:=ho
   rw [hsp,objK_append,objK_append] at g3
   have g4:=g3.right.left
   have hvt:∀t∈kk (ks.take j),validN t=true:=fun t ht=>hval t (by rw [hsp];exact List.mem_append_left _ ht)
   have hl:((objK (kk (ks.take j))).length:Int)=canK (kk (ks.take j)):=objK_length (fun y hy=>objW_length y (hvt y hy))
   have hkt:=kk_take ks j hj2
   have hc:costK (kk (ks.take (j+1)))=costK (kk (ks.take j))+costK ks[j].ks:=by rw [hkt,costK_append]
   have hle:costK (kk (ks.take (j+1)))≤costK (kk ks):=by
    have e:kk ks=kk (ks.take (j+1))++kk (ks.drop (j+1)):=by rw [hsp,hkt,List.append_assoc]
    have e2:kk (ks.take (j+1))=(kk ks).take (kk (ks.take (j+1))).length:=by rw [e,List.take_left]
    rw [e2]
    exact(costK_take_le hval _).2
   have hyv:∀t∈ks[j].ks,t∈kk ks:=fun t ht=>List.mem_flatMap.2 ⟨ks[j],List.getElem_mem hj2,ht⟩
   obtain⟨d',kk',hy,h8,hb,htr⟩:=hel ks[j] (List.getElem_mem hj2)
   obtain⟨hf1,hf2⟩:=hfit ks[j] (List.getElem_mem hj2)
   have hyd:ks[j].d=d':=by rw [hy];rfl
   have hyk:ks[j].ks=kk':=by rw [hy];rfl
   rw [hyd] at g1 hf1
   rw [hyk] at g2 g4 hc hf2 hyv
   rw [hy] at htr
   have e1:(1:Int)+(j:Int)*((A:Int)+b)+A=((1+j*(A+b)+A:Nat):Int):=by simp
   have e2:(nx:Int)+canK (kk (ks.take j))=((nx+(objK (kk (ks.take j))).length:Nat):Int):=by rw [←hl];simp
   rw [e1,e2] at g2
   obtain⟨v,h3,h4⟩:=struct_read (val:=val) (W:=W) (d:=d') (ks:=kk') (A:=A) (b:=b) (q:=p+1+j*(A+b)) (p:=p) (pos:=1+j*(A+b)+A) (nx:=nx+(objK (kk (ks.take j))).length)
    (fun t ht=>hv t (hyv t ht)) hnull (fun t ht=>hval t (hyv t ht)) (by omega) g1 hf1 h8 hb (by rw [show p+(1+j*(A+b)+A)=p+1+j*(A+b)+A by omega];exact g2) hf2 (by rw [←Nat.add_assoc];exact g4) htr (m-costK (kk (ks.take j))) 0 (by omega)
   have hf:f (m-costK (kk (ks.take j))) j=⟨v,m-costK (kk (ks.take j))-costK kk',0⟩:=by
    rw [hfe]
    unfold elemV
    rw [if_neg (show ¬((7:Int)=6) by decide)]
    have e:eleO ⟨2,0,((p+1:Nat):Int),A,b,7,n,c⟩ (j:Int)=⟨1,0,((p+1+j*(A+b):Nat):Int),A,b,0,0,0⟩:=by
     unfold eleO
     simp
    rw [e]
    exact h3
   refine⟨ks'++[v],?_,?_⟩
   ·rw [runK_ok (by rw [h1]) (by rw [h1,hf]),h1,hf]
    simp only [hc,Vls.mk.injEq,true_and,and_true]
    omega
   ·rw [List.map_append,h2,List.take_succ_eq_append_getElem hj2,List.map_singleton,h4,hy]
 obtain⟨ks',h1,h2⟩:=this ks.length (Nat.le_refl _)
 rw [List.take_length] at h1 h2
 exact⟨ks',h1,h2⟩
theorem fol_read {W:List Int}{a:Nat}(ha:a<W.length)(hk:zat W a % 4≠2):followF [W] 0 (a:Int)=⟨zat W a,0,(a:Int)+1,0⟩:=by
 unfold followF
 have hb:(zat W a % 4==2)=false:=by simpa using hk
 rw [one_has ha,one_word ha,hb]
 simp
theorem val_null {W:List Int}{a:Nat}(ha:a<W.length)(hz:zat W a=0)(r:Nat)(m:Int):valV [W] r m 0 (a:Int)=⟨nd0,m,0⟩:=by
 have h:=fol_read ha (by rw [hz];decide)
 cases r with
 | zero=>unfold valV;rw [h,hz,if_pos (.inr rfl)];rfl
 | succ r=>unfold valV;rw [h,hz,if_pos (.inr rfl)];rfl
theorem val_obj {W:List Int}{a:Nat}(ha:a<W.length){q:Ptr}(hq:Vld q)(hk:q.k=0∨q.k=1)(hw:zat W a=encW q)(h0:encW q≠0)(r:Nat)(m:Int):
  valV [W] (r+1) m 0 (a:Int)=bodyV (valV [W] r) [W] m (objP [W] q 0 ((a:Int)+1)):=by
 have h4:zat W a % 4≠2:=by
  rw [hw]
  unfold encW
  rcases hk with hk|hk
  ·rw [if_pos hk];omega
  ·rw [if_neg (by omega),if_pos hk];omega
 have h:=fol_read ha h4
 have h1:¬((followF [W] 0 (a:Int)).e≠0∨(followF [W] 0 (a:Int)).w=0):=by
  rw [h]
  simp only [hw]
  intro h2
  rcases h2 with h2|h2
  ·exact h2 rfl
  ·exact h0 h2
 unfold valV
 rw [if_neg h1]
 unfold objF
 rw [if_neg h1,h]
 simp only [hw]
 rw [decP_encW q hq]
theorem depth_mem {l:List Nd}{r:Nat}(h:depthK l≤r):∀y∈l,depthN y≤r:=by
 induction l with
 | nil=>intro y hy;cases hy
 | cons x xs ih=>
  simp only [depthK] at h
  intro y hy
  rcases List.mem_cons.1 hy with rfl|hy
  ·omega
  ·exact ih (by omega) y hy
theorem reads_nd0 (W:List Int)(r:Nat):Reads (valV [W] r) W nd0:=by
 intro p a m ha hw hp hm
 refine⟨nd0,?_,rfl⟩
 have h0:costN nd0=0:=by decide
 rw [val_null ha (by rw [hw];rfl) r m,h0]
 simp
theorem padW_exact {d:List Int}(h8:d.length % 8=0):padW d (d.length / 8)=wordsOf d:=by
 unfold padW
 rw [show 8*(d.length / 8)-d.length=0 by omega]
 simp
theorem cost_le {x:Nd}(h:validN x=true):canO x+exO x+costK (targN x)=costN x∧0≤costK (targN x)∧0≤canO x∧0≤exO x:=by
 have h2:=costK_take_le (l:=targN x) (valid_targ h) (targN x).length
 rw [List.take_length] at h2
 exact⟨(costN_eq x).symm,h2.1,(canO_size h).1,exO_nonneg h⟩
theorem trimmed_mem14 {l:List Nd}(h:trimmedK l=true):∀y∈l,trimmedN y=true:=by
 intro y hy
 obtain⟨j,hj,rfl⟩:=List.getElem_of_mem hy
 rcases Bool.eq_false_or_eq_true (trimmedN l[j]) with h1|h1
 ·exact h1
 ·rw [trimmedK_no l j hj h1] at h;cases h
theorem trimmed_targ14 {x:Nd}(h:trimmedN x=true):∀y∈targN x,trimmedN y=true:=by
 obtain⟨k,e,n,d,ks⟩:=x
 simp only [trimmedN,Bool.and_eq_true] at h
 have h2:=trimmed_mem14 h.2
 intro y hy
 rw [targN_mk] at hy
 split at hy
 ·obtain⟨z,hz,hyz⟩:=List.mem_flatMap.1 hy
  have h3:=h2 z hz
  obtain⟨k',e',n',d',ks'⟩:=z
  simp only [trimmedN,Bool.and_eq_true] at h3
  exact trimmed_mem14 h3.2 y hyz
 ·exact h2 y hy
theorem ptrW_str (e n:Int)(d:List Int)(ks:List Nd)(o:Int):ptrW (.mk 1 e n d ks) o=encW ⟨0,if canO (.mk 1 e n d ks)=0 then -1 else o,((d.length / 8:Nat):Int),ks.length,0,0,false,0,0,0⟩:=by
 unfold ptrW ptrP
 simp only [Nd.k,Nd.d,Nd.ks]
 rw [if_neg (by decide),if_pos trivial]
theorem ptrW_lst (e n:Int)(d:List Int)(ks:List Nd)(o:Int):ptrW (.mk 2 e n d ks) o=encW ⟨1,o,0,0,e,if e=7 then canO (.mk 2 e n d ks)-1 else n,false,0,0,0⟩:=by
 unfold ptrW ptrP
 exact(if_neg (show ¬((2:Int)=0) by decide)).trans (congrArg encW (if_neg (show ¬((2:Int)=1) by decide)))
theorem str_read {d:List Int}{ks:List Nd}(hv:validN (.mk 1 0 0 d ks)=true)(ht:trimmedN (.mk 1 0 0 d ks)=true)(hb:bytN (.mk 1 0 0 d ks))(r:Nat)(W:List Int)(hW:W.length≤536870911)(hk:∀t∈ks,Reads (valV [W] r) W t):Reads (valV [W] (r+1)) W (.mk 1 0 0 d ks):=by
 intro p a m ha hw hp hm
 obtain⟨-,-,h8,hd5,hk5⟩:=head_str hv
 obtain⟨hc,hc0,hc1,-⟩:=cost_le hv
 have hT:targN (.mk 1 0 0 d ks)=ks:=by rw [targN_mk,if_neg (by decide)]
 have hO:canO (.mk 1 0 0 d ks)=((d.length / 8+ks.length:Nat):Int):=rfl
 have hE:exO (.mk 1 0 0 d ks)=0:=rfl
 rw [hT,hO,hE] at hc
 rw [hT] at hc0
 have hbl:=body_length hv
 rw [objW_eq,hT] at hp
 rw [hO] at hbl
 have hp1:Has W p (wordsOf d++ptrsW ((d.length / 8:Nat):Int) (((d.length / 8+ks.length:Nat):Int)) ks):=hp.left
 have hp2:=hp.right
 have hlen:=hp.left.1
 have hpv:∀t∈ks,validN t=true:=fun t hm=>valid_targ hv t (by rw [hT];exact hm)
 have hwd:=hp1.left
 have hpt:=hp1.right
 rw [wordsOf_length] at hpt
 have hv0:=Vld
 by_cases h0:d.length / 8+ks.length=0
 ·have hd0:d=[]:=List.eq_nil_of_length_eq_zero (by omega)
  have hk0:ks=[]:=List.eq_nil_of_length_eq_zero (by omega)
  subst hd0 hk0
  have hw2:zat W a=encW ⟨0,-1,0,0,0,0,false,0,0,0⟩:=by
   rw [hw,ptrW_str,if_pos (by rw [hO];rfl)]
   rfl
  refine⟨.mk 1 0 0 [] [],?_,rfl⟩
  rw [val_obj ha (q:=⟨0,-1,0,0,0,0,false,0,0,0⟩) (.inl (by decide)) (.inl rfl) hw2 (by decide) r m]
  have hin:inB [W] 0 ((a:Int)+1+-1) (0+0)=true:=by
   have:=one_in (W:=W) (a:=a) (n:=0) (by omega)
   rw [show (a:Int)+1+-1=a by omega]
   exact this
  unfold objP
  simp only
  rw [if_neg (by decide),if_pos trivial,if_pos hin]
  unfold bodyV
  simp only
  have hcz:costN (.mk 1 0 0 [] [])=0:=by decide
  rw [if_neg (by simp),if_neg (by rw [hcz] at hm;omega),if_pos trivial]
  unfold structV
  have hdz:datW [W] 0 ((a:Int)+1+-1) 0=[]:=by
   have:=one_dat (W:=W) (q:=a) (n:=0) (l:=[]) ⟨by simp;omega,fun i hi=>by simp at hi⟩ rfl
   rw [show (a:Int)+1+-1=a by omega]
   exact this
  simp only [Int.toNat_zero,runK,hdz,hcz]
  simp [bytesOf]
 ·have hw2:zat W a=encW ⟨0,(p:Int)-a-1,((d.length / 8:Nat):Int),(ks.length:Int),0,0,false,0,0,0⟩:=by
   rw [hw,ptrW_str,if_neg (by rw [hO];omega)]
  have hq:Vld ⟨0,(p:Int)-a-1,((d.length / 8:Nat):Int),(ks.length:Int),0,0,false,0,0,0⟩:=by
   left
   simp only
   refine⟨trivial,by omega,by omega,by omega,by omega,by omega,by omega,?_⟩
   simp
  have hne:encW ⟨0,(p:Int)-a-1,((d.length / 8:Nat):Int),(ks.length:Int),0,0,false,0,0,0⟩≠0:=by
   unfold encW
   simp only
   rw [if_pos trivial]
   omega
  rw [val_obj ha hq (.inl rfl) hw2 hne r m]
  have hin:inB [W] 0 ((a:Int)+1+((p:Int)-a-1)) (((d.length / 8:Nat):Int)+(ks.length:Int))=true:=by
   have:=one_in (W:=W) (a:=p) (n:=d.length / 8+ks.length) (by omega)
   rw [show (a:Int)+1+((p:Int)-a-1)=p by omega]
   simpa using this
  unfold objP
  simp only
  rw [if_neg (by decide),if_pos trivial,if_pos hin]
  unfold bodyV
  simp only
  rw [if_neg (by simp),if_neg (by omega),if_pos trivial,show (a:Int)+1+((p:Int)-a-1)=p by omega]
  have hbd:=bytN_d hb
  obtain⟨v,h1,h2⟩:=struct_read (val:=valV [W] r) (W:=W) (d:=d) (ks:=ks) (A:=d.length / 8) (b:=ks.length) (q:=p) (p:=p) (pos:=d.length / 8) (nx:=d.length / 8+ks.length) hk (reads_nd0 W r) hpv rfl (by rw [padW_exact h8];exact hwd) (by omega) h8 hbd (by rw [Nat.sub_self,List.replicate_zero,List.append_nil];exact hpt) (Nat.le_refl _)
   (by rw [show p+(d.length / 8+ks.length)=p+(bodyN (.mk 1 0 0 d ks)).length by omega];exact hp2) ht (m-(((d.length / 8:Nat):Int)+(ks.length:Int))) (((d.length / 8:Nat):Int)+(ks.length:Int)) (by omega)
  refine⟨v,?_,h2⟩
  rw [h1]
  simp only [Val.mk.injEq,true_and,and_true]
  omega
theorem enc_lst (o e c:Int):encW ⟨1,o,0,0,e,c,false,0,0,0⟩≠0:=by
 unfold encW
 simp only
 rw [if_neg (show ¬((1:Int)=0) by decide),if_pos trivial]
 omega
theorem obj_lst {W:List Int}{p a:Nat}{e n c:Int}(he:e≠7)(hc:wordsI e n=c)(h0:0≤c)(hW:p+c.toNat≤W.length):objP [W] ⟨1,(p:Int)-a-1,0,0,e,n,false,0,0,0⟩ 0 ((a:Int)+1)=(⟨2,0,p,0,0,e,n,c⟩,0):=by
 have hin:inB [W] 0 (p:Int) c=true:=by
  have:=one_in (W:=W) (a:=p) (n:=c.toNat) hW
  rw [Int.toNat_of_nonneg h0] at this
  exact this
 unfold objP
 simp only
 rw [if_neg (by decide),if_neg (by decide),show (a:Int)+1+((p:Int)-a-1)=p by omega,hc,hin,if_neg (by simp),if_neg he]
theorem trimL_pad {d:List Int}{e n:Int}(q:Nat)(h:bytesI e n=d.length):trimL (d++List.replicate q 0) e n=trimL d e n:=by
 apply ext_zat (by rw [trimL_length,trimL_length])
 intro i hi
 rw [trimL_length] at hi
 rw [trimL_zat _ _ _ _ hi,trimL_zat _ _ _ _ hi]
 unfold trimAt
 rw [zat_append_left _ _ _ (by omega)]
theorem lst_read {e n:Int}{d:List Int}{ks:List Nd}(hv:validN (.mk 2 e n d ks)=true)(he:e<6)(hb:bytN (.mk 2 e n d ks))(r:Nat)(W:List Int)(hW:W.length≤536870911):Reads (valV [W] (r+1)) W (.mk 2 e n d ks):=by
 intro p a m ha hw hp hm
 obtain⟨g1,g2,g3,g4,-,g6⟩:=head_lst hv
 obtain⟨g7,g8,g9⟩:=g6 he
 obtain rfl:ks=[]:=List.eq_nil_of_length_eq_zero g7
 obtain⟨hc,hc0,hc1,-⟩:=cost_le hv
 have hT:targN (.mk 2 e n d [])=[]:=by rw [targN_mk,if_neg (by omega)]
 have hO:canO (.mk 2 e n d [])=wordsI e n:=by show canOf 2 e n d []=_;unfold canOf;rw [if_neg (show ¬((2:Int)=0) by decide),if_neg (show ¬((2:Int)=1) by decide),if_neg (by omega)]
 have hE:exO (.mk 2 e n d [])=0:=by unfold exO;rw [if_neg];rintro⟨-,h,-⟩;simp only [Nd.e] at h;omega
 rw [hT,hO,hE] at hc
 rw [hO] at hc1
 have hk0:costK []=0:=by simp [costK,canK,exK]
 rw [hk0] at hc
 have hbl:=body_length hv
 rw [objW_eq,hT] at hp
 have hp1:=hp.left
 have hlen:=hp1.1
 rw [hO] at hbl
 have hbn:bodyN (.mk 2 e n d [])=padW d (wordsI e n).toNat:=by
  show bodyW 2 e n d []=_
  unfold bodyW
  rw [if_neg (show ¬((2:Int)=0) by decide),if_neg (show ¬((2:Int)=1) by decide),if_neg (by omega),if_neg (by omega)]
 rw [hbn] at hp1 hlen hbl
 have hbi:=bitsI_mul e n g1
 have hwI:wordsI e n=(bitsI e*n+63) / 64:=by unfold wordsI;rw [if_neg (by omega)]
 have hBI:bytesI e n=(bitsI e*n+7) / 8:=rfl
 have hA:d.length≤8*(wordsI e n).toNat:=by omega
 rw [padW_length hA] at hlen
 have hw2:zat W a=encW ⟨1,(p:Int)-a-1,0,0,e,n,false,0,0,0⟩:=by rw [hw,ptrW_lst,if_neg (by omega)]
 have hq:Vld ⟨1,(p:Int)-a-1,0,0,e,n,false,0,0,0⟩:=by
  right;left
  simp only
  refine⟨trivial,by omega,by omega,trivial,trivial,by omega,by omega,by omega,by omega,?_⟩
  simp
 rw [val_obj ha hq (.inr rfl) hw2 (enc_lst _ _ _) r m,obj_lst (by omega) rfl hc1 hlen]
 unfold bodyV
 simp only
 rw [if_neg (by simp),if_neg (by omega),if_neg (by decide),if_pos he]
 refine⟨_,by rw [show m-wordsI e n=m-costN (.mk 2 e n d []) by omega],?_⟩
 have hd:datW [W] 0 (p:Int) (wordsI e n)=padW d (wordsI e n).toNat:=by
  have:=one_dat hp1 (padW_length hA)
  rw [Int.toNat_of_nonneg hc1] at this
  exact this
 have hbd:Bts d:=bytN_d hb
 rw [hd,pad_bytes hbd hA]
 show trimN (.mk 2 e n (trimL (d++_) e n) [])=_
 rw [trimL_pad _ g8.symm,g9]
 simp [trimN,trimK]
theorem plist_read {n:Int}{d:List Int}{ks:List Nd}(hv:validN (.mk 2 6 n d ks)=true)(r:Nat)(W:List Int)(hW:W.length≤536870911)(hk:∀t∈ks,Reads (valV [W] r) W t):Reads (valV [W] (r+1)) W (.mk 2 6 n d ks):=by
 intro p a m ha hw hp hm
 obtain⟨g1,g2,-,-,g5,-⟩:=head_lst hv
 obtain⟨g7,g8⟩:=g5 (by decide)
 obtain rfl:d=[]:=List.eq_nil_of_length_eq_zero g7
 obtain⟨hc,hc0,hc1,-⟩:=cost_le hv
 have hT:targN (.mk 2 6 n [] ks)=ks:=by rw [targN_mk,if_neg (by omega)]
 have hwI:wordsI 6 n=n:=by simp [wordsI,bitsI];omega
 have hO:canO (.mk 2 6 n [] ks)=n:=by
  have h0:canO (.mk 2 6 n [] ks)=wordsI 6 n:=rfl
  rw [h0,hwI]
 have hE:exO (.mk 2 6 n [] ks)=0:=rfl
 rw [hT,hO,hE] at hc
 rw [hT] at hc0
 have hbl:=body_length hv
 rw [objW_eq,hT] at hp
 rw [hO] at hbl
 have hp2:=hp.right
 have hp1:Has W p (ptrsW 0 (canO (.mk 2 6 n [] ks)) ks):=hp.left
 have hlen:=hp.left.1
 have hpv:∀t∈ks,validN t=true:=fun t hm=>valid_targ hv t (by rw [hT];exact hm)
 have hw2:zat W a=encW ⟨1,(p:Int)-a-1,0,0,6,n,false,0,0,0⟩:=by rw [hw,ptrW_lst,if_neg (by decide)]
 have hq:Vld ⟨1,(p:Int)-a-1,0,0,6,n,false,0,0,0⟩:=by
  right;left
  simp only
  refine⟨trivial,by omega,by omega,trivial,trivial,by omega,by omega,by omega,by omega,?_⟩
  simp
 rw [val_obj ha hq (.inr rfl) hw2 (enc_lst _ _ _) r m,obj_lst (c:=n) (by decide) hwI (by omega) (by omega)]
 unfold bodyV
 simp only
 rw [if_neg (by simp),if_neg (by omega),if_neg (by decide),if_neg (by decide)]
 obtain⟨ks',h1,h2⟩:=kids_read (val:=valV [W] r) (W:=W) (ts:=ks) (p:=p) (pos:=0) (nx:=ks.length) hk hpv (by rw [hO,←g8] at hp1;exact hp1) (by rw [show p+ks.length=p+(bodyN (.mk 2 6 n [] ks)).length by omega];exact hp2) (m-n) (by omega)
 have hf:elemV (valV [W] r) [W] ⟨2,0,(p:Int),0,0,6,n,n⟩=fun (m:Int) (i:Nat)=>valV [W] r m 0 (((p+0:Nat):Int)+(i:Int)):=by
  funext m i
  unfold elemV
  rw [if_pos rfl]
  simp
 refine⟨.mk 2 6 n [] ks',?_,?_⟩
 ·unfold listV
  simp only
  rw [show n.toNat=ks.length by omega,hf,h1]
  simp only [ne_eq,not_true,if_false,Val.mk.injEq,true_and,and_true]
  omega
 ·simp only [trimN]
  rw [if_neg (by decide),if_neg (by decide),trimK_map,h2]
theorem clist_read {n:Int}{d:List Int}{ks:List Nd}(hv:validN (.mk 2 7 n d ks)=true)(ht:trimmedN (.mk 2 7 n d ks)=true)(hb:bytN (.mk 2 7 n d ks))(r:Nat)(W:List Int)(hW:W.length≤536870911)(hk:∀t∈kk ks,Reads (valV [W] r) W t):Reads (valV [W] (r+1)) W (.mk 2 7 n d ks):=by
 intro p a m ha hw hp hm
 obtain⟨g1,g2,-,-,g5,-⟩:=head_lst hv
 obtain⟨g7,g8⟩:=g5 (by decide)
 obtain rfl:d=[]:=List.eq_nil_of_length_eq_zero g7
 obtain⟨hc,hc0,hc1,hc2⟩:=cost_le hv
 have hfit:=comp_fit hv
 obtain⟨hu1,hu2⟩:=uni_bd hv
 have hT:targN (.mk 2 7 n [] ks)=kk ks:=by rw [targN_mk,if_pos ⟨rfl,rfl⟩]
 have hpv:∀t∈kk ks,validN t=true:=fun t hm=>valid_targ hv t (by rw [hT];exact hm)
 have hel:∀y∈ks,∃d' ks',y=.mk 1 0 0 d' ks'∧d'.length % 8=0∧Bts d'∧trimmedN y=true:=by
  intro y hy
  obtain⟨hyv,-⟩:=valid_mem hv hy
  have hyk:=(valid_elem hv hy).1
  have hyb:=bytN_ks hb y hy
  have hyt:trimmedN y=true:=by
   simp only [trimmedN,Bool.and_eq_true] at ht
   exact trimmed_mem14 ht.2 y hy
  obtain⟨k',e',n',d',ks'⟩:=y
  simp only [Nd.k] at hyk
  subst hyk
  obtain⟨h1,h2,h3,-,-⟩:=head_str hyv
  subst h1 h2
  exact⟨d',ks',rfl,h3,bytN_d hyb,hyt⟩
 have hbl:=body_length hv
 rw [objW_eq,hT] at hp
 rw [hT] at hc hc0
 obtain⟨A,hAe⟩:∃A,uniD ks ks.length=A:=⟨_,rfl⟩
 obtain⟨b,hbe⟩:∃b,uniP ks ks.length=b:=⟨_,rfl⟩
 have hO:canO (.mk 2 7 n [] ks)=1+n*((A+b:Nat):Int):=by
  rw [←hAe,←hbe]
  show canOf 2 7 n [] ks=_
  unfold canOf
  rw [if_neg (show ¬((2:Int)=0) by decide),if_neg (show ¬((2:Int)=1) by decide),if_pos rfl]
 have hE:exO (.mk 2 7 n [] ks)=if A+b=0 then n else 0:=by
  rw [←hAe,←hbe]
  unfold exO
  show (if (2:Int)=2∧(7:Int)=7∧uniD ks ks.length+uniP ks ks.length=0 then n else 0)=_
  by_cases h:uniD ks ks.length+uniP ks ks.length=0
  ·rw [if_pos ⟨rfl,rfl,h⟩,if_pos h]
  ·rw [if_neg (fun h2=>h h2.2.2),if_neg h]
 have hp2:=hp.right
 have hp1:Has W p (tagW n (uniD ks ks.length) (uniP ks ks.length)::elsW (uniD ks ks.length) (uniP ks ks.length) 1 (canO (.mk 2 7 n [] ks)) ks):=hp.left
 have hlen:=hp.left.1
 rw [hAe,hbe] at hp1
 rw [hAe] at hu1
 rw [hbe] at hu2
 rw [hAe,hbe] at hfit
 obtain⟨S,hS⟩:∃S,n*((A+b:Nat):Int)=S:=⟨_,rfl⟩
 have hS0:0≤S:=by rw [←hS];exact Int.mul_nonneg g1 (by omega)
 rw [hS] at hO
 obtain⟨q1,q2,q3⟩:=hp1.head
 have hw2:zat W a=encW ⟨1,(p:Int)-a-1,0,0,7,S,false,0,0,0⟩:=by rw [hw,ptrW_lst,if_pos rfl,hO];congr 2;omega
 have hq:Vld ⟨1,(p:Int)-a-1,0,0,7,S,false,0,0,0⟩:=by
  right;left
  simp only
  refine⟨trivial,by omega,by omega,trivial,trivial,by omega,by omega,by omega,by omega,?_⟩
  simp
 have hqt:Vld ⟨0,n,(A:Int),(b:Int),0,0,false,0,0,0⟩:=by
  left
  simp only
  refine⟨trivial,by omega,by omega,by omega,by omega,by omega,by omega,?_⟩
  simp
 have hobj:objP [W] ⟨1,(p:Int)-a-1,0,0,7,S,false,0,0,0⟩ 0 ((a:Int)+1)=(⟨2,0,((p+1:Nat):Int),A,b,7,n,if A+b=0 then S+1+n else S+1⟩,0):=by
  have hin:inB [W] 0 (p:Int) (wordsI 7 S)=true:=by
   have h7:wordsI 7 S=((S.toNat+1:Nat):Int):=by unfold wordsI;rw [if_pos rfl];omega
   rw [h7]
   exact one_in (by omega)
  unfold objP
  simp only
  rw [if_neg (by decide),if_neg (by decide),show (a:Int)+1+((p:Int)-a-1)=p by omega,hin,if_neg (by simp),if_pos trivial]
  unfold compF
  rw [one_word q1,q2]
  unfold tagW
  rw [decP_encW _ hqt]
  simp only
  have hnm:n*((A:Int)+(b:Int))=S:=by rw [←hS];simp
  rw [if_neg (by rw [hnm];omega)]
  have h7:wordsI 7 S=S+1:=by unfold wordsI;rw [if_pos rfl]
  rw [h7]
  by_cases h:A+b=0
  ·rw [if_pos h,if_pos (by omega)];simp
  ·rw [if_neg h,if_neg (by omega)];simp
 rw [val_obj ha hq (.inr rfl) hw2 (enc_lst _ _ _) r m,hobj]
 have hcost:(if A+b=0 then S+1+n else S+1)=canO (.mk 2 7 n [] ks)+exO (.mk 2 7 n [] ks):=by rw [hO,hE];split<;>omega
 rw [hcost]
 unfold bodyV
 simp only
 rw [if_neg (by simp),if_neg (by omega),if_neg (by decide),if_neg (by decide)]
 obtain⟨ks',h1,h2⟩:=els_read (val:=valV [W] r) (W:=W) (ks:=ks) (A:=A) (b:=b) (p:=p) (nx:=(bodyN (.mk 2 7 n [] ks)).length) hk (reads_nd0 W r) hpv hfit hel (by rw [hbl];exact q3) hp2 n (canO (.mk 2 7 n [] ks)+exO (.mk 2 7 n [] ks)) (m-(canO (.mk 2 7 n [] ks)+exO (.mk 2 7 n [] ks))) (by omega)
 refine⟨.mk 2 7 n [] ks',?_,?_⟩
 ·unfold listV
  simp only
  rw [show n.toNat=ks.length by omega,h1]
  simp only [ne_eq,not_true,if_false,Val.mk.injEq,true_and,and_true]
  omega
 ·simp only [trimN]
  rw [if_neg (by decide),if_neg (by decide),trimK_map,h2]
theorem write_read:∀x:Nd,validN x=true→trimmedN x=true→bytN x→∀(r:Nat) (W:List Int),depthN x≤r→W.length≤536870911→Reads (valV [W] r) W x:=size_ind (by
 intro x ih hv ht hb r W hr hW
 have hk:=valid_k hv
 have hdx:=depthN_eq x
 have hsub:∀t∈targN x,x.k≠0→Reads (valV [W] (r-1)) W t:=fun t hm h0=>ih t (targ_lt hm) (valid_targ hv t hm) (trimmed_targ14 ht t hm) (bytN_targ hb t hm) (r-1) W (by
  rw [if_neg h0] at hdx
  exact depth_mem (r:=r-1) (by omega) t hm) hW
 rcases hk with h0|h1|h2
 ·obtain⟨k,e,n,d,ks⟩:=x
  simp only [Nd.k] at h0
  subst h0
  rw [head_nul hv]
  exact reads_nd0 W r
 ·rw [if_neg (by omega)] at hdx
  have hs:=fun t hm=>hsub t hm (by omega)
  obtain⟨r',rfl⟩:∃r',r=r'+1:=⟨r-1,by omega⟩
  obtain⟨k,e,n,d,ks⟩:=x
  simp only [Nd.k] at h1
  subst h1
  obtain⟨h1,h2,-⟩:=head_str hv
  subst h1 h2
  have hT:targN (.mk 1 0 0 d ks)=ks:=by rw [targN_mk,if_neg (by decide)]
  rw [hT] at hs
  exact str_read hv ht hb r' W hW hs
 ·rw [if_neg (by omega)] at hdx
  have hs:=fun t hm=>hsub t hm (by omega)
  obtain⟨r',rfl⟩:∃r',r=r'+1:=⟨r-1,by omega⟩
  obtain⟨k,e,n,d,ks⟩:=x
  simp only [Nd.k] at h2
  subst h2
  obtain⟨-,-,g3,g4,-,-⟩:=head_lst hv
  rcases(by omega:e<6∨e=6∨e=7) with h|rfl|rfl
  ·exact lst_read hv h hb r' W hW
  ·have hT:targN (.mk 2 6 n d ks)=ks:=by rw [targN_mk,if_neg (by omega)]
   rw [hT] at hs
   exact plist_read hv r' W hW hs
  ·have hT:targN (.mk 2 7 n d ks)=kk ks:=by rw [targN_mk,if_pos ⟨rfl,rfl⟩]
   rw [hT] at hs
   exact clist_read hv ht hb r' W hW hs)
theorem write_val {x:Nd}(hv:validN x=true)(ht:trimmedN x=true)(hb:bytN x)(hs:canN x≤536870910){r:Nat}(hr:depthN x≤r){m:Int}(hm:costN x≤m):∃v,valV [writeF x] r m 0 0=⟨v,m-costN x,0⟩∧trimN v=x:=by
 have hl:=writeF_length hv
 have h:=write_read x hv ht hb r (writeF x) hr (by omega) 1 0 m (by simp [writeF]) (by show ptrW x 0=_;congr 1) (Has.self (writeF x)).head.2.2 hm
 exact h
theorem write_inj {x y:Nd}(hx:validN x=true)(hy:validN y=true)(tx:trimmedN x=true)(ty:trimmedN y=true)(bx:bytN x)(by':bytN y)(sx:canN x≤536870910)(sy:canN y≤536870910)(h:writeF x=writeF y):x=y:=by
 have h1:=Int.le_max_left (costN x) (costN y)
 have h2:=Int.le_max_right (costN x) (costN y)
 obtain⟨v,g1,g2⟩:=write_val hx tx bx sx (Nat.le_max_left (depthN x) (depthN y)) h1
 obtain⟨u,g3,g4⟩:=write_val hy ty by' sy (Nat.le_max_right (depthN x) (depthN y)) h2
 rw [h,g3] at g1
 simp only [Val.mk.injEq] at g1
 rw [←g2,←g4,g1.1]
end Go.Proofs.YtbpmeppdjicmhaaGreatDoor
