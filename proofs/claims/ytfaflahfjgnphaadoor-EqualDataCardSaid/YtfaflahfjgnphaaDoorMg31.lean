/- The texts Write2, Write3 (what is wanted of them), one after the other. -/
import Derived.Test.YtfaflahfjgnphaaDoorMg29
namespace Go.Proofs.YtfaflahfjgnphaaDoor
open Go.ChangeShapes Go.WideShapes Go.ChangeAt Go.RowKit
set_option linter.unusedVariables false
set_option linter.unusedSimpArgs false
set_option maxRecDepth 100000
def exO (x:Nd):Int:=if x.k=2∧x.e=7∧uniD x.ks x.ks.length+uniP x.ks x.ks.length=0 then x.n else 0
mutual
def exN:Nd→Int
 | .mk k e n d ks=>(if k=2∧e=7∧uniD ks ks.length+uniP ks ks.length=0 then n else 0)+if k=2∧e=7 then exG ks else exK ks
def exK:List Nd→Int
 | []=>0
 | x::xs=>exN x+exK xs
def exG:List Nd→Int
 | []=>0
 | .mk _ _ _ _ ks::xs=>exK ks+exG xs
end
theorem exK_append (a b:List Nd):exK (a++b)=exK a+exK b:=by
 induction a with
 | nil=>simp [exK]
 | cons x xs ih=>simp only [List.cons_append,exK,ih];omega
theorem exG_kk (l:List Nd):exG l=exK (kk l):=by
 induction l with
 | nil=>simp [exG,kk,exK]
 | cons x xs ih=>
  obtain⟨k,e,n,d,ks⟩:=x
  have h:kk (.mk k e n d ks::xs)=ks++kk xs:=by simp [kk,Nd.ks]
  rw [h,exK_append]
  simp only [exG,ih]
theorem exN_eq (x:Nd):exN x=exO x+exK (targN x):=by
 obtain⟨k,e,n,d,ks⟩:=x
 simp only [exN,targN,exO,Nd.k,Nd.e,Nd.n,Nd.d,Nd.ks]
 by_cases h:k=2∧e=7
 ·rw [if_pos h,if_pos h,exG_kk]
  rfl
 ·rw [if_neg h,if_neg h]
  rfl
def costN (x:Nd):Int:=canN x+exN x
def costK (l:List Nd):Int:=canK l+exK l
theorem costK_append (a b:List Nd):costK (a++b)=costK a+costK b:=by unfold costK;rw [canK_append,exK_append];omega
theorem costK_take (l:List Nd)(j:Nat)(h:j<l.length):costK (l.take (j+1))=costK (l.take j)+costN l[j]:=by
 rw [List.take_succ_eq_append_getElem h,costK_append]
 simp [costK,costN,canK,exK]
theorem costN_eq (x:Nd):costN x=canO x+exO x+costK (targN x):=by
 unfold costN costK
 rw [canN_eq,exN_eq]
 omega
theorem exO_nonneg {x:Nd}(h:validN x=true):0≤exO x:=by
 unfold exO
 split
 ·obtain⟨k,e,n,d,ks⟩:=x
  rename_i h1
  obtain⟨h2,-,-⟩:=h1
  simp only [Nd.k] at h2
  subst h2
  exact(head_lst h).1
 ·omega
theorem cost_nonneg:∀x:Nd,validN x=true→0≤costN x:=size_ind (by
 intro x ih h
 rw [costN_eq]
 have h1:=(canO_size h).1
 have h2:=exO_nonneg h
 have:∀l:List Nd,(∀y∈l,0≤costN y)→0≤costK l:=by
  intro l hl
  induction l with
  | nil=>simp [costK,canK,exK]
  | cons y ys ih2=>
   have h3:=hl y (List.mem_cons_self ..)
   have h4:=ih2 (fun z hz=>hl z (List.mem_cons_of_mem _ hz))
   have:=costK_append [y] ys
   have h5:costK [y]=costN y:=by simp [costK,costN,canK,exK]
   rw [List.singleton_append] at this
   omega
 have:=this _ (fun y hy=>ih y (targ_lt hy) (valid_targ h y hy))
 omega)
theorem costK_take_le {l:List Nd}(h:∀y∈l,validN y=true)(j:Nat):0≤costK (l.take j)∧costK (l.take j)≤costK l:=by
 have hn:∀l:List Nd,(∀y∈l,validN y=true)→0≤costK l:=by
  intro l hl
  induction l with
  | nil=>simp [costK,canK,exK]
  | cons y ys ih2=>
   have h3:=cost_nonneg y (hl y (List.mem_cons_self ..))
   have h4:=ih2 (fun z hz=>hl z (List.mem_cons_of_mem _ hz))
   have:=costK_append [y] ys
   have h5:costK [y]=costN y:=by simp [costK,costN,canK,exK]
   rw [List.singleton_append] at this
   omega
 have h1:=costK_append (l.take j) (l.drop j)
 rw [List.take_append_drop] at h1
 have h2:=hn (l.take j) (fun y hy=>h y (List.mem_of_mem_take hy))
 have h3:=hn (l.drop j) (fun y hy=>h y (List.mem_of_mem_drop hy))
 omega
theorem costK_nulls (ts:List Nd)(q:Nat):costK (ts++List.replicate q nd0)=costK ts:=by
 rw [costK_append]
 have:∀q,costK (List.replicate q nd0)=0:=by
  intro q
  induction q with
  | zero=>rfl
  | succ q ih=>
   rw [List.replicate_succ]
   have:=costK_append [nd0] (List.replicate q nd0)
   rw [List.singleton_append] at this
   rw [this,ih]
   decide
 rw [this]
 omega
def Has (W:List Int)(p:Nat)(l:List Int):Prop:=p+l.length≤W.length∧∀i,i<l.length→zat W (p+i)=zat l i
theorem Has.left {W:List Int}{p:Nat}{a b:List Int}(h:Has W p (a++b)):Has W p a:=by
 obtain⟨h1,h2⟩:=h
 rw [List.length_append] at h1 h2
 exact⟨by omega,fun i hi=>by rw [h2 i (by omega),zat_append_left _ _ _ hi]⟩
theorem Has.right {W:List Int}{p:Nat}{a b:List Int}(h:Has W p (a++b)):Has W (p+a.length) b:=by
 obtain⟨h1,h2⟩:=h
 rw [List.length_append] at h1 h2
 refine⟨by omega,fun i hi=>?_⟩
 have:=h2 (a.length+i) (by omega)
 rw [zat_append_right _ _ _ (by omega)] at this
 rw [Nat.add_assoc,this]
 congr 1
 omega
theorem Has.head {W:List Int}{p:Nat}{x:Int}{l:List Int}(h:Has W p (x::l)):p<W.length∧zat W p=x∧Has W (p+1) l:=by
 refine⟨by have:=h.1;simp at this;omega,by have:=h.2 0 (by simp);simpa [zat] using this,?_⟩
 have:=Has.right (a:=[x]) (b:=l) h
 simpa using this
theorem Has.slice {W:List Int}{p:Nat}{l:List Int}(h:Has W p l):(W.drop p).take l.length=l:=by
 obtain⟨h1,h2⟩:=h
 apply ext_zat
 ·rw [List.length_take,List.length_drop];omega
 ·intro i hi
  rw [List.length_take,List.length_drop] at hi
  rw [zat_take _ _ _ (by omega),zat_drop,h2 i (by omega)]
theorem Has.self (W:List Int):Has W 0 W:=⟨by omega,fun i _=>by rw [Nat.zero_add]⟩
theorem Has.ptrs {W:List Int}:∀{ts:List Nd} {P:Nat} {pos nx:Int},Has W P (ptrsW pos nx ts)→∀j (hj:j<ts.length),P+j<W.length∧zat W (P+j)=ptrW ts[j] (nx+canK (ts.take j)-(pos+j)-1)
 | [],_,_,_,_,j,hj=>by simp at hj
 | t::ts,P,pos,nx,h,j,hj=>by
  obtain⟨h1,h2,h3⟩:=Has.head h
  cases j with
  | zero=>
   refine⟨h1,?_⟩
   rw [Nat.add_zero,h2]
   simp [canK]
  | succ j=>
   obtain⟨g1,g2⟩:=Has.ptrs h3 j (by simpa using hj)
   refine⟨by omega,?_⟩
   rw [show P+(j+1)=P+1+j by omega,g2]
   simp only [List.getElem_cons_succ,List.take_succ_cons,canK]
   congr 1
   omega
theorem Has.objs {W:List Int}{ts:List Nd}{Q:Nat}(h:Has W Q (objK ts))(j:Nat)(hj:j<ts.length):Has W (Q+(objK (ts.take j)).length) (objW ts[j]):=by
 have e:objK ts=objK (ts.take j)++(objW ts[j]++objK (ts.drop (j+1))):=by
  have h1:ts=ts.take j++ts[j]::ts.drop (j+1):=by rw [List.getElem_cons_drop];exact(List.take_append_drop j ts).symm
  calc objK ts=objK (ts.take j++ts[j]::ts.drop (j+1)):=by rw [←h1]
   _=_:=by rw [objK_append];rfl
 rw [e] at h
 exact h.right.left
def Reads (val:Int→Int→Int→Val)(W:List Int)(t:Nd):Prop:=∀(p a:Nat) (m:Int),a<W.length→zat W a=ptrW t ((p:Int)-a-1)→Has W p (objW t)→costN t≤m→∃v,val m 0 a=⟨v,m-costN t,0⟩∧trimN v=t
theorem kids_read {val:Int→Int→Int→Val}{W:List Int}{ts:List Nd}(hv:∀t∈ts,Reads val W t)(hval:∀t∈ts,validN t=true){p pos nx:Nat}(hp:Has W (p+pos) (ptrsW pos nx ts))(hq:Has W (p+nx) (objK ts))(m:Int)(hm:costK ts≤m):
  ∃ks',runK (fun m (i:Nat)=>val m 0 (((p+pos:Nat):Int)+(i:Int))) m ts.length=⟨ks',m-costK ts,0⟩∧ks'.map trimN=ts:=by
 obtain⟨f,hfe⟩:∃f:Int→Nat→Val,f=fun m (i:Nat)=>val m 0 (((p+pos:Nat):Int)+(i:Int)):=⟨_,rfl⟩
 rw [←hfe]
 have:∀j,j≤ts.length→∃ks',runK f m j=⟨ks',m-costK (ts.take j),0⟩∧ks'.map trimN=ts.take j:=by
  intro j
  induction j with
  | zero=>intro _;exact⟨[],by simp [runK,costK,canK,exK],by simp⟩
  | succ j ih=>
   intro hj
   obtain⟨ks',h1,h2⟩:=ih (by omega)
   have hj2:j<ts.length:=by omega
   obtain⟨g1,g2⟩:=hp.ptrs j hj2
   have g3:=hq.objs j hj2
   have hl:((objK (ts.take j)).length:Int)=canK (ts.take j):=objK_length (fun y hy=>objW_length y (hval y (List.mem_of_mem_take hy)))
   have hc:=costK_take ts j hj2
   have hle:=(costK_take_le hval (j+1)).2
   have hle2:=(costK_take_le (l:=ts) hval j).2
   obtain⟨v,h3,h4⟩:=hv ts[j] (List.getElem_mem hj2) (p+nx+(objK (ts.take j)).length) (p+pos+j) (m-costK (ts.take j)) g1 (by rw [g2];congr 1;omega) g3 (by omega)
   have e:(((p+pos:Nat):Int)+(j:Int))=((p+pos+j:Nat):Int):=by omega
   have hf:f (m-costK (ts.take j)) j=⟨v,m-costK (ts.take j)-costN ts[j],0⟩:=by
    rw [hfe]
    show val (m-costK (ts.take j)) 0 (((p+pos:Nat):Int)+(j:Int))=_
    rw [e]
    exact h3
   refine⟨ks'++[v],?_,?_⟩
   ·rw [runK_ok (by rw [h1]) (by rw [h1,hf]),h1,hf]
    simp only [hc,Vls.mk.injEq,true_and,and_true]
    omega
   ·rw [List.map_append,h2,List.take_succ_eq_append_getElem hj2,List.map_singleton,h4]
 obtain⟨ks',h1,h2⟩:=this ts.length (Nat.le_refl _)
 rw [List.take_length] at h1 h2
 exact⟨ks',h1,h2⟩
theorem ptrsT_map (ks:List Nd):ptrsT (ks.map trimN)=ptrsT ks:=by
 rw [←trimK_map]
 refine Nat.le_antisymm ?_ ?_
 ·refine(ptrsT_iff _ _).2 fun t ht hz=>?_
  rw [trimK_length] at ht
  rw [kAt_trim] at hz
  exact ptrsT_at ht hz
 ·refine(ptrsT_iff _ _).2 fun t ht hz=>?_
  exact ptrsT_at (by rw [trimK_length];exact ht) (by rw [kAt_trim];exact hz)
theorem trim_back {d:List Int}{ks ks':List Nd}(h8:d.length % 8=0)(ht:trimmedN (.mk 1 0 0 d ks)=true)(q b:Nat)(hk:ks'.map trimN=ks++List.replicate b nd0):trimN (.mk 1 0 0 (d++List.replicate q 0) ks')=.mk 1 0 0 d ks:=by
 simp only [trimmedN,Bool.and_eq_true,decide_eq_true_eq] at ht
 obtain⟨g1,g2⟩:=ht.1 trivial
 simp only [trimN,if_pos,wordsT_zeros]
 have hp:ptrsT ks'=ks.length:=by rw [←ptrsT_map,hk,ptrsT_nulls _ _ (fun y hy=>by rw [List.eq_of_mem_replicate hy];rfl),g2]
 rw [hp,trimK_map,hk,List.take_left,g1,List.take_left]
theorem one_in {W:List Int}{a n:Nat}(h:a+n≤W.length):inB [W] 0 (a:Int) (n:Int)=true:=by
 refine inB_iff.2 ⟨by omega,by simp,by omega,by omega,?_⟩
 show (a:Int)+n≤(W.length:Int)
 omega
theorem one_has {W:List Int}{a:Nat}(h:a<W.length):hasB [W] 0 (a:Int)=true:=by
 unfold hasB
 rw [decide_eq_true_iff]
 refine⟨by omega,by simp,by omega,?_⟩
 show (a:Int)<(W.length:Int)
 omega
theorem one_word {W:List Int}{a:Nat}(h:a<W.length):wordV [W] 0 (a:Int)=zat W a:=by
 unfold wordV
 rw [one_has h,if_pos rfl]
 rfl
theorem one_dat {W:List Int}{q n:Nat}{l:List Int}(h:Has W q l)(hl:l.length=n):datW [W] 0 (q:Int) (n:Int)=l:=by
 subst hl
 unfold datW
 rw [one_in h.1,if_pos rfl]
 show (W.drop (q:Int).toNat).take (l.length:Int).toNat=l
 rw [Int.toNat_natCast,Int.toNat_natCast]
 exact h.slice
theorem pad_bytes {d:List Int}(hb:Bts d){A:Nat}(h:d.length≤8*A):bytesOf (padW d A)=d++List.replicate (8*A-d.length) 0:=by
 unfold padW
 refine bytesOf_wordsOf _ ?_ ?_
 ·intro z hz
  rcases List.mem_append.1 hz with hz|hz
  ·exact hb z hz
  ·rw [List.eq_of_mem_replicate hz];omega
 ·rw [List.length_append,List.length_replicate];omega
theorem valid_null (q:Nat):∀t∈List.replicate q nd0,validN t=true:=by
 intro t ht
 rw [List.eq_of_mem_replicate ht]
 decide
theorem struct_read {val:Int→Int→Int→Val}{W:List Int}{d:List Int}{ks:List Nd}{A b q p pos nx:Nat}(hv:∀t∈ks,Reads val W t)(hnull:Reads val W nd0)(hval:∀t∈ks,validN t=true)(hq:q+A=p+pos)(hd:Has W q (padW d A))(hA:d.length≤8*A)(h8:d.length % 8=0)(hb:Bts d)
  (hp:Has W (p+pos) (ptrsW pos nx (ks++List.replicate (b-ks.length) nd0))) (hkb:ks.length≤b) (ho:Has W (p+nx) (objK ks)) (ht:trimmedN (.mk 1 0 0 d ks)=true) (m c:Int) (hm:costK ks≤m) :
  ∃v,structV val [W] m ⟨1,0,q,A,b,0,0,c⟩=⟨v,m-costK ks,0⟩∧trimN v=.mk 1 0 0 d ks:=by
 have hE:(ks++List.replicate (b-ks.length) nd0).length=b:=by rw [List.length_append,List.length_replicate];omega
 obtain⟨ks',h1,h2⟩:=kids_read (val:=val) (W:=W) (ts:=ks++List.replicate (b-ks.length) nd0) (p:=p) (pos:=pos) (nx:=nx) (fun t ht=>by
  rcases List.mem_append.1 ht with ht|ht
  ·exact hv t ht
  ·rw [List.eq_of_mem_replicate ht];exact hnull) (fun t ht=>by
  rcases List.mem_append.1 ht with ht|ht
  ·exact hval t ht
  ·exact valid_null _ t ht) hp (by rw [objK_nulls];exact ho) m (by rw [costK_nulls];exact hm)
 rw [hE,costK_nulls] at h1
 have hf:(fun (m:Int) (i:Nat)=>val m 0 ((q:Int)+(A:Int)+(i:Int)))=fun (m:Int) (i:Nat)=>val m 0 (((p+pos:Nat):Int)+(i:Int)):=by
  funext m i
  congr 1
  omega
 refine⟨.mk 1 0 0 (bytesOf (datW [W] 0 q A)) ks',?_,?_⟩
 ·unfold structV
  simp only [Int.toNat_natCast]
  rw [hf,h1]
  simp
 ·rw [one_dat hd (padW_length hA),pad_bytes hb hA]
  exact trim_back h8 ht _ _ h2
theorem Has.els {W:List Int}{A b:Nat}:∀{ys:List Nd} {P:Nat} {pos nx:Int},(∀y∈ys,y.d.length≤8*A∧y.ks.length≤b)→Has W P (elsW A b pos nx ys)→∀j (hj:j<ys.length),
  Has W (P+j*(A+b)) (padW ys[j].d A)∧Has W (P+j*(A+b)+A) (ptrsW (pos+j*(A+b)+A) (nx+canK (kk (ys.take j))) (ys[j].ks++List.replicate (b-ys[j].ks.length) nd0))
 | [],_,_,_,_,_,j,hj=>by simp at hj
 | y::ys,P,pos,nx,hf,h,j,hj=>by
  have h0:=hf y (List.mem_cons_self ..)
  simp only [elsW] at h
  have h1:=h.left
  have h2:=h.right
  rw [padW_length h0.1] at h2
  have h3:=h2.left
  have h4:=h2.right
  rw [ptrsW_length,List.length_append,List.length_replicate] at h4
  cases j with
  | zero=>
   simp only [Nat.zero_mul,Nat.add_zero,List.getElem_cons_zero,List.take_zero]
   refine⟨h1,?_⟩
   have e1:pos+((0:Nat):Int)*((A:Int)+b)+A=pos+A:=by simp
   have e2:nx+canK (kk [])=nx:=by simp [kk,canK]
   rw [e1,e2]
   exact h3
  | succ j=>
   have ih:=Has.els (fun z hz=>hf z (List.mem_cons_of_mem _ hz)) h4 j (by simpa using hj)
   have e0:P+A+(y.ks.length+(b-y.ks.length))+j*(A+b)=P+(j+1)*(A+b):=by rw [Nat.add_mul];omega
   have e1:pos+(A:Int)+b+(j:Int)*((A:Int)+b)+A=pos+((j+1:Nat):Int)*((A:Int)+b)+A:=by
    have:((j+1:Nat):Int)*((A:Int)+b)=(j:Int)*((A:Int)+b)+((A:Int)+b):=by rw [Int.natCast_succ,Int.add_mul,Int.one_mul]
    rw [this]
    omega
   have e2:nx+canK y.ks+canK (kk (ys.take j))=nx+canK (kk ((y::ys).take (j+1))):=by
    have:kk ((y::ys).take (j+1))=y.ks++kk (ys.take j):=by simp [kk]
    rw [this,canK_append]
    omega
   rw [e0,e1,e2] at ih
   exact ih
theorem kkw_split (l:List Nd)(j:Nat)(h:j<l.length):kk l=kk (l.take j)++(l[j].ks++kk (l.drop (j+1))):=by
 have h1:l=l.take j++l[j]::l.drop (j+1):=by rw [List.getElem_cons_drop];exact(List.take_append_drop j l).symm
 calc kk l=kk (l.take j++l[j]::l.drop (j+1)):=by rw [←h1]
  _=_:=by unfold kk;rw [List.flatMap_append,List.flatMap_cons]
theorem els_read {val:Int→Int→Int→Val}{W:List Int}{ks:List Nd}{A b p nx:Nat}(hv:∀t∈kk ks,Reads val W t)(hnull:Reads val W nd0)(hval:∀t∈kk ks,validN t=true)(hfit:∀y∈ks,y.d.length≤8*A∧y.ks.length≤b)
  (hel:∀y∈ks,∃d' ks',y=.mk 1 0 0 d' ks'∧d'.length % 8=0∧Bts d'∧trimmedN y=true) (hp:Has W (p+1) (elsW A b 1 nx ks)) (ho:Has W (p+nx) (objK (kk ks))) (n c:Int) (m:Int) (hm:costK (kk ks)≤m) :
  ∃ks',runK (elemV val [W] ⟨2,0,((p+1:Nat):Int),A,b,7,n,c⟩) m ks.length=⟨ks',m-costK (kk ks),0⟩∧ks'.map trimN=ks:=by
 obtain⟨f,hfe⟩:∃f:Int→Nat→Val,f=elemV val [W] ⟨2,0,((p+1:Nat):Int),A,b,7,n,c⟩:=⟨_,rfl⟩
 rw [←hfe]
 have:∀j,j≤ks.length→∃ks',runK f m j=⟨ks',m-costK (kk (ks.take j)),0⟩∧ks'.map trimN=ks.take j:=by
  intro j
  induction j with
  | zero=>intro _;exact⟨[],by simp [runK,costK,canK,exK,kk],by simp⟩
  | succ j ih=>
   intro hj
   obtain⟨ks',h1,h2⟩:=ih (by omega)
   have hj2:j<ks.length:=by omega
   obtain⟨g1,g2⟩:=hp.els hfit j hj2
   have hsp:=kkw_split ks j hj2
   have g3:=ho
   rw [hsp,objK_append,objK_append] at g3
   have g4:=g3.right.left
   have hvt:∀t∈kk (ks.take j),validN t=true:=fun t ht=>hval t (by rw [hsp];exact List.mem_append_left _ ht)
   have hl:((objK (kk (ks.take j))).length:Int)=canK (kk (ks.take j)):=objK_length (fun y hy=>objW_length y (hvt y hy))
   have hkt:=kk_take ks j hj2
   have hc:costK (kk (ks.take (j+1)))=costK (kk (ks.take j))+costK ks[j].ks:=by rw [hkt,costK_append]
   have hle:costK (kk (ks.take (j+1)))≤costK (kk ks):=by
    have e:kk ks=kk (ks.take (j+1))++kk (ks.drop (j+1)):=by rw [hsp,hkt,List.append_assoc]
    have e2:kk (ks.take (j+1))=(kk ks).take (kk (ks.take (j+1))).length:=by rw [e,List.take_left]
    rw [e2]
    exact(costK_take_le hval _).2
   have hyv:∀t∈ks[j].ks,t∈kk ks:=fun t ht=>List.mem_flatMap.2 ⟨ks[j],List.getElem_mem hj2,ht⟩
   obtain⟨d',kk',hy,h8,hb,htr⟩:=hel ks[j] (List.getElem_mem hj2)
   obtain⟨hf1,hf2⟩:=hfit ks[j] (List.getElem_mem hj2)
   have hyd:ks[j].d=d':=by rw [hy];rfl
   have hyk:ks[j].ks=kk':=by rw [hy];rfl
   rw [hyd] at g1 hf1
   rw [hyk] at g2 g4 hc hf2 hyv
   rw [hy] at htr
   have e1:(1:Int)+(j:Int)*((A:Int)+b)+A=((1+j*(A+b)+A:Nat):Int):=by simp
   have e2:(nx:Int)+canK (kk (ks.take j))=((nx+(objK (kk (ks.take j))).length:Nat):Int):=by rw [←hl];simp
   rw [e1,e2] at g2
   obtain⟨v,h3,h4⟩:=struct_read (val:=val) (W:=W) (d:=d') (ks:=kk') (A:=A) (b:=b) (q:=p+1+j*(A+b)) (p:=p) (pos:=1+j*(A+b)+A) (nx:=nx+(objK (kk (ks.take j))).length)
    (fun t ht=>hv t (hyv t ht)) hnull (fun t ht=>hval t (hyv t ht)) (by omega) g1 hf1 h8 hb (by rw [show p+(1+j*(A+b)+A)=p+1+j*(A+b)+A by omega];exact g2) hf2 (by rw [←Nat.add_assoc];exact g4) htr (m-costK (kk (ks.take j))) 0 (by omega)
   have hf:f (m-costK (kk (ks.take j))) j=⟨v,m-costK (kk (ks.take j))-costK kk',0⟩:=by
    rw [hfe]
    unfold elemV
    rw [if_neg (show ¬((7:Int)=6) by decide)]
    have e:eleO ⟨2,0,((p+1:Nat):Int),A,b,7,n,c⟩ (j:Int)=⟨1,0,((p+1+j*(A+b):Nat):Int),A,b,0,0,0⟩:=by
     unfold eleO
     simp
    rw [e]
    exact h3
   refine⟨ks'++[v],?_,?_⟩
   ·rw [runK_ok (by rw [h1]) (by rw [h1,hf]),h1,hf]
    simp only [hc,Vls.mk.injEq,true_and,and_true]
    omega
   ·rw [List.map_append,h2,List.take_succ_eq_append_getElem hj2,List.map_singleton,h4,hy]
 obtain⟨ks',h1,h2⟩:=this ks.length (Nat.le_refl _)
 rw [List.take_length] at h1 h2
 exact⟨ks',h1,h2⟩
end Go.Proofs.YtfaflahfjgnphaaDoor
