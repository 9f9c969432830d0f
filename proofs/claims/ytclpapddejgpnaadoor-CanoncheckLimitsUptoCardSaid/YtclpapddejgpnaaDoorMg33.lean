/- The texts Write3, Write4, Chk2, Chk7, KcN (what is wanted of them), one after the other. -/
import Derived.Test.YtclpapddejgpnaaDoorMg28
import Derived.Test.YtclpapddejgpnaaDoorMg32
namespace Go.Proofs.YtclpapddejgpnaaDoor
open Go.ChangeShapes Go.WideShapes Go.ChangeAt Go.RowKit
set_option linter.unusedVariables false
set_option linter.unusedSimpArgs false
set_option maxRecDepth 100000
theorem one_in {W:List Int}{a n:Nat}(h:a+n≤W.length):inB [W] 0 (a:Int) (n:Int)=true:=by
 refine inB_iff.2 ⟨by omega,by simp,by omega,by omega,?_⟩
 show (a:Int)+n≤(W.length:Int)
 omega
theorem one_has {W:List Int}{a:Nat}(h:a<W.length):hasB [W] 0 (a:Int)=true:=by
 unfold hasB
 rw [decide_eq_true_iff]
 refine⟨by omega,by simp,by omega,?_⟩
 show (a:Int)<(W.length:Int)
 omega
theorem one_word {W:List Int}{a:Nat}(h:a<W.length):wordV [W] 0 (a:Int)=zat W a:=by
 unfold wordV
 rw [one_has h,if_pos rfl]
 rfl
theorem one_dat {W:List Int}{q n:Nat}{l:List Int}(h:Has W q l)(hl:l.length=n):datW [W] 0 (q:Int) (n:Int)=l:=by
 subst hl
 unfold datW
 rw [one_in h.1,if_pos rfl]
 show (W.drop (q:Int).toNat).take (l.length:Int).toNat=l
 rw [Int.toNat_natCast,Int.toNat_natCast]
 exact h.slice
theorem pad_bytes {d:List Int}(hb:Bts d){A:Nat}(h:d.length≤8*A):bytesOf (padW d A)=d++List.replicate (8*A-d.length) 0:=by
 unfold padW
 refine bytesOf_wordsOf _ ?_ ?_
 ·intro z hz
  rcases List.mem_append.1 hz with hz|hz
  ·exact hb z hz
  ·rw [List.eq_of_mem_replicate hz];omega
 ·rw [List.length_append,List.length_replicate];omega
theorem valid_null (q:Nat):∀t∈List.replicate q nd0,validN t=true:=by
 intro t ht
 rw [List.eq_of_mem_replicate ht]
 decide
theorem struct_read {val:Int→Int→Int→Val}{W:List Int}{d:List Int}{ks:List Nd}{A b q p pos nx:Nat}(hv:∀t∈ks,Reads val W t)(hnull:Reads val W nd0)(hval:∀t∈ks,validN t=true)(hq:q+A=p+pos)(hd:Has W q (padW d A))(hA:d.length≤8*A)(h8:d.length % 8=0)(hb:Bts d)
  (hp:Has W (p+pos) (ptrsW pos nx (ks++List.replicate (b-ks.length) nd0))) (hkb:ks.length≤b) (ho:Has W (p+nx) (objK ks)) (ht:trimmedN (.mk 1 0 0 d ks)=true) (m c:Int) (hm:costK ks≤m) :
  ∃v,structV val [W] m ⟨1,0,q,A,b,0,0,c⟩=⟨v,m-costK ks,0⟩∧trimN v=.mk 1 0 0 d ks:=by
 have hE:(ks++List.replicate (b-ks.length) nd0).length=b:=by rw [List.length_append,List.length_replicate];omega
 obtain⟨ks',h1,h2⟩:=kids_read (val:=val) (W:=W) (ts:=ks++List.replicate (b-ks.length) nd0) (p:=p) (pos:=pos) (nx:=nx) (fun t ht=>by
  rcases List.mem_append.1 ht with ht|ht
  ·exact hv t ht
  ·rw [List.eq_of_mem_replicate ht];exact hnull) (fun t ht=>by
  rcases List.mem_append.1 ht with ht|ht
  ·exact hval t ht
  ·exact valid_null _ t ht) hp (by rw [objK_nulls];exact ho) m (by rw [costK_nulls];exact hm)
 rw [hE,costK_nulls] at h1
 have hf:(fun (m:Int) (i:Nat)=>val m 0 ((q:Int)+(A:Int)+(i:Int)))=fun (m:Int) (i:Nat)=>val m 0 (((p+pos:Nat):Int)+(i:Int)):=by
  funext m i
  congr 1
  omega
 refine⟨.mk 1 0 0 (bytesOf (datW [W] 0 q A)) ks',?_,?_⟩
 ·unfold structV
  simp only [Int.toNat_natCast]
  rw [hf,h1]
  simp
 ·rw [one_dat hd (padW_length hA),pad_bytes hb hA]
  exact trim_back h8 ht _ _ h2
theorem Has.els {W:List Int}{A b:Nat}:∀{ys:List Nd} {P:Nat} {pos nx:Int},(∀y∈ys,y.d.length≤8*A∧y.ks.length≤b)→Has W P (elsW A b pos nx ys)→∀j (hj:j<ys.length),
  Has W (P+j*(A+b)) (padW ys[j].d A)∧Has W (P+j*(A+b)+A) (ptrsW (pos+j*(A+b)+A) (nx+canK (kk (ys.take j))) (ys[j].ks++List.replicate (b-ys[j].ks.length) nd0))
 | [],_,_,_,_,_,j,hj=>by simp at hj
 | y::ys,P,pos,nx,hf,h,j,hj=>by
  have h0:=hf y (List.mem_cons_self ..)
  simp only [elsW] at h
  have h1:=h.left
  have h2:=h.right
  rw [padW_length h0.1] at h2
  have h3:=h2.left
  have h4:=h2.right
  rw [ptrsW_length,List.length_append,List.length_replicate] at h4
  cases j with
  | zero=>
   simp only [Nat.zero_mul,Nat.add_zero,List.getElem_cons_zero,List.take_zero]
   refine⟨h1,?_⟩
   have e1:pos+((0:Nat):Int)*((A:Int)+b)+A=pos+A:=by simp
   have e2:nx+canK (kk [])=nx:=by simp [kk,canK]
   rw [e1,e2]
   exact h3
  | succ j=>
   have ih:=Has.els (fun z hz=>hf z (List.mem_cons_of_mem _ hz)) h4 j (by simpa using hj)
   have e0:P+A+(y.ks.length+(b-y.ks.length))+j*(A+b)=P+(j+1)*(A+b):=by rw [Nat.add_mul];omega
   have e1:pos+(A:Int)+b+(j:Int)*((A:Int)+b)+A=pos+((j+1:Nat):Int)*((A:Int)+b)+A:=by
    have:((j+1:Nat):Int)*((A:Int)+b)=(j:Int)*((A:Int)+b)+((A:Int)+b):=by rw [Int.natCast_succ,Int.add_mul,Int.one_mul]
    rw [this]
    omega
   have e2:nx+canK y.ks+canK (kk (ys.take j))=nx+canK (kk ((y::ys).take (j+1))):=by
    have:kk ((y::ys).take (j+1))=y.ks++kk (ys.take j):=by simp [kk]
    rw [this,canK_append]
    omega
   rw [e0,e1,e2] at ih
   exact ih
theorem kkw_split (l:List Nd)(j:Nat)(h:j<l.length):kk l=kk (l.take j)++(l[j].ks++kk (l.drop (j+1))):=by
 have h1:l=l.take j++l[j]::l.drop (j+1):=by rw [List.getElem_cons_drop];exact(List.take_append_drop j l).symm
 calc kk l=kk (l.take j++l[j]::l.drop (j+1)):=by rw [←h1]
  _=_:=by unfold kk;rw [List.flatMap_append,List.flatMap_cons]
theorem els_read {val:Int→Int→Int→Val}{W:List Int}{ks:List Nd}{A b p nx:Nat}(hv:∀t∈kk ks,Reads val W t)(hnull:Reads val W nd0)(hval:∀t∈kk ks,validN t=true)(hfit:∀y∈ks,y.d.length≤8*A∧y.ks.length≤b)
  (hel:∀y∈ks,∃d' ks',y=.mk 1 0 0 d' ks'∧d'.length % 8=0∧Bts d'∧trimmedN y=true) (hp:Has W (p+1) (elsW A b 1 nx ks)) (ho:Has W (p+nx) (objK (kk ks))) (n c:Int) (m:Int) (hm:costK (kk ks)≤m) :
  ∃ks',runK (elemV val [W] ⟨2,0,((p+1:Nat):Int),A,b,7,n,c⟩) m ks.length=⟨ks',m-costK (kk ks),0⟩∧ks'.map trimN=ks:=by
 obtain⟨f,hfe⟩:∃f:Int→Nat→Val,f=elemV val [W] ⟨2,0,((p+1:Nat):Int),A,b,7,n,c⟩:=⟨_,rfl⟩
 rw [←hfe]
 have:∀j,j≤ks.length→∃ks',runK f m j=⟨ks',m-costK (kk (ks.take j)),0⟩∧ks'.map trimN=ks.take j:=by
  intro j
  induction j with
  | zero=>intro _;exact⟨[],by simp [runK,costK,canK,exK,kk],by simp⟩
  | succ j ih=>
   intro hj
   obtain⟨ks',h1,h2⟩:=ih (by omega)
   have hj2:j<ks.length:=by omega
   obtain⟨g1,g2⟩:=hp.els hfit j hj2
   have hsp:=kkw_split ks j hj2
   have g3:=ho
   rw [hsp,objK_append,objK_append] at g3
   have g4:=g3.right.left
   have hvt:∀t∈kk (ks.take j),validN t=true:=fun t ht=>hval t (by rw [hsp];exact List.mem_append_left _ ht)
   have hl:((objK (kk (ks.take j))).length:Int)=canK (kk (ks.take j)):=objK_length (fun y hy=>objW_length y (hvt y hy))
   have hkt:=kk_take ks j hj2
   have hc:costK (kk (ks.take (j+1)))=costK (kk (ks.take j))+costK ks[j].ks:=by rw [hkt,costK_append]
   have hle:costK (kk (ks.take (j+1)))≤costK (kk ks):=by
    have e:kk ks=kk (ks.take (j+1))++kk (ks.drop (j+1)):=by rw [hsp,hkt,List.append_assoc]
    have e2:kk (ks.take (j+1))=(kk ks).take (kk (ks.take (j+1))).length:=by rw [e,List.take_left]
    rw [e2]
    exact(costK_take_le hval _).2
   have hyv:∀t∈ks[j].ks,t∈kk ks:=fun t ht=>List.mem_flatMap.2 ⟨ks[j],List.getElem_mem hj2,ht⟩
   obtain⟨d',kk',hy,h8,hb,htr⟩:=hel ks[j] (List.getElem_mem hj2)
   obtain⟨hf1,hf2⟩:=hfit ks[j] (List.getElem_mem hj2)
   have hyd:ks[j].d=d':=by rw [hy];rfl
   have hyk:ks[j].ks=kk':=by rw [hy];rfl
   rw [hyd] at g1 hf1
   rw [hyk] at g2 g4 hc hf2 hyv
   rw [hy] at htr
   have e1:(1:Int)+(j:Int)*((A:Int)+b)+A=((1+j*(A+b)+A:Nat):Int):=by simp
   have e2:(nx:Int)+canK (kk (ks.take j))=((nx+(objK (kk (ks.take j))).length:Nat):Int):=by rw [←hl];simp
   rw [e1,e2] at g2
   obtain⟨v,h3,h4⟩:=struct_read (val:=val) (W:=W) (d:=d') (ks:=kk') (A:=A) (b:=b) (q:=p+1+j*(A+b)) (p:=p) (pos:=1+j*(A+b)+A) (nx:=nx+(objK (kk (ks.take j))).length)
    (fun t ht=>hv t (hyv t ht)) hnull (fun t ht=>hval t (hyv t ht)) (by omega) g1 hf1 h8 hb (by rw [show p+(1+j*(A+b)+A)=p+1+j*(A+b)+A by omega];exact g2) hf2 (by rw [←Nat.add_assoc];exact g4) htr (m-costK (kk (ks.take j))) 0 (by omega)
   have hf:f (m-costK (kk (ks.take j))) j=⟨v,m-costK (kk (ks.take j))-costK kk',0⟩:=by
    rw [hfe]
    unfold elemV
    rw [if_neg (show ¬((7:Int)=6) by decide)]
    have e:eleO ⟨2,0,((p+1:Nat):Int),A,b,7,n,c⟩ (j:Int)=⟨1,0,((p+1+j*(A+b):Nat):Int),A,b,0,0,0⟩:=by
     unfold eleO
     simp
    rw [e]
    exact h3
   refine⟨ks'++[v],?_,?_⟩
   ·rw [runK_ok (by rw [h1]) (by rw [h1,hf]),h1,hf]
    simp only [hc,Vls.mk.injEq,true_and,and_true]
    omega
   ·rw [List.map_append,h2,List.take_succ_eq_append_getElem hj2,List.map_singleton,h4,hy]
 obtain⟨ks',h1,h2⟩:=this ks.length (Nat.le_refl _)
 rw [List.take_length] at h1 h2
 exact⟨ks',h1,h2⟩
theorem fol_read {W:List Int}{a:Nat}(ha:a<W.length)(hk:zat W a % 4≠2):followF [W] 0 (a:Int)=⟨zat W a,0,(a:Int)+1,0⟩:=by
 unfold followF
 have hb:(zat W a % 4==2)=false:=by simpa using hk
 rw [one_has ha,one_word ha,hb]
 simp
theorem val_null {W:List Int}{a:Nat}(ha:a<W.length)(hz:zat W a=0)(r:Nat)(m:Int):valV [W] r m 0 (a:Int)=⟨nd0,m,0⟩:=by
 have h:=fol_read ha (by rw [hz];decide)
 cases r with
 | zero=>unfold valV;rw [h,hz,if_pos (.inr rfl)];rfl
 | succ r=>unfold valV;rw [h,hz,if_pos (.inr rfl)];rfl
theorem val_obj {W:List Int}{a:Nat}(ha:a<W.length){q:Ptr}(hq:Vld q)(hk:q.k=0∨q.k=1)(hw:zat W a=encW q)(h0:encW q≠0)(r:Nat)(m:Int):
  valV [W] (r+1) m 0 (a:Int)=bodyV (valV [W] r) [W] m (objP [W] q 0 ((a:Int)+1)):=by
 have h4:zat W a % 4≠2:=by
  rw [hw]
  unfold encW
  rcases hk with hk|hk
  ·rw [if_pos hk];omega
  ·rw [if_neg (by omega),if_pos hk];omega
 have h:=fol_read ha h4
 have h1:¬((followF [W] 0 (a:Int)).e≠0∨(followF [W] 0 (a:Int)).w=0):=by
  rw [h]
  simp only [hw]
  intro h2
  rcases h2 with h2|h2
  ·exact h2 rfl
  ·exact h0 h2
 unfold valV
 rw [if_neg h1]
 unfold objF
 rw [if_neg h1,h]
 simp only [hw]
 rw [decP_encW q hq]
theorem depth_mem {l:List Nd}{r:Nat}(h:depthK l≤r):∀y∈l,depthN y≤r:=by
 induction l with
 | nil=>intro y hy;cases hy
 | cons x xs ih=>
  simp only [depthK] at h
  intro y hy
  rcases List.mem_cons.1 hy with rfl|hy
  ·omega
  ·exact ih (by omega) y hy
theorem reads_nd0 (W:List Int)(r:Nat):Reads (valV [W] r) W nd0:=by
 intro p a m ha hw hp hm
 refine⟨nd0,?_,rfl⟩
 have h0:costN nd0=0:=by decide
 rw [val_null ha (by rw [hw];rfl) r m,h0]
 simp
theorem padW_exact {d:List Int}(h8:d.length % 8=0):padW d (d.length / 8)=wordsOf d:=by
 unfold padW
 rw [show 8*(d.length / 8)-d.length=0 by omega]
 simp
theorem cost_le {x:Nd}(h:validN x=true):canO x+exO x+costK (targN x)=costN x∧0≤costK (targN x)∧0≤canO x∧0≤exO x:=by
 have h2:=costK_take_le (l:=targN x) (valid_targ h) (targN x).length
 rw [List.take_length] at h2
 exact⟨(costN_eq x).symm,h2.1,(canO_size h).1,exO_nonneg h⟩
theorem trimmed_mem14 {l:List Nd}(h:trimmedK l=true):∀y∈l,trimmedN y=true:=by
 intro y hy
 obtain⟨j,hj,rfl⟩:=List.getElem_of_mem hy
 rcases Bool.eq_false_or_eq_true (trimmedN l[j]) with h1|h1
 ·exact h1
 ·rw [trimmedK_no l j hj h1] at h;cases h
theorem trimmed_targ14 {x:Nd}(h:trimmedN x=true):∀y∈targN x,trimmedN y=true:=by
 obtain⟨k,e,n,d,ks⟩:=x
 simp only [trimmedN,Bool.and_eq_true] at h
 have h2:=trimmed_mem14 h.2
 intro y hy
 rw [targN_mk] at hy
 split at hy
 ·obtain⟨z,hz,hyz⟩:=List.mem_flatMap.1 hy
  have h3:=h2 z hz
  obtain⟨k',e',n',d',ks'⟩:=z
  simp only [trimmedN,Bool.and_eq_true] at h3
  exact trimmed_mem14 h3.2 y hyz
 ·exact h2 y hy
theorem ptrW_str (e n:Int)(d:List Int)(ks:List Nd)(o:Int):ptrW (.mk 1 e n d ks) o=encW ⟨0,if canO (.mk 1 e n d ks)=0 then -1 else o,((d.length / 8:Nat):Int),ks.length,0,0,false,0,0,0⟩:=by
 unfold ptrW ptrP
 simp only [Nd.k,Nd.d,Nd.ks]
 rw [if_neg (by decide),if_pos trivial]
theorem ptrW_lst (e n:Int)(d:List Int)(ks:List Nd)(o:Int):ptrW (.mk 2 e n d ks) o=encW ⟨1,o,0,0,e,if e=7 then canO (.mk 2 e n d ks)-1 else n,false,0,0,0⟩:=by
 unfold ptrW ptrP
 exact(if_neg (show ¬((2:Int)=0) by decide)).trans (congrArg encW (if_neg (show ¬((2:Int)=1) by decide)))
theorem str_read {d:List Int}{ks:List Nd}(hv:validN (.mk 1 0 0 d ks)=true)(ht:trimmedN (.mk 1 0 0 d ks)=true)(hb:bytN (.mk 1 0 0 d ks))(r:Nat)(W:List Int)(hW:W.length≤536870911)(hk:∀t∈ks,Reads (valV [W] r) W t):Reads (valV [W] (r+1)) W (.mk 1 0 0 d ks):=by
 intro p a m ha hw hp hm
 obtain⟨-,-,h8,hd5,hk5⟩:=head_str hv
 obtain⟨hc,hc0,hc1,-⟩:=cost_le hv
 have hT:targN (.mk 1 0 0 d ks)=ks:=by rw [targN_mk,if_neg (by decide)]
 have hO:canO (.mk 1 0 0 d ks)=((d.length / 8+ks.length:Nat):Int):=rfl
 have hE:exO (.mk 1 0 0 d ks)=0:=rfl
 rw [hT,hO,hE] at hc
 rw [hT] at hc0
 have hbl:=body_length hv
 rw [objW_eq,hT] at hp
 rw [hO] at hbl
 have hp1:Has W p (wordsOf d++ptrsW ((d.length / 8:Nat):Int) (((d.length / 8+ks.length:Nat):Int)) ks):=hp.left
 have hp2:=hp.right
 have hlen:=hp.left.1
 have hpv:∀t∈ks,validN t=true:=fun t hm=>valid_targ hv t (by rw [hT];exact hm)
 have hwd:=hp1.left
 have hpt:=hp1.right
 rw [wordsOf_length] at hpt
 have hv0:=Vld
 by_cases h0:d.length / 8+ks.length=0
 ·have hd0:d=[]:=List.eq_nil_of_length_eq_zero (by omega)
  have hk0:ks=[]:=List.eq_nil_of_length_eq_zero (by omega)
  subst hd0 hk0
  have hw2:zat W a=encW ⟨0,-1,0,0,0,0,false,0,0,0⟩:=by
   rw [hw,ptrW_str,if_pos (by rw [hO];rfl)]
   rfl
  refine⟨.mk 1 0 0 [] [],?_,rfl⟩
  rw [val_obj ha (q:=⟨0,-1,0,0,0,0,false,0,0,0⟩) (.inl (by decide)) (.inl rfl) hw2 (by decide) r m]
  have hin:inB [W] 0 ((a:Int)+1+-1) (0+0)=true:=by
   have:=one_in (W:=W) (a:=a) (n:=0) (by omega)
   rw [show (a:Int)+1+-1=a by omega]
   exact this
  unfold objP
  simp only
  rw [if_neg (by decide),if_pos trivial,if_pos hin]
  unfold bodyV
  simp only
  have hcz:costN (.mk 1 0 0 [] [])=0:=by decide
  rw [if_neg (by simp),if_neg (by rw [hcz] at hm;omega),if_pos trivial]
  unfold structV
  have hdz:datW [W] 0 ((a:Int)+1+-1) 0=[]:=by
   have:=one_dat (W:=W) (q:=a) (n:=0) (l:=[]) ⟨by simp;omega,fun i hi=>by simp at hi⟩ rfl
   rw [show (a:Int)+1+-1=a by omega]
   exact this
  simp only [Int.toNat_zero,runK,hdz,hcz]
  simp [bytesOf]
 ·have hw2:zat W a=encW ⟨0,(p:Int)-a-1,((d.length / 8:Nat):Int),(ks.length:Int),0,0,false,0,0,0⟩:=by
   rw [hw,ptrW_str,if_neg (by rw [hO];omega)]
  have hq:Vld ⟨0,(p:Int)-a-1,((d.length / 8:Nat):Int),(ks.length:Int),0,0,false,0,0,0⟩:=by
   left
   simp only
   refine⟨trivial,by omega,by omega,by omega,by omega,by omega,by omega,?_⟩
   simp
  have hne:encW ⟨0,(p:Int)-a-1,((d.length / 8:Nat):Int),(ks.length:Int),0,0,false,0,0,0⟩≠0:=by
   unfold encW
   simp only
   rw [if_pos trivial]
   omega
  rw [val_obj ha hq (.inl rfl) hw2 hne r m]
  have hin:inB [W] 0 ((a:Int)+1+((p:Int)-a-1)) (((d.length / 8:Nat):Int)+(ks.length:Int))=true:=by
   have:=one_in (W:=W) (a:=p) (n:=d.length / 8+ks.length) (by omega)
   rw [show (a:Int)+1+((p:Int)-a-1)=p by omega]
   simpa using this
  unfold objP
  simp only
  rw [if_neg (by decide),if_pos trivial,if_pos hin]
  unfold bodyV
  simp only
  rw [if_neg (by simp),if_neg (by omega),if_pos trivial,show (a:Int)+1+((p:Int)-a-1)=p by omega]
  have hbd:=bytN_d hb
  obtain⟨v,h1,h2⟩:=struct_read (val:=valV [W] r) (W:=W) (d:=d) (ks:=ks) (A:=d.length / 8) (b:=ks.length) (q:=p) (p:=p) (pos:=d.length / 8) (nx:=d.length / 8+ks.length) hk (reads_nd0 W r) hpv rfl (by rw [padW_exact h8];exact hwd) (by omega) h8 hbd (by rw [Nat.sub_self,List.replicate_zero,List.append_nil];exact hpt) (Nat.le_refl _)
   (by rw [show p+(d.length / 8+ks.length)=p+(bodyN (.mk 1 0 0 d ks)).length by omega];exact hp2) ht (m-(((d.length / 8:Nat):Int)+(ks.length:Int))) (((d.length / 8:Nat):Int)+(ks.length:Int)) (by omega)
  refine⟨v,?_,h2⟩
  rw [h1]
  simp only [Val.mk.injEq,true_and,and_true]
  omega
theorem enc_lst (o e c:Int):encW ⟨1,o,0,0,e,c,false,0,0,0⟩≠0:=by
 unfold encW
 simp only
 rw [if_neg (show ¬((1:Int)=0) by decide),if_pos trivial]
 omega
theorem obj_lst {W:List Int}{p a:Nat}{e n c:Int}(he:e≠7)(hc:wordsI e n=c)(h0:0≤c)(hW:p+c.toNat≤W.length):objP [W] ⟨1,(p:Int)-a-1,0,0,e,n,false,0,0,0⟩ 0 ((a:Int)+1)=(⟨2,0,p,0,0,e,n,c⟩,0):=by
 have hin:inB [W] 0 (p:Int) c=true:=by
  have:=one_in (W:=W) (a:=p) (n:=c.toNat) hW
  rw [Int.toNat_of_nonneg h0] at this
  exact this
 unfold objP
 simp only
 rw [if_neg (by decide),if_neg (by decide),show (a:Int)+1+((p:Int)-a-1)=p by omega,hc,hin,if_neg (by simp),if_neg he]
theorem trimL_pad {d:List Int}{e n:Int}(q:Nat)(h:bytesI e n=d.length):trimL (d++List.replicate q 0) e n=trimL d e n:=by
 apply ext_zat (by rw [trimL_length,trimL_length])
 intro i hi
 rw [trimL_length] at hi
 rw [trimL_zat _ _ _ _ hi,trimL_zat _ _ _ _ hi]
 unfold trimAt
 rw [zat_append_left _ _ _ (by omega)]
theorem lst_read {e n:Int}{d:List Int}{ks:List Nd}(hv:validN (.mk 2 e n d ks)=true)(he:e<6)(hb:bytN (.mk 2 e n d ks))(r:Nat)(W:List Int)(hW:W.length≤536870911):Reads (valV [W] (r+1)) W (.mk 2 e n d ks):=by
 intro p a m ha hw hp hm
 obtain⟨g1,g2,g3,g4,-,g6⟩:=head_lst hv
 obtain⟨g7,g8,g9⟩:=g6 he
 obtain rfl:ks=[]:=List.eq_nil_of_length_eq_zero g7
 obtain⟨hc,hc0,hc1,-⟩:=cost_le hv
 have hT:targN (.mk 2 e n d [])=[]:=by rw [targN_mk,if_neg (by omega)]
 have hO:canO (.mk 2 e n d [])=wordsI e n:=by show canOf 2 e n d []=_;unfold canOf;rw [if_neg (show ¬((2:Int)=0) by decide),if_neg (show ¬((2:Int)=1) by decide),if_neg (by omega)]
 have hE:exO (.mk 2 e n d [])=0:=by unfold exO;rw [if_neg];rintro⟨-,h,-⟩;simp only [Nd.e] at h;omega
 rw [hT,hO,hE] at hc
 rw [hO] at hc1
 have hk0:costK []=0:=by simp [costK,canK,exK]
 rw [hk0] at hc
 have hbl:=body_length hv
 rw [objW_eq,hT] at hp
 have hp1:=hp.left
 have hlen:=hp1.1
 rw [hO] at hbl
 have hbn:bodyN (.mk 2 e n d [])=padW d (wordsI e n).toNat:=by
  show bodyW 2 e n d []=_
  unfold bodyW
  rw [if_neg (show ¬((2:Int)=0) by decide),if_neg (show ¬((2:Int)=1) by decide),if_neg (by omega),if_neg (by omega)]
 rw [hbn] at hp1 hlen hbl
 have hbi:=bitsI_mul e n g1
 have hwI:wordsI e n=(bitsI e*n+63) / 64:=by unfold wordsI;rw [if_neg (by omega)]
 have hBI:bytesI e n=(bitsI e*n+7) / 8:=rfl
 have hA:d.length≤8*(wordsI e n).toNat:=by omega
 rw [padW_length hA] at hlen
 have hw2:zat W a=encW ⟨1,(p:Int)-a-1,0,0,e,n,false,0,0,0⟩:=by rw [hw,ptrW_lst,if_neg (by omega)]
 have hq:Vld ⟨1,(p:Int)-a-1,0,0,e,n,false,0,0,0⟩:=by
  right;left
  simp only
  refine⟨trivial,by omega,by omega,trivial,trivial,by omega,by omega,by omega,by omega,?_⟩
  simp
 rw [val_obj ha hq (.inr rfl) hw2 (enc_lst _ _ _) r m,obj_lst (by omega) rfl hc1 hlen]
 unfold bodyV
 simp only
 rw [if_neg (by simp),if_neg (by omega),if_neg (by decide),if_pos he]
 refine⟨_,by rw [show m-wordsI e n=m-costN (.mk 2 e n d []) by omega],?_⟩
 have hd:datW [W] 0 (p:Int) (wordsI e n)=padW d (wordsI e n).toNat:=by
  have:=one_dat hp1 (padW_length hA)
  rw [Int.toNat_of_nonneg hc1] at this
  exact this
 have hbd:Bts d:=bytN_d hb
 rw [hd,pad_bytes hbd hA]
 show trimN (.mk 2 e n (trimL (d++_) e n) [])=_
 rw [trimL_pad _ g8.symm,g9]
 simp [trimN,trimK]
theorem plist_read {n:Int}{d:List Int}{ks:List Nd}(hv:validN (.mk 2 6 n d ks)=true)(r:Nat)(W:List Int)(hW:W.length≤536870911)(hk:∀t∈ks,Reads (valV [W] r) W t):Reads (valV [W] (r+1)) W (.mk 2 6 n d ks):=by
 intro p a m ha hw hp hm
 obtain⟨g1,g2,-,-,g5,-⟩:=head_lst hv
 obtain⟨g7,g8⟩:=g5 (by decide)
 obtain rfl:d=[]:=List.eq_nil_of_length_eq_zero g7
 obtain⟨hc,hc0,hc1,-⟩:=cost_le hv
 have hT:targN (.mk 2 6 n [] ks)=ks:=by rw [targN_mk,if_neg (by omega)]
 have hwI:wordsI 6 n=n:=by simp [wordsI,bitsI];omega
 have hO:canO (.mk 2 6 n [] ks)=n:=by
  have h0:canO (.mk 2 6 n [] ks)=wordsI 6 n:=rfl
  rw [h0,hwI]
 have hE:exO (.mk 2 6 n [] ks)=0:=rfl
 rw [hT,hO,hE] at hc
 rw [hT] at hc0
 have hbl:=body_length hv
 rw [objW_eq,hT] at hp
 rw [hO] at hbl
 have hp2:=hp.right
 have hp1:Has W p (ptrsW 0 (canO (.mk 2 6 n [] ks)) ks):=hp.left
 have hlen:=hp.left.1
 have hpv:∀t∈ks,validN t=true:=fun t hm=>valid_targ hv t (by rw [hT];exact hm)
 have hw2:zat W a=encW ⟨1,(p:Int)-a-1,0,0,6,n,false,0,0,0⟩:=by rw [hw,ptrW_lst,if_neg (by decide)]
 have hq:Vld ⟨1,(p:Int)-a-1,0,0,6,n,false,0,0,0⟩:=by
  right;left
  simp only
  refine⟨trivial,by omega,by omega,trivial,trivial,by omega,by omega,by omega,by omega,?_⟩
  simp
 rw [val_obj ha hq (.inr rfl) hw2 (enc_lst _ _ _) r m,obj_lst (c:=n) (by decide) hwI (by omega) (by omega)]
 unfold bodyV
 simp only
 rw [if_neg (by simp),if_neg (by omega),if_neg (by decide),if_neg (by decide)]
 obtain⟨ks',h1,h2⟩:=kids_read (val:=valV [W] r) (W:=W) (ts:=ks) (p:=p) (pos:=0) (nx:=ks.length) hk hpv (by rw [hO,←g8] at hp1;exact hp1) (by rw [show p+ks.length=p+(bodyN (.mk 2 6 n [] ks)).length by omega];exact hp2) (m-n) (by omega)
 have hf:elemV (valV [W] r) [W] ⟨2,0,(p:Int),0,0,6,n,n⟩=fun (m:Int) (i:Nat)=>valV [W] r m 0 (((p+0:Nat):Int)+(i:Int)):=by
  funext m i
  unfold elemV
  rw [if_pos rfl]
  simp
 refine⟨.mk 2 6 n [] ks',?_,?_⟩
 ·unfold listV
  simp only
  rw [show n.toNat=ks.length by omega,hf,h1]
  simp only [ne_eq,not_true,if_false,Val.mk.injEq,true_and,and_true]
  omega
 ·simp only [trimN]
  rw [if_neg (by decide),if_neg (by decide),trimK_map,h2]
theorem clist_read {n:Int}{d:List Int}{ks:List Nd}(hv:validN (.mk 2 7 n d ks)=true)(ht:trimmedN (.mk 2 7 n d ks)=true)(hb:bytN (.mk 2 7 n d ks))(r:Nat)(W:List Int)(hW:W.length≤536870911)(hk:∀t∈kk ks,Reads (valV [W] r) W t):Reads (valV [W] (r+1)) W (.mk 2 7 n d ks):=by
 intro p a m ha hw hp hm
 obtain⟨g1,g2,-,-,g5,-⟩:=head_lst hv
 obtain⟨g7,g8⟩:=g5 (by decide)
 obtain rfl:d=[]:=List.eq_nil_of_length_eq_zero g7
 obtain⟨hc,hc0,hc1,hc2⟩:=cost_le hv
 have hfit:=comp_fit hv
 obtain⟨hu1,hu2⟩:=uni_bd hv
 have hT:targN (.mk 2 7 n [] ks)=kk ks:=by rw [targN_mk,if_pos ⟨rfl,rfl⟩]
 have hpv:∀t∈kk ks,validN t=true:=fun t hm=>valid_targ hv t (by rw [hT];exact hm)
 have hel:∀y∈ks,∃d' ks',y=.mk 1 0 0 d' ks'∧d'.length % 8=0∧Bts d'∧trimmedN y=true:=by
  intro y hy
  obtain⟨hyv,-⟩:=valid_mem hv hy
  have hyk:=(valid_elem hv hy).1
  have hyb:=bytN_ks hb y hy
  have hyt:trimmedN y=true:=by
   simp only [trimmedN,Bool.and_eq_true] at ht
   exact trimmed_mem14 ht.2 y hy
  obtain⟨k',e',n',d',ks'⟩:=y
  simp only [Nd.k] at hyk
  subst hyk
  obtain⟨h1,h2,h3,-,-⟩:=head_str hyv
  subst h1 h2
  exact⟨d',ks',rfl,h3,bytN_d hyb,hyt⟩
 have hbl:=body_length hv
 rw [objW_eq,hT] at hp
 rw [hT] at hc hc0
 obtain⟨A,hAe⟩:∃A,uniD ks ks.length=A:=⟨_,rfl⟩
 obtain⟨b,hbe⟩:∃b,uniP ks ks.length=b:=⟨_,rfl⟩
 have hO:canO (.mk 2 7 n [] ks)=1+n*((A+b:Nat):Int):=by
  rw [←hAe,←hbe]
  show canOf 2 7 n [] ks=_
  unfold canOf
  rw [if_neg (show ¬((2:Int)=0) by decide),if_neg (show ¬((2:Int)=1) by decide),if_pos rfl]
 have hE:exO (.mk 2 7 n [] ks)=if A+b=0 then n else 0:=by
  rw [←hAe,←hbe]
  unfold exO
  show (if (2:Int)=2∧(7:Int)=7∧uniD ks ks.length+uniP ks ks.length=0 then n else 0)=_
  by_cases h:uniD ks ks.length+uniP ks ks.length=0
  ·rw [if_pos ⟨rfl,rfl,h⟩,if_pos h]
  ·rw [if_neg (fun h2=>h h2.2.2),if_neg h]
 have hp2:=hp.right
 have hp1:Has W p (tagW n (uniD ks ks.length) (uniP ks ks.length)::elsW (uniD ks ks.length) (uniP ks ks.length) 1 (canO (.mk 2 7 n [] ks)) ks):=hp.left
 have hlen:=hp.left.1
 rw [hAe,hbe] at hp1
 rw [hAe] at hu1
 rw [hbe] at hu2
 rw [hAe,hbe] at hfit
 obtain⟨S,hS⟩:∃S,n*((A+b:Nat):Int)=S:=⟨_,rfl⟩
 have hS0:0≤S:=by rw [←hS];exact Int.mul_nonneg g1 (by omega)
 rw [hS] at hO
 obtain⟨q1,q2,q3⟩:=hp1.head
 have hw2:zat W a=encW ⟨1,(p:Int)-a-1,0,0,7,S,false,0,0,0⟩:=by rw [hw,ptrW_lst,if_pos rfl,hO];congr 2;omega
 have hq:Vld ⟨1,(p:Int)-a-1,0,0,7,S,false,0,0,0⟩:=by
  right;left
  simp only
  refine⟨trivial,by omega,by omega,trivial,trivial,by omega,by omega,by omega,by omega,?_⟩
  simp
 have hqt:Vld ⟨0,n,(A:Int),(b:Int),0,0,false,0,0,0⟩:=by
  left
  simp only
  refine⟨trivial,by omega,by omega,by omega,by omega,by omega,by omega,?_⟩
  simp
 have hobj:objP [W] ⟨1,(p:Int)-a-1,0,0,7,S,false,0,0,0⟩ 0 ((a:Int)+1)=(⟨2,0,((p+1:Nat):Int),A,b,7,n,if A+b=0 then S+1+n else S+1⟩,0):=by
  have hin:inB [W] 0 (p:Int) (wordsI 7 S)=true:=by
   have h7:wordsI 7 S=((S.toNat+1:Nat):Int):=by unfold wordsI;rw [if_pos rfl];omega
   rw [h7]
   exact one_in (by omega)
  unfold objP
  simp only
  rw [if_neg (by decide),if_neg (by decide),show (a:Int)+1+((p:Int)-a-1)=p by omega,hin,if_neg (by simp),if_pos trivial]
  unfold compF
  rw [one_word q1,q2]
  unfold tagW
  rw [decP_encW _ hqt]
  simp only
  have hnm:n*((A:Int)+(b:Int))=S:=by rw [←hS];simp
  rw [if_neg (by rw [hnm];omega)]
  have h7:wordsI 7 S=S+1:=by unfold wordsI;rw [if_pos rfl]
  rw [h7]
  by_cases h:A+b=0
  ·rw [if_pos h,if_pos (by omega)];simp
  ·rw [if_neg h,if_neg (by omega)];simp
 rw [val_obj ha hq (.inr rfl) hw2 (enc_lst _ _ _) r m,hobj]
 have hcost:(if A+b=0 then S+1+n else S+1)=canO (.mk 2 7 n [] ks)+exO (.mk 2 7 n [] ks):=by rw [hO,hE];split<;>omega
 rw [hcost]
 unfold bodyV
 simp only
 rw [if_neg (by simp),if_neg (by omega),if_neg (by decide),if_neg (by decide)]
 obtain⟨ks',h1,h2⟩:=els_read (val:=valV [W] r) (W:=W) (ks:=ks) (A:=A) (b:=b) (p:=p) (nx:=(bodyN (.mk 2 7 n [] ks)).length) hk (reads_nd0 W r) hpv hfit hel (by rw [hbl];exact q3) hp2 n (canO (.mk 2 7 n [] ks)+exO (.mk 2 7 n [] ks)) (m-(canO (.mk 2 7 n [] ks)+exO (.mk 2 7 n [] ks))) (by omega)
 refine⟨.mk 2 7 n [] ks',?_,?_⟩
 ·unfold listV
  simp only
  rw [show n.toNat=ks.length by omega,h1]
  simp only [ne_eq,not_true,if_false,Val.mk.injEq,true_and,and_true]
  omega
 ·simp only [trimN]
  rw [if_neg (by decide),if_neg (by decide),trimK_map,h2]
theorem write_read:∀x:Nd,validN x=true→trimmedN x=true→bytN x→∀(r:Nat) (W:List Int),depthN x≤r→W.length≤536870911→Reads (valV [W] r) W x:=size_ind (by
 intro x ih hv ht hb r W hr hW
 have hk:=valid_k hv
 have hdx:=depthN_eq x
 have hsub:∀t∈targN x,x.k≠0→Reads (valV [W] (r-1)) W t:=fun t hm h0=>ih t (targ_lt hm) (valid_targ hv t hm) (trimmed_targ14 ht t hm) (bytN_targ hb t hm) (r-1) W (by
  rw [if_neg h0] at hdx
  exact depth_mem (r:=r-1) (by omega) t hm) hW
 rcases hk with h0|h1|h2
 ·obtain⟨k,e,n,d,ks⟩:=x
  simp only [Nd.k] at h0
  subst h0
  rw [head_nul hv]
  exact reads_nd0 W r
 ·rw [if_neg (by omega)] at hdx
  have hs:=fun t hm=>hsub t hm (by omega)
  obtain⟨r',rfl⟩:∃r',r=r'+1:=⟨r-1,by omega⟩
  obtain⟨k,e,n,d,ks⟩:=x
  simp only [Nd.k] at h1
  subst h1
  obtain⟨h1,h2,-⟩:=head_str hv
  subst h1 h2
  have hT:targN (.mk 1 0 0 d ks)=ks:=by rw [targN_mk,if_neg (by decide)]
  rw [hT] at hs
  exact str_read hv ht hb r' W hW hs
 ·rw [if_neg (by omega)] at hdx
  have hs:=fun t hm=>hsub t hm (by omega)
  obtain⟨r',rfl⟩:∃r',r=r'+1:=⟨r-1,by omega⟩
  obtain⟨k,e,n,d,ks⟩:=x
  simp only [Nd.k] at h2
  subst h2
  obtain⟨-,-,g3,g4,-,-⟩:=head_lst hv
  rcases(by omega:e<6∨e=6∨e=7) with h|rfl|rfl
  ·exact lst_read hv h hb r' W hW
  ·have hT:targN (.mk 2 6 n d ks)=ks:=by rw [targN_mk,if_neg (by omega)]
   rw [hT] at hs
   exact plist_read hv r' W hW hs
  ·have hT:targN (.mk 2 7 n d ks)=kk ks:=by rw [targN_mk,if_pos ⟨rfl,rfl⟩]
   rw [hT] at hs
   exact clist_read hv ht hb r' W hW hs)
theorem write_val {x:Nd}(hv:validN x=true)(ht:trimmedN x=true)(hb:bytN x)(hs:canN x≤536870910){r:Nat}(hr:depthN x≤r){m:Int}(hm:costN x≤m):∃v,valV [writeF x] r m 0 0=⟨v,m-costN x,0⟩∧trimN v=x:=by
 have hl:=writeF_length hv
 have h:=write_read x hv ht hb r (writeF x) hr (by omega) 1 0 m (by simp [writeF]) (by show ptrW x 0=_;congr 1) (Has.self (writeF x)).head.2.2 hm
 exact h
theorem byteOf_zero (j:Nat):byteOf 0 j=0:=by simp [byteOf]
theorem lastW {l:List Int}{A:Nat}(hl:Wds l)(hA:l.length=A):wordsT (bytesOf l)=A↔(A=0∨zat l (A-1)≠0):=by
 have hb:=bytesOf_length l
 have hle:=wordsT_le (bytesOf l) (by omega)
 rcases Nat.eq_zero_or_pos A with h0|h0
 ·exact⟨fun _=>.inl h0,fun _=>by omega⟩
 constructor
 ·intro h
  refine .inr (fun hz=>?_)
  have h1:wordsT (bytesOf l)≤A-1:=(wordsT_iff _ _).2 (fun t ht hn=>by
   rw [show t=8*(t / 8)+t % 8 by omega,bytesOf_zat l (t / 8) (t % 8) (by omega) (by omega)] at hn
   by_cases e:t / 8=A-1
   ·rw [e,hz,byteOf_zero] at hn
    exact absurd rfl hn
   ·omega)
  omega
 ·rintro(h|h)
  ·omega
  ·refine Classical.byContradiction fun hn=>h ?_
   have h1:wordsT (bytesOf l)≤A-1:=by omega
   have h2:=(wordsT_iff _ _).1 h1
   have h3:∀j,j<8→byteOf (zat l (A-1)) j=0:=fun j hj=>Classical.byContradiction fun hb0=>by
    have:=h2 (8*(A-1)+j) (by omega) (by rw [bytesOf_zat l (A-1) j (by omega) hj];exact hb0)
    omega
   have h4:=wordAt_bytesOf l hl (A-1) (by omega)
   rw [←h4]
   have h5:∀j,j<8→zat (bytesOf l) (8*(A-1)+j)=0:=fun j hj=>by rw [bytesOf_zat l (A-1) j (by omega) hj];exact h3 j hj
   unfold wordAt
   simp [leF,h5 0 (by omega),h5 1 (by omega),h5 2 (by omega),h5 3 (by omega),h5 4 (by omega),h5 5 (by omega),h5 6 (by omega),h5 7 (by omega)]
   exact h5 0 (by omega)
theorem lastK {ks:List Nd}{b:Nat}(hb:ks.length=b):ptrsT ks=b↔(b=0∨kAt ks (b-1)≠0):=by
 subst hb
 unfold ptrsT
 cases h:ks.length with
 | zero=>simp [ptrsF]
 | succ n=>
  have hle:=ptrsF_le ks n
  simp only [ptrsF,Nat.add_sub_cancel]
  by_cases hk:kAt ks n=0
  ·rw [if_pos hk]
   constructor
   ·intro h;omega
   ·rintro(h|h)
    ·omega
    ·exact absurd hk h
  ·rw [if_neg hk]
   exact⟨fun _=>.inr hk,fun _=>rfl⟩
theorem ptrW_zero {t:Nd}(h:validN t=true)(o:Int):ptrW t o=0↔t.k=0:=by
 obtain⟨k,e,n,d,ks⟩:=t
 constructor
 ·intro h0
  rcases valid_k h with hk|hk|hk
  ·exact hk
  ·simp only [Nd.k] at hk
   subst hk
   obtain⟨h1,h2,h8,h5,h6⟩:=head_str h
   subst h1 h2
   exfalso
   rw [ptrW_str] at h0
   unfold encW at h0
   simp only at h0
   rw [if_pos trivial] at h0
   have hO:canO (.mk 1 0 0 d ks)=((d.length / 8+ks.length:Nat):Int):=rfl
   rw [hO] at h0
   split at h0<;>omega
  ·simp only [Nd.k] at hk
   subst hk
   rw [ptrW_lst] at h0
   exact absurd h0 (enc_lst _ _ _)
 ·intro hk
  unfold ptrW
  rw [if_pos hk]
theorem trim_struct (d:List Int)(ks:List Nd):trimN (.mk 1 0 0 d ks)=.mk 1 0 0 (d.take (8*wordsT d)) ((trimK ks).take (ptrsT ks)):=by
 simp only [trimN]
 rw [if_pos trivial,if_pos trivial]
theorem validK_trim {ks:List Nd}(h:∀y∈ks,validN y=true):∀y∈trimK ks,validN y=true:=by
 intro y hy
 rw [trimK_map] at hy
 obtain⟨z,hz,rfl⟩:=List.mem_map.1 hy
 exact valid_trim z (h z hz)
theorem datW_has {W:List Int}{q A:Nat}(h:q+A≤W.length):(datW [W] 0 (q:Int) (A:Int)).length=A∧Has W q (datW [W] 0 (q:Int) (A:Int)):=by
 have h1:datW [W] 0 (q:Int) (A:Int)=(W.drop q).take A:=by
  unfold datW
  rw [if_pos (one_in h)]
  simp [sliceL,seg]
 rw [h1]
 have hl:((W.drop q).take A).length=A:=by rw [List.length_take,List.length_drop];omega
 refine⟨hl,by omega,fun i hi=>?_⟩
 rw [hl] at hi
 rw [zat_take _ _ _ hi,zat_drop]
theorem struct_lay {W:List Int}{q A b:Nat}{ks:List Nd}(hW:Wds W)(hlen:q+A+b≤W.length)(hb:ks.length=b)(hv:∀y∈ks,validN y=true):
  ((A=0∨zat W (q+A-1)≠0)∧(b=0∨zat W (q+A+b-1)≠0)∧LayK W (q+A+b) (q+A) (trimK ks)) ↔
  ((trimN (.mk 1 0 0 (bytesOf (datW [W] 0 (q:Int) (A:Int))) ks)).d.length=8*A∧(trimN (.mk 1 0 0 (bytesOf (datW [W] 0 (q:Int) (A:Int))) ks)).ks.length=b∧Has W q (objW (trimN (.mk 1 0 0 (bytesOf (datW [W] 0 (q:Int) (A:Int))) ks)))):=by
 obtain⟨hdl,hdh⟩:=datW_has (W:=W) (q:=q) (A:=A) (by omega)
 have hwd:Wds (datW [W] 0 (q:Int) (A:Int)):=by
  intro z hz
  obtain⟨i,hi,rfl⟩:=List.getElem_of_mem hz
  have h1:=hdh.2 i hi
  have h2:zat (datW [W] 0 (q:Int) (A:Int)) i=(datW [W] 0 (q:Int) (A:Int))[i]:=by simp [zat,List.getD_eq_getElem?_getD,hi]
  rw [←h2,←h1]
  have h3:q+i<W.length:=by omega
  have h4:zat W (q+i)=W[q+i]:=by simp [zat,List.getD_eq_getElem?_getD,h3]
  rw [h4]
  exact hW _ (List.getElem_mem h3)
 have hlast:=lastW hwd hdl
 have hz:A≠0→zat (datW [W] 0 (q:Int) (A:Int)) (A-1)=zat W (q+A-1):=fun h=>by
  rw [←hdh.2 (A-1) (by omega)]
  congr 1
  omega
 have hbl:=bytesOf_length (datW [W] 0 (q:Int) (A:Int))
 have hwb:=wordsOf_bytesOf _ hwd
 generalize datW [W] 0 (q:Int) (A:Int)=l at *
 rw [trim_struct]
 simp only [Nd.d,Nd.ks]
 have htl:=trimK_length ks
 have hpl:=ptrsT_le ks
 have hwl:=wordsT_le (bytesOf l) (by omega)
 rw [List.length_take,List.length_take]
 have hlk:=lastK hb
 have hkk:b≠0→∀(h:b-1<(trimK ks).length),kAt ks (b-1)=((trimK ks)[b-1]'h).k:=fun h0 h=>by
  rw [kAt_get (by omega),trimK_get ks (b-1) (by omega),trimN_k]
 have hA:(A=0∨zat W (q+A-1)≠0)↔wordsT (bytesOf l)=A:=by
  rw [hlast]
  by_cases h:A=0
  ·simp [h]
  ·rw [hz h]
 have hvt:=validK_trim hv
 have hlay:=layK_iff (W:=W) (ts:=trimK ks) (P:=q+A) (nx:=q+A+b) (pos:=(A:Int)) (x:=((A+b:Nat):Int)) hvt (by omega) hlen (by omega)
 have hfull:wordsT (bytesOf l)=A→ptrsT ks=b→(Has W q (objW (.mk 1 0 0 ((bytesOf l).take (8*wordsT (bytesOf l))) ((trimK ks).take (ptrsT ks))))↔LayK W (q+A+b) (q+A) (trimK ks)):=by
  intro h1 h2
  have e1:(bytesOf l).take (8*wordsT (bytesOf l))=bytesOf l:=List.take_of_length_le (by omega)
  have e2:(trimK ks).take (ptrsT ks)=trimK ks:=List.take_of_length_le (by omega)
  rw [e1,e2,hlay,objW_eq]
  have hT:targN (.mk 1 0 0 (bytesOf l) (trimK ks))=trimK ks:=by rw [targN_mk,if_neg (by decide)]
  have hB:bodyN (.mk 1 0 0 (bytesOf l) (trimK ks))=l++ptrsW (A:Int) ((A+b:Nat):Int) (trimK ks):=by
   have h0:bodyN (.mk 1 0 0 (bytesOf l) (trimK ks))=wordsOf (bytesOf l)++ptrsW ((((bytesOf l).length / 8:Nat)):Int) (canOf 1 0 0 (bytesOf l) (trimK ks)) (trimK ks):=rfl
   have h3:canOf 1 0 0 (bytesOf l) (trimK ks)=(((bytesOf l).length / 8+(trimK ks).length:Nat):Int):=rfl
   rw [h0,h3,hwb]
   congr 2
   ·omega
   ·omega
  rw [hT,hB,has_append,has_append,List.length_append,ptrsW_length,hdl,htl,hb,←Nat.add_assoc]
  exact⟨fun ⟨⟨_,g2⟩,g3⟩=>⟨g2,g3⟩,fun ⟨g2,g3⟩=>⟨⟨hdh,g2⟩,g3⟩⟩
 constructor
 ·rintro⟨c1,c2,c3⟩
  have w1:=hA.1 c1
  have w2:ptrsT ks=b:=hlk.2 (by
   by_cases h:b=0
   ·exact .inl h
   ·refine .inr (fun hk=>?_)
    have hlt:b-1<(trimK ks).length:=by omega
    have h1:=(c3 (b-1) hlt).1
    rw [hkk h hlt] at hk
    rcases c2 with c2|c2
    ·exact h c2
    ·rw [show q+A+(b-1)=q+A+b-1 by omega] at h1
     exact c2 (h1.trans ((ptrW_zero (hvt _ (List.getElem_mem hlt)) _).2 hk)))
  exact⟨by omega,by omega,(hfull w1 w2).2 c3⟩
 ·rintro⟨c1,c2,c3⟩
  have w1:wordsT (bytesOf l)=A:=by omega
  have w2:ptrsT ks=b:=by omega
  have c4:=(hfull w1 w2).1 c3
  refine⟨hA.2 w1,?_,c4⟩
  by_cases h:b=0
  ·exact .inl h
  ·refine .inr (fun hz0=>?_)
   have hlt:b-1<(trimK ks).length:=by omega
   have h1:=(c4 (b-1) hlt).1
   rw [show q+A+(b-1)=q+A+b-1 by omega,hz0] at h1
   have hk:=(ptrW_zero (hvt _ (List.getElem_mem hlt)) _).1 h1.symm
   rcases hlk.1 w2 with g|g
   ·exact h g
   ·exact g ((hkk h hlt).trans hk)
theorem wd2_one {W:List Int}(hW:Wds W):Wd2 [W]:=by
 intro l hl
 simp at hl
 subst hl
 exact hW
theorem seg_one {W:List Int}(h:W.length≤20000000)(j:Nat):(seg [W] j).length≤20000000:=by
 cases j with
 | zero=>exact h
 | succ j=>simp [seg]
theorem zat_bd {W:List Int}(hW:Wds W){i:Nat}(h:i<W.length):0≤zat W i∧zat W i<18446744073709551616:=by
 have h4:zat W i=W[i]:=by simp [zat,List.getD_eq_getElem?_getD,h]
 rw [h4]
 exact hW _ (List.getElem_mem h)
theorem layV_pos {W:List Int}{nx a:Nat}{t:Nd}(h:Lay W nx a t):layV W nx a t=((nx+(objW t).length:Nat):Int):=by unfold layV;rw [if_pos h]
theorem layV_neg {W:List Int}{nx a:Nat}{t:Nd}(h:¬Lay W nx a t):layV W nx a t=-1:=by unfold layV;rw [if_neg h]
theorem layVK_pos {W:List Int}{nx P:Nat}{ts:List Nd}(h:LayK W nx P ts):layVK W nx P ts=((nx+(objK ts).length:Nat):Int):=by unfold layVK;rw [if_pos h]
theorem layVK_neg {W:List Int}{nx P:Nat}{ts:List Nd}(h:¬LayK W nx P ts):layVK W nx P ts=-1:=by unfold layVK;rw [if_neg h]
set_option maxHeartbeats 4000000 in
theorem vis_str {W:List Int}{r:Nat}(hW:Wds W)(hlen:W.length≤20000000)(IH:Tells W r){m:Int}{a nx:Nat}(ha:a<W.length)(hnx:nx≤W.length)(hk:(decP (zat W a)).k=0)(hw0:zat W a≠0)(he:(valV [W] (r+1) m 0 (a:Int)).e=0):
  visB (visC W r) W (nx:Int) (a:Int)=layV W nx a (trimN (valV [W] (r+1) m 0 (a:Int)).n):=by
 obtain⟨z0,z1⟩:=zat_bd hW ha
 have hv:=decP_vld _ z0 z1
 have hen:=encW_decP _ z0 z1
 have hvo:=val_obj ha hv (.inl hk) hen.symm (by rw [hen];exact hw0) r m
 have hwi:=fun (q:Ptr) (hq:Vld q)=>word_iff z0 z1 hq
 rw [hvo] at he ⊢
 unfold visB
 rw [one_word ha,if_neg hw0]
 rcases hP:decP (zat W a) with ⟨k,o,d,p,el,c,db,pa,sg,lo⟩
 rw [hP] at hv hk hvo he
 simp only at hk
 subst hk
 have hv2:-536870912≤o∧o≤536870911∧0≤d∧d≤65535∧0≤p∧p≤65535∧el=0∧c=0∧db=false∧pa=0∧sg=0∧lo=0:=by
  unfold Vld at hv
  simp only at hv
  rcases hv with h|h|h|h
  ·exact h.2
  ·exact absurd h.1 (by decide)
  ·exact absurd h.1 (by decide)
  ·exact absurd h.1 (by decide)
 obtain⟨o0,o1,d0,d1,p0,p1,rfl,rfl,rfl,rfl,rfl,rfl⟩:=hv2
 simp only at he ⊢
 have hOb:objP [W] ⟨0,o,d,p,0,0,false,0,0,0⟩ 0 ((a:Int)+1)=if inB [W] 0 ((a:Int)+1+o) (d+p)=true then (⟨1,0,(a:Int)+1+o,d,p,0,0,d+p⟩,0) else (ob0,2):=by
  unfold objP
  simp only
  rw [if_neg (by decide),if_pos trivial]
 rw [hOb] at he ⊢
 by_cases hin:inB [W] 0 ((a:Int)+1+o) (d+p)=true
 rotate_left
 ·rw [if_neg hin] at he
  have h2:(bodyV (valV [W] r) [W] m (ob0,2)).e=2:=rfl
  rw [h2] at he
  exact absurd he (by decide)
 rw [if_pos hin] at he ⊢
 obtain⟨-,-,i3,-,i5⟩:=inB_iff.1 hin
 have i6:(seg [W] (0:Int).toNat).length=W.length:=rfl
 rw [i6] at i5
 obtain⟨A,rfl⟩:=Int.eq_ofNat_of_zero_le d0
 obtain⟨b,rfl⟩:=Int.eq_ofNat_of_zero_le p0
 obtain⟨q,hq⟩:=Int.eq_ofNat_of_zero_le i3
 rw [hq] at i5
 have hqlen:q+A+b≤W.length:=by omega
 have hBo:bodyV (valV [W] r) [W] m (⟨1,0,(a:Int)+1+o,(A:Int),(b:Int),0,0,(A:Int)+b⟩,0)=if m<(A:Int)+b then errV m 8 else structV (valV [W] r) [W] (m-((A:Int)+b)) ⟨1,0,(q:Int),(A:Int),(b:Int),0,0,(A:Int)+b⟩:=by
  rw [hq]
  unfold bodyV
  simp only
  rw [if_neg (by simp),if_pos trivial]
 rw [hBo] at he ⊢
 by_cases hm:m<(A:Int)+b
 ·rw [if_pos hm] at he
  exact absurd he (by show (8:Int)≠0;decide)
 rw [if_neg hm] at he ⊢
 obtain⟨hR,hN⟩:=structV_ok he
 rw [hN]
 simp only [Int.toNat_natCast] at hR hN ⊢
 have hg:∀(m:Int) (i:Nat),(fun m (i:Nat)=>valV [W] r m 0 ((q:Int)+(A:Int)+(i:Int))) m i=valV [W] r m 0 (((q+A)+i:Nat):Int):=fun m i=>by
  show valV [W] r m 0 ((q:Int)+(A:Int)+(i:Int))=_
  congr 1
 have hkv:=row_valid (wd2_one hW) (seg_one hlen) (r:=r) (P:=q+A) (n:=b) (m:=m-((A:Int)+b)) hg
 have hkl:=runK_length hR
 have hrow:=fun nx (hn:nx≤W.length)=>row_vis IH (P:=q+A) (n:=b) (nx:=nx) (m:=m-((A:Int)+b)) (by omega) hn hg hR (f:=fun e (i:Nat)=>visC W r e ((q:Int)+(A:Int)+(i:Int))) (fun e i=>by show visC W r e ((q:Int)+(A:Int)+(i:Int))=_;congr 1)
 generalize (runK (fun m (i:Nat)=>valV [W] r m 0 ((q:Int)+(A:Int)+(i:Int))) (m-((A:Int)+b)) b).ks=ks at *
 have hS:=struct_lay (W:=W) (q:=q) (A:=A) (b:=b) (ks:=ks) hW hqlen hkl hkv
 obtain⟨x,hx⟩:∃x,trimN (.mk 1 0 0 (bytesOf (datW [W] 0 (q:Int) (A:Int))) ks)=x:=⟨_,rfl⟩
 have hxk:∃xd xk,x=.mk 1 0 0 xd xk:=⟨_,_,hx.symm.trans (trim_struct _ _)⟩
 obtain⟨xd,xk,rfl⟩:=hxk
 rw [hx] at hS ⊢
 simp only [Nd.d,Nd.ks] at hS
 have hlx:xd.length≤8*A∧xk.length≤b:=by
  have h1:=trimN_d_le (.mk 1 0 0 (bytesOf (datW [W] 0 (q:Int) (A:Int))) ks)
  have h2:=trimN_ks_le (.mk 1 0 0 (bytesOf (datW [W] 0 (q:Int) (A:Int))) ks)
  rw [hx] at h1 h2
  simp only [Nd.d,Nd.ks] at h1 h2
  have h3:=bytesOf_length (datW [W] 0 (q:Int) (A:Int))
  have h4:=(datW_has (W:=W) (q:=q) (A:=A) (by omega)).1
  omega
 have hx8:xd.length % 8=0:=by
  have h1:=trim_struct (bytesOf (datW [W] 0 (q:Int) (A:Int))) ks
  rw [hx] at h1
  injection h1 with _ _ _ h1 _
  have h3:=bytesOf_length (datW [W] 0 (q:Int) (A:Int))
  have h4:=wordsT_le (bytesOf (datW [W] 0 (q:Int) (A:Int))) (by omega)
  rw [h1,List.length_take]
  omega
 have hO:canO (.mk 1 0 0 xd xk)=((xd.length / 8+xk.length:Nat):Int):=rfl
 have hptr:zat W a=ptrW (.mk 1 0 0 xd xk) ((nx:Int)-a-1)↔(o=if xd.length / 8+xk.length=0 then -1 else (nx:Int)-a-1)∧xd.length=8*A∧xk.length=b:=by
  rw [ptrW_str,hO]
  have hvq:Vld ⟨0,if ((xd.length / 8+xk.length:Nat):Int)=0 then -1 else (nx:Int)-a-1,((xd.length / 8:Nat):Int),(xk.length:Int),0,0,false,0,0,0⟩:=by
   left
   simp only
   refine⟨trivial,?_,?_,by omega,by omega,by omega,by omega,?_⟩
   ·split<;>omega
   ·split<;>omega
   ·simp
  rw [hwi _ hvq,hP]
  simp only [Ptr.mk.injEq,true_and,and_true]
  constructor
  ·rintro⟨h1,h2,h3⟩
   refine⟨?_,by omega,by omega⟩
   rw [h1]
   by_cases h:xd.length / 8+xk.length=0
   ·rw [if_pos (by omega),if_pos h]
   ·rw [if_neg (by omega),if_neg h]
  ·rintro⟨h1,h2,h3⟩
   refine⟨?_,by omega,by omega⟩
   rw [h1]
   by_cases h:xd.length / 8+xk.length=0
   ·rw [if_pos h,if_pos (by omega)]
   ·rw [if_neg h,if_neg (by omega)]
 rw [if_neg (by decide)]
 by_cases hz:(A:Int)+(b:Int)=0
 ·rw [if_pos ⟨trivial,hz⟩]
  have hxd:xd=[]:=List.eq_nil_of_length_eq_zero (by omega)
  have hxk:xk=[]:=List.eq_nil_of_length_eq_zero (by omega)
  subst hxd hxk
  have hobj:objW (.mk 1 0 0 [] [])=[]:=rfl
  by_cases ho:o=-1
  ·rw [if_neg (by omega)]
   have hl:Lay W nx a (.mk 1 0 0 [] []):=⟨hptr.2 ⟨by rw [if_pos (by simp)];exact ho,by simp;omega,by simp;omega⟩,by rw [hobj];exact has_nil.2 hnx⟩
   rw [layV_pos hl,hobj]
   simp
  ·rw [if_pos ho,layV_neg]
   rintro⟨h1,-⟩
   have:=(hptr.1 h1).1
   rw [if_pos (by simp)] at this
   exact ho this
 rw [if_neg (fun h=>hz h.2)]
 by_cases hst:(a:Int)+1+o=nx
 rotate_left
 ·rw [if_pos hst,layV_neg]
  rintro⟨h1,-⟩
  obtain⟨h2,h3,h4⟩:=hptr.1 h1
  rw [if_neg (by omega)] at h2
  omega
 rw [if_neg (fun h=>h hst),if_pos trivial]
 obtain rfl:q=nx:=by omega
 have hw1:0<A→wordV [W] 0 ((q:Int)+A-1)=zat W (q+A-1):=fun h=>by
  rw [show (q:Int)+A-1=((q+A-1:Nat):Int) by omega]
  exact one_word (by omega)
 have hw2:0<b→wordV [W] 0 ((q:Int)+A+b-1)=zat W (q+A+b-1):=fun h=>by
  rw [show (q:Int)+A+b-1=((q+A+b-1:Nat):Int) by omega]
  exact one_word (by omega)
 have hcond:((0<(A:Int)∧wordV [W] 0 ((q:Int)+A-1)=0)∨(0<(b:Int)∧wordV [W] 0 ((q:Int)+A+b-1)=0))↔¬((A=0∨zat W (q+A-1)≠0)∧(b=0∨zat W (q+A+b-1)≠0)):=by
  constructor
  ·rintro(⟨h1,h2⟩|⟨h1,h2⟩) ⟨h3,h4⟩
   ·rw [hw1 (by omega)] at h2
    rcases h3 with h3|h3
    ·omega
    ·exact h3 h2
   ·rw [hw2 (by omega)] at h2
    rcases h4 with h4|h4
    ·omega
    ·exact h4 h2
  ·intro h
   by_cases h3:A=0∨zat W (q+A-1)≠0
   ·have h4:¬(b=0∨zat W (q+A+b-1)≠0):=fun h4=>h ⟨h3,h4⟩
    have h5:0<b:=by omega
    exact .inr ⟨by omega,by rw [hw2 h5];exact Classical.byContradiction fun h6=>h4 (.inr h6)⟩
   ·have h5:0<A:=by omega
    exact .inl ⟨by omega,by rw [hw1 h5];exact Classical.byContradiction fun h6=>h3 (.inr h6)⟩
 by_cases hc:(A=0∨zat W (q+A-1)≠0)∧(b=0∨zat W (q+A+b-1)≠0)
 rotate_left
 ·rw [if_pos (hcond.2 hc),layV_neg]
  rintro⟨h1,h2⟩
  obtain⟨h3,h4,h5⟩:=hptr.1 h1
  have:=hS.2 ⟨h4,h5,h2⟩
  exact hc ⟨this.1,this.2.1⟩
 rw [if_neg (fun h=>hcond.1 h hc)]
 rw [show (q:Int)+((A:Int)+b)=((q+A+b:Nat):Int) by omega,hrow (q+A+b) hqlen]
 by_cases hl:LayK W (q+A+b) (q+A) (trimK ks)
 ·obtain⟨h1,h2,h3⟩:=hS.1 ⟨hc.1,hc.2,hl⟩
  have hlay:Lay W q a (.mk 1 0 0 xd xk):=⟨hptr.2 ⟨by rw [if_neg (by omega)];omega,h1,h2⟩,h3⟩
  rw [layVK_pos hl,layV_pos hlay]
  have e2:(trimK ks).take (ptrsT ks)=xk:=by
   have h1:=trim_struct (bytesOf (datW [W] 0 (q:Int) (A:Int))) ks
   rw [hx] at h1
   injection h1 with _ _ _ _ h1
   exact h1.symm
  have e3:xk=trimK ks:=by
   rw [←e2]
   refine List.take_of_length_le ?_
   have:=trimK_length ks
   have h7:=congrArg List.length e2
   rw [List.length_take] at h7
   omega
  have hT:targN (.mk 1 0 0 xd xk)=xk:=by rw [targN_mk,if_neg (by decide)]
  have hB:(bodyN (.mk 1 0 0 xd xk)).length=A+b:=by
   have h0:bodyN (.mk 1 0 0 xd xk)=wordsOf xd++ptrsW (((xd.length / 8:Nat)):Int) (canOf 1 0 0 xd xk) xk:=rfl
   rw [h0,List.length_append,wordsOf_length,ptrsW_length]
   omega
  rw [objW_eq,hT,List.length_append,hB,e3]
  omega
 ·rw [layVK_neg hl,layV_neg]
  rintro⟨h1,h2⟩
  obtain⟨h3,h4,h5⟩:=hptr.1 h1
  exact hl (hS.2 ⟨h4,h5,h2⟩).2.2
section
abbrev Ks:=Nat×Int
def kTake (L:Nat)(s:Ks)(a:Nat)(o:Int)(n:Nat):Option Ks:=if (a:Int)+1+o=s.1∧s.1+n≤L∧(n:Int)≤s.2 then some (s.1+n,s.2-n) else none
def kRow (f:Nat→Ks→Option Ks):Nat→Ks→Option Ks
 | 0,s=>some s
 | i+1,s=>(kRow f i s).bind (f i)
open Classical in
noncomputable def kStr (vis:Nat→Ks→Option Ks) (W:List Int) (a:Nat) (o:Int) (A b:Nat) (s:Ks):Option Ks:=
 if A+b=0 then (if o=-1 then some s else none)
 else if kTake W.length s a o (A+b)=none∨(0<A∧zat W (s.1+A-1)=0)∨(0<b∧zat W (s.1+A+b-1)=0) then none
 else kRow (fun i=>vis (s.1+A+i)) b (s.1+(A+b),s.2-(A+b:Nat))
noncomputable def kLst (vis:Nat→Ks→Option Ks) (W:List Int) (a:Nat) (o e c:Int) (s:Ks):Option Ks:=
 if kTake W.length s a o (wordsI e c).toNat=none∨(0<bitsI e*c % 64∧fld (zat W (s.1+(wordsI e c).toNat-1)) (bitsI e*c % 64) (64-bitsI e*c % 64)≠0) then none
 else if e=6 then kRow (fun i=>vis (s.1+i)) c.toNat (s.1+(wordsI e c).toNat,s.2-(wordsI e c).toNat)
 else some (s.1+(wordsI e c).toNat,s.2-(wordsI e c).toNat)
def AnyP (W:List Int)(a n d:Nat):Prop:=∃j,j<n∧zat W (a+j*d)≠0
open Classical in
noncomputable def kCmp (vis:Nat→Ks→Option Ks) (W:List Int) (a:Nat) (o:Int) (c:Nat) (s:Ks):Option Ks:=
 if kTake W.length s a o (c+1)=none∨¬((decP (zat W s.1)).k=0∧0≤(decP (zat W s.1)).o∧(decP (zat W s.1)).o*((decP (zat W s.1)).d+(decP (zat W s.1)).p)=c) then none
 else if (decP (zat W s.1)).d+(decP (zat W s.1)).p=0 then (if (decP (zat W s.1)).o≤s.2-(c+1:Nat) then some (s.1+(c+1),s.2-(c+1:Nat)-(decP (zat W s.1)).o) else none)
 else if (0<(decP (zat W s.1)).d∧¬AnyP W (s.1+(decP (zat W s.1)).d.toNat) (decP (zat W s.1)).o.toNat ((decP (zat W s.1)).d.toNat+(decP (zat W s.1)).p.toNat))∨(0<(decP (zat W s.1)).p∧¬AnyP W (s.1+((decP (zat W s.1)).d.toNat+(decP (zat W s.1)).p.toNat)) (decP (zat W s.1)).o.toNat ((decP (zat W s.1)).d.toNat+(decP (zat W s.1)).p.toNat)) then none
 else kRow (fun j=>kRow (fun i=>vis (s.1+1+j*((decP (zat W s.1)).d.toNat+(decP (zat W s.1)).p.toNat)+(decP (zat W s.1)).d.toNat+i)) (decP (zat W s.1)).p.toNat) (decP (zat W s.1)).o.toNat (s.1+(c+1),s.2-(c+1:Nat))
noncomputable def kBody (vis:Nat→Ks→Option Ks) (W:List Int) (a:Nat) (s:Ks):Option Ks:=
 if (decP (zat W a)).k=0 then kStr vis W a (decP (zat W a)).o (decP (zat W a)).d.toNat (decP (zat W a)).p.toNat s
 else if (decP (zat W a)).k=1 then (if (decP (zat W a)).el=7 then kCmp vis W a (decP (zat W a)).o (decP (zat W a)).c.toNat s else kLst vis W a (decP (zat W a)).o (decP (zat W a)).el (decP (zat W a)).c s)
 else none
noncomputable def kVis (W:List Int):Nat→Nat→Ks→Option Ks
 | 0,a,s=>if zat W a=0 then some s else none
 | r+1,a,s=>if zat W a=0 then some s else kBody (kVis W r) W a s
theorem tail_num (z:Int)(h0:0≤z)(h1:z<18446744073709551616)(q:Nat)(hq:q<8)(P:Int)(hP:1≤P)(hP2:P≤128):
  z<P*256 ^ q↔(byteOf z q<P∧∀j,q<j→j<8→byteOf z j=0):=by
 unfold byteOf
 rcases(by omega:q=0∨q=1∨q=2∨q=3∨q=4∨q=5∨q=6∨q=7) with h|h|h|h|h|h|h|h<;>subst h
 all_goals
  constructor
  ·intro h
   refine⟨by omega,fun j g1 g2=>?_⟩
   rcases(by omega:j=1∨j=2∨j=3∨j=4∨j=5∨j=6∨j=7) with h|h|h|h|h|h|h<;>subst h<;>omega
  ·rintro⟨g1,g2⟩
   have e1:=g2 1
   have e2:=g2 2
   have e3:=g2 3
   have e4:=g2 4
   have e5:=g2 5
   have e6:=g2 6
   have e7:=g2 7
   omega
theorem bits_one {e:Int}(he0:0≤e)(he:e<6)(c:Int)(h:bitsI e*c % 8≠0):e=1:=by
 rcases(by omega:e=0∨e=1∨e=2∨e=3∨e=4∨e=5) with h'|h'|h'|h'|h'|h'<;>subst h'
 ·rw [show bitsI 0=0 from rfl] at h;omega
 ·rfl
 ·rw [show bitsI 2=8 from rfl] at h;omega
 ·rw [show bitsI 3=16 from rfl] at h;omega
 ·rw [show bitsI 4=32 from rfl] at h;omega
 ·rw [show bitsI 5=64 from rfl] at h;omega
theorem fld_top0 {z:Int}(h0:0≤z)(h1:z<18446744073709551616)(q k:Nat)(hu:8*q+k<64):fld z ((8*q+k:Nat):Int) (64-((8*q+k:Nat):Int))=0↔z<((2 ^ k:Nat):Int)*256 ^ q:=by
 obtain⟨x,rfl⟩:=Int.eq_ofNat_of_zero_le h0
 have e1:(64-((8*q+k:Nat):Int)).toNat=64-(8*q+k):=by omega
 have e2:((2 ^ k:Nat):Int)*256 ^ q=((2 ^ (8*q+k):Nat):Int):=by
  rw [Nat.pow_add,Nat.pow_mul,Nat.mul_comm]
  simp
 have h3:(2:Nat) ^ 64=2 ^ (8*q+k)*2 ^ (64-(8*q+k)):=by rw [←Nat.pow_add];congr 1;omega
 have h4:x<2 ^ (8*q+k)*2 ^ (64-(8*q+k)):=by rw [←h3];omega
 rw [e2]
 unfold fld fldN
 rw [e1]
 simp only [Int.toNat_natCast]
 rw [Nat.mod_eq_of_lt (Nat.div_lt_of_lt_mul h4)]
 have hp:=Nat.two_pow_pos (8*q+k)
 constructor
 ·intro h
  have h5:x / 2 ^ (8*q+k)=0:=by omega
  have:=(Nat.div_eq_zero_iff_lt hp).1 h5
  omega
 ·intro h
  have:x / 2 ^ (8*q+k)=0:=(Nat.div_eq_zero_iff_lt hp).2 (by omega)
  omega
theorem tail_words {W:List Int}(hW:Wds W){q A:Nat}{e c:Int}(hlen:q+A≤W.length)(he0:0≤e)(he:e<6)(hc:0≤c)(hA:wordsI e c=A):
  bytesOf (datW [W] 0 (q:Int) (A:Int))=trimL (bytesOf (datW [W] 0 (q:Int) (A:Int))) e c++List.replicate (8*A-(trimL (bytesOf (datW [W] 0 (q:Int) (A:Int))) e c).length) 0 ↔
   ¬(0<bitsI e*c % 64∧fld (zat W (q+A-1)) (bitsI e*c % 64) (64-bitsI e*c % 64)≠0):=by
 obtain⟨hdl,hdh⟩:=datW_has (W:=W) (q:=q) (A:=A) hlen
 generalize datW [W] 0 (q:Int) (A:Int)=L at *
 have hbl:=bytesOf_length L
 rw [hdl] at hbl
 have hT0:=bitsI_mul e c hc
 have hone:=bits_one he0 he c
 have hb1:bitsI 1=1:=rfl
 unfold wordsI at hA
 rw [if_neg (by omega)] at hA
 have htl:=trimL_length (bytesOf L) e c
 have hbI:bytesI e c=(bitsI e*c+7) / 8:=rfl
 have hz:∀i,i<8*A→zat (trimL (bytesOf L) e c++List.replicate (8*A-(trimL (bytesOf L) e c).length) 0) i=if i<(bytesI e c).toNat then trimAt (bytesOf L) e c i else 0:=fun i hi=>by
  by_cases h:i<(bytesI e c).toNat
  ·rw [if_pos h,zat_append_left _ _ _ (by omega),trimL_zat _ _ _ _ h]
  ·rw [if_neg h,zat_append_right _ _ _ (by omega)]
   simp [zat,List.getD_eq_getElem?_getD,List.getElem?_replicate]
   split<;>rfl
 have hiff:bytesOf L=trimL (bytesOf L) e c++List.replicate (8*A-(trimL (bytesOf L) e c).length) 0↔∀i,i<8*A→zat (bytesOf L) i=if i<(bytesI e c).toNat then trimAt (bytesOf L) e c i else 0:=by
  constructor
  ·intro h i hi
   rw [←hz i hi,←h]
  ·intro h
   apply ext_zat
   ·rw [List.length_append,List.length_replicate,hbl];omega
   ·intro i hi
    rw [hbl] at hi
    rw [hz i hi]
    exact h i hi
 rw [hiff]
 generalize hT:bitsI e*c=T at *
 obtain⟨t,rfl⟩:=Int.eq_ofNat_of_zero_le (show 0≤T by omega)
 clear hz hiff
 have hfull:∀i:Nat,8*(i:Int)+8≤t→trimAt (bytesOf L) e c i=zat (bytesOf L) i:=fun i hi=>by
  unfold trimAt
  rw [if_neg]
  rintro⟨rfl,h⟩
  rw [hb1] at hT
  omega
 by_cases hu:t % 64=0
 ·refine⟨fun _ h=>by omega,fun _ i hi=>?_⟩
  rw [if_pos (by omega),hfull i (by omega)]
 have hA1:1≤A:=by omega
 have hWb:=zat_bd hW (i:=q+A-1) (by omega)
 have hlast:zat L (A-1)=zat W (q+A-1):=by
  have:=hdh.2 (A-1) (by omega)
  rw [show q+(A-1)=q+A-1 by omega] at this
  exact this.symm
 have hby:∀j,j<8→zat (bytesOf L) (8*(A-1)+j)=byteOf (zat W (q+A-1)) j:=fun j hj=>by
  rw [bytesOf_zat L (A-1) j (by omega) hj,hlast]
 obtain⟨p,hp⟩:∃p,t % 64 / 8=p:=⟨_,rfl⟩
 obtain⟨k,hk⟩:∃k,t % 8=k:=⟨_,rfl⟩
 have hpk:t % 64=8*p+k:=by omega
 have hpw:(1:Int)≤((2 ^ k:Nat):Int):=by have:=Nat.two_pow_pos k;omega
 have hpw2:((2 ^ k:Nat):Int)≤128:=by
  rcases(by omega:k=0∨k=1∨k=2∨k=3∨k=4∨k=5∨k=6∨k=7) with h|h|h|h|h|h|h|h<;>subst h<;>decide
 have htn:=tail_num (zat W (q+A-1)) hWb.1 hWb.2 p (by omega) ((2 ^ k:Nat):Int) hpw hpw2
 have hft:=fld_top0 hWb.1 hWb.2 p k (by omega)
 have hut:((t:Int) % 64)=((8*p+k:Nat):Int):=by omega
 rw [hut]
 have hcond:(¬(0<((8*p+k:Nat):Int)∧fld (zat W (q+A-1)) ((8*p+k:Nat):Int) (64-((8*p+k:Nat):Int))≠0))↔zat W (q+A-1)<((2 ^ k:Nat):Int)*256 ^ p:=by
  rw [←hft]
  constructor
  ·intro h
   exact Classical.byContradiction fun g=>h ⟨by omega,g⟩
  ·rintro h ⟨-,g⟩
   exact g h
 rw [hcond,htn]
 have hcut:k≠0→trimAt (bytesOf L) e c (8*(A-1)+p)=zat (bytesOf L) (8*(A-1)+p) % ((2 ^ k:Nat):Int):=fun h0=>by
  obtain rfl:=hone (by omega)
  rw [hb1] at hT
  unfold trimAt
  rw [if_pos ⟨rfl,by omega⟩]
  unfold p2
  rw [show (c-8*((8*(A-1)+p:Nat):Int)).toNat=k by omega]
  simp
 constructor
 ·intro h
  refine⟨?_,fun j h1 h2=>?_⟩
  ·have h1:=h (8*(A-1)+p) (by omega)
   rw [hby p (by omega)] at h1
   by_cases h0:k=0
   ·rw [if_neg (by omega)] at h1
    omega
   ·rw [if_pos (by omega),hcut h0,hby p (by omega)] at h1
    rw [h1]
    exact Int.emod_lt_of_pos _ (by omega)
  ·have h3:=h (8*(A-1)+j) (by omega)
   rw [hby j h2,if_neg (by omega)] at h3
   exact h3
 ·rintro⟨h1,h2⟩ i hi
  by_cases hi2:8*(i:Int)+8≤t
  ·rw [if_pos (by omega),hfull i hi2]
  obtain⟨j,rfl⟩:∃j,i=8*(A-1)+j:=⟨i-8*(A-1),by omega⟩
  rw [hby j (by omega)]
  by_cases hj:j=p
  ·subst hj
   have hb0:=(byteOf_bd (zat W (q+A-1)) j).1
   by_cases h0:k=0
   ·subst h0
    rw [if_neg (by omega)]
    have h1':byteOf (zat W (q+A-1)) j<1:=h1
    omega
   ·rw [if_pos (by omega),hcut h0,hby j (by omega),Int.emod_eq_of_lt hb0 h1]
  ·rw [if_neg (by omega)]
   exact h2 j (by omega) (by omega)
end
end Go.Proofs.YtclpapddejgpnaaDoor
