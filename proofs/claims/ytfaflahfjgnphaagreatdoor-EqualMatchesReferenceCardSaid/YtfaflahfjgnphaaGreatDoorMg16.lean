/- The texts WriteB (what is wanted of them), one after the other. -/
import Derived.Test.YtfaflahfjgnphaaGreatDoorMg14
namespace Go.Proofs.YtfaflahfjgnphaaGreatDoor
open Go.ChangeShapes Go.WideShapes Go.ChangeAt Go.RowKit
set_option linter.unusedVariables false
set_option linter.unusedSimpArgs false
set_option maxRecDepth 100000
def elsP (a b:Nat):List Nd→List Int→List Int
 | [],_=>[]
 | y::ys,pw=>padW y.d a++(pw.take y.ks.length++(List.replicate (b-y.ks.length) 0++elsP a b ys (pw.drop y.ks.length)))
def posE (a b:Nat)(s:Nat):List Nd→List Nat
 | []=>[]
 | y::ys=>(List.range y.ks.length).map (fun i=>s+a+i)++posE a b (s+a+b) ys
def bodyPW (k e n:Int)(d:List Int)(ks:List Nd)(pw:List Int):List Int:=
 if k=0 then []
 else if k=1 then wordsOf d++pw
 else if e=7 then tagW n (uniD ks ks.length) (uniP ks ks.length)::elsP (uniD ks ks.length) (uniP ks ks.length) ks pw
 else if e=6 then pw
 else padW d (wordsI e n).toNat
def bodyP (x:Nd)(pw:List Int):List Int:=bodyPW x.k x.e x.n x.d x.ks pw
theorem bodyW_2 {e n:Int}{d:List Int}{ks:List Nd}(h7:e≠7):bodyW 2 e n d ks=if e=6 then ptrsW 0 (canOf 2 e n d ks) ks else padW d (wordsI e n).toNat:=by
 unfold bodyW
 rw [if_neg (show ¬((2:Int)=0) by decide),if_neg (show ¬((2:Int)=1) by decide),if_neg h7]
theorem bodyPW_2 {e n:Int}{d:List Int}{ks:List Nd}{pw:List Int}(h7:e≠7):bodyPW 2 e n d ks pw=if e=6 then pw else padW d (wordsI e n).toNat:=by
 unfold bodyPW
 rw [if_neg (show ¬((2:Int)=0) by decide),if_neg (show ¬((2:Int)=1) by decide),if_neg h7]
def posL (x:Nd):List Nat:=
 if x.k=1 then (List.range x.ks.length).map (fun i=>x.d.length / 8+i)
 else if x.e=7 then posE (uniD x.ks x.ks.length) (uniP x.ks x.ks.length) 1 x.ks
 else (List.range x.ks.length).map (fun i=>0+i)
def pwF (nx:Int):List Nd→List Nat→List Int
 | t::ts,p::ps=>ptrW t (nx-p-1)::pwF (nx+canN t) ts ps
 | _,_=>[]
def pwL (x:Nd):List Int:=pwF (canO x) (targN x) (posL x)
theorem pwF_length:∀(ts:List Nd) (ps:List Nat) (nx:Int),ts.length=ps.length→(pwF nx ts ps).length=ts.length
 | [],ps,_,_=>by simp [pwF]
 | t::ts,[],_,h=>by simp at h
 | t::ts,p::ps,nx,h=>by simp only [pwF,List.length_cons,pwF_length ts ps _ (by simpa using h)]
theorem pwF_append:∀(ts us:List Nd) (ps qs:List Nat) (nx:Int),ts.length=ps.length→pwF nx (ts++us) (ps++qs)=pwF nx ts ps++pwF (nx+canK ts) us qs
 | [],us,[],qs,nx,_=>by simp [pwF,canK]
 | [],us,p::ps,qs,nx,h=>by simp at h
 | t::ts,us,[],qs,nx,h=>by simp at h
 | t::ts,us,p::ps,qs,nx,h=>by
  simp only [List.cons_append,pwF,canK,pwF_append ts us ps qs _ (by simpa using h)]
  rw [Int.add_assoc]
theorem ptrsW_pwF:∀(ts:List Nd) (pos:Nat) (nx:Int),ptrsW pos nx ts=pwF nx ts ((List.range ts.length).map (fun i=>pos+i))
 | [],_,_=>by simp [ptrsW,pwF]
 | t::ts,pos,nx=>by
  have ih:=ptrsW_pwF ts (pos+1) (nx+canN t)
  have e:((pos+1:Nat):Int)=(pos:Int)+1:=by omega
  rw [e] at ih
  simp only [ptrsW,ih,List.length_cons,List.range_succ_eq_map,List.map_cons,List.map_map,pwF,Nat.add_zero]
  congr 3
  funext i
  simp only [Function.comp]
  omega
theorem ptrsW_append:∀(ts us:List Nd) (pos nx:Int),ptrsW pos nx (ts++us)=ptrsW pos nx ts++ptrsW (pos+ts.length) (nx+canK ts) us
 | [],us,pos,nx=>by simp [ptrsW,canK]
 | t::ts,us,pos,nx=>by
  simp only [List.cons_append,ptrsW,canK,List.length_cons,ptrsW_append ts us]
  have e1:pos+1+(ts.length:Int)=pos+((ts.length+1:Nat):Int):=by omega
  rw [e1,Int.add_assoc]
theorem ptrsW_null:∀(q:Nat) (pos nx:Int),ptrsW pos nx (List.replicate q nd0)=List.replicate q 0
 | 0,_,_=>rfl
 | q+1,pos,nx=>by
  rw [List.replicate_succ,List.replicate_succ]
  simp only [ptrsW,ptrsW_null q]
  congr 1
theorem posE_length (a b:Nat):∀(ys:List Nd) (s:Nat),(posE a b s ys).length=(kk ys).length
 | [],_=>by simp [posE,kk]
 | y::ys,s=>by
  have h:kk (y::ys)=y.ks++kk ys:=by simp [kk]
  rw [h,List.length_append]
  simp only [posE,List.length_append,List.length_map,List.length_range,posE_length a b ys]
theorem elsW_elsP (a b:Nat):∀(ys:List Nd) (s:Nat) (nx:Int),elsW a b s nx ys=elsP a b ys (pwF nx (kk ys) (posE a b s ys))
 | [],_,_=>rfl
 | y::ys,s,nx=>by
  have h:kk (y::ys)=y.ks++kk ys:=by simp [kk]
  have hl:y.ks.length=((List.range y.ks.length).map (fun i=>s+a+i)).length:=by simp
  have hf:=pwF_length y.ks ((List.range y.ks.length).map (fun i=>s+a+i)) nx hl
  have e1:((s+a:Nat):Int)=(s:Int)+a:=by omega
  have e2:((s+a+b:Nat):Int)=(s:Int)+a+b:=by omega
  have ih:=elsW_elsP a b ys (s+a+b) (nx+canK y.ks)
  rw [e2] at ih
  have hp:=ptrsW_pwF y.ks (s+a) nx
  rw [e1] at hp
  simp only [elsW,elsP,h,posE,pwF_append _ _ _ _ _ hl]
  rw [List.take_left' hf,List.drop_left' hf,ptrsW_append,ptrsW_null,hp,ih]
  simp only [List.append_assoc]
theorem body_bodyP {x:Nd}(hv:validN x=true):bodyN x=bodyP x (pwL x):=by
 obtain⟨k,e,n,d,ks⟩:=x
 have hk:=valid_k hv
 simp only [Nd.k] at hk
 rcases hk with rfl|rfl|rfl
 ·rfl
 ·have hT:targN (.mk 1 e n d ks)=ks:=by rw [targN_mk,if_neg (by omega)]
  have hP:posL (.mk 1 e n d ks)=(List.range ks.length).map (fun i=>d.length / 8+i):=rfl
  unfold pwL
  rw [hT,hP]
  show wordsOf d++ptrsW _ _ ks=wordsOf d++_
  rw [ptrsW_pwF]
  rfl
 ·obtain⟨-,-,-,g4,g5,g6⟩:=head_lst hv
  by_cases h7:e=7
  ·subst h7
   have hT:targN (.mk 2 7 n d ks)=kk ks:=by rw [targN_mk,if_pos ⟨rfl,rfl⟩]
   have hP:posL (.mk 2 7 n d ks)=posE (uniD ks ks.length) (uniP ks ks.length) 1 ks:=rfl
   unfold pwL
   rw [hT,hP]
   show tagW n _ _::elsW _ _ 1 _ ks=tagW n _ _::elsP _ _ ks _
   have:=elsW_elsP (uniD ks ks.length) (uniP ks ks.length) ks 1 (canO (.mk 2 7 n d ks))
   exact congrArg (List.cons (tagW n (uniD ks ks.length) (uniP ks ks.length))) this
  ·have hT:targN (.mk 2 e n d ks)=ks:=by rw [targN_mk,if_neg (by omega)]
   have hP:posL (.mk 2 e n d ks)=(List.range ks.length).map (fun i=>0+i):=by
    show (if (2:Int)=1 then _ else if e=7 then _ else _)=_
    rw [if_neg (by decide),if_neg h7]
    rfl
   unfold pwL
   rw [hT,hP]
   have hb1:bodyN (.mk 2 e n d ks)=if e=6 then ptrsW 0 (canO (.mk 2 e n d ks)) ks else padW d (wordsI e n).toNat:=bodyW_2 h7
   have hb2:∀pw,bodyP (.mk 2 e n d ks) pw=if e=6 then pw else padW d (wordsI e n).toNat:=fun pw=>bodyPW_2 h7
   rw [hb1,hb2]
   by_cases h6:e=6
   ·rw [if_pos h6,if_pos h6]
    have:=ptrsW_pwF ks 0 (canO (.mk 2 e n d ks))
    rw [←this]
    rfl
   ·rw [if_neg h6,if_neg h6]
theorem nat_getD_map (f:Nat→Nat)(n i:Nat)(h:i<n):((List.range n).map f).getD i 0=f i:=by
 simp [List.getD_eq_getElem?_getD,h]
theorem getD_append_l (p q:List Nat)(i:Nat)(h:i<p.length):(p++q).getD i 0=p.getD i 0:=by
 simp [List.getD_eq_getElem?_getD,List.getElem?_append_left h]
theorem getD_append_r (p q:List Nat)(i:Nat)(h:p.length≤i):(p++q).getD i 0=q.getD (i-p.length) 0:=by
 simp [List.getD_eq_getElem?_getD,List.getElem?_append_right h]
theorem set_left (p q:List Int)(i:Nat)(v:Int)(h:i<p.length):(p++q).set i v=p.set i v++q:=List.set_append_left i v h
theorem set_right (p q:List Int)(i:Nat)(v:Int)(h:p.length≤i):(p++q).set i v=p++q.set (i-p.length) v:=List.set_append_right i v h
theorem elsP_one (a b:Nat):∀(ys:List Nd) (pw:List Int) (s i:Nat) (v:Int),(∀y∈ys,y.d.length≤8*a∧y.ks.length≤b)→pw.length=(kk ys).length→i<(kk ys).length →
  s≤(posE a b s ys).getD i 0∧(posE a b s ys).getD i 0-s<(elsP a b ys pw).length∧zat (elsP a b ys pw) ((posE a b s ys).getD i 0-s)=zat pw i∧(elsP a b ys pw).set ((posE a b s ys).getD i 0-s) v=elsP a b ys (pw.set i v)
 | [],_,_,_,_,_,_,hi=>by simp [kk] at hi
 | y::ys,pw,s,i,v,hf,hl,hi=>by
  obtain⟨h1,h2⟩:=hf y (List.mem_cons_self ..)
  have h:kk (y::ys)=y.ks++kk ys:=by simp [kk]
  rw [h,List.length_append] at hl hi
  have hpl:=padW_length h1
  have htl:(pw.take y.ks.length).length=y.ks.length:=by rw [List.length_take];omega
  have hrl:((List.range y.ks.length).map (fun i=>s+a+i)).length=y.ks.length:=by simp
  simp only [elsP,posE]
  by_cases hlt:i<y.ks.length
  ·rw [getD_append_l _ _ _ (by omega),nat_getD_map _ _ _ hlt]
   have e:s+a+i-s=a+i:=by omega
   rw [e]
   refine⟨by omega,?_,?_,?_⟩
   ·simp only [List.length_append,hpl,htl];omega
   ·rw [zat_append_right _ _ _ (by omega),hpl,Nat.add_sub_cancel_left,zat_append_left _ _ _ (by omega),zat_take _ _ _ hlt]
   ·rw [set_right _ _ _ _ (by omega),hpl,Nat.add_sub_cancel_left,set_left _ _ _ _ (by omega),List.take_set,List.drop_set_of_lt hlt]
  ·rw [getD_append_r _ _ _ (by omega),hrl]
   obtain⟨g1,g2,g3,g4⟩:=elsP_one a b ys (pw.drop y.ks.length) (s+a+b) (i-y.ks.length) v (fun z hz=>hf z (List.mem_cons_of_mem _ hz)) (by rw [List.length_drop];omega) (by omega)
   generalize (posE a b (s+a+b) ys).getD (i-y.ks.length) 0=q at *
   obtain⟨t,rfl⟩:∃t,q=s+a+b+t:=⟨q-(s+a+b),by omega⟩
   rw [Nat.add_sub_cancel_left] at g2 g3 g4
   have e:s+a+b+t-s=a+b+t:=by omega
   rw [e]
   have e2:a+b+t-a=b+t:=by omega
   have e3:b+t-y.ks.length-(b-y.ks.length)=t:=by omega
   refine⟨by omega,?_,?_,?_⟩
   ·simp only [List.length_append,hpl,htl,List.length_replicate];omega
   ·rw [zat_append_right _ _ _ (by omega),hpl,e2,zat_append_right _ _ _ (by omega),htl,zat_append_right _ _ _ (by simp;omega),List.length_replicate,e3,g3,zat_drop]
    congr 1
    omega
   ·rw [set_right _ _ _ _ (by omega),hpl,e2,set_right _ _ _ _ (by omega),htl,set_right _ _ _ _ (by simp;omega),List.length_replicate,e3,g4]
    rw [List.take_set_of_le (by omega),List.drop_set,if_neg hlt]
theorem body_one {x:Nd}(hv:validN x=true)(pw:List Int)(i:Nat)(v:Int)(hl:pw.length=(targN x).length)(hi:i<(targN x).length):
  (posL x).getD i 0<(bodyP x pw).length∧zat (bodyP x pw) ((posL x).getD i 0)=zat pw i∧(bodyP x pw).set ((posL x).getD i 0) v=bodyP x (pw.set i v):=by
 obtain⟨k,e,n,d,ks⟩:=x
 have hk:=valid_k hv
 simp only [Nd.k] at hk
 rcases hk with rfl|rfl|rfl
 ·rw [head_nul hv] at hi
  simp [targN_mk,nd0] at hi
 ·have hT:targN (.mk 1 e n d ks)=ks:=by rw [targN_mk,if_neg (by omega)]
  rw [hT] at hl hi
  have hP:posL (.mk 1 e n d ks)=(List.range ks.length).map (fun i=>d.length / 8+i):=rfl
  have hB:∀pw,bodyP (.mk 1 e n d ks) pw=wordsOf d++pw:=fun _=>rfl
  have hw:=wordsOf_length d
  rw [hP,nat_getD_map _ _ _ hi,hB,hB]
  refine⟨by rw [List.length_append];omega,?_,?_⟩
  ·rw [zat_append_right _ _ _ (by omega),hw,Nat.add_sub_cancel_left]
  ·rw [set_right _ _ _ _ (by omega),hw,Nat.add_sub_cancel_left]
 ·obtain⟨-,-,-,g4,g5,g6⟩:=head_lst hv
  by_cases h7:e=7
  ·subst h7
   have hT:targN (.mk 2 7 n d ks)=kk ks:=by rw [targN_mk,if_pos ⟨rfl,rfl⟩]
   have hP:posL (.mk 2 7 n d ks)=posE (uniD ks ks.length) (uniP ks ks.length) 1 ks:=rfl
   have hB:∀pw,bodyP (.mk 2 7 n d ks) pw=tagW n (uniD ks ks.length) (uniP ks ks.length)::elsP (uniD ks ks.length) (uniP ks ks.length) ks pw:=fun _=>rfl
   rw [hT] at hl hi
   obtain⟨q1,q2,q3,q4⟩:=elsP_one _ _ ks pw 1 i v (comp_fit hv) hl hi
   rw [hP,hB,hB]
   generalize (posE (uniD ks ks.length) (uniP ks ks.length) 1 ks).getD i 0=q at *
   obtain⟨t,rfl⟩:∃t,q=t+1:=⟨q-1,by omega⟩
   rw [Nat.add_sub_cancel] at q2 q3 q4
   refine⟨by rw [List.length_cons];omega,?_,by rw [List.set_cons_succ,q4]⟩
   rw [←q3]
   simp [zat]
  ·have hT:targN (.mk 2 e n d ks)=ks:=by rw [targN_mk,if_neg (by omega)]
   rw [hT] at hl hi
   have h6:e=6:=by
    rcases(by omega:e<6∨e=6) with h|h
    ·have:=(g6 h).1;omega
    ·exact h
   subst h6
   have hP:posL (.mk 2 6 n d ks)=(List.range ks.length).map (fun i=>0+i):=rfl
   have hB:∀pw,bodyP (.mk 2 6 n d ks) pw=pw:=fun _=>rfl
   rw [hP,nat_getD_map _ _ _ hi,hB,hB,Nat.zero_add]
   exact⟨by omega,rfl,rfl⟩
theorem posL_length {x:Nd}(hv:validN x=true):(posL x).length=(targN x).length:=by
 obtain⟨k,e,n,d,ks⟩:=x
 have hk:=valid_k hv
 simp only [Nd.k] at hk
 rcases hk with rfl|rfl|rfl
 ·rw [head_nul hv];rfl
 ·rw [targN_mk,if_neg (by omega)]
  show ((List.range ks.length).map _).length=_
  simp
 ·by_cases h7:e=7
  ·subst h7
   rw [targN_mk,if_pos ⟨rfl,rfl⟩]
   exact posE_length _ _ ks 1
  ·rw [targN_mk,if_neg (by omega)]
   have hP:posL (.mk 2 e n d ks)=(List.range ks.length).map (fun i=>0+i):=by
    show (if (2:Int)=1 then _ else if e=7 then _ else _)=_
    rw [if_neg (by decide),if_neg h7]
    rfl
   rw [hP]
   simp
theorem pwL_length {x:Nd}(hv:validN x=true):(pwL x).length=(targN x).length:=pwF_length _ _ _ (posL_length hv).symm
theorem pwF_zat:∀(ts:List Nd) (ps:List Nat) (nx:Int) (i:Nat) (hi:i<ts.length),ts.length=ps.length→zat (pwF nx ts ps) i=ptrW ts[i] (nx+canK (ts.take i)-(ps.getD i 0:Nat)-1)
 | [],_,_,_,hi,_=>by simp at hi
 | t::ts,[],_,_,_,h=>by simp at h
 | t::ts,p::ps,nx,0,_,_=>by simp [pwF,zat,canK]
 | t::ts,p::ps,nx,i+1,hi,h=>by
  have ih:=pwF_zat ts ps (nx+canN t) i (by simpa using hi) (by simpa using h)
  have e:zat (pwF nx (t::ts) (p::ps)) (i+1)=zat (pwF (nx+canN t) ts ps) i:=by simp [pwF,zat]
  rw [e,ih]
  simp only [List.getElem_cons_succ,List.take_succ_cons,canK,List.getD_cons_succ]
  congr 1
  omega
def fillW (x:Nd)(i:Nat):List Int:=bodyP x ((pwL x).take i++List.replicate ((targN x).length-i) 0)
theorem fillW_all {x:Nd}(hv:validN x=true):fillW x (targN x).length=bodyN x:=by
 unfold fillW
 rw [Nat.sub_self,List.replicate_zero,List.append_nil,←pwL_length hv,List.take_length,body_bodyP hv]
theorem fillW_step {x:Nd}(hv:validN x=true)(i:Nat)(hi:i<(targN x).length):
  (posL x).getD i 0<(fillW x i).length∧zat (fillW x i) ((posL x).getD i 0)=0∧(fillW x i).set ((posL x).getD i 0) (ptrW (targN x)[i] (canO x+canK ((targN x).take i)-((posL x).getD i 0:Nat)-1))=fillW x (i+1):=by
 have hl:=pwL_length hv
 have htl:((pwL x).take i).length=i:=by rw [List.length_take];omega
 obtain⟨h1,h2,h3⟩:=body_one hv ((pwL x).take i++List.replicate ((targN x).length-i) 0) i (ptrW (targN x)[i] (canO x+canK ((targN x).take i)-((posL x).getD i 0:Nat)-1)) (by rw [List.length_append,htl,List.length_replicate];omega) hi
 refine⟨h1,?_,?_⟩
 ·show zat (bodyP x _) _=0
  rw [h2,zat_append_right _ _ _ (by omega),zat_replicate]
 ·show (bodyP x _).set _ _=bodyP x _
  rw [h3]
  congr 1
  rw [set_right _ _ _ _ (by omega),htl,Nat.sub_self]
  obtain⟨m,hm⟩:∃m,(targN x).length-i=m+1:=⟨(targN x).length-i-1,by omega⟩
  have hz:=pwF_zat (targN x) (posL x) (canO x) i hi (posL_length hv).symm
  rw [hm,show (targN x).length-(i+1)=m by omega,List.replicate_succ,List.set_cons_zero,←hz]
  have e:(pwL x).take (i+1)=(pwL x).take i++[zat (pwL x) i]:=by
   rw [List.take_succ_eq_append_getElem (by omega)]
   simp [zat,List.getD_eq_getElem?_getD,hl,hi]
  rw [e,List.append_assoc]
  rfl
end Go.Proofs.YtfaflahfjgnphaaGreatDoor
