/- The texts CwP, Chk3, Chk4, Chk5, Chk8 (what is wanted of them), one after the other. -/
import Derived.Test.YtclpapddejgpnaaDoorMg10
import Derived.Test.YtclpapddejgpnaaDoorMg33
namespace Go.Proofs.YtclpapddejgpnaaDoor
open Go.ChangeShapes Go.WideShapes Go.ChangeAt Go.RowKit
set_option linter.unusedVariables false
set_option linter.unusedSimpArgs false
set_option maxRecDepth 100000
theorem SameWords_15 (A B:Option Addr)(c d:Nat)(a b:List Int)(la lb:Nat)(v:Bool)(w:World)(ha:Ri w .u64 A a)(hb:Ri w .u64 B b)(hla:a.length=la)(hlb:b.length=lb)(hm:la≤9223372036854775807)(hm2:lb≤9223372036854775807)(hv:sameB a b=v):
  Calls Tryd.prog 13 #[.slice A la c,.slice B lb d] w fun e w'=>e=.returned (.bool v)∧Below w.heap.size w w':=by
 subst hla hlb hv
 refine(SameWords_any A B c d a b w ha hb hm hm2).mono ?_
 rintro e w' ⟨rfl,m,rfl⟩
 exact⟨rfl,bel_drewN (Below.refl _ _) m⟩
theorem datW_wds3 {W:List Int}(hW:Wds W)(q A:Nat)(h:q+A≤W.length):Wds (datW [W] 0 (q:Int) (A:Int)):=by
 obtain⟨hdl,hdh⟩:=datW_has (W:=W) (q:=q) (A:=A) (by omega)
 intro z hz
 obtain⟨i,hi,rfl⟩:=List.getElem_of_mem hz
 have h1:=hdh.2 i hi
 have h2:zat (datW [W] 0 (q:Int) (A:Int)) i=(datW [W] 0 (q:Int) (A:Int))[i]:=by simp [zat,List.getD_eq_getElem?_getD,hi]
 rw [←h2,←h1]
 have h3:q+i<W.length:=by omega
 have h4:zat W (q+i)=W[q+i]:=by simp [zat,List.getD_eq_getElem?_getD,h3]
 rw [h4]
 exact hW _ (List.getElem_mem h3)
theorem pad_lay {W:List Int}{q A:Nat}{d:List Int}(hW:Wds W)(hlen:q+A≤W.length)(hd:d.length≤8*A)(hb:Bts d):Has W q (padW d A)↔bytesOf (datW [W] 0 (q:Int) (A:Int))=d++List.replicate (8*A-d.length) 0:=by
 obtain⟨hdl,hdh⟩:=datW_has (W:=W) (q:=q) (A:=A) hlen
 have hwd:=datW_wds3 hW q A hlen
 constructor
 ·intro h
  rw [one_dat h (padW_length hd),pad_bytes hb hd]
 ·intro h
  have h1:=wordsOf_bytesOf _ hwd
  rw [h] at h1
  have h2:padW d A=datW [W] 0 (q:Int) (A:Int):=h1
  rw [h2]
  exact hdh
theorem trim_other {k e n:Int}(hk:k≠1)(d:List Int)(ks:List Nd):trimN (.mk k e n d ks)=.mk k e n d (trimK ks):=by
 simp only [trimN]
 rw [if_neg hk,if_neg hk]
theorem plain_lay {W:List Int}{q A:Nat}{e n:Int}{d:List Int}(hW:Wds W)(hlen:q+A≤W.length)(he0:0≤e)(he:e<6)(hA:wordsI e n=A)(hd:d.length≤8*A)(hb:Bts d):
  Has W q (objW (trimN (.mk 2 e n d [])))↔bytesOf (datW [W] 0 (q:Int) (A:Int))=d++List.replicate (8*A-d.length) 0:=by
 rw [trim_other (by decide),←pad_lay hW hlen hd hb,objW_eq]
 have hT:targN (.mk 2 e n d (trimK []))=[]:=by rw [targN_mk,if_neg (by omega)];rfl
 have hB:bodyN (.mk 2 e n d (trimK []))=padW d A:=by
  show bodyW 2 e n d (trimK [])=_
  unfold bodyW
  rw [if_neg (by decide),if_neg (by decide),if_neg (by omega),if_neg (by omega),hA]
  rfl
 rw [hT,hB]
 simp [objK]
theorem ptrs_lay {W:List Int}{q n:Nat}{ks:List Nd}(hlen:q+n≤W.length)(hn:ks.length=n)(hv:∀y∈ks,validN y=true):
  Has W q (objW (trimN (.mk 2 6 (n:Int) [] ks)))↔LayK W (q+n) q (trimK ks):=by
 have htl:=trimK_length ks
 have hwI:wordsI 6 (n:Int)=n:=by simp [wordsI,bitsI];omega
 rw [trim_other (by decide),objW_eq,layK_iff (pos:=0) (x:=((n:Nat):Int)) (validK_trim hv) (by omega) hlen (by omega)]
 have hT:targN (.mk 2 6 (n:Int) [] (trimK ks))=trimK ks:=by rw [targN_mk,if_neg (by omega)]
 have hB:bodyN (.mk 2 6 (n:Int) [] (trimK ks))=ptrsW 0 ((n:Nat):Int) (trimK ks):=by
  show bodyW 2 6 (n:Int) [] (trimK ks)=_
  have h3:canOf 2 6 (n:Int) [] (trimK ks)=wordsI 6 (n:Int):=rfl
  unfold bodyW
  rw [if_neg (by decide),if_neg (by decide),if_neg (by decide),if_pos rfl,h3,hwI]
 rw [hT,hB,has_append,ptrsW_length,htl,hn]
theorem elem_parts {W:List Int}{q A b:Nat}{ks:List Nd}(hW:Wds W)(hlen:q+A≤W.length)(hb:ks.length=b)(hv:∀y∈ks,validN y=true):
  (trimN (.mk 1 0 0 (bytesOf (datW [W] 0 (q:Int) (A:Int))) ks)).d.length≤8*A∧(trimN (.mk 1 0 0 (bytesOf (datW [W] 0 (q:Int) (A:Int))) ks)).ks.length≤b ∧
  Has W q (padW (trimN (.mk 1 0 0 (bytesOf (datW [W] 0 (q:Int) (A:Int))) ks)).d A) ∧
  (trimN (.mk 1 0 0 (bytesOf (datW [W] 0 (q:Int) (A:Int))) ks)).ks++List.replicate (b-(trimN (.mk 1 0 0 (bytesOf (datW [W] 0 (q:Int) (A:Int))) ks)).ks.length) nd0=trimK ks:=by
 obtain⟨hdl,hdh⟩:=datW_has (W:=W) (q:=q) (A:=A) hlen
 have hbl:=bytesOf_length (datW [W] 0 (q:Int) (A:Int))
 have hbt:=bytesOf_bts (datW [W] 0 (q:Int) (A:Int))
 rw [trim_struct]
 simp only [Nd.d,Nd.ks]
 have hwl:=wordsT_le (bytesOf (datW [W] 0 (q:Int) (A:Int))) (by omega)
 have htl:=trimK_length ks
 have hpl:=ptrsT_le ks
 have e1:((bytesOf (datW [W] 0 (q:Int) (A:Int))).take (8*wordsT (bytesOf (datW [W] 0 (q:Int) (A:Int))))).length=8*wordsT (bytesOf (datW [W] 0 (q:Int) (A:Int))):=by rw [List.length_take];omega
 have e2:((trimK ks).take (ptrsT ks)).length=ptrsT ks:=by rw [List.length_take];omega
 rw [e1,e2]
 refine⟨by omega,by omega,?_,?_⟩
 ·refine(pad_lay hW hlen (by rw [e1];omega) (fun z hz=>hbt z (List.mem_of_mem_take hz))).2 ?_
  rw [e1]
  apply ext_zat
  ·rw [List.length_append,e1,List.length_replicate];omega
  ·intro i hi
   by_cases hlt:i<8*wordsT (bytesOf (datW [W] 0 (q:Int) (A:Int)))
   ·rw [zat_append_left _ _ _ (by rw [e1];exact hlt),zat_take _ _ _ hlt]
   ·rw [zat_append_right _ _ _ (by rw [e1];omega),zat_replicate]
    refine Classical.byContradiction fun hn=>?_
    have:=wordsT_at hi hn
    omega
 ·have h1:(trimK ks).drop (ptrsT ks)=List.replicate (b-ptrsT ks) nd0:=by
   refine List.eq_replicate_iff.2 ⟨by rw [List.length_drop];omega,fun y hy=>?_⟩
   have h2:=trim_drop_nulls ks y hy
   have h3:=validK_trim hv y (List.mem_of_mem_drop hy)
   obtain⟨k',e',n',d',ks'⟩:=y
   simp only [Nd.k] at h2
   subst h2
   exact head_nul h3
  rw [←h1,List.take_append_drop]
section
theorem els_iff {W:List Int}{A b:Nat}:∀{ys:List Nd} {P:Nat} {pos x:Int},(∀y∈ys,y.d.length≤8*A∧y.ks.length≤b) →
  (Has W P (elsW A b pos x ys)↔P+ys.length*(A+b)≤W.length∧∀j (hj:j<ys.length),Has W (P+j*(A+b)) (padW ys[j].d A)∧Has W (P+j*(A+b)+A) (ptrsW (pos+j*(A+b)+A) (x+canK (kk (ys.take j))) (ys[j].ks++List.replicate (b-ys[j].ks.length) nd0)))
 | [],P,pos,x,_=>by
  simp only [elsW,List.length_nil,Nat.zero_mul,Nat.add_zero]
  exact has_nil.trans ⟨fun h=>⟨h,fun j hj=>by simp at hj⟩,fun h=>h.1⟩
 | y::ys,P,pos,x,hf=>by
  have h0:=hf y (List.mem_cons_self ..)
  constructor
  ·intro h
   exact⟨by have:=h.1;rw [elsW_length A b _ _ _ hf] at this;exact this,fun j hj=>h.els hf j hj⟩
  ·rintro⟨hl,hall⟩
   have g0:=hall 0 (by simp)
   simp only [Nat.zero_mul,Nat.add_zero,List.getElem_cons_zero,List.take_zero] at g0
   have e1:pos+((0:Nat):Int)*((A:Int)+b)+A=pos+A:=by simp
   have e2:x+canK (kk [])=x:=by simp [kk,canK]
   rw [e1,e2] at g0
   have ih:=(els_iff (W:=W) (ys:=ys) (P:=P+A+b) (pos:=pos+A+b) (x:=x+canK y.ks) (fun z hz=>hf z (List.mem_cons_of_mem _ hz))).2 (by
    refine⟨?_,fun j hj=>?_⟩
    ·have:(ys.length+1)*(A+b)=ys.length*(A+b)+(A+b):=by rw [Nat.add_mul,Nat.one_mul]
     simp only [List.length_cons] at hl
     omega
    ·have g:=hall (j+1) (by simpa using hj)
     have e0:P+(j+1)*(A+b)=P+A+b+j*(A+b):=by rw [Nat.add_mul];omega
     have e1:pos+((j+1:Nat):Int)*((A:Int)+b)+A=pos+(A:Int)+b+(j:Int)*((A:Int)+b)+A:=by
      have:((j+1:Nat):Int)*((A:Int)+b)=(j:Int)*((A:Int)+b)+((A:Int)+b):=by rw [Int.natCast_succ,Int.add_mul,Int.one_mul]
      rw [this]
      omega
     have e2:x+canK (kk ((y::ys).take (j+1)))=x+canK y.ks+canK (kk (ys.take j)):=by
      have:kk ((y::ys).take (j+1))=y.ks++kk (ys.take j):=by simp [kk]
      rw [this,canK_append]
      omega
     rw [e0,e1,e2] at g
     exact g)
   simp only [elsW]
   rw [has_append,has_append,padW_length h0.1,ptrsW_length,List.length_append,List.length_replicate]
   refine⟨g0.1,g0.2,?_⟩
   rw [show P+A+(y.ks.length+(b-y.ks.length))=P+A+b by omega]
   exact ih
theorem kk_has {W:List Int}:∀{ys:List Nd} {Q:Nat},Has W Q (objK (kk ys))↔Q≤W.length∧∀j (hj:j<ys.length),Has W (Q+(objK (kk (ys.take j))).length) (objK ys[j].ks)
 | [],Q=>by
  have h0:objK (kk ([]:List Nd))=[]:=rfl
  rw [h0]
  exact has_nil.trans ⟨fun h=>⟨h,fun j hj=>by simp at hj⟩,fun h=>h.1⟩
 | y::ys,Q=>by
  have hk:kk (y::ys)=y.ks++kk ys:=by simp [kk]
  rw [hk,objK_append,has_append,kk_has (ys:=ys)]
  constructor
  ·rintro⟨h1,h2,h3⟩
   refine⟨by have:=h1.1;omega,fun j hj=>?_⟩
   cases j with
   | zero=>simpa [kk,objK] using h1
   | succ j=>
    have h4:kk ((y::ys).take (j+1))=y.ks++kk (ys.take j):=by simp [kk]
    rw [h4,objK_append,List.length_append,←Nat.add_assoc]
    exact h3 j (by simpa using hj)
  ·rintro⟨h1,h2⟩
   have g0:=h2 0 (by simp)
   have g0':Has W Q (objK y.ks):=by simpa [kk,objK] using g0
   refine⟨g0',g0'.1,fun j hj=>?_⟩
   have g:=h2 (j+1) (by simpa using hj)
   have h4:kk ((y::ys).take (j+1))=y.ks++kk (ys.take j):=by simp [kk]
   rw [h4,objK_append,List.length_append,←Nat.add_assoc] at g
   exact g
theorem kk_len (ys:List Nd)(j:Nat)(h:j<ys.length):(objK (kk (ys.take (j+1)))).length=(objK (kk (ys.take j))).length+(objK ys[j].ks).length:=by
 rw [kk_take ys j h,objK_append,List.length_append]
open Classical in
theorem chkR_seq {f:Int→Nat→Int}{m nx:Nat}{R:Nat→Nat→Prop}{S:Nat→Nat}{n:Nat}(hn:nx+S 0≤m)(hS:∀j,j<n→S j≤S (j+1))(hR:∀j q,j<n→q≤m→R j q→q+(S (j+1)-S j)≤m)
  (hf:∀j q,j<n→q≤m→f ((q:Nat):Int) j=if R j q then ((q+(S (j+1)-S j):Nat):Int) else -1) :
  (∀i,i≤n→(∀j,j<i→R j (nx+S j))→chkR f ((nx+S 0:Nat):Int) i=((nx+S i:Nat):Int)∧nx+S i≤m)∧(∀i,i≤n→(∃j,j<i∧¬R j (nx+S j))→chkR f ((nx+S 0:Nat):Int) i=-1):=by
 have h1:∀i,i≤n→(∀j,j<i→R j (nx+S j))→chkR f ((nx+S 0:Nat):Int) i=((nx+S i:Nat):Int)∧nx+S i≤m:=by
  intro i
  induction i with
  | zero=>intro _ _;exact⟨rfl,hn⟩
  | succ i ih=>
   intro hi hr
   obtain⟨g1,g2⟩:=ih (by omega) (fun j hj=>hr j (by omega))
   have h3:=hf i (nx+S i) (by omega) g2
   rw [if_pos (hr i (by omega))] at h3
   have h4:=hR i (nx+S i) (by omega) g2 (hr i (by omega))
   have h5:=hS i (by omega)
   unfold chkR
   rw [g1,if_neg (by omega),h3,if_neg (by omega)]
   exact⟨by omega,by omega⟩
 refine⟨h1,?_⟩
 intro i
 induction i with
 | zero=>rintro _ ⟨j,hj,-⟩;omega
 | succ i ih=>
  rintro hi ⟨j,hj,hno⟩
  by_cases hex:∃j,j<i∧¬R j (nx+S j)
  ·unfold chkR
   rw [ih (by omega) hex,if_pos (by omega)]
  ·have hall:∀j,j<i→R j (nx+S j):=fun j hj=>Classical.byContradiction fun h=>hex ⟨j,hj,h⟩
   obtain⟨g1,g2⟩:=h1 i (by omega) hall
   obtain rfl:j=i:=Classical.byContradiction fun h=>hno (hall j (by omega))
   have h3:=hf j (nx+S j) (by omega) g2
   rw [if_neg hno] at h3
   unfold chkR
   rw [g1,if_neg (by omega),h3,if_pos (by omega)]
end
section
section
variable {W:List Int} {q A b n:Nat} {els:List Nd}
def Elems (W:List Int)(q A b:Nat)(els:List Nd):Prop:=∀j (hj:j<els.length),els[j]=.mk 1 0 0 (bytesOf (datW [W] 0 ((q+1+j*(A+b):Nat):Int) (A:Int))) els[j].ks∧els[j].ks.length=b∧∀y∈els[j].ks,validN y=true
theorem elem_in (hlen:q+1+n*(A+b)≤W.length){j:Nat}(hj:j<n):q+1+j*(A+b)+A+b≤W.length:=by
 have h1:(j+1)*(A+b)≤n*(A+b):=Nat.mul_le_mul_right _ (by omega)
 have h2:(j+1)*(A+b)=j*(A+b)+(A+b):=by rw [Nat.add_mul,Nat.one_mul]
 omega
theorem elem_facts (hW:Wds W)(hlen:q+1+n*(A+b)≤W.length)(hn:els.length=n)(hel:Elems W q A b els){j:Nat}(hj:j<els.length):
  (trimN els[j]).d.length % 8=0∧(trimN els[j]).d.length≤8*A∧(trimN els[j]).ks.length≤b∧Has W (q+1+j*(A+b)) (padW (trimN els[j]).d A) ∧
  (trimN els[j]).ks++List.replicate (b-(trimN els[j]).ks.length) nd0=trimK els[j].ks ∧
  ((trimN els[j]).d.length=8*A↔(A=0∨zat W (q+1+j*(A+b)+A-1)≠0))∧((trimN els[j]).ks.length=b↔(b=0∨kAt els[j].ks (b-1)≠0)):=by
 obtain⟨h1,h2,h3⟩:=hel j hj
 have hin:=elem_in hlen (show j<n by omega)
 have hp:=elem_parts (W:=W) (q:=q+1+j*(A+b)) (A:=A) (b:=b) (ks:=els[j].ks) hW (by omega) h2 h3
 rw [←h1] at hp
 obtain⟨p1,p2,p3,p4⟩:=hp
 obtain⟨hdl,hdh⟩:=datW_has (W:=W) (q:=q+1+j*(A+b)) (A:=A) (by omega)
 have hwd:=datW_wds3 hW (q+1+j*(A+b)) A (by omega)
 have hlast:=lastW hwd hdl
 have hbl:=bytesOf_length (datW [W] 0 ((q+1+j*(A+b):Nat):Int) (A:Int))
 have hwl:=wordsT_le (bytesOf (datW [W] 0 ((q+1+j*(A+b):Nat):Int) (A:Int))) (by omega)
 have hpl:=ptrsT_le els[j].ks
 have htl:=trimK_length els[j].ks
 have hz:A≠0→zat (datW [W] 0 ((q+1+j*(A+b):Nat):Int) (A:Int)) (A-1)=zat W (q+1+j*(A+b)+A-1):=fun h=>by
  rw [←hdh.2 (A-1) (by omega)]
  congr 1
  omega
 have e1:(trimN els[j]).d.length=8*wordsT (bytesOf (datW [W] 0 ((q+1+j*(A+b):Nat):Int) (A:Int))):=by
  rw [h1,trim_struct]
  simp only [Nd.d]
  rw [List.length_take]
  omega
 have e2:(trimN els[j]).ks.length=ptrsT els[j].ks:=by
  generalize els[j].ks=kz at *
  rw [h1,trim_struct]
  simp only [Nd.ks]
  rw [List.length_take]
  omega
 have e3:(trimN els[j]).d.length=8*A↔(A=0∨zat W (q+1+j*(A+b)+A-1)≠0):=by
  rw [e1]
  by_cases h:A=0
  ·exact⟨fun _=>.inl h,fun _=>by omega⟩
  ·rw [←hz h]
   rw [←hlast]
   omega
 have e4:(trimN els[j]).ks.length=b↔(b=0∨kAt els[j].ks (b-1)≠0):=by
  rw [e2]
  exact lastK h2
 exact⟨by omega,p1,p2,p3,p4,e3,e4⟩
theorem uniD_iff {ys:List Nd}(hn:ys.length=n)(h8:∀y∈ys,y.d.length % 8=0)(hle:∀y∈ys,y.d.length≤8*A):uniD ys n=A↔(A=0∨∃j,∃hj:j<ys.length,ys[j].d.length=8*A):=by
 have hu:=uniD_le ys A n (by omega) (fun y hy=>by have:=hle y hy;omega)
 constructor
 ·intro h
  by_cases h0:A=0
  ·exact .inl h0
  ·have hn0:0<n:=by
    refine Nat.pos_of_ne_zero fun e=>?_
    rw [e] at h
    exact h0 h.symm
   obtain⟨j,hj,-,h1⟩:=uniD_attained ys h8 n (by omega) hn0
   exact .inr ⟨j,hj,by rw [h1,h]⟩
 ·rintro(h|⟨j,hj,h⟩)
  ·omega
  ·have:=uniD_covers ys h8 n (by omega) j hj (by omega)
   omega
theorem uniP_iff {ys:List Nd}(hn:ys.length=n)(hle:∀y∈ys,y.ks.length≤b):uniP ys n=b↔(b=0∨∃j,∃hj:j<ys.length,ys[j].ks.length=b):=by
 have hu:=uniP_le ys b n (by omega) hle
 constructor
 ·intro h
  by_cases h0:b=0
  ·exact .inl h0
  ·have hn0:0<n:=by
    refine Nat.pos_of_ne_zero fun e=>?_
    rw [e] at h
    exact h0 h.symm
   obtain⟨j,hj,-,h1⟩:=uniP_attained ys n (by omega) hn0
   exact .inr ⟨j,hj,by rw [h1,h]⟩
 ·rintro(h|⟨j,hj,h⟩)
  ·omega
  ·have:=uniP_covers ys n (by omega) j hj (by omega)
   omega
theorem comp_lay (hW:Wds W)(hlen:q+1+n*(A+b)≤W.length)(hn:els.length=n)(hel:Elems W q A b els)(htag:zat W q=tagW n A b):
  ((A=0∨∃j,j<n∧zat W (q+1+j*(A+b)+A-1)≠0)∧(b=0∨∃j,j<n∧zat W (q+1+j*(A+b)+A+b-1)≠0) ∧
   ∀j (hj:j<els.length),LayK W (q+1+n*(A+b)+(objK (kk ((trimK els).take j))).length) (q+1+j*(A+b)+A) (trimK els[j].ks)) ↔
  (uniD (trimK els) n=A∧uniP (trimK els) n=b∧Has W q (objW (trimN (.mk 2 7 (n:Int) [] els)))):=by
 have hyl:(trimK els).length=n:=by rw [trimK_length];exact hn
 have hyg:∀j (hj:j<els.length),(trimK els)[j]'(by rw [trimK_length];exact hj)=trimN els[j]:=fun j hj=>trimK_get els j hj
 have hF:=fun j (hj:j<els.length)=>elem_facts hW hlen hn hel hj
 have hmem:∀y∈trimK els,∃j,∃hj:j<els.length,y=trimN els[j]:=fun y hy=>by
  obtain⟨j,hj,rfl⟩:=List.getElem_of_mem hy
  rw [trimK_length] at hj
  exact⟨j,hj,hyg j hj⟩
 have hD:=uniD_iff (A:=A) hyl (fun y hy=>by obtain⟨j,hj,rfl⟩:=hmem y hy;exact(hF j hj).1) (fun y hy=>by obtain⟨j,hj,rfl⟩:=hmem y hy;exact(hF j hj).2.1)
 have hP:=uniP_iff (b:=b) hyl (fun y hy=>by obtain⟨j,hj,rfl⟩:=hmem y hy;exact(hF j hj).2.2.1)
 have hD2:uniD (trimK els) n=A↔(A=0∨∃j,j<n∧zat W (q+1+j*(A+b)+A-1)≠0):=by
  rw [hD]
  by_cases h0:A=0
  ·simp [h0]
  constructor
  ·rintro(h|⟨j,hj,h⟩)
   ·exact .inl h
   ·rw [trimK_length] at hj
    rw [hyg j hj] at h
    rcases(hF j hj).2.2.2.2.2.1.1 h with g|g
    ·exact absurd g h0
    ·exact .inr ⟨j,by omega,g⟩
  ·rintro(h|⟨j,hj,h⟩)
   ·exact .inl h
   ·have hj2:j<els.length:=by omega
    exact .inr ⟨j,by rw [trimK_length];exact hj2,by rw [hyg j hj2];exact(hF j hj2).2.2.2.2.2.1.2 (.inr h)⟩
 have hlp:b≠0→∀j (hj:j<els.length) (nx:Nat),LayK W nx (q+1+j*(A+b)+A) (trimK els[j].ks)→(kAt els[j].ks (b-1)≠0↔zat W (q+1+j*(A+b)+A+b-1)≠0):=by
  intro hb0 j hj nx hlay
  obtain⟨-,hkb,hkv⟩:=hel j hj
  have hlt:b-1<(trimK els[j].ks).length:=by rw [trimK_length];omega
  have h1:=(hlay (b-1) hlt).1
  have h2:kAt els[j].ks (b-1)=((trimK els[j].ks)[b-1]'hlt).k:=by rw [kAt_get (by omega),trimK_get els[j].ks (b-1) (by omega),trimN_k]
  have h3:=ptrW_zero (validK_trim hkv _ (List.getElem_mem hlt)) (((nx+(objK ((trimK els[j].ks).take (b-1))).length:Nat):Int)-((q+1+j*(A+b)+A+(b-1):Nat):Int)-1)
  rw [show q+1+j*(A+b)+A+b-1=q+1+j*(A+b)+A+(b-1) by omega,h1,h2]
  exact not_congr h3.symm
 have hP2:(∀j (hj:j<els.length),LayK W (q+1+n*(A+b)+(objK (kk ((trimK els).take j))).length) (q+1+j*(A+b)+A) (trimK els[j].ks))→(uniP (trimK els) n=b↔(b=0∨∃j,j<n∧zat W (q+1+j*(A+b)+A+b-1)≠0)):=by
  intro hall
  rw [hP]
  by_cases h0:b=0
  ·simp [h0]
  constructor
  ·rintro(h|⟨j,hj,h⟩)
   ·exact .inl h
   ·rw [trimK_length] at hj
    rw [hyg j hj] at h
    rcases(hF j hj).2.2.2.2.2.2.1 h with g|g
    ·exact absurd g h0
    ·exact .inr ⟨j,by omega,(hlp h0 j hj _ (hall j hj)).1 g⟩
  ·rintro(h|⟨j,hj,h⟩)
   ·exact .inl h
   ·have hj2:j<els.length:=by omega
    exact .inr ⟨j,by rw [trimK_length];exact hj2,by rw [hyg j hj2];exact(hF j hj2).2.2.2.2.2.2.2 (.inr ((hlp h0 j hj2 _ (hall j hj2)).2 h))⟩
 have hkids:∀j (hj:j<els.length),((objK (kk ((trimK els).take j))).length:Int)=canK (kk ((trimK els).take j)):=fun j hj=>objK_length (fun y hy=>objW_length y (by
  obtain⟨z,hz,hyz⟩:=List.mem_flatMap.1 hy
  obtain⟨i,hi,rfl⟩:=hmem z (List.mem_of_mem_take hz)
  obtain⟨-,-,hkv⟩:=hel i hi
  have:=(hF i hi).2.2.2.2.1
  exact validK_trim hkv y (by rw [←this];exact List.mem_append_left _ hyz)))
 have hobj:∀j (hj:j<els.length),objK (trimK els[j].ks)=objK (trimN els[j]).ks:=fun j hj=>by
  rw [←(hF j hj).2.2.2.2.1,objK_nulls]
 have hfull:uniD (trimK els) n=A→uniP (trimK els) n=b→(Has W q (objW (trimN (.mk 2 7 (n:Int) [] els)))↔∀j (hj:j<els.length),LayK W (q+1+n*(A+b)+(objK (kk ((trimK els).take j))).length) (q+1+j*(A+b)+A) (trimK els[j].ks)):=by
  intro h1 h2
  rw [trim_other (by decide),objW_eq]
  have hT:targN (.mk 2 7 (n:Int) [] (trimK els))=kk (trimK els):=by rw [targN_mk,if_pos ⟨rfl,rfl⟩]
  have hB:bodyN (.mk 2 7 (n:Int) [] (trimK els))=tagW n A b::elsW A b 1 ((1+n*(A+b):Nat):Int) (trimK els):=by
   show bodyW 2 7 (n:Int) [] (trimK els)=_
   have h3:canOf 2 7 (n:Int) [] (trimK els)=((1+n*(A+b):Nat):Int):=by
    unfold canOf
    rw [if_neg (by decide),if_neg (by decide),if_pos rfl,hyl,h1,h2]
    simp
   unfold bodyW
   rw [if_neg (by decide),if_neg (by decide),if_pos rfl,h3,hyl,h1,h2]
  have hfit:∀y∈trimK els,y.d.length≤8*A∧y.ks.length≤b:=fun y hy=>by
   obtain⟨j,hj,rfl⟩:=hmem y hy
   exact⟨(hF j hj).2.1,(hF j hj).2.2.1⟩
  have hel2:(elsW A b 1 ((1+n*(A+b):Nat):Int) (trimK els)).length=n*(A+b):=by rw [elsW_length A b _ _ _ hfit,hyl]
  rw [hT,hB,has_append,has_cons,els_iff hfit,List.length_cons,hel2,kk_has]
  have hyl2:(trimK els).length*(A+b)=n*(A+b):=by rw [hyl]
  have hone:∀j (hj:j<els.length),q+1+n*(A+b)+(objK (kk ((trimK els).take j))).length≤W.length→(LayK W (q+1+n*(A+b)+(objK (kk ((trimK els).take j))).length) (q+1+j*(A+b)+A) (trimK els[j].ks) ↔
    Has W (q+1+j*(A+b)+A) (ptrsW (1+j*(A+b)+A) (((1+n*(A+b):Nat):Int)+canK (kk ((trimK els).take j))) (trimK els[j].ks))∧Has W (q+1+n*(A+b)+(objK (kk ((trimK els).take j))).length) (objK (trimK els[j].ks))):=fun j hj hle=>by
   obtain⟨-,hkb,hkv⟩:=hel j hj
   have hin:=elem_in hlen (show j<n by omega)
   have hk:=hkids j hj
   refine layK_iff (validK_trim hkv) ?_ hle (by rw [trimK_length,hkb];exact hin)
   rw [←hk]
   have e:(j:Int)*((A:Int)+b)=((j*(A+b):Nat):Int):=by simp
   rw [e]
   omega
  have hzero:(objK (kk ((trimK els).take 0))).length=0:=by simp [kk,objK]
  constructor
  ·rintro⟨⟨g1,g2,g3,g4⟩,g5,g6⟩ j hj
   have g7:=g6 j (by omega)
   have g8:=(g4 j (by rw [hyl];omega)).2
   have hle:q+1+n*(A+b)+(objK (kk ((trimK els).take j))).length≤W.length:=by
    have:=g7.1
    omega
   refine(hone j hj hle).2 ⟨?_,?_⟩
   ·rw [hyg j hj,(hF j hj).2.2.2.2.1] at g8
    exact g8
   ·rw [hobj j hj,←hyg j hj]
    rw [show q+1+n*(A+b)=q+(n*(A+b)+1) by omega]
    exact g7
  ·intro hall
   have hN:∀j,j≤n→q+1+n*(A+b)+(objK (kk ((trimK els).take j))).length≤W.length:=by
    intro j
    induction j with
    | zero=>intro _;rw [hzero];omega
    | succ j ih=>
     intro hj
     have h3:=layK_le (ih (by omega)) (hall j (by omega))
     rw [kk_len (trimK els) j (by omega),hyg j (by omega),←hobj j (by omega)]
     omega
   refine⟨⟨by omega,htag,by omega,fun j hj=>?_⟩,by omega,fun j hj=>?_⟩
   ·have hj2:j<els.length:=by rw [hyl] at hj;omega
    have h3:=(hone j hj2 (hN j (by omega))).1 (hall j hj2)
    rw [hyg j hj2,(hF j hj2).2.2.2.2.1]
    exact⟨(hF j hj2).2.2.2.1,h3.1⟩
   ·have hj2:j<els.length:=by omega
    have h3:=(hone j hj2 (hN j (by omega))).1 (hall j hj2)
    rw [show q+(n*(A+b)+1)=q+1+n*(A+b) by omega,hyg j hj2,←hobj j hj2]
    exact h3.2
 constructor
 ·rintro⟨c1,c2,c3⟩
  have w1:=hD2.2 c1
  have w2:=(hP2 c3).2 c2
  exact⟨w1,w2,(hfull w1 w2).2 c3⟩
 ·rintro⟨w1,w2,w3⟩
  have c3:=(hfull w1 w2).1 w3
  exact⟨hD2.1 w1,(hP2 c3).1 w2,c3⟩
end
end
theorem lst_dec {w:Int}(z0:0≤w)(z1:w<18446744073709551616)(hk:(decP w).k=1):∃o e c,decP w=⟨1,o,0,0,e,c,false,0,0,0⟩∧-536870912≤o∧o≤536870911∧0≤e∧e≤7∧0≤c∧c≤536870911:=by
 have hv:=decP_vld _ z0 z1
 rcases hP:decP w with ⟨k,o,d,p,el,c,db,pa,sg,lo⟩
 rw [hP] at hv hk
 simp only at hk
 subst hk
 unfold Vld at hv
 simp only at hv
 rcases hv with h|h|h|h
 ·exact absurd h.1 (by decide)
 ·obtain⟨-,h1,h2,rfl,rfl,h3,h4,h5,h6,rfl,rfl,rfl,rfl⟩:=h
  exact⟨o,el,c,rfl,h1,h2,h3,h4,h5,h6⟩
 ·exact absurd h.1 (by decide)
 ·exact absurd h.1 (by decide)
theorem vld_lst {o e c:Int}(h1:-536870912≤o)(h2:o≤536870911)(h3:0≤e)(h4:e≤7)(h5:0≤c)(h6:c≤536870911):Vld ⟨1,o,0,0,e,c,false,0,0,0⟩:=by
 right;left
 simp only
 refine⟨trivial,h1,h2,trivial,trivial,h3,h4,h5,h6,?_⟩
 simp
theorem bytes_words8 (e c:Int)(he:e≠7)(h0:0≤c):0≤bytesI e c∧bytesI e c≤8*wordsI e c:=by
 have h10:=bitsI_mul e c h0
 unfold wordsI bytesI
 rw [if_neg he]
 omega
theorem lst_ptr {W:List Int}(hW:Wds W)(hlen:W.length≤20000000){a nx:Nat}(ha:a<W.length)(hnx:nx≤W.length){o e c:Int}(hd:decP (zat W a)=⟨1,o,0,0,e,c,false,0,0,0⟩)(h3:0≤e)(h4:e≤7){n:Int}{d:List Int}{ks:List Nd}(hc0:0≤if e=7 then canO (.mk 2 e n d ks)-1 else n)(hc1:(if e=7 then canO (.mk 2 e n d ks)-1 else n)≤536870911):
  zat W a=ptrW (.mk 2 e n d ks) ((nx:Int)-a-1)↔o=(nx:Int)-a-1∧c=if e=7 then canO (.mk 2 e n d ks)-1 else n:=by
 obtain⟨z0,z1⟩:=zat_bd hW ha
 rw [ptrW_lst,word_iff z0 z1 (vld_lst (by omega) (by omega) h3 h4 hc0 hc1),hd]
 simp
set_option maxHeartbeats 2000000 in
theorem vis_lst {W:List Int}{r:Nat}(hW:Wds W)(hlen:W.length≤20000000){m:Int}{a nx:Nat}(ha:a<W.length)(hnx:nx≤W.length){o e c:Int}(hd:decP (zat W a)=⟨1,o,0,0,e,c,false,0,0,0⟩)(h3:0≤e)(h4:e<6)(h5:0≤c)(h6:c≤536870911)(hw0:zat W a≠0)(he:(valV [W] (r+1) m 0 (a:Int)).e=0):
  visB (visC W r) W (nx:Int) (a:Int)=layV W nx a (trimN (valV [W] (r+1) m 0 (a:Int)).n):=by
 obtain⟨z0,z1⟩:=zat_bd hW ha
 have hv:=decP_vld _ z0 z1
 have hen:=encW_decP _ z0 z1
 have hvo:=val_obj ha hv (.inr (by rw [hd])) hen.symm (by rw [hen];exact hw0) r m
 rw [hd] at hvo
 rw [hvo] at he ⊢
 clear hv hen hvo
 have hwl:=wordsI_lim e c h5 h6
 obtain⟨A,hA⟩:=Int.eq_ofNat_of_zero_le hwl.1
 have hOb:objP [W] ⟨1,o,0,0,e,c,false,0,0,0⟩ 0 ((a:Int)+1)=if inB [W] 0 ((a:Int)+1+o) (wordsI e c)=false then (ob0,2) else (⟨2,0,(a:Int)+1+o,0,0,e,c,wordsI e c⟩,0):=by
  unfold objP
  simp only
  rw [if_neg (by decide),if_neg (by decide),if_neg (show ¬e=7 by omega)]
 rw [hOb] at he ⊢
 by_cases hin:inB [W] 0 ((a:Int)+1+o) (wordsI e c)=false
 ·rw [if_pos hin] at he
  have h2:(bodyV (valV [W] r) [W] m (ob0,2)).e=2:=rfl
  rw [h2] at he
  exact absurd he (by decide)
 rw [if_neg hin] at he ⊢
 obtain⟨-,-,i3,-,i5⟩:=inB_iff.1 (by simpa using hin:inB [W] 0 ((a:Int)+1+o) (wordsI e c)=true)
 have i6:(seg [W] (0:Int).toNat).length=W.length:=rfl
 rw [i6,hA] at i5
 obtain⟨q,hq⟩:=Int.eq_ofNat_of_zero_le i3
 rw [hq] at i5
 have hqlen:q+A≤W.length:=by omega
 have hBo:bodyV (valV [W] r) [W] m (⟨2,0,(a:Int)+1+o,0,0,e,c,wordsI e c⟩,0)=if m<wordsI e c then errV m 8 else ⟨.mk 2 e c (trimL (bytesOf (datW [W] 0 (q:Int) (A:Int))) e c) [],m-wordsI e c,0⟩:=by
  rw [hq,←hA]
  unfold bodyV
  simp only
  rw [if_neg (by simp),if_neg (show ¬((2:Int)=1) by decide),if_pos h4]
 rw [hBo] at he ⊢
 by_cases hm:m<wordsI e c
 ·rw [if_pos hm] at he
  exact absurd he (by show (8:Int)≠0;decide)
 rw [if_neg hm] at he ⊢
 have hdl:=(datW_has (W:=W) (q:=q) (A:=A) hqlen).1
 have hbl:=bytesOf_length (datW [W] 0 (q:Int) (A:Int))
 have hbt:=bytesOf_bts (datW [W] 0 (q:Int) (A:Int))
 have htl:(trimL (bytesOf (datW [W] 0 (q:Int) (A:Int))) e c).length≤8*A:=by
  rw [trimL_length]
  have h10:=bytes_words8 e c (by omega) h5
  omega
 have hpl:=plain_lay (W:=W) (q:=q) (A:=A) (e:=e) (n:=c) hW hqlen h3 h4 hA htl (trimL_bts hbt e c)
 have hptr:=lst_ptr hW hlen ha hnx hd h3 (by omega) (n:=c) (d:=trimL (bytesOf (datW [W] 0 (q:Int) (A:Int))) e c) (ks:=[]) (by rw [if_neg (by omega)];exact h5) (by rw [if_neg (by omega)];exact h6)
 rw [if_neg (show ¬e=7 by omega)] at hptr
 have htr:trimN (.mk 2 e c (trimL (bytesOf (datW [W] 0 (q:Int) (A:Int))) e c) [])=.mk 2 e c (trimL (bytesOf (datW [W] 0 (q:Int) (A:Int))) e c) []:=by rw [trim_other (by decide)];rfl
 rw [htr] at hpl
 show _=layV W nx a (trimN (.mk 2 e c (trimL (bytesOf (datW [W] 0 (q:Int) (A:Int))) e c) []))
 rw [htr]
 have hol:(objW (.mk 2 e c (trimL (bytesOf (datW [W] 0 (q:Int) (A:Int))) e c) [])).length=A:=by
  rw [objW_eq]
  have hT:targN (.mk 2 e c (trimL (bytesOf (datW [W] 0 (q:Int) (A:Int))) e c) [])=[]:=by rw [targN_mk,if_neg (by omega)]
  have hB:bodyN (.mk 2 e c (trimL (bytesOf (datW [W] 0 (q:Int) (A:Int))) e c) [])=padW (trimL (bytesOf (datW [W] 0 (q:Int) (A:Int))) e c) A:=by
   show bodyW 2 e c (trimL (bytesOf (datW [W] 0 (q:Int) (A:Int))) e c) []=_
   unfold bodyW
   rw [if_neg (by decide),if_neg (by decide),if_neg (by omega),if_neg (by omega),hA]
   rfl
  rw [hT,hB,List.length_append,padW_length htl]
  simp [objK]
 unfold visB
 rw [one_word ha,hd]
 simp only
 rw [if_neg hw0,if_neg (by decide),if_neg (fun h=>absurd h.1 (by decide))]
 by_cases hst:(a:Int)+1+o=nx
 rotate_left
 ·rw [if_pos hst,layV_neg]
  rintro⟨h1,-⟩
  have:=(hptr.1 h1).1
  omega
 obtain rfl:q=nx:=by omega
 rw [if_neg (fun h=>h hst),if_neg (by decide),if_neg (show ¬e=6 by omega),if_pos h4,hA]
 rw [show ((A:Nat):Int).toNat=A from rfl]
 by_cases hb:bytesOf (datW [W] 0 (q:Int) (A:Int))=trimL (bytesOf (datW [W] 0 (q:Int) (A:Int))) e c++List.replicate (8*A-(trimL (bytesOf (datW [W] 0 (q:Int) (A:Int))) e c).length) 0
 ·rw [if_pos hb,layV_pos ⟨hptr.2 ⟨by omega,rfl⟩,hpl.2 hb⟩,hol]
  omega
 ·rw [if_neg hb,layV_neg]
  rintro⟨-,h2⟩
  exact hb (hpl.1 h2)
set_option maxHeartbeats 2000000 in
theorem vis_ptrs {W:List Int}{r:Nat}(hW:Wds W)(hlen:W.length≤20000000)(IH:Tells W r){m:Int}{a nx:Nat}(ha:a<W.length)(hnx:nx≤W.length){o c:Int}(hd:decP (zat W a)=⟨1,o,0,0,6,c,false,0,0,0⟩)(h5:0≤c)(h6:c≤536870911)(hw0:zat W a≠0)(he:(valV [W] (r+1) m 0 (a:Int)).e=0):
  visB (visC W r) W (nx:Int) (a:Int)=layV W nx a (trimN (valV [W] (r+1) m 0 (a:Int)).n):=by
 obtain⟨z0,z1⟩:=zat_bd hW ha
 have hv:=decP_vld _ z0 z1
 have hen:=encW_decP _ z0 z1
 have hvo:=val_obj ha hv (.inr (by rw [hd])) hen.symm (by rw [hen];exact hw0) r m
 rw [hd] at hvo
 rw [hvo] at he ⊢
 clear hv hen hvo
 have hwI:wordsI 6 c=c:=by simp [wordsI,bitsI];omega
 obtain⟨n,rfl⟩:=Int.eq_ofNat_of_zero_le h5
 have hOb:objP [W] ⟨1,o,0,0,6,(n:Int),false,0,0,0⟩ 0 ((a:Int)+1)=if inB [W] 0 ((a:Int)+1+o) (n:Int)=false then (ob0,2) else (⟨2,0,(a:Int)+1+o,0,0,6,(n:Int),(n:Int)⟩,0):=by
  unfold objP
  simp only
  rw [if_neg (by decide),if_neg (by decide),if_neg (show ¬((6:Int)=7) by decide),hwI]
 rw [hOb] at he ⊢
 by_cases hin:inB [W] 0 ((a:Int)+1+o) (n:Int)=false
 ·rw [if_pos hin] at he
  have h2:(bodyV (valV [W] r) [W] m (ob0,2)).e=2:=rfl
  rw [h2] at he
  exact absurd he (by decide)
 rw [if_neg hin] at he ⊢
 obtain⟨-,-,i3,-,i5⟩:=inB_iff.1 (by simpa using hin:inB [W] 0 ((a:Int)+1+o) (n:Int)=true)
 have i6:(seg [W] (0:Int).toNat).length=W.length:=rfl
 rw [i6] at i5
 obtain⟨q,hq⟩:=Int.eq_ofNat_of_zero_le i3
 rw [hq] at i5
 have hqlen:q+n≤W.length:=by omega
 have hBo:bodyV (valV [W] r) [W] m (⟨2,0,(a:Int)+1+o,0,0,6,(n:Int),(n:Int)⟩,0)=if m<(n:Int) then errV m 8 else listV (valV [W] r) [W] (m-(n:Int)) ⟨2,0,(q:Int),0,0,6,(n:Int),(n:Int)⟩:=by
  rw [hq]
  unfold bodyV
  simp only
  rw [if_neg (by simp),if_neg (show ¬((2:Int)=1) by decide),if_neg (show ¬((6:Int)<6) by decide)]
 rw [hBo] at he ⊢
 by_cases hm:m<(n:Int)
 ·rw [if_pos hm] at he
  exact absurd he (by show (8:Int)≠0;decide)
 rw [if_neg hm] at he ⊢
 obtain⟨hR,hN⟩:=listV_ok he
 rw [hN]
 simp only [Int.toNat_natCast] at hR hN ⊢
 have hg:∀(m:Int) (i:Nat),elemV (valV [W] r) [W] ⟨2,0,(q:Int),0,0,6,(n:Int),(n:Int)⟩ m i=valV [W] r m 0 ((q+i:Nat):Int):=fun m i=>by
  unfold elemV
  rw [if_pos rfl]
  simp
 have hkv:=row_valid (wd2_one hW) (seg_one hlen) (r:=r) (P:=q) (n:=n) (m:=m-(n:Int)) hg
 have hkl:=runK_length hR
 have hrow:=fun nx (hn:nx≤W.length)=>row_vis IH (P:=q) (n:=n) (nx:=nx) (m:=m-(n:Int)) (by omega) hn hg hR (f:=fun e (i:Nat)=>visC W r e ((q:Int)+(i:Int))) (fun e i=>by show visC W r e ((q:Int)+(i:Int))=_;congr 1)
 generalize (runK (elemV (valV [W] r) [W] ⟨2,0,(q:Int),0,0,6,(n:Int),(n:Int)⟩) (m-(n:Int)) n).ks=ks at *
 have hpl:=ptrs_lay (W:=W) (q:=q) (n:=n) (ks:=ks) hqlen hkl hkv
 have htr:trimN (.mk 2 6 (n:Int) [] ks)=.mk 2 6 (n:Int) [] (trimK ks):=by rw [trim_other (by decide)]
 rw [htr] at hpl ⊢
 have hptr:=lst_ptr hW hlen ha hnx hd (by decide) (by decide) (n:=(n:Int)) (d:=[]) (ks:=trimK ks) (by rw [if_neg (by decide)];exact h5) (by rw [if_neg (by decide)];exact h6)
 rw [if_neg (show ¬((6:Int)=7) by decide)] at hptr
 have hol:(objW (.mk 2 6 (n:Int) [] (trimK ks))).length=n+(objK (trimK ks)).length:=by
  rw [objW_eq]
  have hT:targN (.mk 2 6 (n:Int) [] (trimK ks))=trimK ks:=by rw [targN_mk,if_neg (by omega)]
  have hB:bodyN (.mk 2 6 (n:Int) [] (trimK ks))=ptrsW 0 (canOf 2 6 (n:Int) [] (trimK ks)) (trimK ks):=by
   show bodyW 2 6 (n:Int) [] (trimK ks)=_
   unfold bodyW
   rw [if_neg (by decide),if_neg (by decide),if_neg (by decide),if_pos rfl]
  rw [hT,hB,List.length_append,ptrsW_length,trimK_length,hkl]
 unfold visB
 rw [one_word ha,hd]
 simp only
 rw [if_neg hw0,if_neg (by decide),if_neg (fun h=>absurd h.1 (by decide))]
 by_cases hst:(a:Int)+1+o=nx
 rotate_left
 ·rw [if_pos hst,layV_neg]
  rintro⟨h1,-⟩
  have:=(hptr.1 h1).1
  omega
 obtain rfl:q=nx:=by omega
 rw [if_neg (fun h=>h hst),if_neg (by decide),if_pos trivial,hwI,show ((n:Nat):Int).toNat=n from rfl,show (q:Int)+(n:Int)=((q+n:Nat):Int) by omega,hrow (q+n) hqlen]
 by_cases hl:LayK W (q+n) q (trimK ks)
 ·rw [layVK_pos hl,layV_pos ⟨hptr.2 ⟨by omega,rfl⟩,hpl.2 hl⟩,hol]
  omega
 ·rw [layVK_neg hl,layV_neg]
  rintro⟨-,h2⟩
  exact hl (hpl.1 h2)
end Go.Proofs.YtclpapddejgpnaaDoor
