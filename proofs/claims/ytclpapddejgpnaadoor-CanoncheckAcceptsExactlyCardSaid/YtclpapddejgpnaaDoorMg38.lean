/- The texts Chk9, Vis, KcL, Ref16, Ref16b (what is wanted of them), one after the other. -/
import Derived.Test.YtclpapddejgpnaaDoorMg35
import Derived.Test.YtclpapddejgpnaaDoorMg36
namespace Go.Proofs.YtclpapddejgpnaaDoor
open Go.ChangeShapes Go.WideShapes Go.ChangeAt Go.RowKit
set_option linter.unusedVariables false
set_option linter.unusedSimpArgs false
set_option maxRecDepth 100000
theorem str_dec {w:Int}(z0:0≤w)(z1:w<18446744073709551616)(hk:(decP w).k=0):∃(o:Int) (A b:Nat),decP w=⟨0,o,A,b,0,0,false,0,0,0⟩∧-536870912≤o∧o≤536870911∧A≤65535∧b≤65535:=by
 have hv:=decP_vld _ z0 z1
 rcases hP:decP w with ⟨k,o,d,p,el,c,db,pa,sg,lo⟩
 rw [hP] at hv hk
 simp only at hk
 subst hk
 unfold Vld at hv
 simp only at hv
 rcases hv with h|h|h|h
 ·obtain⟨-,h1,h2,h3,h4,h5,h6,rfl,rfl,rfl,rfl,rfl,rfl⟩:=h
  obtain⟨A,rfl⟩:=Int.eq_ofNat_of_zero_le h3
  obtain⟨b,rfl⟩:=Int.eq_ofNat_of_zero_le h5
  exact⟨o,A,b,rfl,h1,h2,by omega,by omega⟩
 ·exact absurd h.1 (by decide)
 ·exact absurd h.1 (by decide)
 ·exact absurd h.1 (by decide)
theorem vld_str {o:Int}{A b:Nat}(h1:-536870912≤o)(h2:o≤536870911)(h3:A≤65535)(h4:b≤65535):Vld ⟨0,o,(A:Int),(b:Int),0,0,false,0,0,0⟩:=by
 left
 simp only
 refine⟨trivial,h1,h2,by omega,by omega,by omega,by omega,?_⟩
 simp
theorem els_read9 {W:List Int}{r:Nat}(hW:Wds W)(hlen:W.length≤20000000){q A b n:Nat}{cost m:Int}(hR:(runK (elemV (valV [W] r) [W] ⟨2,0,((q+1:Nat):Int),(A:Int),(b:Int),7,(n:Int),cost⟩) m n).e=0):
  (runK (elemV (valV [W] r) [W] ⟨2,0,((q+1:Nat):Int),(A:Int),(b:Int),7,(n:Int),cost⟩) m n).ks.length=n ∧
  Elems W q A b (runK (elemV (valV [W] r) [W] ⟨2,0,((q+1:Nat):Int),(A:Int),(b:Int),7,(n:Int),cost⟩) m n).ks ∧
  (Tells W r→q+1+n*(A+b)≤W.length→∀j (hj:j<(runK (elemV (valV [W] r) [W] ⟨2,0,((q+1:Nat):Int),(A:Int),(b:Int),7,(n:Int),cost⟩) m n).ks.length) (nx:Nat),nx≤W.length →
   chkR (fun e (i:Nat)=>visC W r e ((q:Int)+1+(j:Int)*((A:Int)+b)+A+(i:Int))) (nx:Int) b=layVK W nx (q+1+j*(A+b)+A) (trimK (runK (elemV (valV [W] r) [W] ⟨2,0,((q+1:Nat):Int),(A:Int),(b:Int),7,(n:Int),cost⟩) m n).ks[j].ks)):=by
 have hl:=runK_length hR
 have hone:∀j (hj:j<(runK (elemV (valV [W] r) [W] ⟨2,0,((q+1:Nat):Int),(A:Int),(b:Int),7,(n:Int),cost⟩) m n).ks.length),∃m',(runK (fun m (i:Nat)=>valV [W] r m 0 (((q+1+j*(A+b):Nat):Int)+(A:Int)+(i:Int))) m' b).e=0 ∧
   (runK (elemV (valV [W] r) [W] ⟨2,0,((q+1:Nat):Int),(A:Int),(b:Int),7,(n:Int),cost⟩) m n).ks[j]=.mk 1 0 0 (bytesOf (datW [W] 0 ((q+1+j*(A+b):Nat):Int) (A:Int))) (runK (fun m (i:Nat)=>valV [W] r m 0 (((q+1+j*(A+b):Nat):Int)+(A:Int)+(i:Int))) m' b).ks:=by
  intro j hj
  obtain⟨h1,h2⟩:=runK_get hR j hj
  have he:eleO ⟨2,0,((q+1:Nat):Int),(A:Int),(b:Int),7,(n:Int),cost⟩ (j:Int)=⟨1,0,((q+1+j*(A+b):Nat):Int),(A:Int),(b:Int),0,0,0⟩:=by
   unfold eleO
   simp
  unfold elemV at h1 h2
  rw [if_neg (show ¬((7:Int)=6) by decide),he] at h1
  rw [if_neg (show ¬((7:Int)=6) by decide),he] at h2
  obtain⟨h3,h4⟩:=structV_ok h1
  simp only [Int.toNat_natCast] at h3 h4
  exact⟨_,h3,h2.trans h4⟩
 have hg:∀(j:Nat) (m:Int) (i:Nat),(fun m (i:Nat)=>valV [W] r m 0 (((q+1+j*(A+b):Nat):Int)+(A:Int)+(i:Int))) m i=valV [W] r m 0 (((q+1+j*(A+b)+A)+i:Nat):Int):=fun j m i=>by
  show valV [W] r m 0 (((q+1+j*(A+b):Nat):Int)+(A:Int)+(i:Int))=_
  congr 1
 refine⟨hl,fun j hj=>?_,fun IH hlen2 j hj nx hnx=>?_⟩
 ·obtain⟨m',h1,h2⟩:=hone j hj
  rw [h2]
  simp only [Nd.ks,true_and]
  exact⟨runK_length h1,row_valid (wd2_one hW) (seg_one hlen) (r:=r) (P:=q+1+j*(A+b)+A) (n:=b) (m:=m') (hg j)⟩
 ·obtain⟨m',h1,h2⟩:=hone j hj
  rw [h2]
  simp only [Nd.ks]
  have hin:=elem_in (W:=W) (q:=q) (A:=A) (b:=b) (n:=n) hlen2 (show j<n by omega)
  refine row_vis IH (P:=q+1+j*(A+b)+A) (n:=b) (nx:=nx) (m:=m') hin hnx (hg j) h1 (fun e i=>?_)
  show visC W r e ((q:Int)+1+(j:Int)*((A:Int)+b)+A+(i:Int))=_
  congr 1
theorem encW_kind {k o d p e c:Int}(h:k=0∨k=1):encW ⟨k,o,d,p,e,c,false,0,0,0⟩ % 4≤1:=by
 unfold encW
 simp only
 rcases h with rfl|rfl
 ·rw [if_pos rfl];omega
 ·rw [if_neg (by decide),if_pos rfl];omega
theorem ptrW_kind (t:Nd)(o:Int):ptrW t o % 4≤1:=by
 unfold ptrW
 split
 ·decide
 ·unfold ptrP
  split
  ·exact encW_kind (.inl rfl)
  ·exact encW_kind (.inr rfl)
theorem far_vis {W:List Int}(hW:Wds W){r:Nat}{m:Int}{a nx:Nat}(ha:a<W.length)(hk:r=0∨1<(decP (zat W a)).k)(h0:zat W a≠0)(he:(valV [W] r m 0 (a:Int)).e=0):layV W nx a (trimN (valV [W] r m 0 (a:Int)).n)=-1:=by
 by_cases h2:zat W a % 4≤1
 ·exfalso
  have hne2:zat W a % 4≠2:=by omega
  have hfol:=fol_read ha hne2
  rcases hk with rfl|hk
  ·unfold valV at he
   rw [hfol] at he
   simp only at he
   rw [if_neg (by simp [h0])] at he
   exact absurd he (by show (7:Int)≠0;decide)
  ·obtain⟨z0,z1⟩:=zat_bd hW ha
   unfold decP at hk
   by_cases g0:zat W a % 4=0
   ·rw [if_pos g0] at hk
    exact absurd hk (by show ¬(1:Int)<0;decide)
   ·rw [if_neg g0,if_pos (by omega)] at hk
    exact absurd hk (by show ¬(1:Int)<1;decide)
 ·rw [layV_neg]
  rintro⟨h1,-⟩
  exact h2 (by rw [h1];exact ptrW_kind _ _)
set_option maxHeartbeats 4000000 in
theorem vis_comp {W:List Int}{r:Nat}(hW:Wds W)(hlen:W.length≤20000000)(IH:Tells W r){m:Int}{a nx:Nat}(ha:a<W.length)(hnx:nx≤W.length){o c:Int}(hd:decP (zat W a)=⟨1,o,0,0,7,c,false,0,0,0⟩)(h5:0≤c)(h6:c≤536870911)(hw0:zat W a≠0)(he:(valV [W] (r+1) m 0 (a:Int)).e=0):
  visB (visC W r) W (nx:Int) (a:Int)=layV W nx a (trimN (valV [W] (r+1) m 0 (a:Int)).n):=by
 obtain⟨z0,z1⟩:=zat_bd hW ha
 have hv:=decP_vld _ z0 z1
 have hen:=encW_decP _ z0 z1
 have hvo:=val_obj ha hv (.inr (by rw [hd])) hen.symm (by rw [hen];exact hw0) r m
 rw [hd] at hvo
 rw [hvo] at he ⊢
 clear hv hen hvo
 have hwI:wordsI 7 c=c+1:=by unfold wordsI;rw [if_pos rfl]
 have hOb:objP [W] ⟨1,o,0,0,7,c,false,0,0,0⟩ 0 ((a:Int)+1)=if inB [W] 0 ((a:Int)+1+o) (c+1)=false then (ob0,2) else compF [W] 0 ((a:Int)+1+o) c (c+1):=by
  unfold objP
  simp only
  rw [if_neg (by decide),if_neg (by decide),if_pos trivial,hwI]
 rw [hOb] at he ⊢
 by_cases hin:inB [W] 0 ((a:Int)+1+o) (c+1)=false
 ·rw [if_pos hin] at he
  have h2:(bodyV (valV [W] r) [W] m (ob0,2)).e=2:=rfl
  rw [h2] at he
  exact absurd he (by decide)
 rw [if_neg hin] at he ⊢
 obtain⟨-,-,i3,-,i5⟩:=inB_iff.1 (by simpa using hin:inB [W] 0 ((a:Int)+1+o) (c+1)=true)
 have i6:(seg [W] (0:Int).toNat).length=W.length:=rfl
 rw [i6] at i5
 obtain⟨q,hq⟩:=Int.eq_ofNat_of_zero_le i3
 rw [hq] at i5 he ⊢
 have hqw:q<W.length:=by omega
 obtain⟨y0,y1⟩:=zat_bd hW hqw
 by_cases hcf:(decP (zat W q)).k≠0∨(decP (zat W q)).o<0∨c<(decP (zat W q)).o*((decP (zat W q)).d+(decP (zat W q)).p)
 ·have h1:compF [W] 0 (q:Int) c (c+1)=(ob0,5):=by unfold compF;rw [one_word hqw,if_pos hcf]
  rw [h1] at he
  have h2:(bodyV (valV [W] r) [W] m (ob0,5)).e=5:=rfl
  rw [h2] at he
  exact absurd he (by decide)
 obtain⟨n',A,b,htd,t1,t2,t3,t4⟩:=str_dec y0 y1 (Classical.byContradiction fun h=>hcf (.inl h))
 have htag:=(encW_decP _ y0 y1).symm
 rw [htd] at htag hcf
 simp only at hcf
 have hn0:0≤n':=by omega
 obtain⟨n,rfl⟩:=Int.eq_ofNat_of_zero_le hn0
 obtain⟨S,hS⟩:∃S,n*(A+b)=S:=⟨_,rfl⟩
 have hSI:(n:Int)*((A:Int)+b)=(S:Int):=by rw [←hS];simp
 rw [hSI] at hcf
 have hSc:(S:Int)≤c:=by omega
 have hqlen:q+1+n*(A+b)≤W.length:=by rw [hS];omega
 obtain⟨cost,hcost⟩:∃cost,cost=(if (A:Int)+b=0 then c+1+n else c+1):=⟨_,rfl⟩
 have hBo:bodyV (valV [W] r) [W] m (compF [W] 0 (q:Int) c (c+1))=if m<cost then errV m 8 else listV (valV [W] r) [W] (m-cost) ⟨2,0,((q+1:Nat):Int),(A:Int),(b:Int),7,(n:Int),cost⟩:=by
  have h1:compF [W] 0 (q:Int) c (c+1)=(⟨2,0,((q+1:Nat):Int),(A:Int),(b:Int),7,(n:Int),cost⟩,0):=by
   unfold compF
   rw [one_word hqw,htd]
   simp only
   rw [hSI,if_neg (by omega),hcost]
   rfl
  rw [h1]
  unfold bodyV
  simp only
  rw [if_neg (by simp),if_neg (show ¬((2:Int)=1) by decide),if_neg (show ¬((7:Int)<6) by decide)]
 rw [hBo] at he ⊢
 by_cases hm:m<cost
 ·rw [if_pos hm] at he
  exact absurd he (by show (8:Int)≠0;decide)
 rw [if_neg hm] at he ⊢
 obtain⟨hR,hN⟩:=listV_ok he
 rw [hN]
 simp only [Int.toNat_natCast] at hR hN ⊢
 obtain⟨hkl,hel,hrow0⟩:=els_read9 hW hlen hR
 have hrow:=hrow0 IH hqlen
 clear hrow0 hN hR he hBo hcost hm hOb hin i3
 generalize (runK (elemV (valV [W] r) [W] ⟨2,0,((q+1:Nat):Int),(A:Int),(b:Int),7,(n:Int),cost⟩) (m-cost) n).ks=els at *
 have hcl:=comp_lay hW hqlen hkl hel htag
 have hF:=fun j (hj:j<els.length)=>elem_facts hW hqlen hkl hel hj
 have hyl:(trimK els).length=n:=by rw [trimK_length];exact hkl
 have hyg:∀j (hj:j<els.length),(trimK els)[j]'(by rw [trimK_length];exact hj)=trimN els[j]:=fun j hj=>trimK_get els j hj
 have hmem:∀y∈trimK els,∃j,∃hj:j<els.length,y=trimN els[j]:=fun y hy=>by
  obtain⟨j,hj,rfl⟩:=List.getElem_of_mem hy
  rw [trimK_length] at hj
  exact⟨j,hj,hyg j hj⟩
 have hu1:uniD (trimK els) n≤A:=uniD_le _ _ n (by omega) (fun y hy=>by obtain⟨j,hj,rfl⟩:=hmem y hy;have:=(hF j hj).2.1;omega)
 have hu2:uniP (trimK els) n≤b:=uniP_le _ _ n (by omega) (fun y hy=>by obtain⟨j,hj,rfl⟩:=hmem y hy;exact(hF j hj).2.2.1)
 have hobj:∀j (hj:j<els.length),objK (trimK els[j].ks)=objK (trimN els[j]).ks:=fun j hj=>by
  rw [←(hF j hj).2.2.2.2.1,objK_nulls]
 have hfit:∀y∈trimK els,y.d.length≤8*A∧y.ks.length≤b:=fun y hy=>by
  obtain⟨j,hj,rfl⟩:=hmem y hy
  exact⟨(hF j hj).2.1,(hF j hj).2.2.1⟩
 clear hF hmem
 have htr:trimN (.mk 2 7 (n:Int) [] els)=.mk 2 7 (n:Int) [] (trimK els):=by rw [trim_other (by decide)]
 rw [htr] at hcl ⊢
 obtain⟨uD,huD⟩:∃uD,uniD (trimK els) n=uD:=⟨_,rfl⟩
 obtain⟨uP,huP⟩:∃uP,uniP (trimK els) n=uP:=⟨_,rfl⟩
 rw [huD] at hu1 hcl
 rw [huP] at hu2 hcl
 have hcan:canO (.mk 2 7 (n:Int) [] (trimK els))=1+((n*(uD+uP):Nat):Int):=by
  show canOf 2 7 (n:Int) [] (trimK els)=_
  unfold canOf
  rw [if_neg (by decide),if_neg (by decide),if_pos rfl,hyl,huD,huP]
  simp
 have hSle:n*(uD+uP)≤S:=by rw [←hS];exact Nat.mul_le_mul_left _ (by omega)
 have hptr:=lst_ptr hW hlen ha hnx hd (by decide) (by decide) (n:=(n:Int)) (d:=[]) (ks:=trimK els) (by rw [if_pos rfl,hcan];omega) (by rw [if_pos rfl,hcan];omega)
 rw [if_pos rfl,hcan] at hptr
 have htg:Has W q (objW (.mk 2 7 (n:Int) [] (trimK els)))→uD=A∧uP=b:=by
  intro h
  rw [objW_eq] at h
  have hB:bodyN (.mk 2 7 (n:Int) [] (trimK els))=tagW n uD uP::elsW uD uP 1 (canOf 2 7 (n:Int) [] (trimK els)) (trimK els):=by
   show bodyW 2 7 (n:Int) [] (trimK els)=_
   unfold bodyW
   rw [if_neg (by decide),if_neg (by decide),if_pos rfl,hyl,huD,huP]
  rw [hB] at h
  have h2:=(Has.head h.left).2.1
  unfold tagW at h2
  rw [word_iff y0 y1 (vld_str t1 t2 (by omega) (by omega)),htd] at h2
  simp only [Ptr.mk.injEq,true_and,and_true] at h2
  omega
 have hol:uD=A→uP=b→(objW (.mk 2 7 (n:Int) [] (trimK els))).length=1+S+(objK (kk (trimK els))).length:=by
  intro g1 g2
  rw [objW_eq]
  have hT:targN (.mk 2 7 (n:Int) [] (trimK els))=kk (trimK els):=by rw [targN_mk,if_pos ⟨rfl,rfl⟩]
  have hB:bodyN (.mk 2 7 (n:Int) [] (trimK els))=tagW n A b::elsW A b 1 (canOf 2 7 (n:Int) [] (trimK els)) (trimK els):=by
   show bodyW 2 7 (n:Int) [] (trimK els)=_
   unfold bodyW
   rw [if_neg (by decide),if_neg (by decide),if_pos rfl,hyl,huD,huP,g1,g2]
  rw [hT,hB,List.length_append,List.length_cons,elsW_length A b _ _ _ hfit,hyl,hS]
  omega
 unfold visB
 rw [one_word ha,hd]
 simp only
 rw [if_neg hw0,if_neg (by decide),if_neg (fun h=>absurd h.1 (by decide))]
 by_cases hst:(a:Int)+1+o=nx
 rotate_left
 ·rw [if_pos hst,layV_neg]
  rintro⟨h1,-⟩
  have:=(hptr.1 h1).1
  omega
 obtain rfl:q=nx:=by omega
 rw [if_neg (fun h=>h hst),if_neg (by decide),if_neg (by decide),if_neg (by decide),one_word hqw,htd]
 simp only
 rw [hSI]
 by_cases hSeq:(S:Int)=c
 rotate_left
 ·rw [if_pos hSeq,layV_neg]
  rintro⟨h1,h2⟩
  obtain⟨g1,g2⟩:=htg h2
  have:=(hptr.1 h1).2
  rw [g1,g2,hS] at this
  omega
 rw [if_neg (fun h=>h hSeq)]
 have hfl1:(((A:Int)=0∨∃j:Nat,(j:Int)<(n:Int)∧wordV [W] 0 ((q:Int)+1+(j:Int)*((A:Int)+b)+A-1)≠0))↔(A=0∨∃j,j<n∧zat W (q+1+j*(A+b)+A-1)≠0):=by
  by_cases h0:A=0
  ·simp [h0]
  ·have hw:∀j,j<n→wordV [W] 0 ((q:Int)+1+(j:Int)*((A:Int)+b)+A-1)=zat W (q+1+j*(A+b)+A-1):=fun j hj=>by
    have hin:=elem_in (W:=W) (q:=q) (A:=A) (b:=b) (n:=n) hqlen hj
    have e:(j:Int)*((A:Int)+b)=((j*(A+b):Nat):Int):=by simp
    rw [e,show (q:Int)+1+((j*(A+b):Nat):Int)+A-1=((q+1+j*(A+b)+A-1:Nat):Int) by omega]
    exact one_word (by omega)
   constructor
   ·rintro(h|⟨j,hj,h⟩)
    ·omega
    ·exact .inr ⟨j,by omega,by rw [←hw j (by omega)];exact h⟩
   ·rintro(h|⟨j,hj,h⟩)
    ·omega
    ·exact .inr ⟨j,by omega,by rw [hw j hj];exact h⟩
 have hfl2:(((b:Int)=0∨∃j:Nat,(j:Int)<(n:Int)∧wordV [W] 0 ((q:Int)+1+(j:Int)*((A:Int)+b)+A+b-1)≠0))↔(b=0∨∃j,j<n∧zat W (q+1+j*(A+b)+A+b-1)≠0):=by
  by_cases h0:b=0
  ·simp [h0]
  ·have hw:∀j,j<n→wordV [W] 0 ((q:Int)+1+(j:Int)*((A:Int)+b)+A+b-1)=zat W (q+1+j*(A+b)+A+b-1):=fun j hj=>by
    have hin:=elem_in (W:=W) (q:=q) (A:=A) (b:=b) (n:=n) hqlen hj
    have e:(j:Int)*((A:Int)+b)=((j*(A+b):Nat):Int):=by simp
    rw [e,show (q:Int)+1+((j*(A+b):Nat):Int)+A+b-1=((q+1+j*(A+b)+A+b-1:Nat):Int) by omega]
    exact one_word (by omega)
   constructor
   ·rintro(h|⟨j,hj,h⟩)
    ·omega
    ·exact .inr ⟨j,by omega,by rw [←hw j (by omega)];exact h⟩
   ·rintro(h|⟨j,hj,h⟩)
    ·omega
    ·exact .inr ⟨j,by omega,by rw [hw j hj];exact h⟩
 have hnot:¬(((A=0∨∃j,j<n∧zat W (q+1+j*(A+b)+A-1)≠0)∧(b=0∨∃j,j<n∧zat W (q+1+j*(A+b)+A+b-1)≠0)∧∀j (hj:j<els.length),LayK W (q+1+n*(A+b)+(objK (kk ((trimK els).take j))).length) (q+1+j*(A+b)+A) (trimK els[j].ks)))→layV W q a (.mk 2 7 (n:Int) [] (trimK els))=-1:=by
  intro h
  rw [layV_neg]
  rintro⟨-,h2⟩
  obtain⟨g1,g2⟩:=htg h2
  exact h (hcl.2 ⟨g1,g2,h2⟩)
 by_cases hfl:(A=0∨∃j,j<n∧zat W (q+1+j*(A+b)+A-1)≠0)∧(b=0∨∃j,j<n∧zat W (q+1+j*(A+b)+A+b-1)≠0)
 rotate_left
 ·rw [if_neg (fun h=>hfl ⟨hfl1.1 h.1,hfl2.1 h.2⟩)]
  exact(hnot (fun h=>hfl ⟨h.1,h.2.1⟩)).symm
 rw [if_pos ⟨hfl1.2 hfl.1,hfl2.2 hfl.2⟩,show ((n:Nat):Int).toNat=n from rfl,show ((b:Nat):Int).toNat=b from rfl]
 have hz0:(objK (kk ((trimK els).take 0))).length=0:=by simp [kk,objK]
 have hstep:∀j (hj:j<n),(objK (kk ((trimK els).take (j+1)))).length=(objK (kk ((trimK els).take j))).length+(objK (trimK (els[j]'(by omega)).ks)).length:=fun j hj=>by
  rw [kk_len (trimK els) j (by omega),hyg j (by omega),hobj j (by omega)]
 have hseq:=chkR_seq (f:=fun e (j:Nat)=>chkR (fun e' (i:Nat)=>visC W r e' ((q:Int)+1+(j:Int)*((A:Int)+b)+A+(i:Int))) e b) (m:=W.length) (nx:=q+1+n*(A+b)) (R:=fun j e=>∀(h:j<els.length),LayK W e (q+1+j*(A+b)+A) (trimK els[j].ks)) (S:=fun j=>(objK (kk ((trimK els).take j))).length) (n:=n)
  (by show q+1+n*(A+b)+(objK (kk ((trimK els).take 0))).length≤W.length;rw [hz0];omega) (fun j hj=>by
   show (objK (kk ((trimK els).take j))).length≤(objK (kk ((trimK els).take (j+1)))).length
   rw [hstep j hj];omega) (fun j e hj h0 hr=>by
   show e+((objK (kk ((trimK els).take (j+1)))).length-(objK (kk ((trimK els).take j))).length)≤W.length
   rw [hstep j hj,Nat.add_sub_cancel_left]
   exact layK_le h0 (hr (by omega))) (fun j e hj hle=>by
   show chkR (fun e' (i:Nat)=>visC W r e' ((q:Int)+1+(j:Int)*((A:Int)+b)+A+(i:Int))) (e:Int) b=_
   rw [hrow j (by omega) e hle]
   by_cases hl:LayK W e (q+1+j*(A+b)+A) (trimK (els[j]'(by omega)).ks)
   ·rw [layVK_pos hl,if_pos (fun _=>hl)]
    show _=((e+((objK (kk ((trimK els).take (j+1)))).length-(objK (kk ((trimK els).take j))).length):Nat):Int)
    rw [hstep j hj,Nat.add_sub_cancel_left]
   ·rw [layVK_neg hl,if_neg (fun h=>hl (h (by omega)))])
 obtain⟨k1,k2⟩:=hseq
 have hstart:(q:Int)+1+(S:Int)=((q+1+n*(A+b)+(objK (kk ((trimK els).take 0))).length:Nat):Int):=by rw [hz0,hS];omega
 rw [hstart]
 by_cases hall:∀j (hj:j<els.length),LayK W (q+1+n*(A+b)+(objK (kk ((trimK els).take j))).length) (q+1+j*(A+b)+A) (trimK els[j].ks)
 ·obtain⟨g1,g2,g3⟩:=hcl.1 ⟨hfl.1,hfl.2,hall⟩
  have h1:=(k1 n (Nat.le_refl _) (fun j hj h=>hall j h)).1
  refine h1.trans ?_
  rw [layV_pos ⟨hptr.2 ⟨by omega,by rw [g1,g2,hS];omega⟩,g3⟩,hol g1 g2]
  show ((q+1+n*(A+b)+(objK (kk ((trimK els).take n))).length:Nat):Int)=_
  rw [List.take_of_length_le (by omega),hS]
  omega
 ·have h1:=k2 n (Nat.le_refl _) (Classical.byContradiction fun hno=>hall (fun j hj=>Classical.byContradiction fun h=>hno ⟨j,by omega,fun h2=>h (h2 hj)⟩))
  refine h1.trans ?_
  exact(hnot (fun h=>hall h.2.2)).symm
theorem tells {W:List Int}(hW:Wds W)(hlen:W.length≤20000000):∀r,Tells W r
 | 0=>by
  intro m a nx ha hnx he
  have h9:visC W 0 (nx:Int) (a:Int)=if wordV [W] 0 (a:Int)=0 then (nx:Int) else -1:=rfl
  rw [h9,one_word ha]
  by_cases h0:zat W a=0
  ·rw [if_pos h0,val_null ha h0]
   have hl:Lay W nx a (trimN nd0):=⟨h0,has_nil.2 hnx⟩
   rw [layV_pos hl]
   rfl
  ·rw [if_neg h0]
   exact(far_vis hW ha (.inl rfl) h0 he).symm
 | r+1=>by
  intro m a nx ha hnx he
  have h9:visC W (r+1) (nx:Int) (a:Int)=visB (visC W r) W (nx:Int) (a:Int):=rfl
  rw [h9]
  obtain⟨z0,z1⟩:=zat_bd hW ha
  by_cases h0:zat W a=0
  ·unfold visB
   rw [one_word ha,if_pos h0,val_null ha h0]
   have hl:Lay W nx a (trimN nd0):=⟨h0,has_nil.2 hnx⟩
   rw [layV_pos hl]
   rfl
  by_cases hk0:(decP (zat W a)).k=0
  ·exact vis_str hW hlen (tells hW hlen r) ha hnx hk0 h0 he
  by_cases hk1:(decP (zat W a)).k=1
  ·obtain⟨o,e,c,hd,-,-,h3,h4,h5,h6⟩:=lst_dec z0 z1 hk1
   by_cases e6:e=6
   ·subst e6
    exact vis_ptrs hW hlen (tells hW hlen r) ha hnx hd h5 h6 h0 he
   by_cases e7:e=7
   ·subst e7
    exact vis_comp hW hlen (tells hW hlen r) ha hnx hd h5 h6 h0 he
   exact vis_lst hW hlen ha hnx hd h3 (by omega) h5 h6 h0 he
  ·have hk:1<(decP (zat W a)).k:=by
    have hv:=decP_vld _ z0 z1
    unfold Vld at hv
    rcases hv with h|h|h|h
    ·exact absurd h.1 hk0
    ·exact absurd h.1 hk1
    ·rw [h.1];decide
    ·rw [h.1];decide
   unfold visB
   rw [one_word ha,if_neg h0,if_pos hk]
   exact(far_vis hW ha (.inr hk) h0 he).symm
def RdP (W:List Int)(r a:Nat):Prop:=∃m:Int,(valV [W] r m 0 (a:Int)).e=0
def OkE (W:List Int)(z:Int):Prop:=z=-1∨∃k:Nat,z=k∧k≤W.length
theorem visC_ok {W:List Int}(hW:Wds W)(hlen:W.length≤20000000){r a nx:Nat}(ha:a<W.length)(hn:nx≤W.length)(h:RdP W r a):OkE W (visC W r nx a):=by
 obtain⟨m,he⟩:=h
 rw [tells hW hlen r m a nx ha hn he]
 by_cases hl:Lay W nx a (trimN (valV [W] r m 0 (a:Int)).n)
 ·rw [layV_pos hl]
  exact .inr ⟨_,rfl,hl.2.1⟩
 ·rw [layV_neg hl]
  exact .inl rfl
theorem chkE_ok {W:List Int}{f:Int→Nat→Int}{nx n:Nat}(hn:nx≤W.length)(hf:∀i,i<n→∀k:Nat,k≤W.length→OkE W (f k i)):∀i,i≤n→OkE W (chkR f nx i)
 | 0,_=>.inr ⟨nx,rfl,hn⟩
 | i+1,hi=>by
  have ih:=chkE_ok hn hf i (by omega)
  show OkE W (if chkR f nx i<0 then -1 else if f (chkR f nx i) i<0 then -1 else f (chkR f nx i) i)
  by_cases h:chkR f nx i<0
  ·rw [if_pos h];exact .inl rfl
  ·rw [if_neg h]
   by_cases h2:f (chkR f nx i) i<0
   ·rw [if_pos h2];exact .inl rfl
   ·rw [if_neg h2]
    rcases ih with e|⟨k,e,hk⟩
    ·omega
    ·rw [e];exact hf i (by omega) k hk
theorem chkR_neg {f:Int→Nat→Int}{nx:Int}{i:Nat}(h:chkR f nx i=-1):∀j,i≤j→chkR f nx j=-1
 | 0,hj=>by
  obtain rfl:i=0:=by omega
  exact h
 | j+1,hj=>by
  by_cases e:i=j+1
  ·subst e;exact h
  ·have:=chkR_neg h j (by omega)
   show (if chkR f nx j<0 then (-1:Int) else _)=-1
   rw [if_pos (by omega)]
theorem chkR_next {f:Int→Nat→Int}{nx:Int}{i:Nat}(h:¬chkR f nx i<0):chkR f nx (i+1)=if f (chkR f nx i) i<0 then -1 else f (chkR f nx i) i:=by
 show (if chkR f nx i<0 then (-1:Int) else _)=_
 rw [if_neg h]
theorem chkR_same {f g:Int→Nat→Int}{nx:Int}:∀n,(∀e i,i<n→f e i=g e i)→chkR f nx n=chkR g nx n
 | 0,_=>rfl
 | n+1,h=>by
  have ih:=chkR_same (f:=f) (g:=g) (nx:=nx) n (fun e i hi=>h e i (by omega))
  show (if chkR f nx n<0 then (-1:Int) else if f (chkR f nx n) n<0 then -1 else f (chkR f nx n) n)=(if chkR g nx n<0 then (-1:Int) else if g (chkR g nx n) n<0 then -1 else g (chkR g nx n) n)
  rw [ih,h _ n (by omega)]
theorem chkR_idle {f:Int→Nat→Int}{nx:Int}(h0:0≤nx)(hf:∀e i,f e i=e):∀n,chkR f nx n=nx
 | 0=>rfl
 | n+1=>by
  have ih:=chkR_idle h0 hf n
  rw [chkR_next (by omega),hf,ih,if_neg (by omega)]
theorem rd_deep {W:List Int}(hW:Wds W){r a:Nat}(ha:a<W.length)(h0:zat W a≠0)(hk:(decP (zat W a)).k=0∨(decP (zat W a)).k=1)(h:RdP W r a):∃r' m,r=r'+1∧(bodyV (valV [W] r') [W] m (objP [W] (decP (zat W a)) 0 ((a:Int)+1))).e=0:=by
 obtain⟨m,he⟩:=h
 obtain⟨z0,z1⟩:=zat_bd hW ha
 have hv:=decP_vld _ z0 z1
 have hen:=encW_decP _ z0 z1
 cases r with
 | zero=>
  exfalso
  have hne2:zat W a % 4≠2:=by
   intro h2
   unfold decP at hk
   rw [if_neg (by omega),if_neg (by omega),if_pos h2] at hk
   rcases hk with h|h
   ·exact absurd h (by show ¬(2:Int)=0;decide)
   ·exact absurd h (by show ¬(2:Int)=1;decide)
  have hfol:=fol_read ha hne2
  unfold valV at he
  rw [hfol] at he
  simp only at he
  rw [if_neg (by simp [h0])] at he
  exact absurd he (by show (7:Int)≠0;decide)
 | succ r=>
  have hvo:=val_obj ha hv hk hen.symm (by rw [hen];exact h0) r m
  rw [hvo] at he
  exact⟨r,m,rfl,he⟩
theorem rd_str {W:List Int}(hW:Wds W){r a:Nat}(ha:a<W.length)(h0:zat W a≠0){o:Int}{A b:Nat}(hd:decP (zat W a)=⟨0,o,A,b,0,0,false,0,0,0⟩)(h:RdP W r a):
  ∃r' q:Nat,r=r'+1∧(a:Int)+1+o=q∧q+A+b≤W.length∧∀i,i<b→RdP W r' (q+A+i):=by
 obtain⟨r',m,rfl,he⟩:=rd_deep hW ha h0 (.inl (by rw [hd])) h
 rw [hd] at he
 have hOb:objP [W] ⟨0,o,A,b,0,0,false,0,0,0⟩ 0 ((a:Int)+1)=if inB [W] 0 ((a:Int)+1+o) (A+b)=true then (⟨1,0,(a:Int)+1+o,A,b,0,0,A+b⟩,0) else (ob0,2):=by
  unfold objP
  simp only
  rw [if_neg (by decide),if_pos trivial]
 rw [hOb] at he
 by_cases hin:inB [W] 0 ((a:Int)+1+o) (A+b)=true
 rotate_left
 ·rw [if_neg hin] at he
  have h2:(bodyV (valV [W] r') [W] m (ob0,2)).e=2:=rfl
  rw [h2] at he
  exact absurd he (by decide)
 rw [if_pos hin] at he
 obtain⟨-,-,i3,-,i5⟩:=inB_iff.1 hin
 have i6:(seg [W] (0:Int).toNat).length=W.length:=rfl
 rw [i6] at i5
 obtain⟨q,hq⟩:=Int.eq_ofNat_of_zero_le i3
 rw [hq] at i5 he
 have hBo:bodyV (valV [W] r') [W] m (⟨1,0,(q:Int),(A:Int),(b:Int),0,0,(A:Int)+b⟩,0)=if m<(A:Int)+b then errV m 8 else structV (valV [W] r') [W] (m-((A:Int)+b)) ⟨1,0,(q:Int),(A:Int),(b:Int),0,0,(A:Int)+b⟩:=by
  unfold bodyV
  simp only
  rw [if_neg (by simp),if_pos trivial]
 rw [hBo] at he
 by_cases hm:m<(A:Int)+b
 ·rw [if_pos hm] at he
  exact absurd he (by show (8:Int)≠0;decide)
 rw [if_neg hm] at he
 obtain⟨hR,-⟩:=structV_ok he
 simp only [Int.toNat_natCast] at hR
 have hkl:=runK_length hR
 refine⟨r',q,rfl,hq,by omega,fun i hi=>?_⟩
 obtain⟨h1,-⟩:=runK_get hR i (by omega)
 exact⟨_,h1⟩
theorem rd_lst {W:List Int}(hW:Wds W){r a:Nat}(ha:a<W.length)(h0:zat W a≠0){o e c:Int}(hd:decP (zat W a)=⟨1,o,0,0,e,c,false,0,0,0⟩)(h3:0≤e)(h4:e<6)(h5:0≤c)(h6:c≤536870911)(h:RdP W r a):
  ∃r' q A:Nat,r=r'+1∧(a:Int)+1+o=q∧wordsI e c=A∧q+A≤W.length:=by
 obtain⟨r',m,rfl,he⟩:=rd_deep hW ha h0 (.inr (by rw [hd])) h
 rw [hd] at he
 have hwl:=wordsI_lim e c h5 h6
 obtain⟨A,hA⟩:=Int.eq_ofNat_of_zero_le hwl.1
 have hOb:objP [W] ⟨1,o,0,0,e,c,false,0,0,0⟩ 0 ((a:Int)+1)=if inB [W] 0 ((a:Int)+1+o) (wordsI e c)=false then (ob0,2) else (⟨2,0,(a:Int)+1+o,0,0,e,c,wordsI e c⟩,0):=by
  unfold objP
  simp only
  rw [if_neg (by decide),if_neg (by decide),if_neg (show ¬e=7 by omega)]
 rw [hOb] at he
 by_cases hin:inB [W] 0 ((a:Int)+1+o) (wordsI e c)=false
 ·rw [if_pos hin] at he
  have h2:(bodyV (valV [W] r') [W] m (ob0,2)).e=2:=rfl
  rw [h2] at he
  exact absurd he (by decide)
 obtain⟨-,-,i3,-,i5⟩:=inB_iff.1 (by simpa using hin:inB [W] 0 ((a:Int)+1+o) (wordsI e c)=true)
 have i6:(seg [W] (0:Int).toNat).length=W.length:=rfl
 rw [i6,hA] at i5
 obtain⟨q,hq⟩:=Int.eq_ofNat_of_zero_le i3
 rw [hq] at i5
 exact⟨r',q,A,rfl,hq,hA,by omega⟩
theorem rd_ptrs {W:List Int}(hW:Wds W){r a:Nat}(ha:a<W.length)(h0:zat W a≠0){o:Int}{n:Nat}(hd:decP (zat W a)=⟨1,o,0,0,6,(n:Int),false,0,0,0⟩)(h:RdP W r a):
  ∃r' q:Nat,r=r'+1∧(a:Int)+1+o=q∧q+n≤W.length∧∀i,i<n→RdP W r' (q+i):=by
 obtain⟨r',m,rfl,he⟩:=rd_deep hW ha h0 (.inr (by rw [hd])) h
 rw [hd] at he
 have hwI:wordsI 6 (n:Int)=n:=by simp [wordsI,bitsI];omega
 have hOb:objP [W] ⟨1,o,0,0,6,(n:Int),false,0,0,0⟩ 0 ((a:Int)+1)=if inB [W] 0 ((a:Int)+1+o) (n:Int)=false then (ob0,2) else (⟨2,0,(a:Int)+1+o,0,0,6,(n:Int),(n:Int)⟩,0):=by
  unfold objP
  simp only
  rw [if_neg (by decide),if_neg (by decide),if_neg (show ¬((6:Int)=7) by decide),hwI]
 rw [hOb] at he
 by_cases hin:inB [W] 0 ((a:Int)+1+o) (n:Int)=false
 ·rw [if_pos hin] at he
  have h2:(bodyV (valV [W] r') [W] m (ob0,2)).e=2:=rfl
  rw [h2] at he
  exact absurd he (by decide)
 rw [if_neg hin] at he
 obtain⟨-,-,i3,-,i5⟩:=inB_iff.1 (by simpa using hin:inB [W] 0 ((a:Int)+1+o) (n:Int)=true)
 have i6:(seg [W] (0:Int).toNat).length=W.length:=rfl
 rw [i6] at i5
 obtain⟨q,hq⟩:=Int.eq_ofNat_of_zero_le i3
 rw [hq] at i5 he
 have hBo:bodyV (valV [W] r') [W] m (⟨2,0,(q:Int),0,0,6,(n:Int),(n:Int)⟩,0)=if m<(n:Int) then errV m 8 else listV (valV [W] r') [W] (m-(n:Int)) ⟨2,0,(q:Int),0,0,6,(n:Int),(n:Int)⟩:=by
  unfold bodyV
  simp only
  rw [if_neg (by simp),if_neg (show ¬((2:Int)=1) by decide),if_neg (show ¬((6:Int)<6) by decide)]
 rw [hBo] at he
 by_cases hm:m<(n:Int)
 ·rw [if_pos hm] at he
  exact absurd he (by show (8:Int)≠0;decide)
 rw [if_neg hm] at he
 obtain⟨hR,-⟩:=listV_ok he
 simp only [Int.toNat_natCast] at hR
 have hkl:=runK_length hR
 refine⟨r',q,rfl,hq,by omega,fun i hi=>?_⟩
 obtain⟨h1,-⟩:=runK_get hR i (by omega)
 unfold elemV at h1
 rw [if_pos rfl] at h1
 exact⟨_,h1⟩
theorem rd_comp {W:List Int}(hW:Wds W){r a:Nat}(ha:a<W.length)(h0:zat W a≠0){o c:Int}(hd:decP (zat W a)=⟨1,o,0,0,7,c,false,0,0,0⟩)(h5:0≤c)(h:RdP W r a):
  ∃(r' q n A b:Nat) (cost:Int),r=r'+1∧(a:Int)+1+o=q∧q+1+c≤W.length∧decP (zat W q)=⟨0,(n:Int),(A:Int),(b:Int),0,0,false,0,0,0⟩∧A≤65535∧b≤65535∧((n*(A+b):Nat):Int)≤c∧n≤536870911 ∧
   objF [W] 0 (a:Int)=(⟨2,0,(q:Int)+1,(A:Int),(b:Int),7,(n:Int),cost⟩,0)∧∀j,j<n→∀i,i<b→RdP W r' (q+1+j*(A+b)+A+i):=by
 obtain⟨z0,z1⟩:=zat_bd hW ha
 have hv:=decP_vld _ z0 z1
 have hof:objF [W] 0 (a:Int)=objP [W] (decP (zat W a)) 0 ((a:Int)+1):=by
  have hne2:zat W a % 4≠2:=by
   intro h2
   unfold decP at hd
   rw [if_neg (by omega),if_neg (by omega),if_pos h2] at hd
   injection hd with h _
   exact absurd h (by decide)
  have hfol:=fol_read ha hne2
  unfold objF
  rw [hfol]
  simp only
  rw [if_neg (by simp [h0])]
 obtain⟨r',m,rfl,he⟩:=rd_deep hW ha h0 (.inr (by rw [hd])) h
 rw [hd] at he hof
 have hwI:wordsI 7 c=c+1:=by unfold wordsI;rw [if_pos rfl]
 have hOb:objP [W] ⟨1,o,0,0,7,c,false,0,0,0⟩ 0 ((a:Int)+1)=if inB [W] 0 ((a:Int)+1+o) (c+1)=false then (ob0,2) else compF [W] 0 ((a:Int)+1+o) c (c+1):=by
  unfold objP
  simp only
  rw [if_neg (by decide),if_neg (by decide),if_pos trivial,hwI]
 rw [hOb] at he hof
 by_cases hin:inB [W] 0 ((a:Int)+1+o) (c+1)=false
 ·rw [if_pos hin] at he
  have h2:(bodyV (valV [W] r') [W] m (ob0,2)).e=2:=rfl
  rw [h2] at he
  exact absurd he (by decide)
 rw [if_neg hin] at he hof
 obtain⟨-,-,i3,-,i5⟩:=inB_iff.1 (by simpa using hin:inB [W] 0 ((a:Int)+1+o) (c+1)=true)
 have i6:(seg [W] (0:Int).toNat).length=W.length:=rfl
 rw [i6] at i5
 obtain⟨q,hq⟩:=Int.eq_ofNat_of_zero_le i3
 rw [hq] at i5 he hof
 have hqw:q<W.length:=by omega
 obtain⟨y0,y1⟩:=zat_bd hW hqw
 by_cases hcf:(decP (zat W q)).k≠0∨(decP (zat W q)).o<0∨c<(decP (zat W q)).o*((decP (zat W q)).d+(decP (zat W q)).p)
 ·have h1:compF [W] 0 (q:Int) c (c+1)=(ob0,5):=by unfold compF;rw [one_word hqw,if_pos hcf]
  rw [h1] at he
  have h2:(bodyV (valV [W] r') [W] m (ob0,5)).e=5:=rfl
  rw [h2] at he
  exact absurd he (by decide)
 obtain⟨n',A,b,htd,t1,t2,t3,t4⟩:=str_dec y0 y1 (Classical.byContradiction fun h=>hcf (.inl h))
 rw [htd] at hcf
 simp only at hcf
 have hn0:0≤n':=by omega
 obtain⟨n,rfl⟩:=Int.eq_ofNat_of_zero_le hn0
 obtain⟨S,hS⟩:∃S,n*(A+b)=S:=⟨_,rfl⟩
 have hSI:(n:Int)*((A:Int)+b)=(S:Int):=by rw [←hS];simp
 rw [hSI] at hcf
 obtain⟨cost,hcost⟩:∃cost,cost=(if (A:Int)+b=0 then c+1+n else c+1):=⟨_,rfl⟩
 have h1:compF [W] 0 (q:Int) c (c+1)=(⟨2,0,(q:Int)+1,(A:Int),(b:Int),7,(n:Int),cost⟩,0):=by
  unfold compF
  rw [one_word hqw,htd]
  simp only
  rw [hSI,if_neg (by omega),hcost]
 rw [h1] at he hof
 have hBo:bodyV (valV [W] r') [W] m (⟨2,0,(q:Int)+1,(A:Int),(b:Int),7,(n:Int),cost⟩,0)=if m<cost then errV m 8 else listV (valV [W] r') [W] (m-cost) ⟨2,0,((q+1:Nat):Int),(A:Int),(b:Int),7,(n:Int),cost⟩:=by
  unfold bodyV
  simp only
  rw [if_neg (by simp),if_neg (show ¬((2:Int)=1) by decide),if_neg (show ¬((7:Int)<6) by decide)]
  rfl
 rw [hBo] at he
 by_cases hm:m<cost
 ·rw [if_pos hm] at he
  exact absurd he (by show (8:Int)≠0;decide)
 rw [if_neg hm] at he
 obtain⟨hR,-⟩:=listV_ok he
 simp only [Int.toNat_natCast] at hR
 have hkl:=runK_length hR
 refine⟨r',q,n,A,b,cost,rfl,hq,by omega,htd,t3,t4,by rw [hS];omega,by omega,hof,fun j hj i hi=>?_⟩
 obtain⟨h2,-⟩:=runK_get hR j (by omega)
 have hel:eleO ⟨2,0,((q+1:Nat):Int),(A:Int),(b:Int),7,(n:Int),cost⟩ (j:Int)=⟨1,0,((q+1+j*(A+b):Nat):Int),(A:Int),(b:Int),0,0,0⟩:=by
  unfold eleO
  simp
 unfold elemV at h2
 rw [if_neg (show ¬((7:Int)=6) by decide),hel] at h2
 obtain⟨h3,-⟩:=structV_ok h2
 simp only [Int.toNat_natCast] at h3
 have hkl2:=runK_length h3
 obtain⟨h4,-⟩:=runK_get h3 i (by omega)
 exact⟨_,h4⟩
theorem visC_null {W:List Int}{a:Nat}(ha:a<W.length)(h:zat W a=0)(r:Nat)(nx:Int):visC W r nx (a:Int)=nx:=by
  cases r with
  | zero => show (if wordV [W] 0 (a : Int) = 0 then nx else -1) = nx
            rw [one_word ha,if_pos h]
  | succ r => show visB (visC W r) W nx (a : Int) = nx
              unfold visB
              rw [one_word ha,if_pos h]
theorem visC_far {W:List Int}{a:Nat}(ha:a<W.length)(h0:zat W a≠0)(hk:1<(decP (zat W a)).k)(r:Nat)(nx:Int):visC W r nx (a:Int)=-1:=by
  cases r with
  | zero => show (if wordV [W] 0 (a : Int) = 0 then nx else -1) = -1
            rw [one_word ha,if_neg h0]
  | succ r => show visB (visC W r) W nx (a : Int) = -1
              unfold visB
              rw [one_word ha,if_neg h0,if_pos hk]
theorem visC_str {W:List Int}{a nx:Nat}(ha:a<W.length)(h0:zat W a≠0){o:Int}{A b:Nat}(hd:decP (zat W a)=⟨0,o,A,b,0,0,false,0,0,0⟩)(r:Nat):
  (A+b=0→visC W (r+1) (nx:Int) (a:Int)=if o≠-1 then -1 else (nx:Int)) ∧
  (A+b≠0→(a:Int)+1+o≠nx→visC W (r+1) (nx:Int) (a:Int)=-1) ∧
  (A+b≠0→(a:Int)+1+o=nx→nx+A+b≤W.length →
   ((0<A∧zat W (nx+A-1)=0)∨(0<b∧zat W (nx+A+b-1)=0)→visC W (r+1) (nx:Int) (a:Int)=-1) ∧
   (¬((0<A∧zat W (nx+A-1)=0)∨(0<b∧zat W (nx+A+b-1)=0))→visC W (r+1) (nx:Int) (a:Int)=chkR (fun e (i:Nat)=>visC W r e (((nx+A:Nat):Int)+(i:Int))) ((nx+A+b:Nat):Int) b)):=by
 have hB:visC W (r+1) (nx:Int) (a:Int)=visB (visC W r) W (nx:Int) (a:Int):=rfl
 rw [hB]
 unfold visB
 rw [one_word ha,if_neg h0,hd]
 simp only
 rw [if_neg (by decide)]
 refine⟨fun h=>?_,fun h h1=>?_,fun h h1 h2=>?_⟩
 ·rw [if_pos ⟨trivial,by omega⟩]
 ·rw [if_neg (fun h3=>h (by omega)),if_pos h1]
 ·rw [if_neg (fun h3=>h (by omega)),if_neg (fun h3=>h3 h1),if_pos trivial]
  have hw1:0<A→wordV [W] 0 ((nx:Int)+A-1)=zat W (nx+A-1):=fun h=>by
   rw [show (nx:Int)+A-1=((nx+A-1:Nat):Int) by omega]
   exact one_word (by omega)
  have hw2:0<b→wordV [W] 0 ((nx:Int)+A+b-1)=zat W (nx+A+b-1):=fun h=>by
   rw [show (nx:Int)+A+b-1=((nx+A+b-1:Nat):Int) by omega]
   exact one_word (by omega)
  have hcond:((0<(A:Int)∧wordV [W] 0 ((nx:Int)+A-1)=0)∨(0<(b:Int)∧wordV [W] 0 ((nx:Int)+A+b-1)=0))↔((0<A∧zat W (nx+A-1)=0)∨(0<b∧zat W (nx+A+b-1)=0)):=by
   constructor
   ·rintro(⟨h1,h2⟩|⟨h1,h2⟩)
    ·exact .inl ⟨by omega,by rw [←hw1 (by omega)];exact h2⟩
    ·exact .inr ⟨by omega,by rw [←hw2 (by omega)];exact h2⟩
   ·rintro(⟨h1,h2⟩|⟨h1,h2⟩)
    ·exact .inl ⟨by omega,by rw [hw1 h1];exact h2⟩
    ·exact .inr ⟨by omega,by rw [hw2 h1];exact h2⟩
  refine⟨fun h3=>?_,fun h3=>?_⟩
  ·rw [if_pos (hcond.2 h3)]
  ·rw [if_neg (fun h4=>h3 (hcond.1 h4)),show (nx:Int)+((A:Int)+b)=((nx+A+b:Nat):Int) by omega,show ((b:Nat):Int).toNat=b from rfl]
   rfl
theorem visC_lst {W:List Int}{a nx:Nat}(ha:a<W.length)(h0:zat W a≠0){o e c:Int}(hd:decP (zat W a)=⟨1,o,0,0,e,c,false,0,0,0⟩)(r:Nat):
  ((a:Int)+1+o≠nx→visC W (r+1) (nx:Int) (a:Int)=-1) ∧
  ((a:Int)+1+o=nx→(e=6→∀n:Nat,c=n→visC W (r+1) (nx:Int) (a:Int)=chkR (fun e (i:Nat)=>visC W r e ((nx:Int)+(i:Int))) ((nx+n:Nat):Int) n) ∧
   (e<6→∀A:Nat,wordsI e c=A→visC W (r+1) (nx:Int) (a:Int)=if bytesOf (datW [W] 0 (nx:Int) (A:Int))=trimL (bytesOf (datW [W] 0 (nx:Int) (A:Int))) e c++List.replicate (8*A-(trimL (bytesOf (datW [W] 0 (nx:Int) (A:Int))) e c).length) 0 then ((nx+A:Nat):Int) else -1)):=by
 have hB:visC W (r+1) (nx:Int) (a:Int)=visB (visC W r) W (nx:Int) (a:Int):=rfl
 rw [hB]
 unfold visB
 rw [one_word ha,if_neg h0,hd]
 simp only
 rw [if_neg (by decide),if_neg (fun h=>absurd h.1 (by decide))]
 refine⟨fun h=>?_,fun h=>⟨fun h6 n hn=>?_,fun h6 A hA=>?_⟩⟩
 ·rw [if_pos h]
 ·subst h6 hn
  have hwI:wordsI 6 (n:Int)=n:=by simp [wordsI,bitsI];omega
  rw [if_neg (fun h2=>h2 h),if_neg (by decide),if_pos rfl,hwI,show ((n:Nat):Int).toNat=n from rfl]
  rfl
 ·rw [if_neg (fun h2=>h2 h),if_neg (by decide),if_neg (by omega),if_pos h6,hA,show ((A:Nat):Int).toNat=A from rfl]
  rfl
theorem visC_comp {W:List Int}{a nx:Nat}(ha:a<W.length)(h0:zat W a≠0){o c:Int}(hd:decP (zat W a)=⟨1,o,0,0,7,c,false,0,0,0⟩){n A b:Nat}(htd:decP (zat W nx)=⟨0,(n:Int),(A:Int),(b:Int),0,0,false,0,0,0⟩)(hst:(a:Int)+1+o=nx)(hl:nx+1+n*(A+b)≤W.length)(r:Nat):
  (((n*(A+b):Nat):Int)≠c→visC W (r+1) (nx:Int) (a:Int)=-1) ∧
  (((n*(A+b):Nat):Int)=c →
   (¬((A=0∨∃j,j<n∧zat W (nx+1+j*(A+b)+A-1)≠0)∧(b=0∨∃j,j<n∧zat W (nx+1+j*(A+b)+A+b-1)≠0))→visC W (r+1) (nx:Int) (a:Int)=-1) ∧
   ((A=0∨∃j,j<n∧zat W (nx+1+j*(A+b)+A-1)≠0)∧(b=0∨∃j,j<n∧zat W (nx+1+j*(A+b)+A+b-1)≠0) →
    visC W (r+1) (nx:Int) (a:Int)=chkR (fun e (j:Nat)=>chkR (fun e' (i:Nat)=>visC W r e' (((nx+1+j*(A+b)+A:Nat):Int)+(i:Int))) e b) ((nx+1+n*(A+b):Nat):Int) n)):=by
 have hqw:nx<W.length:=by omega
 have hSI:(n:Int)*((A:Int)+b)=((n*(A+b):Nat):Int):=by simp
 have hB:visC W (r+1) (nx:Int) (a:Int)=visB (visC W r) W (nx:Int) (a:Int):=rfl
 rw [hB]
 unfold visB
 rw [one_word ha,if_neg h0,hd]
 simp only
 rw [if_neg (by decide),if_neg (fun h=>absurd h.1 (by decide)),if_neg (fun h=>h hst),if_neg (by decide),if_neg (by decide),if_neg (by decide),one_word hqw,htd]
 simp only
 rw [hSI]
 have hfl1:(((A:Int)=0∨∃j:Nat,(j:Int)<(n:Int)∧wordV [W] 0 ((nx:Int)+1+(j:Int)*((A:Int)+b)+A-1)≠0))↔(A=0∨∃j,j<n∧zat W (nx+1+j*(A+b)+A-1)≠0):=by
  by_cases h0:A=0
  ·simp [h0]
  ·have hw:∀j,j<n→wordV [W] 0 ((nx:Int)+1+(j:Int)*((A:Int)+b)+A-1)=zat W (nx+1+j*(A+b)+A-1):=fun j hj=>by
    have hin:=elem_in (W:=W) (q:=nx) (A:=A) (b:=b) (n:=n) hl hj
    have e:(j:Int)*((A:Int)+b)=((j*(A+b):Nat):Int):=by simp
    rw [e,show (nx:Int)+1+((j*(A+b):Nat):Int)+A-1=((nx+1+j*(A+b)+A-1:Nat):Int) by omega]
    exact one_word (by omega)
   constructor
   ·rintro(h|⟨j,hj,h⟩)
    ·omega
    ·exact .inr ⟨j,by omega,by rw [←hw j (by omega)];exact h⟩
   ·rintro(h|⟨j,hj,h⟩)
    ·omega
    ·exact .inr ⟨j,by omega,by rw [hw j hj];exact h⟩
 have hfl2:(((b:Int)=0∨∃j:Nat,(j:Int)<(n:Int)∧wordV [W] 0 ((nx:Int)+1+(j:Int)*((A:Int)+b)+A+b-1)≠0))↔(b=0∨∃j,j<n∧zat W (nx+1+j*(A+b)+A+b-1)≠0):=by
  by_cases h0:b=0
  ·simp [h0]
  ·have hw:∀j,j<n→wordV [W] 0 ((nx:Int)+1+(j:Int)*((A:Int)+b)+A+b-1)=zat W (nx+1+j*(A+b)+A+b-1):=fun j hj=>by
    have hin:=elem_in (W:=W) (q:=nx) (A:=A) (b:=b) (n:=n) hl hj
    have e:(j:Int)*((A:Int)+b)=((j*(A+b):Nat):Int):=by simp
    rw [e,show (nx:Int)+1+((j*(A+b):Nat):Int)+A+b-1=((nx+1+j*(A+b)+A+b-1:Nat):Int) by omega]
    exact one_word (by omega)
   constructor
   ·rintro(h|⟨j,hj,h⟩)
    ·omega
    ·exact .inr ⟨j,by omega,by rw [←hw j (by omega)];exact h⟩
   ·rintro(h|⟨j,hj,h⟩)
    ·omega
    ·exact .inr ⟨j,by omega,by rw [hw j hj];exact h⟩
 refine⟨fun h=>by rw [if_pos h],fun h=>⟨fun h2=>?_,fun h2=>?_⟩⟩
 ·rw [if_neg (fun h3=>h3 h),if_neg (fun h3=>h2 ⟨hfl1.1 h3.1,hfl2.1 h3.2⟩)]
 ·rw [if_neg (fun h3=>h3 h),if_pos ⟨hfl1.2 h2.1,hfl2.2 h2.2⟩,show ((n:Nat):Int).toNat=n from rfl,show ((b:Nat):Int).toNat=b from rfl]
  rw [show (nx:Int)+1+((n*(A+b):Nat):Int)=((nx+1+n*(A+b):Nat):Int) by omega]
  refine chkR_same n (fun e j hj=>chkR_same b (fun e' i hi=>?_))
  have e1:(j:Int)*((A:Int)+b)=((j*(A+b):Nat):Int):=by simp
  rw [e1]
  congr 1
def kSay (e m z:Int):Option Ks:=if e=0∧0≤z then some (z.toNat,m) else none
theorem kSay_no {e m z:Int}(h:e≠0∨z<0):kSay e m z=none:=by
 unfold kSay
 rw [if_neg]
 rintro⟨h1,h2⟩
 rcases h with h|h
 ·exact h h1
 ·omega
theorem kSay_ok {e m z:Int}{x:Nat}(h:e=0)(h2:z=x):kSay e m z=some (x,m):=by
 unfold kSay
 subst h2
 rw [if_pos ⟨h,by omega⟩]
 rfl
theorem kRow_link {L n:Nat}{f:Nat→Ks→Option Ks}{g:Int→Nat→Val}{h:Int→Nat→Int}(hb:∀i,KBd L (f i))(hf:∀i,i<n→∀(x:Nat) (m:Int),x≤L→0≤m→f i (x,m)=kSay (g m i).e (g m i).m (h x i))(x:Nat)(m:Int)(hx:x≤L)(hm:0≤m):
  ∀i,i≤n→kRow f i (x,m)=kSay (runK g m i).e (runK g m i).m (chkR h x i)
 | 0,_=>(kSay_ok rfl rfl).symm
 | i+1,hi=>by
  have ih:=kRow_link hb hf x m hx hm i (by omega)
  by_cases c:(runK g m i).e=0∧0≤chkR h x i
  ·obtain⟨y,hy⟩:=Int.eq_ofNat_of_zero_le c.2
   rw [kSay_ok c.1 hy] at ih
   obtain⟨b1,b2,-⟩:=kRow_bd hb i (x,m) _ hx hm ih
   rw [kRow_some ih,hf i (by omega) y _ b1 b2]
   have hn:=chkR_next (f:=h) (nx:=(x:Int)) (i:=i) (by omega)
   rw [hy] at hn
   by_cases c2:(g (runK g m i).m i).e=0
   ·rw [runK_ok c.1 c2,hn]
    by_cases c3:h (y:Int) i<0
    ·rw [if_pos c3,kSay_no (.inr c3),kSay_no (.inr (by decide))]
    ·rw [if_neg c3,c2]
   ·rw [runK_no c.1 c2,kSay_no (.inl c2),kSay_no (.inl c2)]
  ·have hz:(runK g m i).e≠0∨chkR h x i<0:=by
    by_cases c1:(runK g m i).e=0
    ·exact .inr (by have:=fun h2=>c ⟨c1,h2⟩;omega)
    ·exact .inl c1
   rw [kSay_no hz] at ih
   rw [kRow_none ih (i+1) (by omega),kSay_no]
   rcases hz with hz|hz
   ·rw [runK_keep hz (Nat.le_succ i)];exact .inl hz
   ·exact .inr (by show (if chkR h x i<0 then (-1:Int) else _)<0;rw [if_pos hz];decide)
theorem structV_me (val:Int→Int→Int→Val)(ls:List (List Int))(m:Int)(o:Ob):
  (structV val ls m o).e=(runK (fun m (i:Nat)=>val m o.sg (o.at'+o.d+(i:Int))) m o.p.toNat).e∧(structV val ls m o).m=(runK (fun m (i:Nat)=>val m o.sg (o.at'+o.d+(i:Int))) m o.p.toNat).m:=by
 unfold structV
 by_cases h1:(runK (fun m (i:Nat)=>val m o.sg (o.at'+o.d+(i:Int))) m o.p.toNat).e≠0
 ·rw [if_pos h1];exact⟨rfl,rfl⟩
 ·rw [if_neg h1];exact⟨(Classical.byContradiction h1).symm,rfl⟩
theorem listV_me (val:Int→Int→Int→Val)(ls:List (List Int))(m:Int)(o:Ob):(listV val ls m o).e=(runK (elemV val ls o) m o.n.toNat).e∧(listV val ls m o).m=(runK (elemV val ls o) m o.n.toNat).m:=by
 unfold listV
 by_cases h1:(runK (elemV val ls o) m o.n.toNat).e≠0
 ·rw [if_pos h1];exact⟨rfl,rfl⟩
 ·rw [if_neg h1];exact⟨(Classical.byContradiction h1).symm,rfl⟩
def KLink (W:List Int)(r:Nat):Prop:=∀(a x:Nat) (m:Int),a<W.length→x≤W.length→0≤m→kVis W r a (x,m)=kSay (valV [W] r m 0 (a:Int)).e (valV [W] r m 0 (a:Int)).m (visC W r (x:Int) (a:Int))
theorem row_link {W:List Int}{r:Nat}(IH:KLink W r){P n x:Nat}{m:Int}(hP:P+n≤W.length)(hx:x≤W.length)(hm:0≤m){g:Int→Nat→Val}(hg:∀m (i:Nat),g m i=valV [W] r m 0 ((P+i:Nat):Int)){h:Int→Nat→Int}(hh:∀e (i:Nat),h e i=visC W r e ((P+i:Nat):Int)):
  kRow (fun i=>kVis W r (P+i)) n (x,m)=kSay (runK g m n).e (runK g m n).m (chkR h x n):=
 kRow_link (L:=W.length) (n:=n) (fun i=>kVis_bd r _) (fun i hi y m' hy hm'=>by rw [hg,hh];exact IH (P+i) y m' (by omega) hy hm') x m hx hm n (Nat.le_refl _)
theorem inB_one {W:List Int}{q n:Nat}:inB [W] 0 (q:Int) (n:Int)=decide (q+n≤W.length):=by
 rw [Bool.eq_iff_iff,inB_iff,decide_eq_true_iff]
 have:(seg [W] (0:Int).toNat).length=W.length:=rfl
 rw [this]
 simp only [List.length_singleton]
 omega
set_option maxHeartbeats 1000000 in
theorem link_str {W:List Int}{r:Nat}(hW:Wds W)(IH:KLink W r){a x:Nat}{m:Int}(ha:a<W.length)(hx:x≤W.length)(hm:0≤m)(h0:zat W a≠0){o:Int}{A b:Nat}(hd:decP (zat W a)=⟨0,o,A,b,0,0,false,0,0,0⟩):
  kStr (kVis W r) W a o A b (x,m)=kSay (valV [W] (r+1) m 0 (a:Int)).e (valV [W] (r+1) m 0 (a:Int)).m (visC W (r+1) (x:Int) (a:Int)):=by
 obtain⟨z0,z1⟩:=zat_bd hW ha
 have hv:=decP_vld _ z0 z1
 have hen:=encW_decP _ z0 z1
 have hvo:=val_obj ha hv (.inl (by rw [hd])) hen.symm (by rw [hen];exact h0) r m
 rw [hd] at hvo
 have hOb:objP [W] ⟨0,o,A,b,0,0,false,0,0,0⟩ 0 ((a:Int)+1)=if inB [W] 0 ((a:Int)+1+o) (A+b)=true then (⟨1,0,(a:Int)+1+o,A,b,0,0,A+b⟩,0) else (ob0,2):=by
  unfold objP
  simp only
  rw [if_neg (by decide),if_pos trivial]
 rw [hOb] at hvo
 clear hOb hv hen
 have hBo:∀q:Nat,bodyV (valV [W] r) [W] m (⟨1,0,(q:Int),(A:Int),(b:Int),0,0,(A:Int)+b⟩,0)=if m<(A:Int)+b then errV m 8 else structV (valV [W] r) [W] (m-((A:Int)+b)) ⟨1,0,(q:Int),(A:Int),(b:Int),0,0,(A:Int)+b⟩:=fun q=>by
  unfold bodyV
  simp only
  rw [if_neg (by simp),if_pos trivial]
 obtain⟨v1,v2,v3⟩:=visC_str (nx:=x) ha h0 hd r
 unfold kStr
 by_cases c1:A+b=0
 ·rw [if_pos c1]
  obtain rfl:A=0:=by omega
  obtain rfl:b=0:=by omega
  have hvis:=v1 rfl
  by_cases c2:o=-1
  ·rw [if_pos c2]
   subst c2
   rw [if_neg (by simp)] at hvis
   rw [hvis]
   have hin:inB [W] 0 ((a:Int)+1+-1) (((0:Nat):Int)+((0:Nat):Int))=true:=by
    rw [show (a:Int)+1+-1=(a:Int) by omega]
    rw [show (((0:Nat):Int)+((0:Nat):Int))=((0:Nat):Int) from rfl,inB_one]
    simp;omega
   rw [if_pos hin,show (a:Int)+1+-1=((a:Nat):Int) by omega,hBo a,if_neg (by simp;omega)] at hvo
   have hme:=structV_me (valV [W] r) [W] (m-(((0:Nat):Int)+((0:Nat):Int))) ⟨1,0,(a:Int),((0:Nat):Int),((0:Nat):Int),0,0,((0:Nat):Int)+((0:Nat):Int)⟩
   rw [hvo,hme.1,hme.2]
   have e1:m-(((0:Nat):Int)+((0:Nat):Int))=m:=by simp
   rw [e1]
   exact(kSay_ok rfl rfl).symm
  ·rw [if_neg c2,kSay_no]
   rw [if_pos c2] at hvis
   exact .inr (by rw [hvis];decide)
 rw [if_neg c1]
 by_cases hst:(a:Int)+1+o=x
 rotate_left
 ·rw [if_pos (.inl (kTake_no.2 (fun h=>hst h.1))),kSay_no (.inr (by rw [v2 c1 hst];decide))]
 rw [hst] at hvo
 rw [show (A:Int)+(b:Int)=((A+b:Nat):Int) by omega,inB_one] at hvo
 by_cases hin:x+(A+b)≤W.length
 rotate_left
 ·rw [if_neg (by simpa using hin)] at hvo
  have h2:(bodyV (valV [W] r) [W] m (ob0,2)).e=2:=rfl
  rw [if_pos (.inl (kTake_no.2 (fun h=>hin h.2.1))),kSay_no (.inl (by rw [hvo,h2];decide))]
 rw [if_pos (by simpa using hin),show ((A+b:Nat):Int)=(A:Int)+(b:Int) by omega,hBo x] at hvo
 by_cases hm2:m<(A:Int)+b
 ·rw [if_pos hm2] at hvo
  rw [if_pos (.inl (kTake_no.2 (fun h=>by have h3:((A+b:Nat):Int)≤m:=h.2.2;omega))),kSay_no (.inl (by rw [hvo];show (8:Int)≠0;decide))]
 rw [if_neg hm2] at hvo
 have hT:¬kTake W.length (x,m) a o (A+b)=none:=fun h=>(kTake_no.1 h) ⟨hst,hin,by show ((A+b:Nat):Int)≤m;omega⟩
 obtain⟨w1,w2⟩:=v3 c1 hst (by omega)
 by_cases hz:(0<A∧zat W (x+A-1)=0)∨(0<b∧zat W (x+A+b-1)=0)
 ·rw [if_pos (.inr hz),kSay_no (.inr (by rw [w1 hz];decide))]
 rw [if_neg (by rintro(h|h);exact hT h;exact hz h),w2 hz,hvo]
 have hme:=structV_me (valV [W] r) [W] (m-((A:Int)+b)) ⟨1,0,(x:Int),(A:Int),(b:Int),0,0,(A:Int)+b⟩
 rw [hme.1,hme.2]
 have hrl:=row_link IH (P:=x+A) (n:=b) (x:=x+(A+b)) (m:=m-((A+b:Nat):Int)) (by omega) hin (by omega) (g:=fun m (i:Nat)=>valV [W] r m 0 ((x:Int)+(A:Int)+(i:Int))) (fun m i=>by simp) (h:=fun e (i:Nat)=>visC W r e (((x+A:Nat):Int)+(i:Int))) (fun e i=>by simp)
 rw [show x+A+b=x+(A+b) by omega]
 rw [show m-((A:Int)+(b:Int))=m-((A+b:Nat):Int) by omega]
 exact hrl
set_option maxHeartbeats 1000000 in
theorem link_lst {W:List Int}{r:Nat}(hW:Wds W)(IH:KLink W r){a x:Nat}{m:Int}(ha:a<W.length)(hx:x≤W.length)(hm:0≤m)(h0:zat W a≠0){o e c:Int}(hd:decP (zat W a)=⟨1,o,0,0,e,c,false,0,0,0⟩)(h3:0≤e)(h4:e<7)(h5:0≤c)(h6:c≤536870911):
  kLst (kVis W r) W a o e c (x,m)=kSay (valV [W] (r+1) m 0 (a:Int)).e (valV [W] (r+1) m 0 (a:Int)).m (visC W (r+1) (x:Int) (a:Int)):=by
 obtain⟨z0,z1⟩:=zat_bd hW ha
 have hv:=decP_vld _ z0 z1
 have hen:=encW_decP _ z0 z1
 have hvo:=val_obj ha hv (.inr (by rw [hd])) hen.symm (by rw [hen];exact h0) r m
 rw [hd] at hvo
 have hwl:=wordsI_lim e c h5 h6
 obtain⟨A,hA⟩:=Int.eq_ofNat_of_zero_le hwl.1
 have hOb:objP [W] ⟨1,o,0,0,e,c,false,0,0,0⟩ 0 ((a:Int)+1)=if inB [W] 0 ((a:Int)+1+o) (A:Int)=false then (ob0,2) else (⟨2,0,(a:Int)+1+o,0,0,e,c,(A:Int)⟩,0):=by
  unfold objP
  simp only
  rw [if_neg (by decide),if_neg (by decide),if_neg (show ¬e=7 by omega),hA]
 rw [hOb] at hvo
 clear hOb hv hen
 have hAt:(wordsI e c).toNat=A:=by omega
 obtain⟨v1,v2⟩:=visC_lst (nx:=x) ha h0 hd r
 unfold kLst
 rw [hAt]
 by_cases hst:(a:Int)+1+o=x
 rotate_left
 ·rw [if_pos (.inl (kTake_no.2 (fun h=>hst h.1))),kSay_no (.inr (by rw [v1 hst];decide))]
 obtain⟨w6,w5⟩:=v2 hst
 rw [hst,inB_one] at hvo
 by_cases hin:x+A≤W.length
 rotate_left
 ·rw [if_pos (by simpa using hin)] at hvo
  have h2:(bodyV (valV [W] r) [W] m (ob0,2)).e=2:=rfl
  rw [if_pos (.inl (kTake_no.2 (fun h=>hin h.2.1))),kSay_no (.inl (by rw [hvo,h2];decide))]
 rw [if_neg (by simpa using hin)] at hvo
 by_cases hm2:m<(A:Int)
 ·have hBo:bodyV (valV [W] r) [W] m (⟨2,0,(x:Int),0,0,e,c,(A:Int)⟩,0)=errV m 8:=by
   unfold bodyV
   simp only
   rw [if_neg (by simp),if_pos hm2]
  rw [hBo] at hvo
  rw [if_pos (.inl (kTake_no.2 (fun h=>by have h3:(A:Int)≤m:=h.2.2;omega))),kSay_no (.inl (by rw [hvo];show (8:Int)≠0;decide))]
 have hT:¬kTake W.length (x,m) a o A=none:=fun h=>(kTake_no.1 h) ⟨hst,hin,by show (A:Int)≤m;omega⟩
 by_cases he6:e=6
 ·subst he6
  obtain⟨n,rfl⟩:=Int.eq_ofNat_of_zero_le h5
  have hwI:wordsI 6 (n:Int)=n:=by simp [wordsI,bitsI];omega
  obtain rfl:A=n:=by omega
  have hBo:bodyV (valV [W] r) [W] m (⟨2,0,(x:Int),0,0,6,(A:Int),(A:Int)⟩,0)=listV (valV [W] r) [W] (m-(A:Int)) ⟨2,0,(x:Int),0,0,6,(A:Int),(A:Int)⟩:=by
   unfold bodyV
   simp only
   rw [if_neg (by simp),if_neg hm2,if_neg (show ¬((2:Int)=1) by decide),if_neg (show ¬((6:Int)<6) by decide)]
  rw [hBo] at hvo
  have hu:¬(0<bitsI 6*(A:Int) % 64∧fld (zat W ((x,m).1+A-1)) (bitsI 6*(A:Int) % 64) (64-bitsI 6*(A:Int) % 64)≠0):=by
   rintro⟨h,-⟩
   rw [show bitsI 6=64 from rfl] at h
   omega
  rw [if_neg (by rintro(h|h);exact hT h;exact hu h),if_pos rfl,hvo,w6 rfl A rfl]
  have hme:=listV_me (valV [W] r) [W] (m-(A:Int)) ⟨2,0,(x:Int),0,0,6,(A:Int),(A:Int)⟩
  rw [hme.1,hme.2]
  exact row_link IH (P:=x) (n:=A) (x:=x+A) (m:=m-(A:Int)) hin hin (by omega) (g:=elemV (valV [W] r) [W] ⟨2,0,(x:Int),0,0,6,(A:Int),(A:Int)⟩) (fun m i=>by unfold elemV;rw [if_pos rfl];simp) (h:=fun e (i:Nat)=>visC W r e ((x:Int)+(i:Int))) (fun e i=>by simp)
 ·have he:e<6:=by omega
  have hBo:bodyV (valV [W] r) [W] m (⟨2,0,(x:Int),0,0,e,c,(A:Int)⟩,0)=⟨.mk 2 e c (trimL (bytesOf (datW [W] 0 (x:Int) (A:Int))) e c) [],m-(A:Int),0⟩:=by
   unfold bodyV
   simp only
   rw [if_neg (by simp),if_neg hm2,if_neg (show ¬((2:Int)=1) by decide),if_pos he]
  rw [hBo] at hvo
  have hvi:=w5 he A hA
  have htw:=tail_words hW hin h3 he h5 hA
  rw [hvo]
  show (if kTake W.length (x,m) a o A=none∨(0<bitsI e*c % 64∧fld (zat W (x+A-1)) (bitsI e*c % 64) (64-bitsI e*c % 64)≠0) then none else if e=6 then _ else some (x+A,m-(A:Int)))=kSay 0 (m-(A:Int)) _
  by_cases hu:0<bitsI e*c % 64∧fld (zat W (x+A-1)) (bitsI e*c % 64) (64-bitsI e*c % 64)≠0
  ·rw [if_neg (fun h=>htw.1 h hu)] at hvi
   rw [if_pos (.inr hu),kSay_no (.inr (by rw [hvi];decide))]
  ·rw [if_pos (htw.2 hu)] at hvi
   rw [if_neg (by rintro(h|h);exact hT h;exact hu h),if_neg he6,hvi]
   exact(kSay_ok rfl rfl).symm
section
def VisOK (A:Option Addr)(c:Nat)(W:List Int)(r:Nat):Prop:=∀(a nx:Nat) (w:World),a<W.length→nx≤W.length→RdP W r a→Ri w .u64 A W →
 Calls Tryd.prog 21 #[.slice A W.length c,.int .i64 nx,.int .i64 a] w fun e w'=>e=.returned (.int .i64 (visC W r (nx:Int) (a:Int)))∧Below w.heap.size w w'
theorem Visits_any {A:Option Addr}{c:Nat}{W:List Int}{r:Nat}(hW:Wds W)(hlen:W.length≤20000000)(IH:VisOK A c W r)(P n nx:Nat)(w:World)(hP:P+n≤W.length)(hn:nx≤W.length)(hrd:∀i,i<n→RdP W r (P+i))(hr:Ri w .u64 A W):
  Calls Tryd.prog 39 #[.slice A W.length c,.int .i64 nx,.int .i64 P,.int .i64 n] w fun e w'=>e=.returned (.int .i64 (chkR (fun e (i:Nat)=>visC W r e ((P:Int)+(i:Int))) (nx:Int) n))∧Below w.heap.size w w':=by
 obtain⟨f,hf⟩:∃f:Int→Nat→Int,f=fun e (i:Nat)=>visC W r e ((P:Int)+(i:Int)):=⟨_,rfl⟩
 rw [←hf]
 have hfo:∀i,i<n→∀k:Nat,k≤W.length→OkE W (f k i):=fun i hi k hk=>by subst hf;exact visC_ok hW hlen (a:=P+i) (by omega) hk (hrd i hi)
 have HOK:=Lib.hid (chkE_ok hn hfo)
 have HFO:=Lib.hid hfo
 have HV:Hid (∀(q k:Nat) (w':World),q<n→k≤W.length→Ri w' .u64 A W→Calls Tryd.prog 21 #[.slice A W.length c,.int .i64 k,.int .i64 ((P:Int)+(q:Int))] w' fun e w2=>e=.returned (.int .i64 (f k q))∧Below w'.heap.size w' w2):=Lib.hid (fun q k w' hq hk hr'=>by subst hf;exact IH (P+q) k w' (by omega) hk (hrd q hq) hr')
 have HNX:=Lib.hid (fun q (k:Nat) (h:chkR f nx q=k)=>(by
  have h1:=chkR_next (f:=f) (nx:=(nx:Int)) (i:=q) (by omega)
  rw [h] at h1
  exact h1:chkR f nx (q+1)=if f k q<0 then -1 else f k q))
 have HNG:=Lib.hid (fun q (h:chkR f (nx:Int) q=-1) (h2:q≤n)=>chkR_neg h n h2)
 have HR:=Lib.hid hr
 clear hfo hr hrd IH hf
 go_enter Tryd.func39,Tryd.ntmps39
 go_wp2
 go_loopw [9,10] (fun e i wr=>∃q k:Nat,q≤n∧k≤W.length∧i=.int .i64 q∧e=.int .i64 k∧chkR f nx q=k∧Below w.heap.size w wr) (fun _ i _=>n-(intOf i).toNat)
 case atStart=>exact⟨0,nx,by omega,hn,rfl,rfl,rfl,Below.refl _ _⟩
 case round=>
  obtain⟨q,k,hq,hk,rfl,rfl,hck,hb⟩:=hrel
  have HB:=Lib.hid hb
  have HCK:=Lib.hid hck
  clear hb hck
  by_cases hlt:q<n
  ·have hlt':(q:Int)<(n:Int):=by omega
   have hnx:=HNX.out q k HCK.out
   have hok:=HFO.out q hlt k hk
   have HVC:=Lib.hid (HV.out q k wr hlt hk (HR.out.below HB.out (Nat.le_refl _)))
   generalize f k q=z at *
   rcases hok with rfl|⟨k',rfl,hk'⟩
   ·have HE:Hid (chkR f (nx:Int) n=-1):=Lib.hid (HNG.out (q+1) (by rw [hnx,if_pos (by omega)]) (by omega))
    clear hnx
    go_wp2_with fail
    refine HVC.out.mono ?_
    rintro e w1 ⟨rfl,hb1⟩
    have HB1:=Lib.hid (bel_on HB.out hb1)
    clear hb1
    go_wp2
    go_ret
    exact⟨by rw [HE.out];rfl,HB1.out⟩
   ·have HE:Hid (chkR f (nx:Int) (q+1)=k'):=Lib.hid (by rw [hnx,if_neg (by omega)])
    clear hnx
    have t1:decide ((k':Int)<0)=false:=decide_eq_false (by omega)
    go_wp2_with fail
    refine HVC.out.mono ?_
    rintro e w1 ⟨rfl,hb1⟩
    have HB1:=Lib.hid (bel_on HB.out hb1)
    clear hb1
    go_wp2
    go_roundw
    case rel=>exact⟨q+1,k',by omega,hk',by go_num,rfl,HE.out,HB1.out⟩
    case measure=>simp [intOf];omega
  ·obtain rfl:q=n:=by omega
   go_wp2
   go_ret
   exact⟨by rw [HCK.out];rfl,HB.out⟩
theorem RefDecode_is (x:Int){P:Ptr}(hd:decP x=P)(w:World)(h5:0≤x)(h6:x<18446744073709551616):
  Calls Tryd.prog 37 #[.int .u64 x] w fun e w'=>e=.returned (.agg #[.int .i64 P.k,.int .i64 P.o,.int .i64 P.d,.int .i64 P.p,.int .i64 P.el,.int .i64 P.c,.bool P.db,.int .i64 P.pa,.int .u32 P.sg,.int .u32 P.lo])∧Below w.heap.size w w':=by
 subst hd
 exact RefDecode_any x w h5 h6
section
variable {A:Option Addr} {c:Nat} {W:List Int}
theorem Visit_null (r a nx:Nat)(w:World)(ha:a<W.length)(h:zat W a=0)(hr:Ri w .u64 A W):
  Calls Tryd.prog 21 #[.slice A W.length c,.int .i64 nx,.int .i64 a] w fun e w'=>e=.returned (.int .i64 (visC W r (nx:Int) (a:Int)))∧Below w.heap.size w w':=by
 rw [visC_null ha h]
 obtain⟨g,off,rfl,hcd⟩:=hr.at (i:=a) ha
 have hcell:=hcd a ha
 rw [h] at hcell
 clear hcd h
 go_enter Tryd.func21,Tryd.ntmps21
 go_wp2
 go_ret
 exact⟨rfl,Below.refl _ _⟩
theorem Visit_far (hW:Wds W)(r a nx:Nat)(w:World)(ha:a<W.length)(h:zat W a≠0)(hk:1<(decP (zat W a)).k)(hr:Ri w .u64 A W):
  Calls Tryd.prog 21 #[.slice A W.length c,.int .i64 nx,.int .i64 a] w fun e w'=>e=.returned (.int .i64 (visC W r (nx:Int) (a:Int)))∧Below w.heap.size w w':=by
 rw [visC_far ha h hk]
 obtain⟨g,off,rfl,hcd⟩:=hr.at (i:=a) ha
 have hcell:=hcd a ha
 have t0:(zat W a==0)=false:=by simpa using h
 obtain⟨z0,z1⟩:=zat_bd hW ha
 have HD:=Lib.hid (fun w2=>RefDecode_any (zat W a) w2 z0 z1)
 have t1:decide (1<(decP (zat W a)).k)=true:=decide_eq_true hk
 generalize decP (zat W a)=P at *
 generalize zat W a=x at *
 clear hcd h hk hr
 go_enter Tryd.func21,Tryd.ntmps21
 go_wp2_with fail
 refine(HD.out _).mono ?_
 rintro e w1 ⟨rfl,hb1⟩
 go_wp2
 go_ret
 exact⟨rfl,hb1.alloc hb1.size _⟩
set_option maxHeartbeats 4000000 in
theorem Visit_str0 (hW:Wds W)(r a nx:Nat)(w:World)(ha:a<W.length)(h:zat W a≠0){o:Int}(hd:decP (zat W a)=⟨0,o,(0:Nat),(0:Nat),0,0,false,0,0,0⟩)(hnx:nx≤20000000)(hal:W.length≤20000000)(ho:-536870912≤o∧o≤536870911)(hr:Ri w .u64 A W):
  Calls Tryd.prog 21 #[.slice A W.length c,.int .i64 nx,.int .i64 a] w fun e w'=>e=.returned (.int .i64 (visC W (r+1) (nx:Int) (a:Int)))∧Below w.heap.size w w':=by
 have hV:=(visC_str (nx:=nx) ha h hd r).1 rfl
 obtain⟨g,off,rfl,hcd⟩:=hr.at (i:=a) ha
 have hcell:=hcd a ha
 have t0:(zat W a==0)=false:=by simpa using h
 obtain⟨z0,z1⟩:=zat_bd hW ha
 have HD:=Lib.hid (fun w2=>RefDecode_is (zat W a) hd w2 z0 z1)
 generalize zat W a=x at *
 simp only at HD
 clear hcd h hd hr
 by_cases h1:o=-1
 ·have HV:Hid (visC W (r+1) (nx:Int) (a:Int)=nx):=Lib.hid (by rw [hV,if_neg (by omega)])
  subst h1
  clear hV
  go_enter Tryd.func21,Tryd.ntmps21
  go_wp2_with fail
  refine(HD.out _).mono ?_
  rintro e w1 ⟨rfl,hb1⟩
  have HB1:=Lib.hid (hb1.alloc hb1.size (.cells #[.int .i64 0,.int .i64 (-1),.int .i64 0,.int .i64 0,.int .i64 0,.int .i64 0,.bool false,.int .i64 0,.int .u32 0,.int .u32 0] 65))
  clear hb1
  go_wp2
  go_ret
  exact⟨by rw [HV.out];rfl,HB1.out⟩
 ·have HV:Hid (visC W (r+1) (nx:Int) (a:Int)=-1):=Lib.hid (by rw [hV,if_pos h1])
  have t1:(o != -1)=true:=by simpa using h1
  clear hV h1
  go_enter Tryd.func21,Tryd.ntmps21
  go_wp2_with fail
  refine(HD.out _).mono ?_
  rintro e w1 ⟨rfl,hb1⟩
  have HB1:=Lib.hid (fun o=>hb1.alloc hb1.size o)
  clear hb1
  go_wp2
  go_ret
  exact⟨by rw [HV.out];rfl,HB1.out _⟩
set_option maxHeartbeats 4000000 in
theorem Visit_strX (hW:Wds W)(r a nx:Nat)(w:World)(ha:a<W.length)(h:zat W a≠0){o:Int}{Aw b:Nat}(hd:decP (zat W a)=⟨0,o,Aw,b,0,0,false,0,0,0⟩)(hnz:Aw+b≠0)(hst:(a:Int)+1+o≠nx)(hA:Aw≤65535)(hb:b≤65535)(hnx:nx≤20000000)(hal:W.length≤20000000)(ho:-536870912≤o∧o≤536870911)(hr:Ri w .u64 A W):
  Calls Tryd.prog 21 #[.slice A W.length c,.int .i64 nx,.int .i64 a] w fun e w'=>e=.returned (.int .i64 (visC W (r+1) (nx:Int) (a:Int)))∧Below w.heap.size w w':=by
 have HV:=Lib.hid ((visC_str (nx:=nx) ha h hd r).2.1 hnz hst)
 obtain⟨g,off,rfl,hcd⟩:=hr.at (i:=a) ha
 have hcell:=hcd a ha
 have t0:(zat W a==0)=false:=by simpa using h
 obtain⟨z0,z1⟩:=zat_bd hW ha
 have HD:=Lib.hid (fun w2=>RefDecode_is (zat W a) hd w2 z0 z1)
 obtain⟨dI,hdI⟩:∃dI:Int,dI=(Aw:Int):=⟨_,rfl⟩
 obtain⟨pI,hpI⟩:∃pI:Int,pI=(b:Int):=⟨_,rfl⟩
 have ht9:(dI+pI==0)=false:=beq_eq_false_iff_ne.2 (by omega)
 have hdb:0≤dI∧dI≤65535∧0≤pI∧pI≤65535:=by omega
 have hts:((a:Int)+1+o != (nx:Int))=true:=by simpa using hst
 simp only at HD
 rw [←hdI,←hpI] at HD
 have hab:(a:Int)≤20000000:=by omega
 generalize zat W a=x at *
 clear hcd h hd hr hdI hpI hst hnz
 go_enter Tryd.func21,Tryd.ntmps21
 go_wp2_with fail
 refine(HD.out _).mono ?_
 rintro e w1 ⟨rfl,hb1⟩
 have HB1:=Lib.hid (fun o=>hb1.alloc hb1.size o)
 clear hb1
 go_wp2
 go_ret
 exact⟨by rw [HV.out];rfl,HB1.out _⟩
set_option maxHeartbeats 8000000 in
theorem Visit_strR (hW:Wds W)(hlen:W.length≤20000000)(r a nx:Nat)(IH:VisOK A c W r)(w:World)(ha:a<W.length)(h:zat W a≠0){o:Int}{Aw b:Nat}(hd:decP (zat W a)=⟨0,o,Aw,b,0,0,false,0,0,0⟩)(hnz:Aw+b≠0)(hst:(a:Int)+1+o=nx)(hA:Aw≤65535)(hb:b≤65535)(hin:nx+Aw+b≤W.length)(ho:-536870912≤o∧o≤536870911)(hrd:∀i,i<b→RdP W r (nx+Aw+i))(hr:Ri w .u64 A W):
  Calls Tryd.prog 21 #[.slice A W.length c,.int .i64 nx,.int .i64 a] w fun e w'=>e=.returned (.int .i64 (visC W (r+1) (nx:Int) (a:Int)))∧Below w.heap.size w w':=by
 obtain⟨hV1,hV2⟩:=(visC_str (nx:=nx) ha h hd r).2.2 hnz hst hin
 have HR:=Lib.hid hr
 have HVS:=Lib.hid (fun w2 (h2:Ri w2 .u64 A W)=>Visits_any hW hlen IH (nx+Aw) b (nx+Aw+b) w2 (by omega) (by omega) hrd h2)
 obtain⟨g,off,rfl,hcd⟩:=hr.at (i:=a) ha
 have hcell:=hcd a ha
 have t0:(zat W a==0)=false:=by simpa using h
 obtain⟨z0,z1⟩:=zat_bd hW ha
 have HD:=Lib.hid (fun w2=>RefDecode_is (zat W a) hd w2 z0 z1)
 obtain⟨dI,hdI⟩:∃dI:Int,dI=(Aw:Int):=⟨_,rfl⟩
 obtain⟨pI,hpI⟩:∃pI:Int,pI=(b:Int):=⟨_,rfl⟩
 have ht9:(dI+pI==0)=false:=beq_eq_false_iff_ne.2 (by omega)
 have hdb:0≤dI∧dI≤65535∧0≤pI∧pI≤65535:=by omega
 simp only at HD
 rw [←hdI,←hpI] at HD
 have hab:(a:Int)≤20000000:=by omega
 have hnb:(nx:Int)≤20000000:=by omega
 have hcd0:=hcd
 have HX0:Hid (zat W a=zat W a):=Lib.hid rfl
 clear hcd
 revert hcell t0 z0 z1 HD
 generalize hxx:zat W a=x
 intro hcell t0 z0 z1 HD
 clear hxx h hd hnz HX0
 have hg:g<w.heap.size:=World.block_lt_of_cell? w ⟨g,off+a,none⟩ hcell
 have HC:Hid (∀(W':World),Below w.heap.size w W'→∀k,k<W.length→W'.cell? ⟨g,off+k,none⟩=some (.int .u64 (zat W k))):=Lib.hid (fun W' hb k hk=>(hb.cell (p:=⟨g,off+k,none⟩) hg).trans (hcd0 k hk))
 clear hcd0 hg
 obtain⟨k1,hk1⟩:∃k1:Nat,k1=nx+Aw-1:=⟨_,rfl⟩
 obtain⟨k2,hk2⟩:∃k2:Nat,k2=nx+Aw+b-1:=⟨_,rfl⟩
 rw [←hk1,←hk2] at hV1 hV2
 have hk1l:0<Aw→k1<W.length∧(nx:Int)+dI-1=(k1:Int)∧decide (0<dI)=true:=fun h=>⟨by omega,by omega,decide_eq_true (by omega)⟩
 have hk2l:0<b→k2<W.length∧(nx:Int)+(dI+pI)-1=(k2:Int)∧decide (0<pI)=true:=fun h=>⟨by omega,by omega,decide_eq_true (by omega)⟩
 have hk1n:¬0<Aw→decide (0<dI)=false:=fun h=>decide_eq_false (by omega)
 have hk2n:¬0<b→decide (0<pI)=false:=fun h=>decide_eq_false (by omega)
 have q1:((nx+Aw+b:Nat):Int)=(nx:Int)+(dI+pI):=by omega
 have q2:((nx+Aw:Nat):Int)=(nx:Int)+dI:=by omega
 rw [q1,q2,←hpI] at HVS
 rw [q1,q2] at hV2
 have HV1:=Lib.hid hV1
 have HV2:=Lib.hid hV2
 have HKL1:=Lib.hid hk1l
 have HKL2:=Lib.hid hk2l
 have HKN1:=Lib.hid hk1n
 have HKN2:=Lib.hid hk2n
 have HST:=Lib.hid hst
 clear hV1 hV2 hk1l hk2l hk1n hk2n q1 q2 hk1 hk2 hdI hpI hrd hr hin
 go_enter Tryd.func21,Tryd.ntmps21
 go_wp2_with fail
 refine(HD.out _).mono ?_
 rintro e w1 ⟨rfl,hb1⟩
 have HB1:=Lib.hid (hb1.alloc hb1.size (.cells #[.int .i64 0,.int .i64 o,.int .i64 dI,.int .i64 pI,.int .i64 0,.int .i64 0,.bool false,.int .i64 0,.int .u32 0,.int .u32 0] 65))
 have hcc:=HC.out _ HB1.out
 clear hb1 hcell
 have hst:=HST.out
 by_cases p1:0<Aw∧zat W k1=0
 ·obtain⟨a1,a2,a3⟩:=HKL1.out p1.1
  have hc1:=hcc k1 a1
  rw [p1.2] at hc1
  have HV:=Lib.hid (HV1.out (.inl p1))
  clear hcc p1
  go_wp2
  go_ret
  exact⟨by rw [HV.out];rfl,HB1.out⟩
 by_cases p2:0<b∧zat W k2=0
 ·obtain⟨a1,a2,a3⟩:=HKL2.out p2.1
  have hc2:=hcc k2 a1
  rw [p2.2] at hc2
  have HV:=Lib.hid (HV1.out (.inr p2))
  by_cases p3:0<Aw
  ·obtain⟨b1,b2,b3⟩:=HKL1.out p3
   have hc1:=hcc k1 b1
   have t1:(zat W k1==0)=false:=beq_eq_false_iff_ne.2 (fun h=>p1 ⟨p3,h⟩)
   clear hcc p1 p2 p3
   generalize zat W k1=y1 at *
   go_wp2
   go_ret
   exact⟨by rw [HV.out];rfl,HB1.out⟩
  ·have b3:=HKN1.out p3
   clear hcc p1 p2 p3
   go_wp2
   go_ret
   exact⟨by rw [HV.out];rfl,HB1.out⟩
 have HV:=Lib.hid (HV2.out (fun h=>h.elim p1 p2))
 have HVS2:=Lib.hid (HVS.out _ (HR.out.below HB1.out (Nat.le_refl _)))
 by_cases p3:0<Aw
 ·obtain⟨b1,b2,b3⟩:=HKL1.out p3
  have hc1:=hcc k1 b1
  have t1:(zat W k1==0)=false:=beq_eq_false_iff_ne.2 (fun h=>p1 ⟨p3,h⟩)
  by_cases p4:0<b
  ·obtain⟨c1,c2,c3⟩:=HKL2.out p4
   have hc2:=hcc k2 c1
   have t2:(zat W k2==0)=false:=beq_eq_false_iff_ne.2 (fun h=>p2 ⟨p4,h⟩)
   clear hcc p1 p2 p3 p4
   generalize zat W k1=y1 at *
   generalize zat W k2=y2 at *
   go_wp2_with fail
   refine HVS2.out.mono ?_
   rintro e w2 ⟨rfl,hb2⟩
   have HB2:=Lib.hid (bel_on HB1.out hb2)
   clear hb2 hc1 hc2
   go_wp2
   go_ret
   exact⟨by rw [HV.out];rfl,HB2.out⟩
  ·have c3:=HKN2.out p4
   clear hcc p1 p2 p3 p4
   generalize zat W k1=y1 at *
   go_wp2_with fail
   refine HVS2.out.mono ?_
   rintro e w2 ⟨rfl,hb2⟩
   have HB2:=Lib.hid (bel_on HB1.out hb2)
   clear hb2 hc1
   go_wp2
   go_ret
   exact⟨by rw [HV.out];rfl,HB2.out⟩
 ·have b3:=HKN1.out p3
  by_cases p4:0<b
  ·obtain⟨c1,c2,c3⟩:=HKL2.out p4
   have hc2:=hcc k2 c1
   have t2:(zat W k2==0)=false:=beq_eq_false_iff_ne.2 (fun h=>p2 ⟨p4,h⟩)
   clear hcc p1 p2 p3 p4
   generalize zat W k2=y2 at *
   go_wp2_with fail
   refine HVS2.out.mono ?_
   rintro e w2 ⟨rfl,hb2⟩
   have HB2:=Lib.hid (bel_on HB1.out hb2)
   clear hb2 hc2
   go_wp2
   go_ret
   exact⟨by rw [HV.out];rfl,HB2.out⟩
  ·have c3:=HKN2.out p4
   clear hcc p1 p2 p3 p4
   go_wp2_with fail
   refine HVS2.out.mono ?_
   rintro e w2 ⟨rfl,hb2⟩
   have HB2:=Lib.hid (bel_on HB1.out hb2)
   clear hb2
   go_wp2
   go_ret
   exact⟨by rw [HV.out];rfl,HB2.out⟩
end
end
section
section
variable {A:Option Addr} {c:Nat} {W:List Int}
set_option maxHeartbeats 4000000 in
theorem Visit_lstX (hW:Wds W)(r a nx:Nat)(w:World)(ha:a<W.length)(h:zat W a≠0){o e n:Int}(hd:decP (zat W a)=⟨1,o,0,0,e,n,false,0,0,0⟩)(hst:(a:Int)+1+o≠nx)(hn0:0≤n)(hn1:n≤536870911)(hnx:nx≤20000000)(hal:W.length≤20000000)(ho:-536870912≤o∧o≤536870911)(hr:Ri w .u64 A W):
  Calls Tryd.prog 21 #[.slice A W.length c,.int .i64 nx,.int .i64 a] w fun e w'=>e=.returned (.int .i64 (visC W (r+1) (nx:Int) (a:Int)))∧Below w.heap.size w w':=by
 have HV:=Lib.hid ((visC_lst (nx:=nx) ha h hd r).1 hst)
 obtain⟨g,off,rfl,hcd⟩:=hr.at (i:=a) ha
 have hcell:=hcd a ha
 have t0:(zat W a==0)=false:=by simpa using h
 obtain⟨z0,z1⟩:=zat_bd hW ha
 have HD:=Lib.hid (fun w2=>RefDecode_is (zat W a) hd w2 z0 z1)
 have HWD:=Lib.hid (fun w2=>RefWords6_any e n w2 hn0 hn1)
 have hts:((a:Int)+1+o != (nx:Int))=true:=by simpa using hst
 simp only at HD
 have hab:(a:Int)≤20000000:=by omega
 revert hcell t0 z0 z1 HD
 generalize hxx:zat W a=x
 intro hcell t0 z0 z1 HD
 clear hxx hcd h hd hr hst
 generalize wordsI e n=wi at *
 go_enter Tryd.func21,Tryd.ntmps21
 go_wp2_with fail
 refine(HD.out _).mono ?_
 rintro e2 w1 ⟨rfl,hb1⟩
 have HB1:=Lib.hid (hb1.alloc hb1.size (.cells #[.int .i64 1,.int .i64 o,.int .i64 0,.int .i64 0,.int .i64 e,.int .i64 n,.bool false,.int .i64 0,.int .u32 0,.int .u32 0] 65))
 clear hb1
 go_wp2_with fail
 refine(HWD.out _).mono ?_
 rintro e2 w2 ⟨rfl,rfl⟩
 go_wp2
 go_ret
 exact⟨by rw [HV.out];rfl,HB1.out⟩
set_option maxHeartbeats 4000000 in
theorem Visit_ptrs (hW:Wds W)(hlen:W.length≤20000000)(r a nx n:Nat)(IH:VisOK A c W r)(w:World)(ha:a<W.length)(h:zat W a≠0){o:Int}(hd:decP (zat W a)=⟨1,o,0,0,6,(n:Int),false,0,0,0⟩)(hst:(a:Int)+1+o=nx)(hin:nx+n≤W.length)(ho:-536870912≤o∧o≤536870911)(hrd:∀i,i<n→RdP W r (nx+i))(hr:Ri w .u64 A W):
  Calls Tryd.prog 21 #[.slice A W.length c,.int .i64 nx,.int .i64 a] w fun e w'=>e=.returned (.int .i64 (visC W (r+1) (nx:Int) (a:Int)))∧Below w.heap.size w w':=by
 have HV:=Lib.hid (((visC_lst (nx:=nx) ha h hd r).2 hst).1 rfl n rfl)
 have HR:=Lib.hid hr
 have HVS:=Lib.hid (fun w2 (h2:Ri w2 .u64 A W)=>Visits_any hW hlen IH nx n (nx+n) w2 hin hin hrd h2)
 obtain⟨g,off,rfl,hcd⟩:=hr.at (i:=a) ha
 have hcell:=hcd a ha
 have t0:(zat W a==0)=false:=by simpa using h
 obtain⟨z0,z1⟩:=zat_bd hW ha
 have HD:=Lib.hid (fun w2=>RefDecode_is (zat W a) hd w2 z0 z1)
 have hwI:wordsI 6 (n:Int)=n:=by simp [wordsI,bitsI];omega
 obtain⟨nI,hnI⟩:∃nI:Int,nI=(n:Int):=⟨_,rfl⟩
 have HWD:=Lib.hid (fun w2=>RefWords6_any 6 (n:Int) w2 (by omega) (by omega))
 rw [hwI,←hnI] at HWD
 simp only at HD
 rw [←hnI] at HD
 have q1:((nx+n:Nat):Int)=(nx:Int)+nI:=by omega
 rw [q1,←hnI] at HVS
 rw [q1] at HV
 have hnb:0≤nI∧nI≤20000000:=by omega
 have hab:(a:Int)≤20000000:=by omega
 have hxb:(nx:Int)≤20000000:=by omega
 have hst:=hst
 revert hcell t0 z0 z1 HD
 generalize hxx:zat W a=x
 intro hcell t0 z0 z1 HD
 clear hxx hcd h hd hr hwI q1 hnI hrd IH hin
 go_enter Tryd.func21,Tryd.ntmps21
 go_wp2_with fail
 refine(HD.out _).mono ?_
 rintro e2 w1 ⟨rfl,hb1⟩
 have HB1:=Lib.hid (hb1.alloc hb1.size (.cells #[.int .i64 1,.int .i64 o,.int .i64 0,.int .i64 0,.int .i64 6,.int .i64 nI,.bool false,.int .i64 0,.int .u32 0,.int .u32 0] 65))
 clear hb1
 go_wp2_with fail
 refine(HWD.out _).mono ?_
 rintro e2 w2 ⟨rfl,rfl⟩
 go_wp2_with fail
 refine(HVS.out _ (HR.out.below HB1.out (Nat.le_refl _))).mono ?_
 rintro e w2 ⟨rfl,hb2⟩
 have HB2:=Lib.hid (bel_on HB1.out hb2)
 clear hb2
 go_wp2
 go_ret
 exact⟨by rw [HV.out];rfl,HB2.out⟩
end
end
end Go.Proofs.YtclpapddejgpnaaDoor
