/- The texts Write4 (what is wanted of them), one after the other. -/
import Derived.Test.YtfaflahfjgnphaaDoorMg31
namespace Go.Proofs.YtfaflahfjgnphaaDoor
open Go.ChangeShapes Go.WideShapes Go.ChangeAt Go.RowKit
set_option linter.unusedVariables false
set_option linter.unusedSimpArgs false
set_option maxRecDepth 100000
theorem fol_read {W:List Int}{a:Nat}(ha:a<W.length)(hk:zat W a % 4≠2):followF [W] 0 (a:Int)=⟨zat W a,0,(a:Int)+1,0⟩:=by
 unfold followF
 have hb:(zat W a % 4==2)=false:=by simpa using hk
 rw [one_has ha,one_word ha,hb]
 simp
theorem val_null {W:List Int}{a:Nat}(ha:a<W.length)(hz:zat W a=0)(r:Nat)(m:Int):valV [W] r m 0 (a:Int)=⟨nd0,m,0⟩:=by
 have h:=fol_read ha (by rw [hz];decide)
 cases r with
 | zero=>unfold valV;rw [h,hz,if_pos (.inr rfl)];rfl
 | succ r=>unfold valV;rw [h,hz,if_pos (.inr rfl)];rfl
theorem val_obj {W:List Int}{a:Nat}(ha:a<W.length){q:Ptr}(hq:Vld q)(hk:q.k=0∨q.k=1)(hw:zat W a=encW q)(h0:encW q≠0)(r:Nat)(m:Int):
  valV [W] (r+1) m 0 (a:Int)=bodyV (valV [W] r) [W] m (objP [W] q 0 ((a:Int)+1)):=by
 have h4:zat W a % 4≠2:=by
  rw [hw]
  unfold encW
  rcases hk with hk|hk
  ·rw [if_pos hk];omega
  ·rw [if_neg (by omega),if_pos hk];omega
 have h:=fol_read ha h4
 have h1:¬((followF [W] 0 (a:Int)).e≠0∨(followF [W] 0 (a:Int)).w=0):=by
  rw [h]
  simp only [hw]
  intro h2
  rcases h2 with h2|h2
  ·exact h2 rfl
  ·exact h0 h2
 unfold valV
 rw [if_neg h1]
 unfold objF
 rw [if_neg h1,h]
 simp only [hw]
 rw [decP_encW q hq]
theorem depth_mem {l:List Nd}{r:Nat}(h:depthK l≤r):∀y∈l,depthN y≤r:=by
 induction l with
 | nil=>intro y hy;cases hy
 | cons x xs ih=>
  simp only [depthK] at h
  intro y hy
  rcases List.mem_cons.1 hy with rfl|hy
  ·omega
  ·exact ih (by omega) y hy
theorem reads_nd0 (W:List Int)(r:Nat):Reads (valV [W] r) W nd0:=by
 intro p a m ha hw hp hm
 refine⟨nd0,?_,rfl⟩
 have h0:costN nd0=0:=by decide
 rw [val_null ha (by rw [hw];rfl) r m,h0]
 simp
theorem padW_exact {d:List Int}(h8:d.length % 8=0):padW d (d.length / 8)=wordsOf d:=by
 unfold padW
 rw [show 8*(d.length / 8)-d.length=0 by omega]
 simp
theorem cost_le {x:Nd}(h:validN x=true):canO x+exO x+costK (targN x)=costN x∧0≤costK (targN x)∧0≤canO x∧0≤exO x:=by
 have h2:=costK_take_le (l:=targN x) (valid_targ h) (targN x).length
 rw [List.take_length] at h2
 exact⟨(costN_eq x).symm,h2.1,(canO_size h).1,exO_nonneg h⟩
theorem trimmed_mem14 {l:List Nd}(h:trimmedK l=true):∀y∈l,trimmedN y=true:=by
 intro y hy
 obtain⟨j,hj,rfl⟩:=List.getElem_of_mem hy
 rcases Bool.eq_false_or_eq_true (trimmedN l[j]) with h1|h1
 ·exact h1
 ·rw [trimmedK_no l j hj h1] at h;cases h
theorem trimmed_targ14 {x:Nd}(h:trimmedN x=true):∀y∈targN x,trimmedN y=true:=by
 obtain⟨k,e,n,d,ks⟩:=x
 simp only [trimmedN,Bool.and_eq_true] at h
 have h2:=trimmed_mem14 h.2
 intro y hy
 rw [targN_mk] at hy
 split at hy
 ·obtain⟨z,hz,hyz⟩:=List.mem_flatMap.1 hy
  have h3:=h2 z hz
  obtain⟨k',e',n',d',ks'⟩:=z
  simp only [trimmedN,Bool.and_eq_true] at h3
  exact trimmed_mem14 h3.2 y hyz
 ·exact h2 y hy
theorem ptrW_str (e n:Int)(d:List Int)(ks:List Nd)(o:Int):ptrW (.mk 1 e n d ks) o=encW ⟨0,if canO (.mk 1 e n d ks)=0 then -1 else o,((d.length / 8:Nat):Int),ks.length,0,0,false,0,0,0⟩:=by
 unfold ptrW ptrP
 simp only [Nd.k,Nd.d,Nd.ks]
 rw [if_neg (by decide),if_pos trivial]
theorem ptrW_lst (e n:Int)(d:List Int)(ks:List Nd)(o:Int):ptrW (.mk 2 e n d ks) o=encW ⟨1,o,0,0,e,if e=7 then canO (.mk 2 e n d ks)-1 else n,false,0,0,0⟩:=by
 unfold ptrW ptrP
 exact(if_neg (show ¬((2:Int)=0) by decide)).trans (congrArg encW (if_neg (show ¬((2:Int)=1) by decide)))
theorem str_read {d:List Int}{ks:List Nd}(hv:validN (.mk 1 0 0 d ks)=true)(ht:trimmedN (.mk 1 0 0 d ks)=true)(hb:bytN (.mk 1 0 0 d ks))(r:Nat)(W:List Int)(hW:W.length≤536870911)(hk:∀t∈ks,Reads (valV [W] r) W t):Reads (valV [W] (r+1)) W (.mk 1 0 0 d ks):=by
 intro p a m ha hw hp hm
 obtain⟨-,-,h8,hd5,hk5⟩:=head_str hv
 obtain⟨hc,hc0,hc1,-⟩:=cost_le hv
 have hT:targN (.mk 1 0 0 d ks)=ks:=by rw [targN_mk,if_neg (by decide)]
 have hO:canO (.mk 1 0 0 d ks)=((d.length / 8+ks.length:Nat):Int):=rfl
 have hE:exO (.mk 1 0 0 d ks)=0:=rfl
 rw [hT,hO,hE] at hc
 rw [hT] at hc0
 have hbl:=body_length hv
 rw [objW_eq,hT] at hp
 rw [hO] at hbl
 have hp1:Has W p (wordsOf d++ptrsW ((d.length / 8:Nat):Int) (((d.length / 8+ks.length:Nat):Int)) ks):=hp.left
 have hp2:=hp.right
 have hlen:=hp.left.1
 have hpv:∀t∈ks,validN t=true:=fun t hm=>valid_targ hv t (by rw [hT];exact hm)
 have hwd:=hp1.left
 have hpt:=hp1.right
 rw [wordsOf_length] at hpt
 have hv0:=Vld
 by_cases h0:d.length / 8+ks.length=0
 ·have hd0:d=[]:=List.eq_nil_of_length_eq_zero (by omega)
  have hk0:ks=[]:=List.eq_nil_of_length_eq_zero (by omega)
  subst hd0 hk0
  have hw2:zat W a=encW ⟨0,-1,0,0,0,0,false,0,0,0⟩:=by
   rw [hw,ptrW_str,if_pos (by rw [hO];rfl)]
   rfl
  refine⟨.mk 1 0 0 [] [],?_,rfl⟩
  rw [val_obj ha (q:=⟨0,-1,0,0,0,0,false,0,0,0⟩) (.inl (by decide)) (.inl rfl) hw2 (by decide) r m]
  have hin:inB [W] 0 ((a:Int)+1+-1) (0+0)=true:=by
   have:=one_in (W:=W) (a:=a) (n:=0) (by omega)
   rw [show (a:Int)+1+-1=a by omega]
   exact this
  unfold objP
  simp only
  rw [if_neg (by decide),if_pos trivial,if_pos hin]
  unfold bodyV
  simp only
  have hcz:costN (.mk 1 0 0 [] [])=0:=by decide
  rw [if_neg (by simp),if_neg (by rw [hcz] at hm;omega),if_pos trivial]
  unfold structV
  have hdz:datW [W] 0 ((a:Int)+1+-1) 0=[]:=by
   have:=one_dat (W:=W) (q:=a) (n:=0) (l:=[]) ⟨by simp;omega,fun i hi=>by simp at hi⟩ rfl
   rw [show (a:Int)+1+-1=a by omega]
   exact this
  simp only [Int.toNat_zero,runK,hdz,hcz]
  simp [bytesOf]
 ·have hw2:zat W a=encW ⟨0,(p:Int)-a-1,((d.length / 8:Nat):Int),(ks.length:Int),0,0,false,0,0,0⟩:=by
   rw [hw,ptrW_str,if_neg (by rw [hO];omega)]
  have hq:Vld ⟨0,(p:Int)-a-1,((d.length / 8:Nat):Int),(ks.length:Int),0,0,false,0,0,0⟩:=by
   left
   simp only
   refine⟨trivial,by omega,by omega,by omega,by omega,by omega,by omega,?_⟩
   simp
  have hne:encW ⟨0,(p:Int)-a-1,((d.length / 8:Nat):Int),(ks.length:Int),0,0,false,0,0,0⟩≠0:=by
   unfold encW
   simp only
   rw [if_pos trivial]
   omega
  rw [val_obj ha hq (.inl rfl) hw2 hne r m]
  have hin:inB [W] 0 ((a:Int)+1+((p:Int)-a-1)) (((d.length / 8:Nat):Int)+(ks.length:Int))=true:=by
   have:=one_in (W:=W) (a:=p) (n:=d.length / 8+ks.length) (by omega)
   rw [show (a:Int)+1+((p:Int)-a-1)=p by omega]
   simpa using this
  unfold objP
  simp only
  rw [if_neg (by decide),if_pos trivial,if_pos hin]
  unfold bodyV
  simp only
  rw [if_neg (by simp),if_neg (by omega),if_pos trivial,show (a:Int)+1+((p:Int)-a-1)=p by omega]
  have hbd:=bytN_d hb
  obtain⟨v,h1,h2⟩:=struct_read (val:=valV [W] r) (W:=W) (d:=d) (ks:=ks) (A:=d.length / 8) (b:=ks.length) (q:=p) (p:=p) (pos:=d.length / 8) (nx:=d.length / 8+ks.length) hk (reads_nd0 W r) hpv rfl (by rw [padW_exact h8];exact hwd) (by omega) h8 hbd (by rw [Nat.sub_self,List.replicate_zero,List.append_nil];exact hpt) (Nat.le_refl _)
   (by rw [show p+(d.length / 8+ks.length)=p+(bodyN (.mk 1 0 0 d ks)).length by omega];exact hp2) ht (m-(((d.length / 8:Nat):Int)+(ks.length:Int))) (((d.length / 8:Nat):Int)+(ks.length:Int)) (by omega)
  refine⟨v,?_,h2⟩
  rw [h1]
  simp only [Val.mk.injEq,true_and,and_true]
  omega
theorem enc_lst (o e c:Int):encW ⟨1,o,0,0,e,c,false,0,0,0⟩≠0:=by
 unfold encW
 simp only
 rw [if_neg (show ¬((1:Int)=0) by decide),if_pos trivial]
 omega
theorem obj_lst {W:List Int}{p a:Nat}{e n c:Int}(he:e≠7)(hc:wordsI e n=c)(h0:0≤c)(hW:p+c.toNat≤W.length):objP [W] ⟨1,(p:Int)-a-1,0,0,e,n,false,0,0,0⟩ 0 ((a:Int)+1)=(⟨2,0,p,0,0,e,n,c⟩,0):=by
 have hin:inB [W] 0 (p:Int) c=true:=by
  have:=one_in (W:=W) (a:=p) (n:=c.toNat) hW
  rw [Int.toNat_of_nonneg h0] at this
  exact this
 unfold objP
 simp only
 rw [if_neg (by decide),if_neg (by decide),show (a:Int)+1+((p:Int)-a-1)=p by omega,hc,hin,if_neg (by simp),if_neg he]
theorem trimL_pad {d:List Int}{e n:Int}(q:Nat)(h:bytesI e n=d.length):trimL (d++List.replicate q 0) e n=trimL d e n:=by
 apply ext_zat (by rw [trimL_length,trimL_length])
 intro i hi
 rw [trimL_length] at hi
 rw [trimL_zat _ _ _ _ hi,trimL_zat _ _ _ _ hi]
 unfold trimAt
 rw [zat_append_left _ _ _ (by omega)]
theorem lst_read {e n:Int}{d:List Int}{ks:List Nd}(hv:validN (.mk 2 e n d ks)=true)(he:e<6)(hb:bytN (.mk 2 e n d ks))(r:Nat)(W:List Int)(hW:W.length≤536870911):Reads (valV [W] (r+1)) W (.mk 2 e n d ks):=by
 intro p a m ha hw hp hm
 obtain⟨g1,g2,g3,g4,-,g6⟩:=head_lst hv
 obtain⟨g7,g8,g9⟩:=g6 he
 obtain rfl:ks=[]:=List.eq_nil_of_length_eq_zero g7
 obtain⟨hc,hc0,hc1,-⟩:=cost_le hv
 have hT:targN (.mk 2 e n d [])=[]:=by rw [targN_mk,if_neg (by omega)]
 have hO:canO (.mk 2 e n d [])=wordsI e n:=by show canOf 2 e n d []=_;unfold canOf;rw [if_neg (show ¬((2:Int)=0) by decide),if_neg (show ¬((2:Int)=1) by decide),if_neg (by omega)]
 have hE:exO (.mk 2 e n d [])=0:=by unfold exO;rw [if_neg];rintro⟨-,h,-⟩;simp only [Nd.e] at h;omega
 rw [hT,hO,hE] at hc
 rw [hO] at hc1
 have hk0:costK []=0:=by simp [costK,canK,exK]
 rw [hk0] at hc
 have hbl:=body_length hv
 rw [objW_eq,hT] at hp
 have hp1:=hp.left
 have hlen:=hp1.1
 rw [hO] at hbl
 have hbn:bodyN (.mk 2 e n d [])=padW d (wordsI e n).toNat:=by
  show bodyW 2 e n d []=_
  unfold bodyW
  rw [if_neg (show ¬((2:Int)=0) by decide),if_neg (show ¬((2:Int)=1) by decide),if_neg (by omega),if_neg (by omega)]
 rw [hbn] at hp1 hlen hbl
 have hbi:=bitsI_mul e n g1
 have hwI:wordsI e n=(bitsI e*n+63) / 64:=by unfold wordsI;rw [if_neg (by omega)]
 have hBI:bytesI e n=(bitsI e*n+7) / 8:=rfl
 have hA:d.length≤8*(wordsI e n).toNat:=by omega
 rw [padW_length hA] at hlen
 have hw2:zat W a=encW ⟨1,(p:Int)-a-1,0,0,e,n,false,0,0,0⟩:=by rw [hw,ptrW_lst,if_neg (by omega)]
 have hq:Vld ⟨1,(p:Int)-a-1,0,0,e,n,false,0,0,0⟩:=by
  right;left
  simp only
  refine⟨trivial,by omega,by omega,trivial,trivial,by omega,by omega,by omega,by omega,?_⟩
  simp
 rw [val_obj ha hq (.inr rfl) hw2 (enc_lst _ _ _) r m,obj_lst (by omega) rfl hc1 hlen]
 unfold bodyV
 simp only
 rw [if_neg (by simp),if_neg (by omega),if_neg (by decide),if_pos he]
 refine⟨_,by rw [show m-wordsI e n=m-costN (.mk 2 e n d []) by omega],?_⟩
 have hd:datW [W] 0 (p:Int) (wordsI e n)=padW d (wordsI e n).toNat:=by
  have:=one_dat hp1 (padW_length hA)
  rw [Int.toNat_of_nonneg hc1] at this
  exact this
 have hbd:Bts d:=bytN_d hb
 rw [hd,pad_bytes hbd hA]
 show trimN (.mk 2 e n (trimL (d++_) e n) [])=_
 rw [trimL_pad _ g8.symm,g9]
 simp [trimN,trimK]
theorem plist_read {n:Int}{d:List Int}{ks:List Nd}(hv:validN (.mk 2 6 n d ks)=true)(r:Nat)(W:List Int)(hW:W.length≤536870911)(hk:∀t∈ks,Reads (valV [W] r) W t):Reads (valV [W] (r+1)) W (.mk 2 6 n d ks):=by
 intro p a m ha hw hp hm
 obtain⟨g1,g2,-,-,g5,-⟩:=head_lst hv
 obtain⟨g7,g8⟩:=g5 (by decide)
 obtain rfl:d=[]:=List.eq_nil_of_length_eq_zero g7
 obtain⟨hc,hc0,hc1,-⟩:=cost_le hv
 have hT:targN (.mk 2 6 n [] ks)=ks:=by rw [targN_mk,if_neg (by omega)]
 have hwI:wordsI 6 n=n:=by simp [wordsI,bitsI];omega
 have hO:canO (.mk 2 6 n [] ks)=n:=by
  have h0:canO (.mk 2 6 n [] ks)=wordsI 6 n:=rfl
  rw [h0,hwI]
 have hE:exO (.mk 2 6 n [] ks)=0:=rfl
 rw [hT,hO,hE] at hc
 rw [hT] at hc0
 have hbl:=body_length hv
 rw [objW_eq,hT] at hp
 rw [hO] at hbl
 have hp2:=hp.right
 have hp1:Has W p (ptrsW 0 (canO (.mk 2 6 n [] ks)) ks):=hp.left
 have hlen:=hp.left.1
 have hpv:∀t∈ks,validN t=true:=fun t hm=>valid_targ hv t (by rw [hT];exact hm)
 have hw2:zat W a=encW ⟨1,(p:Int)-a-1,0,0,6,n,false,0,0,0⟩:=by rw [hw,ptrW_lst,if_neg (by decide)]
 have hq:Vld ⟨1,(p:Int)-a-1,0,0,6,n,false,0,0,0⟩:=by
  right;left
  simp only
  refine⟨trivial,by omega,by omega,trivial,trivial,by omega,by omega,by omega,by omega,?_⟩
  simp
 rw [val_obj ha hq (.inr rfl) hw2 (enc_lst _ _ _) r m,obj_lst (c:=n) (by decide) hwI (by omega) (by omega)]
 unfold bodyV
 simp only
 rw [if_neg (by simp),if_neg (by omega),if_neg (by decide),if_neg (by decide)]
 obtain⟨ks',h1,h2⟩:=kids_read (val:=valV [W] r) (W:=W) (ts:=ks) (p:=p) (pos:=0) (nx:=ks.length) hk hpv (by rw [hO,←g8] at hp1;exact hp1) (by rw [show p+ks.length=p+(bodyN (.mk 2 6 n [] ks)).length by omega];exact hp2) (m-n) (by omega)
 have hf:elemV (valV [W] r) [W] ⟨2,0,(p:Int),0,0,6,n,n⟩=fun (m:Int) (i:Nat)=>valV [W] r m 0 (((p+0:Nat):Int)+(i:Int)):=by
  funext m i
  unfold elemV
  rw [if_pos rfl]
  simp
 refine⟨.mk 2 6 n [] ks',?_,?_⟩
 ·unfold listV
  simp only
  rw [show n.toNat=ks.length by omega,hf,h1]
  simp only [ne_eq,not_true,if_false,Val.mk.injEq,true_and,and_true]
  omega
 ·simp only [trimN]
  rw [if_neg (by decide),if_neg (by decide),trimK_map,h2]
theorem clist_read {n:Int}{d:List Int}{ks:List Nd}(hv:validN (.mk 2 7 n d ks)=true)(ht:trimmedN (.mk 2 7 n d ks)=true)(hb:bytN (.mk 2 7 n d ks))(r:Nat)(W:List Int)(hW:W.length≤536870911)(hk:∀t∈kk ks,Reads (valV [W] r) W t):Reads (valV [W] (r+1)) W (.mk 2 7 n d ks):=by
 intro p a m ha hw hp hm
 obtain⟨g1,g2,-,-,g5,-⟩:=head_lst hv
 obtain⟨g7,g8⟩:=g5 (by decide)
 obtain rfl:d=[]:=List.eq_nil_of_length_eq_zero g7
 obtain⟨hc,hc0,hc1,hc2⟩:=cost_le hv
 have hfit:=comp_fit hv
 obtain⟨hu1,hu2⟩:=uni_bd hv
 have hT:targN (.mk 2 7 n [] ks)=kk ks:=by rw [targN_mk,if_pos ⟨rfl,rfl⟩]
 have hpv:∀t∈kk ks,validN t=true:=fun t hm=>valid_targ hv t (by rw [hT];exact hm)
 have hel:∀y∈ks,∃d' ks',y=.mk 1 0 0 d' ks'∧d'.length % 8=0∧Bts d'∧trimmedN y=true:=by
  intro y hy
  obtain⟨hyv,-⟩:=valid_mem hv hy
  have hyk:=(valid_elem hv hy).1
  have hyb:=bytN_ks hb y hy
  have hyt:trimmedN y=true:=by
   simp only [trimmedN,Bool.and_eq_true] at ht
   exact trimmed_mem14 ht.2 y hy
  obtain⟨k',e',n',d',ks'⟩:=y
  simp only [Nd.k] at hyk
  subst hyk
  obtain⟨h1,h2,h3,-,-⟩:=head_str hyv
  subst h1 h2
  exact⟨d',ks',rfl,h3,bytN_d hyb,hyt⟩
 have hbl:=body_length hv
 rw [objW_eq,hT] at hp
 rw [hT] at hc hc0
 obtain⟨A,hAe⟩:∃A,uniD ks ks.length=A:=⟨_,rfl⟩
 obtain⟨b,hbe⟩:∃b,uniP ks ks.length=b:=⟨_,rfl⟩
 have hO:canO (.mk 2 7 n [] ks)=1+n*((A+b:Nat):Int):=by
  rw [←hAe,←hbe]
  show canOf 2 7 n [] ks=_
  unfold canOf
  rw [if_neg (show ¬((2:Int)=0) by decide),if_neg (show ¬((2:Int)=1) by decide),if_pos rfl]
 have hE:exO (.mk 2 7 n [] ks)=if A+b=0 then n else 0:=by
  rw [←hAe,←hbe]
  unfold exO
  show (if (2:Int)=2∧(7:Int)=7∧uniD ks ks.length+uniP ks ks.length=0 then n else 0)=_
  by_cases h:uniD ks ks.length+uniP ks ks.length=0
  ·rw [if_pos ⟨rfl,rfl,h⟩,if_pos h]
  ·rw [if_neg (fun h2=>h h2.2.2),if_neg h]
 have hp2:=hp.right
 have hp1:Has W p (tagW n (uniD ks ks.length) (uniP ks ks.length)::elsW (uniD ks ks.length) (uniP ks ks.length) 1 (canO (.mk 2 7 n [] ks)) ks):=hp.left
 have hlen:=hp.left.1
 rw [hAe,hbe] at hp1
 rw [hAe] at hu1
 rw [hbe] at hu2
 rw [hAe,hbe] at hfit
 obtain⟨S,hS⟩:∃S,n*((A+b:Nat):Int)=S:=⟨_,rfl⟩
 have hS0:0≤S:=by rw [←hS];exact Int.mul_nonneg g1 (by omega)
 rw [hS] at hO
 obtain⟨q1,q2,q3⟩:=hp1.head
 have hw2:zat W a=encW ⟨1,(p:Int)-a-1,0,0,7,S,false,0,0,0⟩:=by rw [hw,ptrW_lst,if_pos rfl,hO];congr 2;omega
 have hq:Vld ⟨1,(p:Int)-a-1,0,0,7,S,false,0,0,0⟩:=by
  right;left
  simp only
  refine⟨trivial,by omega,by omega,trivial,trivial,by omega,by omega,by omega,by omega,?_⟩
  simp
 have hqt:Vld ⟨0,n,(A:Int),(b:Int),0,0,false,0,0,0⟩:=by
  left
  simp only
  refine⟨trivial,by omega,by omega,by omega,by omega,by omega,by omega,?_⟩
  simp
 have hobj:objP [W] ⟨1,(p:Int)-a-1,0,0,7,S,false,0,0,0⟩ 0 ((a:Int)+1)=(⟨2,0,((p+1:Nat):Int),A,b,7,n,if A+b=0 then S+1+n else S+1⟩,0):=by
  have hin:inB [W] 0 (p:Int) (wordsI 7 S)=true:=by
   have h7:wordsI 7 S=((S.toNat+1:Nat):Int):=by unfold wordsI;rw [if_pos rfl];omega
   rw [h7]
   exact one_in (by omega)
  unfold objP
  simp only
  rw [if_neg (by decide),if_neg (by decide),show (a:Int)+1+((p:Int)-a-1)=p by omega,hin,if_neg (by simp),if_pos trivial]
  unfold compF
  rw [one_word q1,q2]
  unfold tagW
  rw [decP_encW _ hqt]
  simp only
  have hnm:n*((A:Int)+(b:Int))=S:=by rw [←hS];simp
  rw [if_neg (by rw [hnm];omega)]
  have h7:wordsI 7 S=S+1:=by unfold wordsI;rw [if_pos rfl]
  rw [h7]
  by_cases h:A+b=0
  ·rw [if_pos h,if_pos (by omega)];simp
  ·rw [if_neg h,if_neg (by omega)];simp
 rw [val_obj ha hq (.inr rfl) hw2 (enc_lst _ _ _) r m,hobj]
 have hcost:(if A+b=0 then S+1+n else S+1)=canO (.mk 2 7 n [] ks)+exO (.mk 2 7 n [] ks):=by rw [hO,hE];split<;>omega
 rw [hcost]
 unfold bodyV
 simp only
 rw [if_neg (by simp),if_neg (by omega),if_neg (by decide),if_neg (by decide)]
 obtain⟨ks',h1,h2⟩:=els_read (val:=valV [W] r) (W:=W) (ks:=ks) (A:=A) (b:=b) (p:=p) (nx:=(bodyN (.mk 2 7 n [] ks)).length) hk (reads_nd0 W r) hpv hfit hel (by rw [hbl];exact q3) hp2 n (canO (.mk 2 7 n [] ks)+exO (.mk 2 7 n [] ks)) (m-(canO (.mk 2 7 n [] ks)+exO (.mk 2 7 n [] ks))) (by omega)
 refine⟨.mk 2 7 n [] ks',?_,?_⟩
 ·unfold listV
  simp only
  rw [show n.toNat=ks.length by omega,h1]
  simp only [ne_eq,not_true,if_false,Val.mk.injEq,true_and,and_true]
  omega
 ·simp only [trimN]
  rw [if_neg (by decide),if_neg (by decide),trimK_map,h2]
theorem write_read:∀x:Nd,validN x=true→trimmedN x=true→bytN x→∀(r:Nat) (W:List Int),depthN x≤r→W.length≤536870911→Reads (valV [W] r) W x:=size_ind (by
 intro x ih hv ht hb r W hr hW
 have hk:=valid_k hv
 have hdx:=depthN_eq x
 have hsub:∀t∈targN x,x.k≠0→Reads (valV [W] (r-1)) W t:=fun t hm h0=>ih t (targ_lt hm) (valid_targ hv t hm) (trimmed_targ14 ht t hm) (bytN_targ hb t hm) (r-1) W (by
  rw [if_neg h0] at hdx
  exact depth_mem (r:=r-1) (by omega) t hm) hW
 rcases hk with h0|h1|h2
 ·obtain⟨k,e,n,d,ks⟩:=x
  simp only [Nd.k] at h0
  subst h0
  rw [head_nul hv]
  exact reads_nd0 W r
 ·rw [if_neg (by omega)] at hdx
  have hs:=fun t hm=>hsub t hm (by omega)
  obtain⟨r',rfl⟩:∃r',r=r'+1:=⟨r-1,by omega⟩
  obtain⟨k,e,n,d,ks⟩:=x
  simp only [Nd.k] at h1
  subst h1
  obtain⟨h1,h2,-⟩:=head_str hv
  subst h1 h2
  have hT:targN (.mk 1 0 0 d ks)=ks:=by rw [targN_mk,if_neg (by decide)]
  rw [hT] at hs
  exact str_read hv ht hb r' W hW hs
 ·rw [if_neg (by omega)] at hdx
  have hs:=fun t hm=>hsub t hm (by omega)
  obtain⟨r',rfl⟩:∃r',r=r'+1:=⟨r-1,by omega⟩
  obtain⟨k,e,n,d,ks⟩:=x
  simp only [Nd.k] at h2
  subst h2
  obtain⟨-,-,g3,g4,-,-⟩:=head_lst hv
  rcases(by omega:e<6∨e=6∨e=7) with h|rfl|rfl
  ·exact lst_read hv h hb r' W hW
  ·have hT:targN (.mk 2 6 n d ks)=ks:=by rw [targN_mk,if_neg (by omega)]
   rw [hT] at hs
   exact plist_read hv r' W hW hs
  ·have hT:targN (.mk 2 7 n d ks)=kk ks:=by rw [targN_mk,if_pos ⟨rfl,rfl⟩]
   rw [hT] at hs
   exact clist_read hv ht hb r' W hW hs)
theorem write_val {x:Nd}(hv:validN x=true)(ht:trimmedN x=true)(hb:bytN x)(hs:canN x≤536870910){r:Nat}(hr:depthN x≤r){m:Int}(hm:costN x≤m):∃v,valV [writeF x] r m 0 0=⟨v,m-costN x,0⟩∧trimN v=x:=by
 have hl:=writeF_length hv
 have h:=write_read x hv ht hb r (writeF x) hr (by omega) 1 0 m (by simp [writeF]) (by show ptrW x 0=_;congr 1) (Has.self (writeF x)).head.2.2 hm
 exact h
theorem write_inj {x y:Nd}(hx:validN x=true)(hy:validN y=true)(tx:trimmedN x=true)(ty:trimmedN y=true)(bx:bytN x)(by':bytN y)(sx:canN x≤536870910)(sy:canN y≤536870910)(h:writeF x=writeF y):x=y:=by
 have h1:=Int.le_max_left (costN x) (costN y)
 have h2:=Int.le_max_right (costN x) (costN y)
 obtain⟨v,g1,g2⟩:=write_val hx tx bx sx (Nat.le_max_left (depthN x) (depthN y)) h1
 obtain⟨u,g3,g4⟩:=write_val hy ty by' sy (Nat.le_max_right (depthN x) (depthN y)) h2
 rw [h,g3] at g1
 simp only [Val.mk.injEq] at g1
 rw [←g2,←g4,g1.1]
end Go.Proofs.YtfaflahfjgnphaaDoor
