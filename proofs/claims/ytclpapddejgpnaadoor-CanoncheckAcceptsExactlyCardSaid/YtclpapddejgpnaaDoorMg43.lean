/- The texts KcL2, KcW (what is wanted of them), one after the other. -/
import Derived.Test.YtclpapddejgpnaaDoorMg39
import Derived.Test.YtclpapddejgpnaaDoorMg41
namespace Go.Proofs.YtclpapddejgpnaaDoor
open Go.ChangeShapes Go.WideShapes Go.ChangeAt Go.RowKit
set_option linter.unusedVariables false
set_option linter.unusedSimpArgs false
set_option maxRecDepth 100000
theorem runK_idle {f:Int→Nat→Val}{m:Int}(hf:∀m i,(f m i).e=0∧(f m i).m=m):∀n,(runK f m n).e=0∧(runK f m n).m=m
 | 0=>⟨rfl,rfl⟩
 | n+1=>by
  obtain⟨h1,h2⟩:=runK_idle (m:=m) hf n
  obtain⟨g1,g2⟩:=hf (runK f m n).m n
  rw [runK_ok h1 g1]
  exact⟨rfl,by show (f (runK f m n).m n).m=m;rw [g2,h2]⟩
set_option maxHeartbeats 1000000 in
theorem link_cmp {W:List Int}{r:Nat}(hW:Wds W)(IH:KLink W r){a x:Nat}{m:Int}(ha:a<W.length)(hx:x≤W.length)(hm:0≤m)(h0:zat W a≠0){o:Int}{c:Nat}(hd:decP (zat W a)=⟨1,o,0,0,7,(c:Int),false,0,0,0⟩):
  kCmp (kVis W r) W a o c (x,m)=kSay (valV [W] (r+1) m 0 (a:Int)).e (valV [W] (r+1) m 0 (a:Int)).m (visC W (r+1) (x:Int) (a:Int)):=by
 obtain⟨z0,z1⟩:=zat_bd hW ha
 have hv:=decP_vld _ z0 z1
 have hen:=encW_decP _ z0 z1
 have hvo:=val_obj ha hv (.inr (by rw [hd])) hen.symm (by rw [hen];exact h0) r m
 rw [hd] at hvo
 have hwI:wordsI 7 (c:Int)=((c+1:Nat):Int):=by unfold wordsI;rw [if_pos rfl];omega
 have hOb:objP [W] ⟨1,o,0,0,7,(c:Int),false,0,0,0⟩ 0 ((a:Int)+1)=if inB [W] 0 ((a:Int)+1+o) ((c+1:Nat):Int)=false then (ob0,2) else compF [W] 0 ((a:Int)+1+o) c ((c+1:Nat):Int):=by
  unfold objP
  simp only
  rw [if_neg (by decide),if_neg (by decide),if_pos trivial,hwI]
 rw [hOb] at hvo
 clear hOb hv hen
 obtain⟨v1,-⟩:=visC_lst (nx:=x) ha h0 hd r
 unfold kCmp
 show (if kTake W.length (x,m) a o (c+1)=none∨_ then _ else _)=_
 by_cases hst:(a:Int)+1+o=x
 rotate_left
 ·rw [if_pos (.inl (kTake_no.2 (fun h=>hst h.1))),kSay_no (.inr (by rw [v1 hst];decide))]
 rw [hst,inB_one] at hvo
 by_cases hin:x+(c+1)≤W.length
 rotate_left
 ·rw [if_pos (by simpa using hin)] at hvo
  have h2:(bodyV (valV [W] r) [W] m (ob0,2)).e=2:=rfl
  rw [if_pos (.inl (kTake_no.2 (fun h=>hin h.2.1))),kSay_no (.inl (by rw [hvo,h2];decide))]
 rw [if_neg (by simpa using hin)] at hvo
 have hxw:x<W.length:=by omega
 obtain⟨y0,y1⟩:=zat_bd hW hxw
 show (if _∨¬((decP (zat W x)).k=0∧_) then none else _)=_
 by_cases hcf:(decP (zat W x)).k≠0∨(decP (zat W x)).o<0∨(c:Int)<(decP (zat W x)).o*((decP (zat W x)).d+(decP (zat W x)).p)
 ·have h1:compF [W] 0 (x:Int) c ((c+1:Nat):Int)=(ob0,5):=by unfold compF;rw [one_word hxw,if_pos hcf]
  rw [h1] at hvo
  have h2:(bodyV (valV [W] r) [W] m (ob0,5)).e=5:=rfl
  rw [if_pos (.inr (fun h=>by
   rcases hcf with g|g|g
   ·exact g h.1
   ·have h2:0≤(decP (zat W x)).o:=h.2.1
    omega
   ·have h2:(decP (zat W x)).o*((decP (zat W x)).d+(decP (zat W x)).p)=c:=h.2.2
    omega)),kSay_no (.inl (by rw [hvo,h2];decide))]
 obtain⟨n',A,b,htd,t1,t2,t3,t4⟩:=str_dec y0 y1 (Classical.byContradiction fun h=>hcf (.inl h))
 have h1:compF [W] 0 (x:Int) c ((c+1:Nat):Int)=(⟨2,0,(x:Int)+1,(decP (zat W x)).d,(decP (zat W x)).p,7,(decP (zat W x)).o,if (decP (zat W x)).d+(decP (zat W x)).p=0 then ((c+1:Nat):Int)+(decP (zat W x)).o else ((c+1:Nat):Int)⟩,0):=by
  unfold compF
  rw [one_word hxw,if_neg hcf]
 rw [h1] at hvo
 clear h1
 rw [htd] at hvo hcf ⊢
 simp only at hvo hcf ⊢
 have hn0:0≤n':=by omega
 obtain⟨n,rfl⟩:=Int.eq_ofNat_of_zero_le hn0
 have hSI:(n:Int)*((A:Int)+b)=((n*(A+b):Nat):Int):=by simp
 rw [hSI] at hcf ⊢
 have hSc:n*(A+b)≤c:=by omega
 have hlx:x+1+n*(A+b)≤W.length:=by omega
 obtain⟨u1,u2⟩:=visC_comp ha h0 hd htd hst hlx r
 have hAB:((A:Int)+b=0)↔A+b=0:=by omega
 obtain⟨cost,hcost⟩:∃cost:Nat,cost=(if A+b=0 then c+1+n else c+1):=⟨_,rfl⟩
 have hcI:(if (A:Int)+b=0 then ((c+1:Nat):Int)+(n:Int) else ((c+1:Nat):Int))=(cost:Int):=by
  rw [hcost]
  by_cases h:A+b=0
  ·rw [if_pos (hAB.2 h),if_pos h];omega
  ·rw [if_neg (fun g=>h (hAB.1 g)),if_neg h]
 rw [hcI] at hvo
 have hBo:bodyV (valV [W] r) [W] m (⟨2,0,(x:Int)+1,(A:Int),(b:Int),7,(n:Int),(cost:Int)⟩,0)=if m<(cost:Int) then errV m 8 else listV (valV [W] r) [W] (m-cost) ⟨2,0,((x+1:Nat):Int),(A:Int),(b:Int),7,(n:Int),(cost:Int)⟩:=by
  unfold bodyV
  simp only
  rw [if_neg (by simp),if_neg (show ¬((2:Int)=1) by decide),if_neg (show ¬((7:Int)<6) by decide)]
  rfl
 rw [hBo] at hvo
 clear hBo
 have hel:∀(m:Int) (j:Nat),elemV (valV [W] r) [W] ⟨2,0,((x+1:Nat):Int),(A:Int),(b:Int),7,(n:Int),(cost:Int)⟩ m j=structV (valV [W] r) [W] m ⟨1,0,((x+1+j*(A+b):Nat):Int),(A:Int),(b:Int),0,0,0⟩:=fun m j=>by
  have hel:eleO ⟨2,0,((x+1:Nat):Int),(A:Int),(b:Int),7,(n:Int),(cost:Int)⟩ (j:Int)=⟨1,0,((x+1+j*(A+b):Nat):Int),(A:Int),(b:Int),0,0,0⟩:=by
   unfold eleO
   simp
  unfold elemV
  rw [if_neg (show ¬((7:Int)=6) by decide),hel]
 have hme:=listV_me (valV [W] r) [W] (m-cost) ⟨2,0,((x+1:Nat):Int),(A:Int),(b:Int),7,(n:Int),(cost:Int)⟩
 by_cases hS:((n*(A+b):Nat):Int)=c
 rotate_left
 ·rw [if_pos (.inr (fun h=>hS h.2.2)),kSay_no (.inr (by rw [u1 hS];decide))]
 obtain⟨w1,w2⟩:=u2 hS
 by_cases hm1:m<((c+1:Nat):Int)
 ·rw [if_pos (by rw [hcost];split<;>omega)] at hvo
  rw [if_pos (.inl (kTake_no.2 (fun h=>by have h3:((c+1:Nat):Int)≤m:=h.2.2;omega))),kSay_no (.inl (by rw [hvo];show (8:Int)≠0;decide))]
 have hT:¬kTake W.length (x,m) a o (c+1)=none:=fun h=>(kTake_no.1 h) ⟨hst,hin,by show ((c+1:Nat):Int)≤m;omega⟩
 rw [if_neg (by rintro(h|h);exact hT h;exact h ⟨trivial,hn0,hS⟩)]
 by_cases hz:A+b=0
 ·rw [if_pos (hAB.2 hz)]
  rw [if_pos hz] at hcost
  obtain rfl:A=0:=by omega
  obtain rfl:b=0:=by omega
  have hvis:=w2 ⟨.inl rfl,.inl rfl⟩
  have hid:=chkR_idle (f:=fun e (j:Nat)=>chkR (fun e' (i:Nat)=>visC W r e' (((x+1+j*(0+0)+0:Nat):Int)+(i:Int))) e 0) (nx:=((x+1+n*(0+0):Nat):Int)) (by omega) (fun e i=>rfl) n
  rw [hid] at hvis
  by_cases hm2:(n:Int)≤m-((c+1:Nat):Int)
  ·rw [if_pos hm2]
   rw [if_neg (by omega)] at hvo
   have hrk:=runK_idle (m:=m-cost) (f:=elemV (valV [W] r) [W] ⟨2,0,((x+1:Nat):Int),((0:Nat):Int),((0:Nat):Int),7,(n:Int),(cost:Int)⟩) (fun m j=>by
    rw [hel]
    obtain⟨g1,g2⟩:=structV_me (valV [W] r) [W] m ⟨1,0,((x+1+j*(0+0):Nat):Int),((0:Nat):Int),((0:Nat):Int),0,0,0⟩
    rw [g1,g2]
    exact⟨rfl,rfl⟩) n
   rw [hvo,hme.1,hme.2,hvis]
   show _=kSay (runK _ _ n).e (runK _ _ n).m _
   rw [hrk.1,hrk.2]
   have hc0:c=0:=by simp at hS;omega
   rw [show m-(cost:Int)=m-((c+1:Nat):Int)-(n:Int) by omega,show x+1+n*(0+0)=x+(c+1) by simp;omega]
   exact(kSay_ok rfl rfl).symm
  ·rw [if_neg hm2]
   rw [if_pos (by omega)] at hvo
   rw [kSay_no (.inl (by rw [hvo];show (8:Int)≠0;decide))]
 rw [if_neg (fun h=>hz (hAB.1 h))]
 rw [if_neg hz] at hcost
 subst hcost
 rw [if_neg hm1] at hvo
 simp only [Int.toNat_natCast]
 have hP1:(0<(A:Int)∧¬AnyP W (x+A) n (A+b))↔¬(A=0∨∃j,j<n∧zat W (x+1+j*(A+b)+A-1)≠0):=by
  have e:∀j,x+A+j*(A+b)=x+1+j*(A+b)+A-1:=fun j=>by omega
  constructor
  ·rintro⟨h1,h2⟩ (h|⟨j,hj,h⟩)
   ·omega
   ·exact h2 ⟨j,hj,by rw [e];exact h⟩
  ·intro h
   refine⟨by have:=fun g=>h (.inl g);omega,fun ⟨j,hj,g⟩=>h (.inr ⟨j,hj,by rw [←e];exact g⟩)⟩
 have hP2:(0<(b:Int)∧¬AnyP W (x+(A+b)) n (A+b))↔¬(b=0∨∃j,j<n∧zat W (x+1+j*(A+b)+A+b-1)≠0):=by
  have e:∀j,x+(A+b)+j*(A+b)=x+1+j*(A+b)+A+b-1:=fun j=>by omega
  constructor
  ·rintro⟨h1,h2⟩ (h|⟨j,hj,h⟩)
   ·omega
   ·exact h2 ⟨j,hj,by rw [e];exact h⟩
  ·intro h
   refine⟨by have:=fun g=>h (.inl g);omega,fun ⟨j,hj,g⟩=>h (.inr ⟨j,hj,by rw [←e];exact g⟩)⟩
 by_cases hany:(A=0∨∃j,j<n∧zat W (x+1+j*(A+b)+A-1)≠0)∧(b=0∨∃j,j<n∧zat W (x+1+j*(A+b)+A+b-1)≠0)
 rotate_left
 ·rw [if_pos (by
   by_cases g:(A=0∨∃j,j<n∧zat W (x+1+j*(A+b)+A-1)≠0)
   ·exact .inr (hP2.2 (fun g2=>hany ⟨g,g2⟩))
   ·exact .inl (hP1.2 g)),kSay_no (.inr (by rw [w1 hany];decide))]
 rw [if_neg (by rintro(h|h);exact hP1.1 h hany.1;exact hP2.1 h hany.2),w2 hany,hvo,hme.1,hme.2]
 have hlen:∀j,j<n→x+1+j*(A+b)+A+b≤W.length:=fun j hj=>elem_in (W:=W) (q:=x) (A:=A) (b:=b) (n:=n) hlx hj
 have hx1:x+1+n*(A+b)=x+(c+1):=by omega
 rw [hx1]
 refine kRow_link (L:=W.length) (n:=n) (f:=fun j=>kRow (fun i=>kVis W r (x+1+j*(A+b)+A+i)) b) (fun j=>kRow_bd (fun i=>kVis_bd r _) _) (fun j hj y m' hy hm'=>?_) (x+(c+1)) (m-((c+1:Nat):Int)) hin (by omega) n (Nat.le_refl _)
 rw [hel]
 obtain⟨g1,g2⟩:=structV_me (valV [W] r) [W] m' ⟨1,0,((x+1+j*(A+b):Nat):Int),(A:Int),(b:Int),0,0,0⟩
 rw [g1,g2]
 have hj2:=hlen j hj
 exact row_link IH (P:=x+1+j*(A+b)+A) (n:=b) (x:=y) (m:=m') (by omega) hy hm' (g:=fun m (i:Nat)=>valV [W] r m 0 (((x+1+j*(A+b):Nat):Int)+(A:Int)+(i:Int))) (fun m i=>by
  show valV [W] r m 0 (((x+1+j*(A+b):Nat):Int)+(A:Int)+(i:Int))=_
  congr 1) (h:=fun e' (i:Nat)=>visC W r e' (((x+1+j*(A+b)+A:Nat):Int)+(i:Int))) (fun e i=>by
  show visC W r e (((x+1+j*(A+b)+A:Nat):Int)+(i:Int))=_
  congr 1)
theorem klink {W:List Int}(hW:Wds W):∀r,KLink W r:=by
 intro r
 induction r with
 | zero=>
  intro a x m ha hx hm
  unfold kVis
  by_cases h0:zat W a=0
  ·rw [if_pos h0,val_null ha h0,visC_null ha h0]
   exact(kSay_ok rfl rfl).symm
  ·rw [if_neg h0,kSay_no]
   refine .inr ?_
   show (if wordV [W] 0 (a:Int)=0 then (x:Int) else -1)<0
   rw [one_word ha,if_neg h0]
   decide
 | succ r IH=>
  intro a x m ha hx hm
  unfold kVis
  by_cases h0:zat W a=0
  ·rw [if_pos h0,val_null ha h0,visC_null ha h0]
   exact(kSay_ok rfl rfl).symm
  rw [if_neg h0]
  obtain⟨z0,z1⟩:=zat_bd hW ha
  unfold kBody
  by_cases hk0:(decP (zat W a)).k=0
  ·obtain⟨o,A,b,hd,o1,o2,hA,hb⟩:=str_dec z0 z1 hk0
   rw [if_pos hk0,hd]
   exact link_str hW IH ha hx hm h0 hd
  rw [if_neg hk0]
  by_cases hk1:(decP (zat W a)).k=1
  ·obtain⟨o,e,n,hd,o1,o2,he0,he7,hn0,hn1⟩:=lst_dec z0 z1 hk1
   rw [if_pos hk1,hd]
   by_cases h7:e=7
   ·subst h7
    obtain⟨c,rfl⟩:=Int.eq_ofNat_of_zero_le hn0
    rw [if_pos rfl]
    exact link_cmp hW IH ha hx hm h0 hd
   ·rw [if_neg h7]
    have h8:e<7:=by omega
    exact link_lst hW IH ha hx hm h0 hd he0 h8 hn0 hn1
  rw [if_neg hk1,kSay_no]
  have hk:1<(decP (zat W a)).k:=by
   have hv:=decP_vld _ z0 z1
   unfold Vld at hv
   rcases hv with h|h|h|h
   ·exact absurd h.1 hk0
   ·exact absurd h.1 hk1
   ·rw [h.1];decide
   ·rw [h.1];decide
  exact .inr (by rw [visC_far ha h0 hk];decide)
theorem chk_one {W:List Int}(hW:Wds W)(hlen:W.length≤20000000)(h0:0<W.length)(D X:Int):chkB W D X=true↔∃s,kVis W D.toNat 0 (1,startI X)=some s∧s.1=W.length:=by
 have hs0:0≤startI X:=by unfold startI;split<;>omega
 have hk:=klink hW D.toNat 0 1 (startI X) h0 (by omega) hs0
 have hk':kVis W D.toNat 0 (1,startI X)=kSay (valV [W] D.toNat (startI X) 0 0).e (valV [W] D.toNat (startI X) 0 0).m (visC W D.toNat 1 0):=hk
 rw [hk']
 have h3:chkB W D X=true↔ChkP W D X:=chkB_iff.trans (chk_exact hW hlen D X).symm
 rw [h3]
 unfold ChkP
 have hm1:=msg_one h0 D X
 have he:(msgV [W] D X).2=0↔(valV [W] D.toNat (startI X) 0 0).e=0:=by
  by_cases hz:(valV [W] D.toNat (startI X) 0 0).e≠0
  ·rw [if_pos hz] at hm1
   rw [hm1]
  ·rw [if_neg hz] at hm1
   rw [hm1]
   exact⟨fun _=>Classical.byContradiction hz,fun _=>rfl⟩
 rw [he]
 generalize valV [W] D.toNat (startI X) 0 0=V
 generalize visC W D.toNat 1 0=z
 constructor
 ·rintro⟨-,h1,h2⟩
  exact⟨(W.length,V.m),kSay_ok h1 h2,rfl⟩
 ·rintro⟨s,hs,h2⟩
  unfold kSay at hs
  by_cases c:V.e=0∧0≤z
  ·rw [if_pos c] at hs
   have e:(z.toNat,V.m)=s:=by injection hs
   subst e
   have h4:z.toNat=W.length:=h2
   exact⟨h0,c.1,by omega⟩
  ·rw [if_neg c] at hs;cases hs
section
attribute [local simp] AllK KnowsV look Is
theorem assertKm (w:World):(Instr.typeAssert (.iface 47 (.agg #[])) 20 47 true).run Tryd.prog w=.ok (.tuple #[.agg #[],.bool true]) w:=by kernel_rfl
theorem assertKi (w:World):(Instr.typeAssert .nilIface 20 47 true).run Tryd.prog w=.ok (.tuple #[.agg #[],.bool false]) w:=by kernel_rfl
set_option maxHeartbeats 4000000 in
theorem caughtK_idle (w:World):
  CallsD Tryd.prog 18 #[] .returning w fun e u' w'=>e=.returned (.tuple #[])∧u'=.returning∧w'=w.alloc (.cells #[] 47):=by
 have hta:=assertKi
 refine callsD_of_wpS Tryd.func18 rfl fun c₀ cs hu=>?_
 apply wpS_seq
 apply wpS_region
 simp [wpOpsS,go_sem,recoverD,hu,Tryd.ntmps18,Exit.thenS]
 change Code.wpS Tryd.prog _ _ { tmps:=#[.nilIface,undef,undef,.nilIface,undef,undef,undef,undef,undef,undef,undef,undef,undef,undef,undef,undef],defers:=[] } _ _
 apply wpS_of_wp
 go_wp2
 cases c₀
 simp_all [bodyPostS,results,Tryd.results18]
set_option maxHeartbeats 4000000 in
theorem caughtK_mal (older:List PanicEntry)(w:World):
  CallsD Tryd.prog 18 #[] (.panicking ({ v:=.iface 47 (.agg #[]),recovered:=false }::older)) w fun e u' w'=>
   e=.returned (.tuple #[])∧u'=.panicking ({ v:=.iface 47 (.agg #[]),recovered:=true }::older)∧w'=w.alloc (.cells #[] 47):=by
 have hta:=assertKm
 refine callsD_of_wpS Tryd.func18 rfl fun c₀ cs hu=>?_
 apply wpS_seq
 apply wpS_region
 simp [wpOpsS,go_sem,recoverD,hu,Tryd.ntmps18,Exit.thenS]
 change Code.wpS Tryd.prog _ _ { tmps:=#[.iface 47 (.agg #[]),undef,undef,.iface 47 (.agg #[]),undef,undef,undef,undef,undef,undef,undef,undef,undef,undef,undef,undef],defers:=[] } _ _
 apply wpS_of_wp
 go_wp2
 cases c₀
 simp [bodyPostS,results,Tryd.results18]
theorem bel_keepsK {b n:Nat}{w w':World}(h:Keeps (KB b) w w')(hn:n≤b)(hb:n≤w.heap.size):Below n w w':=h.below hb (fun k hk=>by unfold KB at hk;omega)
set_option maxHeartbeats 1000000 in
theorem visit_empty (b:Nat)(A:Option Addr)(W:List Int)(D X O m:Int)(x:Nat)(dep:Int)(w0 w:World)(E:EnvD b A [W] w0)(hb:Below b w0 w)(hk:Blk w b (kcB A D X O m x))(h:W.length=0):
  Calls Tryd.prog 20 #[.pointer (some ⟨b,0,none⟩),.int .i64 0,.int .i64 dep] w fun e w'=>Keeps (KB b) w w'∧e=failK:=by
 have HWD:=Lib.hid (wordK b A W D X O m x 0 0 w0 w E hb hk rfl (by omega))
 have HL:=Lib.hid h
 clear E hb hk h
 go_enter Tryd.func20,Tryd.ntmps20
 go_wp2_with fail
 refine HWD.out.mono ?_
 rintro e w' ⟨⟨hn,rfl⟩|⟨hn,rfl⟩,rfl⟩
 ·exact absurd hn (by have:=HL.out;omega)
 unfold failK
 go_wp2
 exact⟨rfl,Keeps.refl _ _,rfl⟩
def SgF (W:List Int):Fact:=fun v w=>∃A,v=.slice A 1 1∧Sg w A [W]
theorem stable_sgf (W:List Int):stable (SgF W):=fun v w w' ⟨A,h1,h2⟩ hb=>⟨A,h1,h2.below hb (Nat.le_refl _)⟩
def TvF (W:List Int)(D X O m:Int):Fact:=fun v w=>∃A,v=.agg #[.slice A 1 1,.int .i64 D,.int .i64 X,.int .i64 O,.int .i64 m,.int .i64 1]∧Sg w A [W]
theorem stable_tvf (W:List Int)(D X O m:Int):stable (TvF W D X O m):=fun v w w' ⟨A,h1,h2⟩ hb=>⟨A,h1,h2.below hb (Nat.le_refl _)⟩
def TpF (w1:World)(W:List Int)(D X O m:Int):Fact:=fun v w=>∃A b w0,v=.pointer (some ⟨b,0,none⟩)∧Sg w0 A [W]∧w0.heap.size=b∧Below w1.heap.size w1 w0∧Below b w0 w∧Blk w b (kcB A D X O m 1)
theorem stable_tpf (w1:World)(W:List Int)(D X O m:Int):stable (TpF w1 W D X O m):=fun v w w' ⟨A,b,w0,h1,h2,h3,h4,h5,h6⟩ hb=>⟨A,b,w0,h1,h2,h3,h4,h5.trans (hb.mono (Nat.le_of_lt h6.lt)),h6.below hb⟩
set_option maxHeartbeats 4000000 in
theorem KWordsK (A:Option Addr)(c:Nat)(W:List Int)(D X O:Int)(w:World)(hT:TabOK w)(hr:Ri w .u64 A W)(hW:Wds W)(hlen:W.length≤20000000)(hnil:A=none→c=0)(hle:W.length≤c)(hc:c≤maxLen)(hD:D≤900)(hX:X≤100000):
  Calls Tryd.prog 10 #[.slice A W.length c,.agg #[.int .i64 D,.int .i64 X,.int .i64 O]] w fun r w'=>r=.returned (.bool (chkB W D X))∧Below w.heap.size w w':=by
 have hmf:∀(fn:Fn) (first cap:Array Value) (w:World),(Instr.makeFunc fn first cap).run Tryd.prog w=.ok (.func fn first cap) w:=fun _ _ _ _=>rfl
 have m1:D≤1000:=by omega
 have HBL:=Lib.hid ((Below.refl w.heap.size w).alloc (Nat.le_refl _) (.cells #[.int .i64 D,.int .i64 X,.int .i64 O] 24))
 have HL0:Hid (Blk (w.alloc (.cells #[.int .i64 D,.int .i64 X,.int .i64 O] 24)) w.heap.size #[.int .i64 D,.int .i64 X,.int .i64 O]):=Lib.hid (Blk.fresh _ _ _)
 have HR:=Lib.hid hr
 have HTT:=Lib.hid hT
 have hnn:W.length≤20000000:=hlen
 have HH:=Lib.hid (fun (w2:World) (h:Below w.heap.size w w2)=>show Holds w2 (.slice A W.length c) W from ⟨A,c,rfl,hr.below h (Nat.le_refl _),hnil,hle,hc⟩)
 have HWW:=Lib.hid hW
 clear hT hr hW
 go_enter_defers Tryd.func10,Tryd.ntmps10
 go_wp2_with fail
 refine abs_codeK (F:=fun W1=>Blk W1 w.heap.size #[.int .i64 D,.int .i64 X,.int .i64 O]∧Below w.heap.size w W1) ⟨HL0.out,HBL.out⟩ ?_
 rintro W1 ⟨h1,h2⟩
 have HL1:=Lib.hid h1
 have HB1:=Lib.hid h2
 clear h1 h2 HBL HL0
 rename_i KK hKK
 refine wp_region_chain (by kernel_rfl) (by kernel_rfl) ?_
 refine chain_val (u:=?_) [0] rfl (by kernel_rfl) trivial (fun ρ wc hbc hcn hq=>?_) ?_;rotate_left
 ·obtain⟨hcn,hfn⟩:=hcn
  simp at hq
  go_simp
  rfl
 refine chain_new (T:=SgF W) [10] rfl (by kernel_rfl) trivial (stable_sgf _) (fun ρ wc hbc hcn hq=>?_) ?_
 ·obtain⟨hcn,hfn⟩:=hcn
  simp at hq
  exact⟨_,_,by go_simp;rfl,⟨_,rfl,sg_lit1 wc _ W _ _ rfl (HH.out wc (bel_on HB1.out (bel_undrew hbc)))⟩,(Below.refl _ _).alloc (Nat.le_refl _) _⟩
 refine chain_val (u:=?_) [3] rfl (by kernel_rfl) trivial (fun ρ wc hbc hcn hq=>?_) ?_;rotate_left
 ·obtain⟨hcn,hfn⟩:=hcn
  simp at hq
  have x2:=(HL1.out.drew.below hbc).cell
  go_simp
  rfl
 refine chain_val (u:=?_) [3] rfl (by kernel_rfl) trivial (fun ρ wc hbc hcn hq=>?_) ?_;rotate_left
 ·obtain⟨hcn,hfn⟩:=hcn
  simp at hq
  have x2:=(HL1.out.drew.below hbc).cell
  go_simp
  rfl
 refine chain_call (T:=Is (.agg #[.int .i64 (startI X)])) 19 [13] rfl (by kernel_rfl) trivial (stable_is _) (fun ρ wc hbc hcn hq=>?_) ?_
 ·obtain⟨hcn,hfn⟩:=hcn
  simp at hq
  refine⟨_,by go_simp;rfl,?_⟩
  refine(BStart_any _ _ _ _).mono ?_
  rintro e w' ⟨rfl,hbq⟩
  exact⟨_,rfl,rfl,hbq⟩
 refine chain_new (T:=TvF W D X O (startI X)) [11,12,14] rfl (by kernel_rfl) trivial (stable_tvf _ _ _ _ _) (fun ρ wc hbc hcn hq=>?_) ?_
 ·obtain⟨hcn,hfn⟩:=hcn
  simp at hq
  obtain⟨⟨A',h11,hsg⟩,h12,h14⟩:=hq
  exact⟨_,wc,by go_simp,⟨A',rfl,hsg⟩,Below.refl _ _⟩
 refine chain_new (T:=TpF W1 W D X O (startI X)) [15] rfl (by kernel_rfl) trivial (stable_tpf _ _ _ _ _ _) (fun ρ wc hbc hcn hq=>?_) ?_
 ·obtain⟨hcn,hfn⟩:=hcn
  simp at hq
  obtain⟨A',h15,hsg⟩:=hq
  exact⟨_,_,by go_simp;rfl,⟨A',wc.heap.size,wc,rfl,hsg,rfl,bel_undrew hbc,(Below.refl _ _).alloc (Nat.le_refl _) _,Blk.fresh _ _ _⟩,(Below.refl _ _).alloc (Nat.le_refl _) _⟩
 refine chain_new (T:=TpF W1 W D X O (startI X)) [16] rfl (by kernel_rfl) trivial (stable_tpf _ _ _ _ _ _) (fun ρ wc hbc hcn hq=>?_) ?_
 ·obtain⟨hcn,hfn⟩:=hcn
  simp at hq
  exact⟨_,wc,by go_simp,hq,Below.refl _ _⟩
 refine chain_end_lit 26 rfl (fun ff w5 hb5 hk=>?_)
 have h5:TpF W1 W D X O (startI X) (ff 5) w5:=allN_atF hk 5 (by decide) (by decide)
 simp [AllN] at hk
 simp only [frameL,hk]
 clear hk
 obtain⟨A',b,w0,e5,hsg,hwb,hb0,hbb,hblk⟩:=h5
 rw [e5]
 have E:EnvD b A' [W] w0:=⟨hsg,HTT.out.on (bel_on HB1.out hb0),by omega,wd2_one HWW.out,by simp,seg_one hlen⟩
 have HE:=Lib.hid E
 have HBB:=Lib.hid hbb
 have HBK:=Lib.hid hblk
 have HB5:=Lib.hid (bel_on HB1.out (bel_undrew hb5))
 have HZ:Hid (w.heap.size≤b):=Lib.hid (by have:=(bel_on HB1.out hb0).size;omega)
 have hs0:0≤startI X∧startI X≤4611686018427387904:=by unfold startI;split<;>omega
 have HV:Hid (W.length≠0→Calls Tryd.prog 20 #[.pointer (some ⟨b,0,none⟩),.int .i64 0,.int .i64 1] w5 (KOut b A' D X O w5 (kVis W D.toNat 0 (1,startI X)))):=Lib.hid (fun h=>visitK b A' W D X O w0 E HWW.out hD D.toNat 0 (1,startI X) 0 1 w5 rfl hbb hblk hs0.1 hs0.2 (by show 1≤W.length;omega) (by omega) (by decide) (by decide) (by congr 1;omega))
 have HCH:=Lib.hid (fun h0=>chk_one HWW.out hlen h0 D X)
 clear E hbb hblk hsg hwb hb0 e5 hb5 HL1 HB1 hs0
 generalize startI X=sx at *
 refine hKK _ _ ?_
 clear hKK KK
 by_cases h0:W.length=0
 ·have HC:Hid (chkB W D X=false):=Lib.hid (by unfold chkB;simp [h0])
  have HVN:=Lib.hid (visit_empty b A' W D X O sx 1 1 w0 w5 HE.out HBB.out HBK.out h0)
  clear h0 hlen hnn HV HCH
  go_wp2_with fail
  refine HVN.out.mono ?_
  rintro e w6 ⟨hk6,rfl⟩
  have HK6:=Lib.hid (HB5.out.trans (bel_keepsK hk6 HZ.out (by have:=HB5.out.size;exact this)))
  clear hk6
  unfold failK
  go_wp2
  refine leaves_cons (f:=18) (args:=#[]) (by simp) (by simp [go_sem]) ?_
  refine(caughtK_mal [] _).mono ?_
  rintro e u' w'' ⟨rfl,rfl,rfl⟩
  simp [Leaves,settle,results,Tryd.results10,go_sem]
  exact⟨HC.out,HK6.out.alloc HK6.out.size _⟩
 have HC:=Lib.hid (HCH.out (by omega))
 have HVI:=Lib.hid (HV.out h0)
 have HLE:=Lib.hid hlen
 clear h0 hlen hnn HV HCH
 go_wp2_with fail
 refine HVI.out.mono ?_
 rintro e w6 ⟨hk6,⟨t,ht,rfl,hb6⟩|⟨ht,rfl⟩⟩
 ·have HK6:=Lib.hid (HB5.out.trans (bel_keepsK hk6 HZ.out (by have:=HB5.out.size;exact this)))
  obtain⟨tx,tm⟩:=t
  have HR:Hid (chkB W D X=((tx:Int)==(W.length:Int))):=Lib.hid (by
   rw [Bool.eq_iff_iff,HC.out,ht]
   constructor
   ·rintro⟨s,h1,h2⟩
    have h3:(tx,tm)=s:=by injection h1
    subst h3
    have h4:tx=W.length:=h2
    simp [h4]
   ·intro h
    refine⟨_,rfl,?_⟩
    have h3:(tx:Int)=(W.length:Int):=by simpa using h
    show tx=W.length
    omega)
  obtain⟨x6,y6,z6⟩:=hb6
  clear hk6 ht HC HVI
  go_wp2
  refine leaves_cons (f:=18) (args:=#[]) (by simp) (by simp [go_sem]) ?_
  refine(caughtK_idle _).mono ?_
  rintro e u' w'' ⟨rfl,rfl,rfl⟩
  simp [Leaves,settle,results,Tryd.results10,go_sem]
  exact⟨HR.out.symm,HK6.out.alloc HK6.out.size _⟩
 ·have HK6:=Lib.hid (HB5.out.trans (bel_keepsK hk6 HZ.out (by have:=HB5.out.size;exact this)))
  have HR:Hid (chkB W D X=false):=Lib.hid (by
   rw [Bool.eq_false_iff]
   intro h
   obtain⟨s,h1,-⟩:=HC.out.1 h
   rw [ht] at h1
   cases h1)
  clear hk6 ht HC HVI
  unfold failK
  go_wp2
  refine leaves_cons (f:=18) (args:=#[]) (by simp) (by simp [go_sem]) ?_
  refine(caughtK_mal [] _).mono ?_
  rintro e u' w'' ⟨rfl,rfl,rfl⟩
  simp [Leaves,settle,results,Tryd.results10,go_sem]
  exact⟨HR.out,HK6.out.alloc HK6.out.size _⟩
end
end Go.Proofs.YtclpapddejgpnaaDoor
