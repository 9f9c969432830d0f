/- The texts Ref12n, Ref16d (what is wanted of them), one after the other. -/
import Derived.Test.YtclpapddejgpnaaDoorMg38
namespace Go.Proofs.YtclpapddejgpnaaDoor
open Go.ChangeShapes Go.WideShapes Go.ChangeAt Go.RowKit
set_option linter.unusedVariables false
set_option linter.unusedSimpArgs false
set_option maxRecDepth 100000
def measV (ls:List (List Int))(D X:Int):Int×Int:=if 0<ls.length∧(seg ls 0).length=0 then (0,0) else if (valV ls D.toNat (startI X) 0 0).e≠0 then (0,(valV ls D.toNat (startI X) 0 0).e) else (startI X-(valV ls D.toNat (startI X) 0 0).m,0)
section
section
variable {A:Option Addr} {c:Nat} {W:List Int}
def orB (v0:Bool)(g:Nat→Bool):Nat→Bool
 | 0=>v0
 | q+1=>orB v0 g q||g q
theorem orB_iff {v0:Bool}{g:Nat→Bool}:∀n,orB v0 g n=true↔v0=true∨∃j,j<n∧g j=true
 | 0=>by simp [orB]
 | n+1=>by
  show (orB v0 g n||g n)=true↔_
  rw [Bool.or_eq_true,orB_iff n]
  constructor
  ·rintro((h|⟨j,hj,h⟩)|h)
   ·exact .inl h
   ·exact .inr ⟨j,by omega,h⟩
   ·exact .inr ⟨n,by omega,h⟩
  ·rintro(h|⟨j,hj,h⟩)
   ·exact .inl (.inl h)
   ·by_cases e:j=n
    ·subst e;exact .inr h
    ·exact .inl (.inr ⟨j,by omega,h⟩)
theorem RefObject16_is {A:Option Addr}{c:Nat}{ls:List (List Int)}{s a:Int}{o:Ob}{e:Int}(w:World)(hq:objF ls s a=(o,e))(hs:Sg w A ls)(hw:Wd2 ls)(hm:ls.length≤140737488355328)(hf:∀j,(seg ls j).length≤140737488355328):
  Calls Tryd.prog 42 #[.slice A ls.length c,.int .i64 s,.int .i64 a] w fun r w'=>r=.returned (.tuple #[.agg #[.int .i64 o.k,.int .i64 o.sg,.int .i64 o.at',.int .i64 o.d,.int .i64 o.p,.int .i64 o.el,.int .i64 o.n,.int .i64 o.cost],.int .i64 e])∧Below w.heap.size w w':=by
 have h:=RefObject_any A c ls s a w hs hw hm hf
 rw [hq] at h
 exact h
set_option maxHeartbeats 8000000 in
theorem Visit_comp (hW:Wds W)(hlen:W.length≤20000000)(r a nx n Aw b:Nat)(IH:VisOK A c W r)(w:World)(hle:W.length≤c)(hcm:c≤maxLen)(hnil:A=none→c=0)(ha:a<W.length)(h:zat W a≠0){o cn cost:Int}(hd:decP (zat W a)=⟨1,o,0,0,7,cn,false,0,0,0⟩)(hst:(a:Int)+1+o=nx)(hcn0:0≤cn)(hcn1:cn≤536870911)(hin:(nx:Int)+1+cn≤W.length)
  (htd:decP (zat W nx)=⟨0,(n:Int),(Aw:Int),(b:Int),0,0,false,0,0,0⟩) (hob:objF [W] 0 (a:Int)=(⟨2,0,(nx:Int)+1,(Aw:Int),(b:Int),7,(n:Int),cost⟩,0)) (hA:Aw≤65535) (hb:b≤65535) (hS:((n*(Aw+b):Nat):Int)≤cn) (hn:n≤536870911) (ho:-536870912≤o∧o≤536870911)
  (hrd:∀j,j<n→∀i,i<b→RdP W r (nx+1+j*(Aw+b)+Aw+i)) (hr:Ri w .u64 A W) :
  Calls Tryd.prog 21 #[.slice A W.length c,.int .i64 nx,.int .i64 a] w fun e w'=>e=.returned (.int .i64 (visC W (r+1) (nx:Int) (a:Int)))∧Below w.heap.size w w':=by
 have hl:nx+1+n*(Aw+b)≤W.length:=by omega
 obtain⟨hV1,hV2⟩:=visC_comp ha h hd htd hst hl r
 have HR:=Lib.hid hr
 have HHO:Hid (∀w2,Ri w2 .u64 A W→Holds w2 (.slice A W.length c) W):=Lib.hid (fun w2 h2=>⟨A,c,rfl,h2,hnil,hle,hcm⟩)
 have HOB:=Lib.hid (fun A' c' w2 (h2:Sg w2 A' [W])=>RefObject16_is (c:=c') w2 hob h2 (wd2_one hW) (by simp) (fun j=>Nat.le_trans (seg_one hlen j) (by decide)))
 obtain⟨g,off,rfl,hcd⟩:=hr.at (i:=a) ha
 have hcell:=hcd a ha
 have hg:g<w.heap.size:=World.block_lt_of_cell? w ⟨g,off+a,none⟩ hcell
 have HC:Hid (∀(W':World),Below w.heap.size w W'→∀k,k<W.length→W'.cell? ⟨g,off+k,none⟩=some (.int .u64 (zat W k))):=Lib.hid (fun W' hb k hk=>(hb.cell (p:=⟨g,off+k,none⟩) hg).trans (hcd k hk))
 have t0:(zat W a==0)=false:=by simpa using h
 obtain⟨z0,z1⟩:=zat_bd hW ha
 have HD:=Lib.hid (fun w2=>RefDecode_is (zat W a) hd w2 z0 z1)
 have HWD:=Lib.hid (fun w2=>RefWords6_any 7 cn w2 hcn0 hcn1)
 have hwI:wordsI 7 cn=cn+1:=by unfold wordsI;rw [if_pos rfl]
 rw [hwI] at HWD
 obtain⟨dI,hdI⟩:∃dI:Int,dI=(Aw:Int):=⟨_,rfl⟩
 obtain⟨pI,hpI⟩:∃pI:Int,pI=(b:Int):=⟨_,rfl⟩
 obtain⟨nI,hnI⟩:∃nI:Int,nI=(n:Int):=⟨_,rfl⟩
 obtain⟨S,hSS⟩:∃S,n*(Aw+b)=S:=⟨_,rfl⟩
 have hSI:nI*(dI+pI)=(S:Int):=by rw [←hSS,hdI,hpI,hnI];simp
 rw [hSS] at hV1 hV2 hS hl
 simp only at HD HOB
 rw [←hdI,←hpI,←hnI] at HOB
 have hdb:0≤dI∧dI≤65535∧0≤pI∧pI≤65535∧0≤nI∧nI≤536870911:=by omega
 have hab:(a:Int)≤20000000:=by omega
 have hxb:(nx:Int)≤20000000:=by omega
 obtain⟨gD,hgD⟩:∃gD:Nat→Bool,gD=fun j=>decide (0<Aw)&&(zat W (nx+1+j*(Aw+b)+Aw-1) != 0):=⟨_,rfl⟩
 obtain⟨gP,hgP⟩:∃gP:Nat→Bool,gP=fun j=>decide (0<b)&&(zat W (nx+1+j*(Aw+b)+Aw+b-1) != 0):=⟨_,rfl⟩
 have HEL:Hid (∀q,q<n→∃E k1 k2:Nat,(∀w2,Calls Tryd.prog 43 #[.agg #[.int .i64 2,.int .i64 0,.int .i64 ((nx:Int)+1),.int .i64 dI,.int .i64 pI,.int .i64 7,.int .i64 nI,.int .i64 cost],.int .i64 q] w2 fun e w'=>e=.returned (.agg #[.int .i64 1,.int .i64 0,.int .i64 E,.int .i64 dI,.int .i64 pI,.int .i64 0,.int .i64 0,.int .i64 0])∧Below w2.heap.size w2 w') ∧
   (0<Aw→k1<W.length∧(E:Int)+dI-1=k1∧gD q=(zat W k1 != 0))∧(¬0<Aw→gD q=false)∧(0<b→k2<W.length∧(E:Int)+dI+pI-1=k2∧gP q=(zat W k2 != 0))∧(¬0<b→gP q=false)∧E≤20000000 ∧
   ((E:Int)+dI=((nx+1+q*(Aw+b)+Aw:Nat):Int))):=Lib.hid (fun q hq=>by
  have hin2:=elem_in (W:=W) (q:=nx) (A:=Aw) (b:=b) (n:=n) (by rw [hSS];exact hl) hq
  have hmul:(q:Int)*(dI+pI)=((q*(Aw+b):Nat):Int):=by rw [hdI,hpI];simp
  refine⟨nx+1+q*(Aw+b),nx+1+q*(Aw+b)+Aw-1,nx+1+q*(Aw+b)+Aw+b-1,fun w2=>?_,fun h=>⟨by omega,by omega,?_⟩,fun h=>?_,fun h=>⟨by omega,by omega,?_⟩,fun h=>?_,by omega,by omega⟩
  ·have h:=RefElement_any ⟨2,0,(nx:Int)+1,dI,pI,7,nI,cost⟩ (q:Int) w2 (by simp only;omega) (by simp only;omega) (by simp only;omega) (by simp only;omega) (by simp only;omega) (by simp only;omega)
   simp only [eleO] at h
   rw [hmul,show (nx:Int)+1+((q*(Aw+b):Nat):Int)=((nx+1+q*(Aw+b):Nat):Int) by omega] at h
   exact h
  ·rw [hgD];simp [h]
  ·rw [hgD];simp [h]
  ·rw [hgP];simp [h]
  ·rw [hgP];simp [h])
 have HFD:Hid (orB (dI==0) gD n=true↔(Aw=0∨∃j,j<n∧zat W (nx+1+j*(Aw+b)+Aw-1)≠0)):=Lib.hid (by
  rw [orB_iff,hgD]
  by_cases h0:Aw=0
  ·have:dI=0:=by omega
   simp [h0,this]
  ·have h1:¬dI=0:=by omega
   have h2:0<Aw:=by omega
   simp [h0,h1,h2])
 have HFP:Hid (orB (pI==0) gP n=true↔(b=0∨∃j,j<n∧zat W (nx+1+j*(Aw+b)+Aw+b-1)≠0)):=Lib.hid (by
  rw [orB_iff,hgP]
  by_cases h0:b=0
  ·have:pI=0:=by omega
   simp [h0,this]
  ·have h1:¬pI=0:=by omega
   have h2:0<b:=by omega
   simp [h0,h1,h2])
 have HOZ:Hid (∀q,Aw+b=0→orB (dI==0) gD q=true∧orB (pI==0) gP q=true):=Lib.hid (fun q h=>by
  have h1:dI=0:=by omega
  have h2:pI=0:=by omega
  exact⟨orB_iff q|>.2 (.inl (by simp [h1])),orB_iff q|>.2 (.inl (by simp [h2]))⟩)
 obtain⟨F,hF⟩:∃F:Int→Nat→Int,F=fun e (j:Nat)=>chkR (fun e' (i:Nat)=>visC W r e' (((nx+1+j*(Aw+b)+Aw:Nat):Int)+(i:Int))) e b:=⟨_,rfl⟩
 rw [←hF] at hV2
 have hFO:∀j,j<n→∀k:Nat,k≤W.length→OkE W (F k j):=fun j hj k hk=>by
  have hin2:=elem_in (W:=W) (q:=nx) (A:=Aw) (b:=b) (n:=n) (by rw [hSS];exact hl) hj
  subst hF
  exact chkE_ok hk (fun i hi k' hk'=>visC_ok hW hlen (a:=nx+1+j*(Aw+b)+Aw+i) (by omega) hk' (hrd j hj i hi)) b (Nat.le_refl _)
 have HFO:=Lib.hid hFO
 have HVS:Hid (∀q (k E:Nat) (w2:World),q<n→k≤W.length→(E:Int)+dI=((nx+1+q*(Aw+b)+Aw:Nat):Int)→Ri w2 .u64 (some ⟨g,off,none⟩) W →
   Calls Tryd.prog 39 #[.slice (some ⟨g,off,none⟩) W.length c,.int .i64 k,.int .i64 ((E:Int)+dI),.int .i64 pI] w2 fun e w'=>e=.returned (.int .i64 (F k q))∧Below w2.heap.size w2 w'):=Lib.hid (fun q k E w2 hq hk hE h2=>by
  have hin2:=elem_in (W:=W) (q:=nx) (A:=Aw) (b:=b) (n:=n) (by rw [hSS];exact hl) hq
  subst hF
  rw [hE,hpI]
  exact Visits_any hW hlen IH _ b k w2 (by omega) hk (hrd q hq) h2)
 have HNX:=Lib.hid (fun q (k:Nat) (h:chkR F ((nx+1+S:Nat):Int) q=k)=>(by
  have h1:=chkR_next (f:=F) (nx:=((nx+1+S:Nat):Int)) (i:=q) (by omega)
  rw [h] at h1
  exact h1:chkR F ((nx+1+S:Nat):Int) (q+1)=if F k q<0 then -1 else F k q))
 have HNG:=Lib.hid (fun q (h:chkR F ((nx+1+S:Nat):Int) q=-1) (h2:q≤n)=>chkR_neg h n h2)
 have HIA:Hid (b=0→∀j,chkR F ((nx+1+S:Nat):Int) j=((nx+1+S:Nat):Int)):=Lib.hid (fun h j=>chkR_idle (by omega) (fun e i=>by subst hF h;rfl) j)
 have HID:Hid (b=0→chkR F ((nx+1+S:Nat):Int) n=((nx+1+S:Nat):Int)):=Lib.hid (fun h=>chkR_idle (by omega) (fun e i=>by subst hF h;rfl) n)
 have HV1:=Lib.hid hV1
 have HV2:=Lib.hid hV2
 revert hcell t0 z0 z1 HD
 generalize hxx:zat W a=x
 intro hcell t0 z0 z1 HD
 clear hxx hcd h hd hr hwI hV1 hV2 htd hob hg hgD hgP hF hFO hrd IH
 have HST:=Lib.hid hst
 have HDI:=Lib.hid hdI
 have HPI:=Lib.hid hpI
 have HNI:=Lib.hid hnI
 have HSS:=Lib.hid hSS
 have HL:=Lib.hid hl
 clear hdI hpI hnI hSS hl
 go_enter Tryd.func21,Tryd.ntmps21
 go_wp2_with fail
 refine(HD.out _).mono ?_
 rintro e2 w1 ⟨rfl,hb1⟩
 have HB1:=Lib.hid (hb1.alloc hb1.size (.cells #[.int .i64 1,.int .i64 o,.int .i64 0,.int .i64 0,.int .i64 7,.int .i64 cn,.bool false,.int .i64 0,.int .u32 0,.int .u32 0] 65))
 have HP1:=Lib.hid (Blk.fresh w1 #[.int .i64 1,.int .i64 o,.int .i64 0,.int .i64 0,.int .i64 7,.int .i64 cn,.bool false,.int .i64 0,.int .u32 0,.int .u32 0] 65)
 clear hb1
 go_wp2_with fail
 refine(HWD.out _).mono ?_
 rintro e2 w2 ⟨rfl,rfl⟩
 go_wp2_with fail
 refine abs_world (F:=fun W2=>Blk W2 w1.heap.size #[.int .i64 1,.int .i64 o,.int .i64 0,.int .i64 0,.int .i64 7,.int .i64 cn,.bool false,.int .i64 0,.int .u32 0,.int .u32 0]∧Below w.heap.size w W2∧Sg W2 (some ⟨w1.heap.size+1,0,none⟩) [W]) ⟨?_,?_,?_⟩ ?_
 ·exact HP1.out.alloc _
 ·exact HB1.out.alloc HB1.out.size _
 ·exact sg_lit1 _ _ _ _ _ (by simp) (HHO.out _ (HR.out.below HB1.out (Nat.le_refl _)))
 rintro W2 ⟨bp,hb2,hsg⟩
 refine(HOB.out _ _ W2 hsg).mono ?_
 rintro e2 w3 ⟨rfl,hb3⟩
 have HP3:=Lib.hid (bp.below hb3)
 have HB3:=Lib.hid (bel_on hb2 hb3)
 clear bp hb2 hsg hb3 HP1 HB1 HOB HHO hcell
 obtain⟨x3,y3,z3⟩:=HP3.out
 by_cases hSc:(S:Int)=cn
 rotate_left
 ·have t34:((S:Int) != cn)=true:=by simpa using hSc
  have HV:=Lib.hid (HV1.out hSc)
  clear hSc
  go_wp2
  go_ret
  exact⟨by rw [HV.out];rfl,HB3.out.alloc HB3.out.size _⟩
 have t34:((S:Int) != cn)=false:=by simpa using hSc
 obtain⟨hV3,hV4⟩:=HV2.out hSc
 have HV3:=Lib.hid hV3
 have HV4:=Lib.hid hV4
 have HSC:=Lib.hid hSc
 clear hV3 hV4 hSc HV1 HV2
 have HO3:=Lib.hid (Blk.fresh w3 #[.int .i64 2,.int .i64 0,.int .i64 ((nx:Int)+1),.int .i64 dI,.int .i64 pI,.int .i64 7,.int .i64 nI,.int .i64 cost] 76)
 have HB3':=Lib.hid (HB3.out.alloc HB3.out.size (.cells #[.int .i64 2,.int .i64 0,.int .i64 ((nx:Int)+1),.int .i64 dI,.int .i64 pI,.int .i64 7,.int .i64 nI,.int .i64 cost] 76))
 have hnr:∀q:Nat,q<n→decide ((q:Int)<nI)=true:=fun q hq=>decide_eq_true (by have:=HNI.out;omega)
 have HNR:=Lib.hid hnr
 have HNE:Hid (decide ((n:Int)<nI)=false):=Lib.hid (decide_eq_false (by have:=HNI.out;omega))
 have HN0:Hid (0<n→decide (0<nI)=true):=Lib.hid (fun h=>decide_eq_true (by have:=HNI.out;omega))
 clear hnr
 by_cases hAb:Aw+b=0
 ·have hd0:dI=0:=by have:=HDI.out;omega
  have hp0:pI=0:=by have:=HPI.out;omega
  have hbz:b=0:=by omega
  have haz:Aw=0:=by omega
  have HV:=Lib.hid ((HV4.out ⟨.inl haz,.inl hbz⟩).trans (HID.out hbz))
  have HE:Hid (((nx+1+S:Nat):Int)=(nx:Int)+(cn+1)):=Lib.hid (by have:=HSC.out;omega)
  subst hd0 hp0
  have hoz:=fun q=>HOZ.out q hAb
  clear hAb hbz haz
  go_wp2
  go_loopw [17,18,19] (fun d p i wr=>i=.int .i64 0∧d=.bool true∧p=.bool true∧Below w.heap.size w wr∧Blk wr w3.heap.size #[.int .i64 2,.int .i64 0,.int .i64 ((nx:Int)+1),.int .i64 0,.int .i64 0,.int .i64 7,.int .i64 nI,.int .i64 cost]) (fun _ _ i _=>1-(intOf i).toNat)
  case atStart=>exact⟨rfl,rfl,rfl,HB3'.out,HO3.out⟩
  case round=>
   obtain⟨rfl,rfl,rfl,hbr,hor⟩:=hrel
   have HBR:=Lib.hid hbr
   have HOR:=Lib.hid hor
   clear hbr hor x3 y3 z3
   obtain⟨xo,yo,zo⟩:=HOR.out
   by_cases hn0:0<n
   ·have u1:=HN0.out hn0
    go_wp2
    go_loopw [11,21] (fun e i wr=>i=.int .i64 0∧e=.int .i64 ((nx:Int)+(cn+1))∧Below w.heap.size w wr∧Blk wr w3.heap.size #[.int .i64 2,.int .i64 0,.int .i64 ((nx:Int)+1),.int .i64 0,.int .i64 0,.int .i64 7,.int .i64 nI,.int .i64 cost]) (fun _ i _=>1-(intOf i).toNat)
    case atStart=>exact⟨rfl,rfl,HBR.out,HOR.out⟩
    case round=>
     clear HBR HOR xo yo zo
     obtain⟨rfl,rfl,hbr,hor⟩:=hrel
     have HBR:=Lib.hid hbr
     obtain⟨xo,yo,zo⟩:=hor
     clear hbr
     go_wp2
     go_ret
     exact⟨by rw [HV.out,HE.out];rfl,HBR.out⟩
   ·have u1:decide (0<nI)=false:=decide_eq_false (by have:=HNI.out;omega)
    go_wp2
    go_loopw [11,21] (fun e i wr=>i=.int .i64 0∧e=.int .i64 ((nx:Int)+(cn+1))∧Below w.heap.size w wr∧Blk wr w3.heap.size #[.int .i64 2,.int .i64 0,.int .i64 ((nx:Int)+1),.int .i64 0,.int .i64 0,.int .i64 7,.int .i64 nI,.int .i64 cost]) (fun _ i _=>1-(intOf i).toNat)
    case atStart=>exact⟨rfl,rfl,HBR.out,HOR.out⟩
    case round=>
     clear HBR HOR xo yo zo
     obtain⟨rfl,rfl,hbr,hor⟩:=hrel
     have HBR:=Lib.hid hbr
     obtain⟨xo,yo,zo⟩:=hor
     clear hbr
     go_wp2
     go_ret
     exact⟨by rw [HV.out,HE.out];rfl,HBR.out⟩
 have hpos:decide (0<dI+pI)=true:=decide_eq_true (by have:=HDI.out;have:=HPI.out;omega)
 go_wp2
 go_loopw [17,18,19] (fun d p i wr=>∃q:Nat,q≤n∧i=.int .i64 q∧d=.bool (orB (dI==0) gD q)∧p=.bool (orB (pI==0) gP q)∧Below w.heap.size w wr∧Blk wr w3.heap.size #[.int .i64 2,.int .i64 0,.int .i64 ((nx:Int)+1),.int .i64 dI,.int .i64 pI,.int .i64 7,.int .i64 nI,.int .i64 cost]) (fun _ _ i _=>n-(intOf i).toNat)
 case atStart=>exact⟨0,by omega,rfl,rfl,rfl,HB3'.out,HO3.out⟩
 case round=>
  obtain⟨q,hq,rfl,rfl,rfl,hbr,hor⟩:=hrel
  have HBR:=Lib.hid hbr
  have HOR:=Lib.hid hor
  clear hbr hor x3 y3 z3
  obtain⟨xo,yo,zo⟩:=HOR.out
  by_cases hlt:q<n
  ·have u1:=HNR.out q hlt
   obtain⟨E,k1,k2,hel,hk1,hk1n,hk2,hk2n,hE0,hE1⟩:=HEL.out q hlt
   have HE:=Lib.hid hel
   have HND:Hid (orB (dI==0) gD (q+1)=(orB (dI==0) gD q||gD q)):=Lib.hid rfl
   have HNP:Hid (orB (pI==0) gP (q+1)=(orB (pI==0) gP q||gP q)):=Lib.hid rfl
   have hE2:(E:Int)≤20000000:=by omega
   have hqb:(q:Int)≤536870911:=by omega
   generalize orB (dI==0) gD q=vD at *
   generalize orB (pI==0) gP q=vP at *
   clear hE1 hel
   go_wp2_with fail
   refine(HE.out _).mono ?_
   rintro e5 w5 ⟨rfl,hb5⟩
   have HB5:=Lib.hid (bel_on HBR.out hb5)
   have HO5:=Lib.hid (HOR.out.below hb5)
   have HB6:=Lib.hid (HB5.out.alloc HB5.out.size (.cells #[.int .i64 1,.int .i64 0,.int .i64 E,.int .i64 dI,.int .i64 pI,.int .i64 0,.int .i64 0,.int .i64 0] 76))
   have HO6:=Lib.hid (HO5.out.alloc (.cells #[.int .i64 1,.int .i64 0,.int .i64 E,.int .i64 dI,.int .i64 pI,.int .i64 0,.int .i64 0,.int .i64 0] 76))
   have hcc:=HC.out _ HB6.out
   clear hb5 xo yo zo
   by_cases hz1:0<Aw
   ·obtain⟨hkl1,hke1,hgw1⟩:=hk1 hz1
    by_cases hw1:zat W k1=0
    ·have hgd:=hgw1
     have m1:decide (0<dI)=true:=decide_eq_true (by have:=HDI.out;omega)
     have hc1:=hcc k1 hkl1
     rw [hw1] at hc1 hgd
     have hgd:gD q=false:=by rw [hgd];rfl
     clear hk1 hk1n
     by_cases hz2:0<b
     ·obtain⟨hkl2,hke2,hgw2⟩:=hk2 hz2
      by_cases hw2:zat W k2=0
      ·have hgp:=hgw2
       have m2:decide (0<pI)=true:=decide_eq_true (by have:=HPI.out;omega)
       have hc2:=hcc k2 hkl2
       rw [hw2] at hc2 hgp
       have hgp:gP q=false:=by rw [hgp];rfl
       clear hk2 hk2n
       have HD2:Hid (orB (dI==0) gD (q+1)=vD):=Lib.hid (by rw [HND.out,hgd];cases vD<;>rfl)
       have HP2:Hid (orB (pI==0) gP (q+1)=vP):=Lib.hid (by rw [HNP.out,hgp];cases vP<;>rfl)
       clear hcc hgd hgp HND HNP
       go_wp2
       go_roundw
       case rel=>exact⟨q+1,by omega,by go_num,by rw [HD2.out],by rw [HP2.out],HB6.out,HO6.out⟩
       case measure=>simp [intOf];omega
      ·have hgp:=hgw2
       have m2:decide (0<pI)=true:=decide_eq_true (by have:=HPI.out;omega)
       have hc2:=hcc k2 hkl2
       have s2:(zat W k2 != 0)=true:=by simpa using hw2
       rw [s2] at hgp
       clear hw2
       generalize zat W k2=y2 at *
       clear hk2 hk2n
       have HD2:Hid (orB (dI==0) gD (q+1)=vD):=Lib.hid (by rw [HND.out,hgd];cases vD<;>rfl)
       have HP2:Hid (orB (pI==0) gP (q+1)=true):=Lib.hid (by rw [HNP.out,hgp];cases vP<;>rfl)
       clear hcc hgd hgp HND HNP
       go_wp2
       go_roundw
       case rel=>exact⟨q+1,by omega,by go_num,by rw [HD2.out],by rw [HP2.out],HB6.out,HO6.out⟩
       case measure=>simp [intOf];omega
     ·have hgp:=hk2n hz2
      have m2:decide (0<pI)=false:=decide_eq_false (by have:=HPI.out;omega)
      clear hk2 hk2n
      have HD2:Hid (orB (dI==0) gD (q+1)=vD):=Lib.hid (by rw [HND.out,hgd];cases vD<;>rfl)
      have HP2:Hid (orB (pI==0) gP (q+1)=vP):=Lib.hid (by rw [HNP.out,hgp];cases vP<;>rfl)
      clear hcc hgd hgp HND HNP
      go_wp2
      go_roundw
      case rel=>exact⟨q+1,by omega,by go_num,by rw [HD2.out],by rw [HP2.out],HB6.out,HO6.out⟩
      case measure=>simp [intOf];omega
    ·have hgd:=hgw1
     have m1:decide (0<dI)=true:=decide_eq_true (by have:=HDI.out;omega)
     have hc1:=hcc k1 hkl1
     have s1:(zat W k1 != 0)=true:=by simpa using hw1
     rw [s1] at hgd
     clear hw1
     generalize zat W k1=y1 at *
     clear hk1 hk1n
     by_cases hz2:0<b
     ·obtain⟨hkl2,hke2,hgw2⟩:=hk2 hz2
      by_cases hw2:zat W k2=0
      ·have hgp:=hgw2
       have m2:decide (0<pI)=true:=decide_eq_true (by have:=HPI.out;omega)
       have hc2:=hcc k2 hkl2
       rw [hw2] at hc2 hgp
       have hgp:gP q=false:=by rw [hgp];rfl
       clear hk2 hk2n
       have HD2:Hid (orB (dI==0) gD (q+1)=true):=Lib.hid (by rw [HND.out,hgd];cases vD<;>rfl)
       have HP2:Hid (orB (pI==0) gP (q+1)=vP):=Lib.hid (by rw [HNP.out,hgp];cases vP<;>rfl)
       clear hcc hgd hgp HND HNP
       go_wp2
       go_roundw
       case rel=>exact⟨q+1,by omega,by go_num,by rw [HD2.out],by rw [HP2.out],HB6.out,HO6.out⟩
       case measure=>simp [intOf];omega
      ·have hgp:=hgw2
       have m2:decide (0<pI)=true:=decide_eq_true (by have:=HPI.out;omega)
       have hc2:=hcc k2 hkl2
       have s2:(zat W k2 != 0)=true:=by simpa using hw2
       rw [s2] at hgp
       clear hw2
       generalize zat W k2=y2 at *
       clear hk2 hk2n
       have HD2:Hid (orB (dI==0) gD (q+1)=true):=Lib.hid (by rw [HND.out,hgd];cases vD<;>rfl)
       have HP2:Hid (orB (pI==0) gP (q+1)=true):=Lib.hid (by rw [HNP.out,hgp];cases vP<;>rfl)
       clear hcc hgd hgp HND HNP
       go_wp2
       go_roundw
       case rel=>exact⟨q+1,by omega,by go_num,by rw [HD2.out],by rw [HP2.out],HB6.out,HO6.out⟩
       case measure=>simp [intOf];omega
     ·have hgp:=hk2n hz2
      have m2:decide (0<pI)=false:=decide_eq_false (by have:=HPI.out;omega)
      clear hk2 hk2n
      have HD2:Hid (orB (dI==0) gD (q+1)=true):=Lib.hid (by rw [HND.out,hgd];cases vD<;>rfl)
      have HP2:Hid (orB (pI==0) gP (q+1)=vP):=Lib.hid (by rw [HNP.out,hgp];cases vP<;>rfl)
      clear hcc hgd hgp HND HNP
      go_wp2
      go_roundw
      case rel=>exact⟨q+1,by omega,by go_num,by rw [HD2.out],by rw [HP2.out],HB6.out,HO6.out⟩
      case measure=>simp [intOf];omega
   ·have hgd:=hk1n hz1
    have m1:decide (0<dI)=false:=decide_eq_false (by have:=HDI.out;omega)
    clear hk1 hk1n
    by_cases hz2:0<b
    ·obtain⟨hkl2,hke2,hgw2⟩:=hk2 hz2
     by_cases hw2:zat W k2=0
     ·have hgp:=hgw2
      have m2:decide (0<pI)=true:=decide_eq_true (by have:=HPI.out;omega)
      have hc2:=hcc k2 hkl2
      rw [hw2] at hc2 hgp
      have hgp:gP q=false:=by rw [hgp];rfl
      clear hk2 hk2n
      have HD2:Hid (orB (dI==0) gD (q+1)=vD):=Lib.hid (by rw [HND.out,hgd];cases vD<;>rfl)
      have HP2:Hid (orB (pI==0) gP (q+1)=vP):=Lib.hid (by rw [HNP.out,hgp];cases vP<;>rfl)
      clear hcc hgd hgp HND HNP
      go_wp2
      go_roundw
      case rel=>exact⟨q+1,by omega,by go_num,by rw [HD2.out],by rw [HP2.out],HB6.out,HO6.out⟩
      case measure=>simp [intOf];omega
     ·have hgp:=hgw2
      have m2:decide (0<pI)=true:=decide_eq_true (by have:=HPI.out;omega)
      have hc2:=hcc k2 hkl2
      have s2:(zat W k2 != 0)=true:=by simpa using hw2
      rw [s2] at hgp
      clear hw2
      generalize zat W k2=y2 at *
      clear hk2 hk2n
      have HD2:Hid (orB (dI==0) gD (q+1)=vD):=Lib.hid (by rw [HND.out,hgd];cases vD<;>rfl)
      have HP2:Hid (orB (pI==0) gP (q+1)=true):=Lib.hid (by rw [HNP.out,hgp];cases vP<;>rfl)
      clear hcc hgd hgp HND HNP
      go_wp2
      go_roundw
      case rel=>exact⟨q+1,by omega,by go_num,by rw [HD2.out],by rw [HP2.out],HB6.out,HO6.out⟩
      case measure=>simp [intOf];omega
    ·have hgp:=hk2n hz2
     have m2:decide (0<pI)=false:=decide_eq_false (by have:=HPI.out;omega)
     clear hk2 hk2n
     exact absurd (show Aw+b=0 by omega) hAb
  ·obtain rfl:n=q:=by omega
   have u1:=HNE.out
   have HVD:=Lib.hid HFD.out
   have HVP:=Lib.hid HFP.out
   generalize orB (dI==0) gD n=vD at *
   generalize orB (pI==0) gP n=vP at *
   by_cases hfl:vD=true∧vP=true
   rotate_left
   ·have HV:=Lib.hid (HV3.out (fun h=>hfl ⟨HVD.out.2 h.1,HVP.out.2 h.2⟩))
    cases vD with
    | false=>
     go_wp2
     go_ret
     exact⟨by rw [HV.out];rfl,HBR.out⟩
    | true=>
     cases vP with
     | true=>exact absurd ⟨rfl,rfl⟩ hfl
     | false=>
      go_wp2
      go_ret
      exact⟨by rw [HV.out];rfl,HBR.out⟩
   obtain⟨rfl,rfl⟩:=hfl
   have HV:=Lib.hid (HV4.out ⟨HVD.out.1 rfl,HVP.out.1 rfl⟩)
   have HSE:Hid (((nx+1+S:Nat):Int)=(nx:Int)+(cn+1)):=Lib.hid (by have:=HSC.out;omega)
   have hls:nx+1+S≤W.length:=HL.out
   go_wp2
   go_loopw [11,21] (fun e i wr=>∃q k:Nat,q≤n∧k≤W.length∧i=.int .i64 q∧e=.int .i64 k∧chkR F ((nx+1+S:Nat):Int) q=k∧Below w.heap.size w wr∧Blk wr w3.heap.size #[.int .i64 2,.int .i64 0,.int .i64 ((nx:Int)+1),.int .i64 dI,.int .i64 pI,.int .i64 7,.int .i64 nI,.int .i64 cost]) (fun _ i _=>n-(intOf i).toNat)
   case atStart=>exact⟨0,nx+1+S,by omega,hls,rfl,by rw [HSE.out],rfl,HBR.out,HOR.out⟩
   case round=>
    clear HBR HOR xo yo zo
    obtain⟨q,k,hq,hk,rfl,rfl,hck,hbr,hor⟩:=hrel
    have HBR:=Lib.hid hbr
    have HOR:=Lib.hid hor
    have HCK:=Lib.hid hck
    clear hbr hor hck
    obtain⟨xo,yo,zo⟩:=HOR.out
    by_cases hb0:b=0
    ·have m2:decide (0<pI)=false:=decide_eq_false (by have:=HPI.out;omega)
     have HZ:Hid (visC W (r+1) (nx:Int) (a:Int)=(k:Int)):=Lib.hid (by
      have h1:=HID.out hb0
      have h2:=HCK.out
      have h3:∀j,chkR F ((nx+1+S:Nat):Int) j=((nx+1+S:Nat):Int):=HIA.out hb0
      rw [HV.out,h1,←h3 q,h2])
     by_cases hlt:q<n
     ·have u1:=HNR.out q hlt
      go_wp2
      go_ret
      exact⟨by rw [HZ.out];rfl,HBR.out⟩
     ·obtain rfl:n=q:=by omega
      have u1:=HNE.out
      go_wp2
      go_ret
      exact⟨by rw [HZ.out];rfl,HBR.out⟩
    have m2:decide (0<pI)=true:=decide_eq_true (by have:=HPI.out;omega)
    by_cases hlt:q<n
    ·have u1:=HNR.out q hlt
     obtain⟨E,k1,k2,hel,hk1,hk1n,hk2,hk2n,hE0,hE1⟩:=HEL.out q hlt
     have HE:=Lib.hid hel
     have hE2:(E:Int)≤20000000:=by omega
     have hqb:(q:Int)≤536870911:=by omega
     have hnx:=HNX.out q k HCK.out
     have hok:=HFO.out q hlt k hk
     have HVC:=Lib.hid (fun w2 h2=>HVS.out q k E w2 hlt hk hE1 h2)
     clear hE1 hel hk1 hk1n hk2 hk2n
     generalize F k q=z at *
     rcases hok with rfl|⟨k',rfl,hk'⟩
     ·have HE9:Hid (chkR F ((nx+1+S:Nat):Int) n=-1):=Lib.hid (HNG.out (q+1) (by rw [hnx,if_pos (by omega)]) (by omega))
      clear hnx
      go_wp2_with fail
      refine(HE.out _).mono ?_
      rintro e5 w5 ⟨rfl,hb5⟩
      have HB5:=Lib.hid (bel_on HBR.out hb5)
      have HB6:=Lib.hid (HB5.out.alloc HB5.out.size (.cells #[.int .i64 1,.int .i64 0,.int .i64 E,.int .i64 dI,.int .i64 pI,.int .i64 0,.int .i64 0,.int .i64 0] 76))
      clear hb5 xo yo zo
      go_wp2_with fail
      refine(HVC.out _ (HR.out.below HB6.out (Nat.le_refl _))).mono ?_
      rintro e7 w7 ⟨rfl,hb7⟩
      have HB7:=Lib.hid (bel_on HB6.out hb7)
      clear hb7
      go_wp2
      go_ret
      exact⟨by rw [HV.out,HE9.out];rfl,HB7.out⟩
     ·have HE9:Hid (chkR F ((nx+1+S:Nat):Int) (q+1)=k'):=Lib.hid (by rw [hnx,if_neg (by omega)])
      clear hnx
      have t1:decide ((k':Int)<0)=false:=decide_eq_false (by omega)
      go_wp2_with fail
      refine(HE.out _).mono ?_
      rintro e5 w5 ⟨rfl,hb5⟩
      have HB5:=Lib.hid (bel_on HBR.out hb5)
      have HO5:=Lib.hid (HOR.out.below hb5)
      have HB6:=Lib.hid (HB5.out.alloc HB5.out.size (.cells #[.int .i64 1,.int .i64 0,.int .i64 E,.int .i64 dI,.int .i64 pI,.int .i64 0,.int .i64 0,.int .i64 0] 76))
      have HO6:=Lib.hid (HO5.out.alloc (.cells #[.int .i64 1,.int .i64 0,.int .i64 E,.int .i64 dI,.int .i64 pI,.int .i64 0,.int .i64 0,.int .i64 0] 76))
      clear hb5 xo yo zo
      go_wp2_with fail
      refine(HVC.out _ (HR.out.below HB6.out (Nat.le_refl _))).mono ?_
      rintro e7 w7 ⟨rfl,hb7⟩
      have HB7:=Lib.hid (bel_on HB6.out hb7)
      have HO7:=Lib.hid (HO6.out.below hb7)
      clear hb7
      go_wp2
      go_roundw
      case rel=>exact⟨q+1,k',by omega,hk',by go_num,rfl,HE9.out,HB7.out,HO7.out⟩
      case measure=>simp [intOf];omega
    ·obtain rfl:n=q:=by omega
     have u1:=HNE.out
     go_wp2
     go_ret
     exact⟨by rw [HV.out,HCK.out];rfl,HBR.out⟩
end
end
end Go.Proofs.YtclpapddejgpnaaDoor
