/- The texts Ref16c, Ref16e (what is wanted of them), one after the other. -/
import Derived.Test.YtclpapddejgpnaaDoorMg41
namespace Go.Proofs.YtclpapddejgpnaaDoor
open Go.ChangeShapes Go.WideShapes Go.ChangeAt Go.RowKit
set_option linter.unusedVariables false
set_option linter.unusedSimpArgs false
set_option maxRecDepth 100000
section
section
variable {A:Option Addr} {c:Nat} {W:List Int}
theorem pad_iff {B T:List Int}{N:Nat}(hB:B.length=N)(hT:T.length≤N):B=T++List.replicate (N-T.length) 0↔∀i,i<N→zat B i=zat T i:=by
 have hz:∀i,zat (T++List.replicate (N-T.length) 0) i=zat T i:=by
  intro i
  by_cases h:i<T.length
  ·exact zat_append_left _ _ _ h
  ·have h1:zat T i=0:=by simp [zat,List.getD_eq_getElem?_getD,List.getElem?_eq_none (Nat.le_of_not_lt h)]
   rw [h1]
   by_cases h2:i<N
   ·simp [zat,List.getD_eq_getElem?_getD,List.getElem?_append_right (Nat.le_of_not_lt h),List.getElem?_replicate]
    split<;>rfl
   ·simp [zat,List.getD_eq_getElem?_getD,List.getElem?_append_right (Nat.le_of_not_lt h),List.getElem?_replicate]
    split<;>rfl
 constructor
 ·intro h i _
  rw [h,hz]
 ·intro h
  refine ext_zat (by simp;omega) fun i hi=>?_
  rw [hz]
  exact h i (by omega)
set_option maxHeartbeats 8000000 in
theorem Visit_dat (hW:Wds W)(hlen:W.length≤20000000)(r a nx Aw:Nat)(w:World)(hle:W.length≤c)(hcm:c≤maxLen)(ha:a<W.length)(h:zat W a≠0){o e n:Int}(hd:decP (zat W a)=⟨1,o,0,0,e,n,false,0,0,0⟩)(hst:(a:Int)+1+o=nx)(he0:0≤e)(he:e<6)(hn0:0≤n)(hn1:n≤536870911)(hA:wordsI e n=Aw)(hin:nx+Aw≤W.length)(ho:-536870912≤o∧o≤536870911)(hr:Ri w .u64 A W):
  Calls Tryd.prog 21 #[.slice A W.length c,.int .i64 nx,.int .i64 a] w fun e w'=>e=.returned (.int .i64 (visC W (r+1) (nx:Int) (a:Int)))∧Below w.heap.size w w':=by
 have HV:=Lib.hid (((visC_lst (nx:=nx) ha h hd r).2 hst).2 he Aw hA)
 have HR:=Lib.hid hr
 obtain⟨L,hL⟩:∃L,L=datW [W] 0 (nx:Int) (Aw:Int):=⟨_,rfl⟩
 have hLl:L.length=Aw:=by rw [hL];exact(datW_has hin).1
 have hLe:L=(W.drop nx).take Aw:=by
  rw [hL]
  unfold datW
  rw [if_pos (inB_iff.2 ⟨by omega,by simp,by omega,by omega,by show (nx:Int)+Aw≤(W.length:Int);omega⟩)]
  rfl
 rw [←hL] at HV
 have hLw:Wds L:=by
  rw [hLe]
  intro z hz
  exact hW z (List.mem_of_mem_drop (List.mem_of_mem_take hz))
 obtain⟨g,off,rfl,hcd⟩:=hr.at (i:=a) ha
 have HRL:=Lib.hid (fun (w2:World) (h2:Ri w2 .u64 (some ⟨g,off,none⟩) W)=>(by rw [hLe];exact(h2.drop rfl).take Aw:Ri w2 .u64 (some ⟨g,off+nx,none⟩) L))
 have hcell:=hcd a ha
 have t0:(zat W a==0)=false:=by simpa using h
 obtain⟨z0,z1⟩:=zat_bd hW ha
 have HD:=Lib.hid (fun w2=>RefDecode_is (zat W a) hd w2 z0 z1)
 have HWD:=Lib.hid (fun w2=>RefWords6_any e n w2 hn0 hn1)
 rw [hA] at HWD
 simp only at HD
 have hab:(a:Int)≤20000000:=by omega
 have hxb:(nx:Int)≤20000000:=by omega
 have hAb:(Aw:Int)≤20000000:=by omega
 have t6:(e==6)=false:=beq_eq_false_iff_ne.2 (by omega)
 have t7:decide (e<6)=true:=decide_eq_true he
 have HBY:=Lib.hid (fun A' c' w2 (h2:Ri w2 .u64 A' L)=>RefBytes_any A' c' L w2 h2 hLw (by omega))
 rw [hLl] at HBY
 obtain⟨Bs,hBs⟩:∃Bs,bytesOf L=Bs:=⟨_,rfl⟩
 have hBl:Bs.length=8*Aw:=by rw [←hBs,bytesOf_length,hLl]
 have hBt:Bts Bs:=hBs ▸ bytesOf_bts L
 rw [hBs] at HV HBY
 have hbw:=bytes_words8 e n (by omega) hn0
 rw [hA] at hbw
 have HTR:=Lib.hid (fun A' c' w2 (h2:Ri w2 .u8 A' Bs)=>RefTrim_any A' c' Bs e n w2 h2 hBt (by omega) hn0 hn1 (by omega))
 obtain⟨T,hT⟩:∃T,trimL Bs e n=T:=⟨_,rfl⟩
 have hTl:T.length≤8*Aw:=by rw [←hT,trimL_length];omega
 rw [hT] at HV HTR
 have HVY:Hid ((∀i,i<Bs.length→zat Bs i=zat T i)→visC W (r+1) (nx:Int) (a:Int)=(nx:Int)+Aw):=Lib.hid (fun h=>by rw [HV.out,if_pos ((pad_iff hBl hTl).2 (by rw [←hBl];exact h))];omega)
 have HVN:Hid (∀i,i<Bs.length→zat Bs i≠zat T i→visC W (r+1) (nx:Int) (a:Int)=-1):=Lib.hid (fun i hi h=>by rw [HV.out,if_neg (fun h2=>h ((pad_iff hBl hTl).1 h2 i (by rw [←hBl];exact hi)))])
 have HBL:=Lib.hid (show Bs.length≤160000000 by omega)
 have HTL:=Lib.hid (show T.length≤160000000 by omega)
 have HTZ:Hid (∀i,¬i<T.length→zat T i=0):=Lib.hid (fun i h=>by simp [zat,List.getD_eq_getElem?_getD,List.getElem?_eq_none (Nat.le_of_not_lt h)])
 unfold maxLen at hcm
 have hcI:(W.length:Int)≤c:=by omega
 revert hcell t0 z0 z1 HD
 generalize hxx:zat W a=x
 intro hcell t0 z0 z1 HD
 clear hxx hcd h hd hr hLe hL hBs hBt hT hBl hTl hbw HV
 go_enter Tryd.func21,Tryd.ntmps21
 go_wp2_with fail
 refine(HD.out _).mono ?_
 rintro e2 w1 ⟨rfl,hb1⟩
 have HB1:=Lib.hid (hb1.alloc hb1.size (.cells #[.int .i64 1,.int .i64 o,.int .i64 0,.int .i64 0,.int .i64 e,.int .i64 n,.bool false,.int .i64 0,.int .u32 0,.int .u32 0] 65))
 clear hb1
 go_wp2_with fail
 refine(HWD.out _).mono ?_
 rintro e2 w2 ⟨rfl,rfl⟩
 by_cases hcn:c=nx
 ·have hA0:Aw=0:=by omega
  have hL0:L=[]:=List.eq_nil_of_length_eq_zero (by omega)
  subst hA0 hL0 hcn
  simp only [Int.natCast_zero,Int.add_zero] at HVY
  go_wp2_with fail
  refine(HBY.out _ _ _ (Ri.nil _ _ _)).mono ?_
  rintro e2 w3 ⟨v3,rfl,hg3,hb3⟩
  obtain⟨Ab,cb,rfl,hcb0,hcb1,hri3⟩:=hg3.slice
  have HB3:=Lib.hid (bel_on HB1.out hb3)
  have B3:=(Blk.fresh w1 #[.int .i64 1,.int .i64 o,.int .i64 0,.int .i64 0,.int .i64 e,.int .i64 n,.bool false,.int .i64 0,.int .u32 0,.int .u32 0] 65).below hb3
  have HR3:=Lib.hid hri3
  clear hb3 hg3 hri3 hcell
  obtain⟨x3,y3,z3⟩:=B3
  go_wp2_with fail
  refine(HTR.out _ _ _ HR3.out).mono ?_
  rintro e2 w4 ⟨v4,rfl,hg4,hb4⟩
  obtain⟨At,ct,rfl,hct0,hct1,hri4⟩:=hg4.slice
  have HB4:=Lib.hid (bel_on HB3.out hb4)
  have HR4:=Lib.hid hri4
  have HR5:=Lib.hid (HR3.out.below hb4 (Nat.le_refl _))
  clear hb4 hg4 hri4 x3 y3 z3 HR3
  go_wp2
  go_loopw [14] (fun i wr=>∃q:Nat,q≤Bs.length∧i=.int .i64 q∧(∀j,j<q→zat Bs j=zat T j)∧Below w4.heap.size w4 wr) (fun i _=>Bs.length-(intOf i).toNat)
  case atStart=>exact⟨0,by omega,rfl,fun j hj=>absurd hj (Nat.not_lt_zero _),Below.refl _ _⟩
  case round=>
   obtain⟨q,hq,rfl,hall,hbr⟩:=hrel
   have HALL:=Lib.hid hall
   have HBR:=Lib.hid hbr
   clear hall hbr
   by_cases hlt:q<Bs.length
   ·have hq1:(q:Int)<(Bs.length:Int):=by omega
    have hq2:(q:Int)≤160000000:=by have:=HBL.out;omega
    obtain⟨gb,ob,rfl,hcb⟩:=(HR5.out.below HBR.out (Nat.le_refl _)).at hlt
    have hc1:=hcb q hlt
    have hvn:=HVN.out q hlt
    by_cases hlt2:q<T.length
    ·have s1:decide ((q:Int)<(T.length:Int))=true:=decide_eq_true (by omega)
     have s2:decide ((T.length:Int)≤(q:Int))=false:=decide_eq_false (by omega)
     have s4:decide (q<T.length)=true:=decide_eq_true hlt2
     have s5:decide (T.length≤q)=false:=decide_eq_false (by omega)
     obtain⟨gt,ot,rfl,hct⟩:=(HR4.out.below HBR.out (Nat.le_refl _)).at hlt2
     have hc2:=hct q hlt2
     by_cases heq:zat Bs q=zat T q
     ·have HN:Hid (∀j,j<q+1→zat Bs j=zat T j):=Lib.hid (fun j hj=>by
       by_cases e:j=q
       ·subst e;exact heq
       ·exact HALL.out j (by omega))
      have s3:(zat Bs q != zat T q)=false:=by simpa using heq
      clear hcb hct heq hvn
      generalize zat Bs q=y1 at *
      generalize zat T q=y2 at *
      go_wp2
      go_quiet (fail)
      go_wp2
      go_roundw
      case rel=>exact⟨q+1,by omega,by go_num,HN.out,bel_drewN HBR.out _⟩
      case measure=>simp [intOf];omega
     ·have s3:(zat Bs q != zat T q)=true:=by simpa using heq
      have HV:=Lib.hid (hvn heq)
      clear hcb hct heq hvn
      generalize zat Bs q=y1 at *
      generalize zat T q=y2 at *
      go_wp2
      go_quiet (fail)
      go_wp2
      go_ret
      exact⟨by rw [HV.out];rfl,HB4.out.trans ((bel_drewN HBR.out _).mono HB4.out.size)⟩
    ·have s1:decide ((q:Int)<(T.length:Int))=false:=decide_eq_false (by omega)
     have s2:decide ((T.length:Int)≤(q:Int))=true:=decide_eq_true (by omega)
     have s4:decide (q<T.length)=false:=decide_eq_false hlt2
     have s5:decide (T.length≤q)=true:=decide_eq_true (by omega)
     have hz:=HTZ.out q hlt2
     rw [hz] at hvn
     by_cases heq:zat Bs q=0
     ·have HN:Hid (∀j,j<q+1→zat Bs j=zat T j):=Lib.hid (fun j hj=>by
       by_cases e:j=q
       ·subst e;rw [hz];exact heq
       ·exact HALL.out j (by omega))
      have s3:(zat Bs q != 0)=false:=by simpa using heq
      clear hcb heq hvn hz
      generalize zat Bs q=y1 at *
      go_wp2
      go_quiet (fail)
      go_wp2
      go_roundw
      case rel=>exact⟨q+1,by omega,by go_num,HN.out,bel_drewN HBR.out _⟩
      case measure=>simp [intOf];omega
     ·have s3:(zat Bs q != 0)=true:=by simpa using heq
      have HV:=Lib.hid (hvn heq)
      clear hcb heq hvn hz
      generalize zat Bs q=y1 at *
      go_wp2
      go_quiet (fail)
      go_wp2
      go_ret
      exact⟨by rw [HV.out];rfl,HB4.out.trans ((bel_drewN HBR.out _).mono HB4.out.size)⟩
   ·obtain rfl:q=Bs.length:=by omega
    have HV:=Lib.hid (HVY.out HALL.out)
    go_wp2
    go_ret
    exact⟨by rw [HV.out];rfl,HB4.out.trans (HBR.out.mono HB4.out.size)⟩
 go_wp2_with fail
 refine(HBY.out _ _ _ (HRL.out _ (HR.out.below HB1.out (Nat.le_refl _)))).mono ?_
 rintro e2 w3 ⟨v3,rfl,hg3,hb3⟩
 obtain⟨Ab,cb,rfl,hcb0,hcb1,hri3⟩:=hg3.slice
 have HB3:=Lib.hid (bel_on HB1.out hb3)
 have B3:=(Blk.fresh w1 #[.int .i64 1,.int .i64 o,.int .i64 0,.int .i64 0,.int .i64 e,.int .i64 n,.bool false,.int .i64 0,.int .u32 0,.int .u32 0] 65).below hb3
 have HR3:=Lib.hid hri3
 clear hb3 hg3 hri3 hcell
 obtain⟨x3,y3,z3⟩:=B3
 go_wp2_with fail
 refine(HTR.out _ _ _ HR3.out).mono ?_
 rintro e2 w4 ⟨v4,rfl,hg4,hb4⟩
 obtain⟨At,ct,rfl,hct0,hct1,hri4⟩:=hg4.slice
 have HB4:=Lib.hid (bel_on HB3.out hb4)
 have HR4:=Lib.hid hri4
 have HR5:=Lib.hid (HR3.out.below hb4 (Nat.le_refl _))
 clear hb4 hg4 hri4 x3 y3 z3 HR3
 go_wp2
 go_loopw [14] (fun i wr=>∃q:Nat,q≤Bs.length∧i=.int .i64 q∧(∀j,j<q→zat Bs j=zat T j)∧Below w4.heap.size w4 wr) (fun i _=>Bs.length-(intOf i).toNat)
 case atStart=>exact⟨0,by omega,rfl,fun j hj=>absurd hj (Nat.not_lt_zero _),Below.refl _ _⟩
 case round=>
  obtain⟨q,hq,rfl,hall,hbr⟩:=hrel
  have HALL:=Lib.hid hall
  have HBR:=Lib.hid hbr
  clear hall hbr
  by_cases hlt:q<Bs.length
  ·have hq1:(q:Int)<(Bs.length:Int):=by omega
   have hq2:(q:Int)≤160000000:=by have:=HBL.out;omega
   obtain⟨gb,ob,rfl,hcb⟩:=(HR5.out.below HBR.out (Nat.le_refl _)).at hlt
   have hc1:=hcb q hlt
   have hvn:=HVN.out q hlt
   by_cases hlt2:q<T.length
   ·have s1:decide ((q:Int)<(T.length:Int))=true:=decide_eq_true (by omega)
    have s2:decide ((T.length:Int)≤(q:Int))=false:=decide_eq_false (by omega)
    have s4:decide (q<T.length)=true:=decide_eq_true hlt2
    have s5:decide (T.length≤q)=false:=decide_eq_false (by omega)
    obtain⟨gt,ot,rfl,hct⟩:=(HR4.out.below HBR.out (Nat.le_refl _)).at hlt2
    have hc2:=hct q hlt2
    by_cases heq:zat Bs q=zat T q
    ·have HN:Hid (∀j,j<q+1→zat Bs j=zat T j):=Lib.hid (fun j hj=>by
      by_cases e:j=q
      ·subst e;exact heq
      ·exact HALL.out j (by omega))
     have s3:(zat Bs q != zat T q)=false:=by simpa using heq
     clear hcb hct heq hvn
     generalize zat Bs q=y1 at *
     generalize zat T q=y2 at *
     go_wp2
     go_quiet (fail)
     go_wp2
     go_roundw
     case rel=>exact⟨q+1,by omega,by go_num,HN.out,bel_drewN HBR.out _⟩
     case measure=>simp [intOf];omega
    ·have s3:(zat Bs q != zat T q)=true:=by simpa using heq
     have HV:=Lib.hid (hvn heq)
     clear hcb hct heq hvn
     generalize zat Bs q=y1 at *
     generalize zat T q=y2 at *
     go_wp2
     go_quiet (fail)
     go_wp2
     go_ret
     exact⟨by rw [HV.out];rfl,HB4.out.trans ((bel_drewN HBR.out _).mono HB4.out.size)⟩
   ·have s1:decide ((q:Int)<(T.length:Int))=false:=decide_eq_false (by omega)
    have s2:decide ((T.length:Int)≤(q:Int))=true:=decide_eq_true (by omega)
    have s4:decide (q<T.length)=false:=decide_eq_false hlt2
    have s5:decide (T.length≤q)=true:=decide_eq_true (by omega)
    have hz:=HTZ.out q hlt2
    rw [hz] at hvn
    by_cases heq:zat Bs q=0
    ·have HN:Hid (∀j,j<q+1→zat Bs j=zat T j):=Lib.hid (fun j hj=>by
      by_cases e:j=q
      ·subst e;rw [hz];exact heq
      ·exact HALL.out j (by omega))
     have s3:(zat Bs q != 0)=false:=by simpa using heq
     clear hcb heq hvn hz
     generalize zat Bs q=y1 at *
     go_wp2
     go_quiet (fail)
     go_wp2
     go_roundw
     case rel=>exact⟨q+1,by omega,by go_num,HN.out,bel_drewN HBR.out _⟩
     case measure=>simp [intOf];omega
    ·have s3:(zat Bs q != 0)=true:=by simpa using heq
     have HV:=Lib.hid (hvn heq)
     clear hcb heq hvn hz
     generalize zat Bs q=y1 at *
     go_wp2
     go_quiet (fail)
     go_wp2
     go_ret
     exact⟨by rw [HV.out];rfl,HB4.out.trans ((bel_drewN HBR.out _).mono HB4.out.size)⟩
  ·obtain rfl:q=Bs.length:=by omega
   have HV:=Lib.hid (HVY.out HALL.out)
   go_wp2
   go_ret
   exact⟨by rw [HV.out];rfl,HB4.out.trans (HBR.out.mono HB4.out.size)⟩
end
end
theorem Visit_step {A:Option Addr}{c:Nat}{W:List Int}(hW:Wds W)(hlen:W.length≤20000000)(hle:W.length≤c)(hcm:c≤maxLen)(hnil:A=none→c=0)(r:Nat)(IH:∀r',r=r'+1→VisOK A c W r'):VisOK A c W r:=by
 intro a nx w ha hnx hrd hr
 by_cases h0:zat W a=0
 ·exact Visit_null r a nx w ha h0 hr
 obtain⟨z0,z1⟩:=zat_bd hW ha
 have hnx2:nx≤20000000:=by omega
 by_cases hk0:(decP (zat W a)).k=0
 ·obtain⟨o,Aw,b,hd,o1,o2,hA,hb⟩:=str_dec z0 z1 hk0
  obtain⟨r',q,rfl,hq,hq2,hk2⟩:=rd_str hW ha h0 hd hrd
  by_cases hz:Aw+b=0
  ·obtain rfl:Aw=0:=by omega
   obtain rfl:b=0:=by omega
   exact Visit_str0 hW r' a nx w ha h0 hd hnx2 hlen ⟨o1,o2⟩ hr
  by_cases hst:q=nx
  ·subst hst
   exact Visit_strR hW hlen r' a q (IH r' rfl) w ha h0 hd hz hq hA hb hq2 ⟨o1,o2⟩ hk2 hr
  ·exact Visit_strX hW r' a nx w ha h0 hd hz (by omega) hA hb hnx2 hlen ⟨o1,o2⟩ hr
 by_cases hk1:(decP (zat W a)).k=1
 ·obtain⟨o,e,n,hd,o1,o2,he0,he7,hn0,hn1⟩:=lst_dec z0 z1 hk1
  by_cases h6:e=6
  ·subst h6
   obtain⟨k,rfl⟩:=Int.eq_ofNat_of_zero_le hn0
   obtain⟨r',q,rfl,hq,hq2,hk2⟩:=rd_ptrs hW ha h0 hd hrd
   by_cases hst:q=nx
   ·subst hst
    exact Visit_ptrs hW hlen r' a q k (IH r' rfl) w ha h0 hd hq hq2 ⟨o1,o2⟩ hk2 hr
   ·exact Visit_lstX hW r' a nx w ha h0 hd (by omega) hn0 hn1 hnx2 hlen ⟨o1,o2⟩ hr
  by_cases h7:e=7
  ·subst h7
   obtain⟨r',q,k,Aw,b,cost,rfl,hq,hq2,htd,hA,hb,hS,hk,hob,hk2⟩:=rd_comp hW ha h0 hd hn0 hrd
   by_cases hst:q=nx
   ·subst hst
    exact Visit_comp hW hlen r' a q k Aw b (IH r' rfl) w hle hcm hnil ha h0 hd hq hn0 hn1 hq2 htd hob hA hb hS hk ⟨o1,o2⟩ hk2 hr
   ·exact Visit_lstX hW r' a nx w ha h0 hd (by omega) hn0 hn1 hnx2 hlen ⟨o1,o2⟩ hr
  ·obtain⟨r',q,Aw,rfl,hq,hA,hq2⟩:=rd_lst hW ha h0 hd he0 (by omega) hn0 hn1 hrd
   by_cases hst:q=nx
   ·subst hst
    exact Visit_dat hW hlen r' a q Aw w hle hcm ha h0 hd hq he0 (by omega) hn0 hn1 hA hq2 ⟨o1,o2⟩ hr
   ·exact Visit_lstX hW r' a nx w ha h0 hd (by omega) hn0 hn1 hnx2 hlen ⟨o1,o2⟩ hr
 ·have hk:1<(decP (zat W a)).k:=by
   have hv:=decP_vld _ z0 z1
   unfold Vld at hv
   rcases hv with h|h|h|h
   ·exact absurd h.1 hk0
   ·exact absurd h.1 hk1
   ·rw [h.1];decide
   ·rw [h.1];decide
  exact Visit_far hW r a nx w ha h0 hk hr
theorem RefVisit16_any {A:Option Addr}{c:Nat}{W:List Int}(hW:Wds W)(hlen:W.length≤20000000)(hle:W.length≤c)(hcm:c≤maxLen)(hnil:A=none→c=0):∀r,VisOK A c W r
 | 0=>Visit_step hW hlen hle hcm hnil 0 (fun r' h=>by omega)
 | r+1=>Visit_step hW hlen hle hcm hnil (r+1) (fun r' h=>by
  obtain rfl:r=r':=by omega
  exact RefVisit16_any hW hlen hle hcm hnil r)
set_option maxHeartbeats 4000000 in
theorem RefWords16_any (A:Option Addr)(c:Nat)(W:List Int)(D X O:Int)(w:World)(hr:Ri w .u64 A W)(hW:Wds W)(hlen:W.length≤20000000)(hnil:A=none→c=0)(hle:W.length≤c)(hc:c≤maxLen)(hD:D≤900)(hX:X≤100000):
  Calls Tryd.prog 11 #[.slice A W.length c,.agg #[.int .i64 D,.int .i64 X,.int .i64 O]] w fun r w'=>r=.returned (.bool (chkB W D X))∧Below w.heap.size w w':=by
 have HR:=Lib.hid hr
 by_cases h0:W.length=0
 ·have HB:Hid (chkB W D X=false):=Lib.hid (by unfold chkB;simp [ChkP,h0])
  have t1:(W.length==0)=true:=by simpa using h0
  have t2:((W.length:Int)==0)=true:=by rw [beq_iff_eq];omega
  have HW0:=Lib.hid h0
  clear h0 hr
  go_enter Tryd.func11,Tryd.ntmps11
  go_wp2
  go_ret
  exact⟨by rw [HB.out];rfl,(Below.refl _ _).alloc (Nat.le_refl _) _⟩
 have HHO:Hid (∀w2,Ri w2 .u64 A W→Holds w2 (.slice A W.length c) W):=Lib.hid (fun w2 h2=>⟨A,c,rfl,h2,hnil,hle,hc⟩)
 have hm1:=msg_one (W:=W) (by omega) D X
 obtain⟨x,hx⟩:∃x,(msgV [W] D X).1=x:=⟨_,rfl⟩
 obtain⟨e,he⟩:∃e,(msgV [W] D X).2=e:=⟨_,rfl⟩
 have HMS:=Lib.hid (fun A' c' w2 (h2:Sg w2 A' [W])=>by
  have h:=RefMessage12 A' c' [W] D X O w2 h2 (wd2_one hW) (by simp) (seg_one hlen) hD (by omega)
  rw [hx,he] at h
  exact h)
 have HB:Hid (chkB W D X=(decide (e=0)&&decide (visC W D.toNat 1 0=(W.length:Int)))):=Lib.hid (by
  have h3:chkB W D X=true↔ChkP W D X:=chkB_iff.trans (chk_exact hW hlen D X).symm
  rw [Bool.eq_iff_iff,h3]
  unfold ChkP
  rw [he]
  simp only [Bool.and_eq_true,decide_eq_true_eq]
  exact⟨fun h=>h.2,fun h=>⟨by omega,h⟩⟩)
 have HVI:Hid (e=0→∀w2,Ri w2 .u64 A W→Calls Tryd.prog 21 #[.slice A W.length c,.int .i64 1,.int .i64 0] w2 fun e w'=>e=.returned (.int .i64 (visC W D.toNat 1 0))∧Below w2.heap.size w2 w'):=Lib.hid (fun h w2 h2=>by
  have hrd:RdP W D.toNat 0:=by
   refine⟨startI X,Classical.byContradiction fun h3=>?_⟩
   have h3':(valV [W] D.toNat (startI X) 0 0).e≠0:=h3
   rw [if_pos h3'] at hm1
   rw [hm1] at he
   exact h3' (he.trans h)
  exact RefVisit16_any hW hlen hle hc hnil D.toNat 0 1 w2 (by omega) (by omega) hrd h2)
 have t1:(W.length==0)=false:=by simpa using h0
 have t2:((W.length:Int)==0)=false:=beq_eq_false_iff_ne.2 (by omega)
 clear hm1 hx he h0 hr
 generalize visC W D.toNat 1 0=z at *
 go_enter Tryd.func11,Tryd.ntmps11
 go_wp2_with fail
 refine abs_world (F:=fun W2=>Below w.heap.size w W2∧Sg W2 (some ⟨w.heap.size+1,0,none⟩) [W]) ⟨?_,?_⟩ ?_
 ·exact((Below.refl w.heap.size w).alloc (Nat.le_refl _) _).alloc (by simp) _
 ·exact sg_lit1 _ _ _ _ _ (by simp) (HHO.out _ (HR.out.alloc _))
 rintro W2 ⟨hb2,hsg⟩
 refine(HMS.out _ _ W2 hsg).mono ?_
 rintro e2 w3 ⟨v,rfl,hnd,hb3⟩
 obtain⟨A3,c3,B3,c4,hi3,rfl,-,-⟩:=hnd
 have HB3:=Lib.hid (bel_on hb2 hb3)
 have HB4:=Lib.hid (fun o=>HB3.out.alloc HB3.out.size o)
 clear hb2 hsg hb3
 by_cases he0:e=0
 ·have HVC:=Lib.hid (HVI.out he0)
  have te:(e==0)=true:=by simpa using he0
  have HZ:Hid (chkB W D X=(z==(W.length:Int))):=Lib.hid (by rw [HB.out,he0];simp;by_cases h:z=(W.length:Int)<;>simp [h])
  clear he0
  go_wp2_with fail
  refine(HVC.out _ (HR.out.below (HB4.out _) (Nat.le_refl _))).mono ?_
  rintro e5 w5 ⟨rfl,hb5⟩
  have HB5:=Lib.hid (bel_on (HB4.out _) hb5)
  clear hb5
  go_wp2
  go_ret
  exact⟨by rw [HZ.out];rfl,HB5.out⟩
 ·have te:(e==0)=false:=by simpa using he0
  have HZ:Hid (chkB W D X=false):=Lib.hid (by rw [HB.out];simp [he0])
  clear he0
  go_wp2
  go_ret
  exact⟨by rw [HZ.out];rfl,HB4.out _⟩
end Go.Proofs.YtclpapddejgpnaaDoor
