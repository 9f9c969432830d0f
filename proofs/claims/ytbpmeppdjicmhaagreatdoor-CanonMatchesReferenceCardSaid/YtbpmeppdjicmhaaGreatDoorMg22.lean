/- The texts TabL, Ref09, NodeF, NodeK, WriteB, Budget, TrimU, RowG, TrimB, MsgSet (what is wanted of them), one after the other. -/
import Derived.Test.YtbpmeppdjicmhaaGreatDoorMg16
import Derived.Test.YtbpmeppdjicmhaaGreatDoorMg21
import Derived.Test.YtbpmeppdjicmhaaGreatDoorCards
import Derived.Test.YtbpmeppdjicmhaaGreatDoorTie
import Derived.Deep.DeepHandedRow
import Derived.Lib.LaidTab
namespace Go.Proofs.YtbpmeppdjicmhaaGreatDoor
open Go.ChangeShapes Go.WideShapes Go.ChangeAt Go.RowKit
set_option linter.unusedVariables false
set_option linter.unusedSimpArgs false
set_option maxRecDepth 100000
theorem gTab : Tryz.prog.globalNamed "capnp/listsize.elementBits" = some 0 := by kernel_rfl
theorem gTabType:(Tryz.prog.globals[0]?).map (·.type)=some 182:=by kernel_rfl
theorem cellsTab:Tryz.prog.cellsOf 182=8:=by kernel_rfl
theorem cellsInt:Tryz.prog.cellsOf 3=1:=by kernel_rfl
theorem tab_laid {W : World} (h : laidMetH Tryz.prog [("capnp/listsize.elementBits", Rows.laid_capnp_listsize_elementBits)] W) : TabOK W := by
 have hT : Lib.TabIs Tryz.prog W "capnp/listsize.elementBits" .i64 elemZ := Lib.tabIs_of_head (rest := []) gTab gTabType Tryz.underlying182 Tryz.underlying3 cellsInt cellsTab h
 exact fun i hi=>hT.cell gTab i hi
noncomputable def laidWorld (os:Os):World:=
 { World.holding Tryz.prog os ⟨#[],#[],[]⟩ with heap:=(World.holding Tryz.prog os ⟨#[],#[],[]⟩).heap.modify 0 fun
   | .cells _ t frozen=>.cells #[.int .i64 0,.int .i64 1,.int .i64 8,.int .i64 16,.int .i64 32,.int .i64 64,.int .i64 64,.int .i64 0] t frozen
   | o=>o }
def startI (x:Int):Int:=if x<0 then 0 else x
def enterI (dep d:Int):Int:=if d≤dep then 0 else 7
def chargeI (m c:Int):Int:=if m<c then m else m-c
def chargeE (m c:Int):Int:=if m<c then 8 else 0
theorem RefStart_any (d x o:Int)(w:World):Calls Tryz.prog 27 #[.agg #[.int .i64 d,.int .i64 x,.int .i64 o]] w fun e w'=>e=.returned (.agg #[.int .i64 (startI x)])∧Below w.heap.size w w':=by
 by_cases h:x<0
 ·have HS:Hid (startI x=0):=Lib.hid (by simp [startI,h])
  go_enter Tryz.func27,Tryz.ntmps27
  go_wp2
  refine bodyPost_ret (v:=.agg #[.int .i64 0]) (by simp [results,Tryz.results27,go_sem]) rfl ⟨by rw [HS.out],?_⟩
  exact((Below.refl _ _).alloc (Nat.le_refl _) _).alloc (by simp) _
 ·have HS:Hid (startI x=x):=Lib.hid (by simp [startI,h])
  go_enter Tryz.func27,Tryz.ntmps27
  go_wp2
  refine bodyPost_ret (v:=.agg #[.int .i64 x]) (by simp [results,Tryz.results27,go_sem]) rfl ⟨by rw [HS.out],?_⟩
  exact((Below.refl _ _).alloc (Nat.le_refl _) _).alloc (by simp) _
theorem RefCharge_any (m c:Int)(w:World)(hm0:-9223372036854775808≤m)(hm1:m≤9223372036854775807)(hc:0≤c):
  Calls Tryz.prog 41 #[.agg #[.int .i64 m],.int .i64 c] w fun e w'=>e=.returned (.tuple #[.agg #[.int .i64 (chargeI m c)],.int .i64 (chargeE m c)])∧Below w.heap.size w w':=by
 by_cases h:m<c
 ·have HS:Hid (chargeI m c=m):=Lib.hid (by simp [chargeI,h])
  have HE:Hid (chargeE m c=8):=Lib.hid (by simp [chargeE,h])
  go_enter Tryz.func41,Tryz.ntmps41
  go_wp2
  refine bodyPost_ret (v:=.tuple #[.agg #[.int .i64 m],.int .i64 8]) (by simp [results,Tryz.results41,go_sem]) rfl ⟨by rw [HS.out,HE.out],?_⟩
  exact((Below.refl _ _).alloc (Nat.le_refl _) _).alloc (by simp) _
 ·have HS:Hid (chargeI m c=m-c):=Lib.hid (by simp [chargeI,h])
  have HE:Hid (chargeE m c=0):=Lib.hid (by simp [chargeE,h])
  go_enter Tryz.func41,Tryz.ntmps41
  go_wp2
  refine bodyPost_ret (v:=.tuple #[.agg #[.int .i64 (m-c)],.int .i64 0]) (by simp [results,Tryz.results41,go_sem]) rfl ⟨by rw [HS.out,HE.out],?_⟩
  exact((Below.refl _ _).alloc (Nat.le_refl _) _).alloc (by simp) _
theorem KsR.node {w:World}{B:Option Addr}{ks:List Nd}(h:KsR w B ks){k e n:Int}{d:List Int}{A:Option Addr}{c c2:Nat}
  (hk:-9223372036854775808≤k∧k≤9223372036854775807) (he:-9223372036854775808≤e∧e≤9223372036854775807) (hn:-9223372036854775808≤n∧n≤9223372036854775807)
  (hd:Ri w .u8 A d) (hby:Bts d) (hdl:d.length≤c) (hc:c≤maxLen) (hA:A=none→c=0) (hkl:ks.length≤c2) (hc2:c2≤maxLen) (hB:B=none→c2=0):NdR w A c B c2 (.mk k e n d ks):=by
 rcases h with rfl|⟨b,off,hBe,h⟩
 ·exact .mk k e n d [] A c B c2 (fun _=>none) (fun _=>0) (fun _=>none) (fun _=>0) hk he hn hd hby hdl hc hA hkl hc2 hB (.inl rfl) (fun j x hx=>by simp at hx)
 ·refine .mk k e n d ks A c B c2 (fun j=>if h0:j<ks.length then Classical.choose (h j h0) else none) (fun j=>if h0:j<ks.length then Classical.choose (Classical.choose_spec (h j h0)) else 0)
   (fun j=>if h0:j<ks.length then Classical.choose (Classical.choose_spec (Classical.choose_spec (h j h0))) else none) (fun j=>if h0:j<ks.length then Classical.choose (Classical.choose_spec (Classical.choose_spec (Classical.choose_spec (h j h0)))) else 0)
   hk he hn hd hby hdl hc hA hkl hc2 hB (.inr ⟨b,off,hBe,fun j x hj=>?_⟩) (fun j x hj=>?_)
  ·have hjl:j<ks.length:=(List.getElem?_eq_some_iff.1 hj).1
   obtain rfl:ks[j]=x:=(List.getElem?_eq_some_iff.1 hj).2
   have hs:=Classical.choose_spec (Classical.choose_spec (Classical.choose_spec (Classical.choose_spec (h j hjl))))
   simp only [dif_pos hjl]
   exact⟨hs.1,hs.2.1,hs.2.2.1,hs.2.2.2.1,hs.2.2.2.2.1⟩
  ·have hjl:j<ks.length:=(List.getElem?_eq_some_iff.1 hj).1
   obtain rfl:ks[j]=x:=(List.getElem?_eq_some_iff.1 hj).2
   have hs:=Classical.choose_spec (Classical.choose_spec (Classical.choose_spec (Classical.choose_spec (h j hjl))))
   simp only [dif_pos hjl]
   exact hs.2.2.2.2.2
def DatF (d:List Int):Fact:=fun v w=>∃A c,v=.slice A d.length c∧Ri w .u8 A d∧d.length≤c∧c≤maxLen∧(A=none→c=0)
theorem stable_datf (d:List Int):stable (DatF d):=by
 rintro v w w' ⟨A,c,e,h,r⟩ hb
 exact⟨A,c,e,h.below hb (Nat.le_refl _),r⟩
theorem nd0_here (w:World)(k:Int)(hk:-9223372036854775808≤k∧k≤9223372036854775807):NdR w none 0 none 0 (.mk k 0 0 [] []):=
 (show KsR w none [] from .inl rfl).node hk ⟨by decide,by decide⟩ ⟨by decide,by decide⟩ (Ri.nil _ _ _) (by intro z hz;cases hz) (by simp) (by unfold maxLen;omega) (fun _=>rfl) (by simp) (by unfold maxLen;omega) (fun _=>rfl)
theorem allN_atF {P:Nat→Prop}:∀{n s:Nat},AllN P n s→∀j,s≤j→j<s+n→P j
 | 0,_,_,_,_,h=>by omega
 | n+1,s,h,j,h1,h2=>by
  by_cases e:s=j
  ·subst e;exact h.1
  ·exact allN_atF h.2 j (by omega) (by omega)
theorem OwnK.below {W0 w w':World}{base:Nat}{v:Value}{ts:List Nd}(h:OwnK W0 w base v ts){N:Nat}(hb:Below N w w')(hN:w.heap.size≤N):OwnK W0 w' base v ts:=by
 obtain⟨vs,h1,h2⟩:=h
 exact⟨vs,ownsRow_below h1 hb hN,h2⟩
theorem OwnK.far {W0 w:World}{base:Nat}{v:Value}{ts:List Nd}(h:OwnK W0 w base v ts){p:Addr}(hp:p.block<base)(u:Value):OwnK W0 (w.setCell p u) base v ts:=by
 obtain⟨vs,h1,h2⟩:=h
 exact⟨vs,ownsRow_setCell_below h1 hp u,h2⟩
def elsP (a b:Nat):List Nd→List Int→List Int
 | [],_=>[]
 | y::ys,pw=>padW y.d a++(pw.take y.ks.length++(List.replicate (b-y.ks.length) 0++elsP a b ys (pw.drop y.ks.length)))
def posE (a b:Nat)(s:Nat):List Nd→List Nat
 | []=>[]
 | y::ys=>(List.range y.ks.length).map (fun i=>s+a+i)++posE a b (s+a+b) ys
def bodyPW (k e n:Int)(d:List Int)(ks:List Nd)(pw:List Int):List Int:=
 if k=0 then []
 else if k=1 then wordsOf d++pw
 else if e=7 then tagW n (uniD ks ks.length) (uniP ks ks.length)::elsP (uniD ks ks.length) (uniP ks ks.length) ks pw
 else if e=6 then pw
 else padW d (wordsI e n).toNat
def bodyP (x:Nd)(pw:List Int):List Int:=bodyPW x.k x.e x.n x.d x.ks pw
theorem bodyW_2 {e n:Int}{d:List Int}{ks:List Nd}(h7:e≠7):bodyW 2 e n d ks=if e=6 then ptrsW 0 (canOf 2 e n d ks) ks else padW d (wordsI e n).toNat:=by
 unfold bodyW
 rw [if_neg (show ¬((2:Int)=0) by decide),if_neg (show ¬((2:Int)=1) by decide),if_neg h7]
theorem bodyPW_2 {e n:Int}{d:List Int}{ks:List Nd}{pw:List Int}(h7:e≠7):bodyPW 2 e n d ks pw=if e=6 then pw else padW d (wordsI e n).toNat:=by
 unfold bodyPW
 rw [if_neg (show ¬((2:Int)=0) by decide),if_neg (show ¬((2:Int)=1) by decide),if_neg h7]
def posL (x:Nd):List Nat:=
 if x.k=1 then (List.range x.ks.length).map (fun i=>x.d.length / 8+i)
 else if x.e=7 then posE (uniD x.ks x.ks.length) (uniP x.ks x.ks.length) 1 x.ks
 else (List.range x.ks.length).map (fun i=>0+i)
def pwF (nx:Int):List Nd→List Nat→List Int
 | t::ts,p::ps=>ptrW t (nx-p-1)::pwF (nx+canN t) ts ps
 | _,_=>[]
def pwL (x:Nd):List Int:=pwF (canO x) (targN x) (posL x)
theorem pwF_length:∀(ts:List Nd) (ps:List Nat) (nx:Int),ts.length=ps.length→(pwF nx ts ps).length=ts.length
 | [],ps,_,_=>by simp [pwF]
 | t::ts,[],_,h=>by simp at h
 | t::ts,p::ps,nx,h=>by simp only [pwF,List.length_cons,pwF_length ts ps _ (by simpa using h)]
theorem pwF_append:∀(ts us:List Nd) (ps qs:List Nat) (nx:Int),ts.length=ps.length→pwF nx (ts++us) (ps++qs)=pwF nx ts ps++pwF (nx+canK ts) us qs
 | [],us,[],qs,nx,_=>by simp [pwF,canK]
 | [],us,p::ps,qs,nx,h=>by simp at h
 | t::ts,us,[],qs,nx,h=>by simp at h
 | t::ts,us,p::ps,qs,nx,h=>by
  simp only [List.cons_append,pwF,canK,pwF_append ts us ps qs _ (by simpa using h)]
  rw [Int.add_assoc]
theorem ptrsW_pwF:∀(ts:List Nd) (pos:Nat) (nx:Int),ptrsW pos nx ts=pwF nx ts ((List.range ts.length).map (fun i=>pos+i))
 | [],_,_=>by simp [ptrsW,pwF]
 | t::ts,pos,nx=>by
  have ih:=ptrsW_pwF ts (pos+1) (nx+canN t)
  have e:((pos+1:Nat):Int)=(pos:Int)+1:=by omega
  rw [e] at ih
  simp only [ptrsW,ih,List.length_cons,List.range_succ_eq_map,List.map_cons,List.map_map,pwF,Nat.add_zero]
  congr 3
  funext i
  simp only [Function.comp]
  omega
theorem ptrsW_append:∀(ts us:List Nd) (pos nx:Int),ptrsW pos nx (ts++us)=ptrsW pos nx ts++ptrsW (pos+ts.length) (nx+canK ts) us
 | [],us,pos,nx=>by simp [ptrsW,canK]
 | t::ts,us,pos,nx=>by
  simp only [List.cons_append,ptrsW,canK,List.length_cons,ptrsW_append ts us]
  have e1:pos+1+(ts.length:Int)=pos+((ts.length+1:Nat):Int):=by omega
  rw [e1,Int.add_assoc]
theorem ptrsW_null:∀(q:Nat) (pos nx:Int),ptrsW pos nx (List.replicate q nd0)=List.replicate q 0
 | 0,_,_=>rfl
 | q+1,pos,nx=>by
  rw [List.replicate_succ,List.replicate_succ]
  simp only [ptrsW,ptrsW_null q]
  congr 1
theorem posE_length (a b:Nat):∀(ys:List Nd) (s:Nat),(posE a b s ys).length=(kk ys).length
 | [],_=>by simp [posE,kk]
 | y::ys,s=>by
  have h:kk (y::ys)=y.ks++kk ys:=by simp [kk]
  rw [h,List.length_append]
  simp only [posE,List.length_append,List.length_map,List.length_range,posE_length a b ys]
theorem elsW_elsP (a b:Nat):∀(ys:List Nd) (s:Nat) (nx:Int),elsW a b s nx ys=elsP a b ys (pwF nx (kk ys) (posE a b s ys))
 | [],_,_=>rfl
 | y::ys,s,nx=>by
  have h:kk (y::ys)=y.ks++kk ys:=by simp [kk]
  have hl:y.ks.length=((List.range y.ks.length).map (fun i=>s+a+i)).length:=by simp
  have hf:=pwF_length y.ks ((List.range y.ks.length).map (fun i=>s+a+i)) nx hl
  have e1:((s+a:Nat):Int)=(s:Int)+a:=by omega
  have e2:((s+a+b:Nat):Int)=(s:Int)+a+b:=by omega
  have ih:=elsW_elsP a b ys (s+a+b) (nx+canK y.ks)
  rw [e2] at ih
  have hp:=ptrsW_pwF y.ks (s+a) nx
  rw [e1] at hp
  simp only [elsW,elsP,h,posE,pwF_append _ _ _ _ _ hl]
  rw [List.take_left' hf,List.drop_left' hf,ptrsW_append,ptrsW_null,hp,ih]
  simp only [List.append_assoc]
theorem body_bodyP {x:Nd}(hv:validN x=true):bodyN x=bodyP x (pwL x):=by
 obtain⟨k,e,n,d,ks⟩:=x
 have hk:=valid_k hv
 simp only [Nd.k] at hk
 rcases hk with rfl|rfl|rfl
 ·rfl
 ·have hT:targN (.mk 1 e n d ks)=ks:=by rw [targN_mk,if_neg (by omega)]
  have hP:posL (.mk 1 e n d ks)=(List.range ks.length).map (fun i=>d.length / 8+i):=rfl
  unfold pwL
  rw [hT,hP]
  show wordsOf d++ptrsW _ _ ks=wordsOf d++_
  rw [ptrsW_pwF]
  rfl
 ·obtain⟨-,-,-,g4,g5,g6⟩:=head_lst hv
  by_cases h7:e=7
  ·subst h7
   have hT:targN (.mk 2 7 n d ks)=kk ks:=by rw [targN_mk,if_pos ⟨rfl,rfl⟩]
   have hP:posL (.mk 2 7 n d ks)=posE (uniD ks ks.length) (uniP ks ks.length) 1 ks:=rfl
   unfold pwL
   rw [hT,hP]
   show tagW n _ _::elsW _ _ 1 _ ks=tagW n _ _::elsP _ _ ks _
   have:=elsW_elsP (uniD ks ks.length) (uniP ks ks.length) ks 1 (canO (.mk 2 7 n d ks))
   exact congrArg (List.cons (tagW n (uniD ks ks.length) (uniP ks ks.length))) this
  ·have hT:targN (.mk 2 e n d ks)=ks:=by rw [targN_mk,if_neg (by omega)]
   have hP:posL (.mk 2 e n d ks)=(List.range ks.length).map (fun i=>0+i):=by
    show (if (2:Int)=1 then _ else if e=7 then _ else _)=_
    rw [if_neg (by decide),if_neg h7]
    rfl
   unfold pwL
   rw [hT,hP]
   have hb1:bodyN (.mk 2 e n d ks)=if e=6 then ptrsW 0 (canO (.mk 2 e n d ks)) ks else padW d (wordsI e n).toNat:=bodyW_2 h7
   have hb2:∀pw,bodyP (.mk 2 e n d ks) pw=if e=6 then pw else padW d (wordsI e n).toNat:=fun pw=>bodyPW_2 h7
   rw [hb1,hb2]
   by_cases h6:e=6
   ·rw [if_pos h6,if_pos h6]
    have:=ptrsW_pwF ks 0 (canO (.mk 2 e n d ks))
    rw [←this]
    rfl
   ·rw [if_neg h6,if_neg h6]
theorem nat_getD_map (f:Nat→Nat)(n i:Nat)(h:i<n):((List.range n).map f).getD i 0=f i:=by
 simp [List.getD_eq_getElem?_getD,h]
theorem getD_append_l (p q:List Nat)(i:Nat)(h:i<p.length):(p++q).getD i 0=p.getD i 0:=by
 simp [List.getD_eq_getElem?_getD,List.getElem?_append_left h]
theorem getD_append_r (p q:List Nat)(i:Nat)(h:p.length≤i):(p++q).getD i 0=q.getD (i-p.length) 0:=by
 simp [List.getD_eq_getElem?_getD,List.getElem?_append_right h]
theorem set_left (p q:List Int)(i:Nat)(v:Int)(h:i<p.length):(p++q).set i v=p.set i v++q:=List.set_append_left i v h
theorem set_right (p q:List Int)(i:Nat)(v:Int)(h:p.length≤i):(p++q).set i v=p++q.set (i-p.length) v:=List.set_append_right i v h
theorem elsP_one (a b:Nat):∀(ys:List Nd) (pw:List Int) (s i:Nat) (v:Int),(∀y∈ys,y.d.length≤8*a∧y.ks.length≤b)→pw.length=(kk ys).length→i<(kk ys).length →
  s≤(posE a b s ys).getD i 0∧(posE a b s ys).getD i 0-s<(elsP a b ys pw).length∧zat (elsP a b ys pw) ((posE a b s ys).getD i 0-s)=zat pw i∧(elsP a b ys pw).set ((posE a b s ys).getD i 0-s) v=elsP a b ys (pw.set i v)
 | [],_,_,_,_,_,_,hi=>by simp [kk] at hi
 | y::ys,pw,s,i,v,hf,hl,hi=>by
  obtain⟨h1,h2⟩:=hf y (List.mem_cons_self ..)
  have h:kk (y::ys)=y.ks++kk ys:=by simp [kk]
  rw [h,List.length_append] at hl hi
  have hpl:=padW_length h1
  have htl:(pw.take y.ks.length).length=y.ks.length:=by rw [List.length_take];omega
  have hrl:((List.range y.ks.length).map (fun i=>s+a+i)).length=y.ks.length:=by simp
  simp only [elsP,posE]
  by_cases hlt:i<y.ks.length
  ·rw [getD_append_l _ _ _ (by omega),nat_getD_map _ _ _ hlt]
   have e:s+a+i-s=a+i:=by omega
   rw [e]
   refine⟨by omega,?_,?_,?_⟩
   ·simp only [List.length_append,hpl,htl];omega
   ·rw [zat_append_right _ _ _ (by omega),hpl,Nat.add_sub_cancel_left,zat_append_left _ _ _ (by omega),zat_take _ _ _ hlt]
   ·rw [set_right _ _ _ _ (by omega),hpl,Nat.add_sub_cancel_left,set_left _ _ _ _ (by omega),List.take_set,List.drop_set_of_lt hlt]
  ·rw [getD_append_r _ _ _ (by omega),hrl]
   obtain⟨g1,g2,g3,g4⟩:=elsP_one a b ys (pw.drop y.ks.length) (s+a+b) (i-y.ks.length) v (fun z hz=>hf z (List.mem_cons_of_mem _ hz)) (by rw [List.length_drop];omega) (by omega)
   generalize (posE a b (s+a+b) ys).getD (i-y.ks.length) 0=q at *
   obtain⟨t,rfl⟩:∃t,q=s+a+b+t:=⟨q-(s+a+b),by omega⟩
   rw [Nat.add_sub_cancel_left] at g2 g3 g4
   have e:s+a+b+t-s=a+b+t:=by omega
   rw [e]
   have e2:a+b+t-a=b+t:=by omega
   have e3:b+t-y.ks.length-(b-y.ks.length)=t:=by omega
   refine⟨by omega,?_,?_,?_⟩
   ·simp only [List.length_append,hpl,htl,List.length_replicate];omega
   ·rw [zat_append_right _ _ _ (by omega),hpl,e2,zat_append_right _ _ _ (by omega),htl,zat_append_right _ _ _ (by simp;omega),List.length_replicate,e3,g3,zat_drop]
    congr 1
    omega
   ·rw [set_right _ _ _ _ (by omega),hpl,e2,set_right _ _ _ _ (by omega),htl,set_right _ _ _ _ (by simp;omega),List.length_replicate,e3,g4]
    rw [List.take_set_of_le (by omega),List.drop_set,if_neg hlt]
theorem body_one {x:Nd}(hv:validN x=true)(pw:List Int)(i:Nat)(v:Int)(hl:pw.length=(targN x).length)(hi:i<(targN x).length):
  (posL x).getD i 0<(bodyP x pw).length∧zat (bodyP x pw) ((posL x).getD i 0)=zat pw i∧(bodyP x pw).set ((posL x).getD i 0) v=bodyP x (pw.set i v):=by
 obtain⟨k,e,n,d,ks⟩:=x
 have hk:=valid_k hv
 simp only [Nd.k] at hk
 rcases hk with rfl|rfl|rfl
 ·rw [head_nul hv] at hi
  simp [targN_mk,nd0] at hi
 ·have hT:targN (.mk 1 e n d ks)=ks:=by rw [targN_mk,if_neg (by omega)]
  rw [hT] at hl hi
  have hP:posL (.mk 1 e n d ks)=(List.range ks.length).map (fun i=>d.length / 8+i):=rfl
  have hB:∀pw,bodyP (.mk 1 e n d ks) pw=wordsOf d++pw:=fun _=>rfl
  have hw:=wordsOf_length d
  rw [hP,nat_getD_map _ _ _ hi,hB,hB]
  refine⟨by rw [List.length_append];omega,?_,?_⟩
  ·rw [zat_append_right _ _ _ (by omega),hw,Nat.add_sub_cancel_left]
  ·rw [set_right _ _ _ _ (by omega),hw,Nat.add_sub_cancel_left]
 ·obtain⟨-,-,-,g4,g5,g6⟩:=head_lst hv
  by_cases h7:e=7
  ·subst h7
   have hT:targN (.mk 2 7 n d ks)=kk ks:=by rw [targN_mk,if_pos ⟨rfl,rfl⟩]
   have hP:posL (.mk 2 7 n d ks)=posE (uniD ks ks.length) (uniP ks ks.length) 1 ks:=rfl
   have hB:∀pw,bodyP (.mk 2 7 n d ks) pw=tagW n (uniD ks ks.length) (uniP ks ks.length)::elsP (uniD ks ks.length) (uniP ks ks.length) ks pw:=fun _=>rfl
   rw [hT] at hl hi
   obtain⟨q1,q2,q3,q4⟩:=elsP_one _ _ ks pw 1 i v (comp_fit hv) hl hi
   rw [hP,hB,hB]
   generalize (posE (uniD ks ks.length) (uniP ks ks.length) 1 ks).getD i 0=q at *
   obtain⟨t,rfl⟩:∃t,q=t+1:=⟨q-1,by omega⟩
   rw [Nat.add_sub_cancel] at q2 q3 q4
   refine⟨by rw [List.length_cons];omega,?_,by rw [List.set_cons_succ,q4]⟩
   rw [←q3]
   simp [zat]
  ·have hT:targN (.mk 2 e n d ks)=ks:=by rw [targN_mk,if_neg (by omega)]
   rw [hT] at hl hi
   have h6:e=6:=by
    rcases(by omega:e<6∨e=6) with h|h
    ·have:=(g6 h).1;omega
    ·exact h
   subst h6
   have hP:posL (.mk 2 6 n d ks)=(List.range ks.length).map (fun i=>0+i):=rfl
   have hB:∀pw,bodyP (.mk 2 6 n d ks) pw=pw:=fun _=>rfl
   rw [hP,nat_getD_map _ _ _ hi,hB,hB,Nat.zero_add]
   exact⟨by omega,rfl,rfl⟩
theorem posL_length {x:Nd}(hv:validN x=true):(posL x).length=(targN x).length:=by
 obtain⟨k,e,n,d,ks⟩:=x
 have hk:=valid_k hv
 simp only [Nd.k] at hk
 rcases hk with rfl|rfl|rfl
 ·rw [head_nul hv];rfl
 ·rw [targN_mk,if_neg (by omega)]
  show ((List.range ks.length).map _).length=_
  simp
 ·by_cases h7:e=7
  ·subst h7
   rw [targN_mk,if_pos ⟨rfl,rfl⟩]
   exact posE_length _ _ ks 1
  ·rw [targN_mk,if_neg (by omega)]
   have hP:posL (.mk 2 e n d ks)=(List.range ks.length).map (fun i=>0+i):=by
    show (if (2:Int)=1 then _ else if e=7 then _ else _)=_
    rw [if_neg (by decide),if_neg h7]
    rfl
   rw [hP]
   simp
theorem pwL_length {x:Nd}(hv:validN x=true):(pwL x).length=(targN x).length:=pwF_length _ _ _ (posL_length hv).symm
theorem pwF_zat:∀(ts:List Nd) (ps:List Nat) (nx:Int) (i:Nat) (hi:i<ts.length),ts.length=ps.length→zat (pwF nx ts ps) i=ptrW ts[i] (nx+canK (ts.take i)-(ps.getD i 0:Nat)-1)
 | [],_,_,_,hi,_=>by simp at hi
 | t::ts,[],_,_,_,h=>by simp at h
 | t::ts,p::ps,nx,0,_,_=>by simp [pwF,zat,canK]
 | t::ts,p::ps,nx,i+1,hi,h=>by
  have ih:=pwF_zat ts ps (nx+canN t) i (by simpa using hi) (by simpa using h)
  have e:zat (pwF nx (t::ts) (p::ps)) (i+1)=zat (pwF (nx+canN t) ts ps) i:=by simp [pwF,zat]
  rw [e,ih]
  simp only [List.getElem_cons_succ,List.take_succ_cons,canK,List.getD_cons_succ]
  congr 1
  omega
def fillW (x:Nd)(i:Nat):List Int:=bodyP x ((pwL x).take i++List.replicate ((targN x).length-i) 0)
theorem fillW_all {x:Nd}(hv:validN x=true):fillW x (targN x).length=bodyN x:=by
 unfold fillW
 rw [Nat.sub_self,List.replicate_zero,List.append_nil,←pwL_length hv,List.take_length,body_bodyP hv]
theorem fillW_step {x:Nd}(hv:validN x=true)(i:Nat)(hi:i<(targN x).length):
  (posL x).getD i 0<(fillW x i).length∧zat (fillW x i) ((posL x).getD i 0)=0∧(fillW x i).set ((posL x).getD i 0) (ptrW (targN x)[i] (canO x+canK ((targN x).take i)-((posL x).getD i 0:Nat)-1))=fillW x (i+1):=by
 have hl:=pwL_length hv
 have htl:((pwL x).take i).length=i:=by rw [List.length_take];omega
 obtain⟨h1,h2,h3⟩:=body_one hv ((pwL x).take i++List.replicate ((targN x).length-i) 0) i (ptrW (targN x)[i] (canO x+canK ((targN x).take i)-((posL x).getD i 0:Nat)-1)) (by rw [List.length_append,htl,List.length_replicate];omega) hi
 refine⟨h1,?_,?_⟩
 ·show zat (bodyP x _) _=0
  rw [h2,zat_append_right _ _ _ (by omega),zat_replicate]
 ·show (bodyP x _).set _ _=bodyP x _
  rw [h3]
  congr 1
  rw [set_right _ _ _ _ (by omega),htl,Nat.sub_self]
  obtain⟨m,hm⟩:∃m,(targN x).length-i=m+1:=⟨(targN x).length-i-1,by omega⟩
  have hz:=pwF_zat (targN x) (posL x) (canO x) i hi (posL_length hv).symm
  rw [hm,show (targN x).length-(i+1)=m by omega,List.replicate_succ,List.set_cons_zero,←hz]
  have e:(pwL x).take (i+1)=(pwL x).take i++[zat (pwL x) i]:=by
   rw [List.take_succ_eq_append_getElem (by omega)]
   simp [zat,List.getD_eq_getElem?_getD,hl,hi]
  rw [e,List.append_assoc]
  rfl
section
attribute [local simp] AllK KnowsV look Is
set_option maxRecDepth 100000 in
theorem BStart_any (d x o:Int)(w:World):Calls Tryz.prog 74 #[.agg #[.int .i64 d,.int .i64 x,.int .i64 o]] w fun e w'=>e=.returned (.agg #[.int .i64 (startI x)])∧Below w.heap.size w w':=by
  by_cases h:x<0
  · have HS:Hid (startI x=0):=Lib.hid (by simp [startI,h])
    go_enter Tryz.func74,Tryz.ntmps74
    go_wp2
    all_goals first
      | (exfalso;omega)
      | (refine bodyPost_ret (v:=.agg #[.int .i64 0]) (by simp [results,Tryz.results74,go_sem]) rfl ⟨by rw [HS.out],?_⟩
         exact((Below.refl _ _).alloc (Nat.le_refl _) _).alloc (by simp) _)
  · have HS:Hid (startI x=x):=Lib.hid (by simp [startI,h])
    go_enter Tryz.func74,Tryz.ntmps74
    go_wp2
    all_goals first
      | (exfalso;omega)
      | (have h0:x=0:=by omega
         subst h0
         refine bodyPost_ret (v:=.agg #[.int .i64 0]) (by simp [results,Tryz.results74,go_sem]) rfl ⟨by rw [HS.out],?_⟩
         exact((Below.refl _ _).alloc (Nat.le_refl _) _).alloc (by simp) _)
      | (refine bodyPost_ret (v:=.agg #[.int .i64 x]) (by simp [results,Tryz.results74,go_sem]) rfl ⟨by rw [HS.out],?_⟩
         exact((Below.refl _ _).alloc (Nat.le_refl _) _).alloc (by simp) _)
set_option maxRecDepth 100000 in
theorem BEnter_any (dep x o d:Int)(w:World):Calls Tryz.prog 94 #[.agg #[.int .i64 dep,.int .i64 x,.int .i64 o],.int .i64 d] w fun e w'=>e=.returned (.int .i64 (enterI dep d))∧Below w.heap.size w w':=by
 by_cases h:d≤dep
 ·have HS:Hid (enterI dep d=0):=Lib.hid (by simp [enterI,h])
  go_enter Tryz.func94,Tryz.ntmps94
  go_wp2
  go_ret
  exact⟨by rw [HS.out];rfl,(Below.refl _ _).alloc (Nat.le_refl _) _⟩
 ·have HS:Hid (enterI dep d=7):=Lib.hid (by simp [enterI,h])
  go_enter Tryz.func94,Tryz.ntmps94
  go_wp2
  go_ret
  exact⟨by rw [HS.out];rfl,(Below.refl _ _).alloc (Nat.le_refl _) _⟩
set_option maxRecDepth 100000 in
theorem BTake_no (b:Nat)(m c:Int)(w:World)(hb:Blk w b #[.int .i64 m])(h:m<c):
  Calls Tryz.prog 112 #[.pointer (some ⟨b,0,none⟩),.int .i64 c] w fun e w'=>e=.returned (.bool false)∧w=w':=by
 have hc:=hb.cell
 have hf:=hb.free
 go_enter Tryz.func112,Tryz.ntmps112
 go_wp2
 go_ret
 exact⟨rfl,rfl⟩
set_option maxRecDepth 100000 in
theorem BTake_yes (b:Nat)(m c:Int)(w:World)(hb:Blk w b #[.int .i64 m])(h:¬m<c)(hm1:m≤9223372036854775807)(hc0:0≤c)(hm0:-9223372036854775808≤m):
  Calls Tryz.prog 112 #[.pointer (some ⟨b,0,none⟩),.int .i64 c] w fun e w'=>e=.returned (.bool true)∧w'=w.setCell ⟨b,0,none⟩ (.int .i64 (m-c)):=by
 have hc:=hb.cell
 have hf:=hb.free
 go_enter Tryz.func112,Tryz.ntmps112
 go_wp2
 go_ret
 exact⟨rfl,rfl⟩
set_option maxRecDepth 100000 in
theorem BCharge_any (m c:Int)(w:World)(hm0:-9223372036854775808≤m)(hm1:m≤9223372036854775807)(hc:0≤c):
  Calls Tryz.prog 96 #[.agg #[.int .i64 m],.int .i64 c] w fun e w'=>e=.returned (.tuple #[.agg #[.int .i64 (chargeI m c)],.int .i64 (chargeE m c)])∧Below w.heap.size w w':=by
 by_cases h:m<c
 ·have HS:Hid (chargeI m c=m):=Lib.hid (by simp [chargeI,h])
  have HE:Hid (chargeE m c=8):=Lib.hid (by simp [chargeE,h])
  go_enter Tryz.func96,Tryz.ntmps96
  go_wp2_with fail
  refine(BTake_no _ m c _ (Blk.new (by simp)) h).mono ?_
  rintro e w' ⟨rfl,rfl⟩
  go_wp2
  refine bodyPost_ret (v:=.tuple #[.agg #[.int .i64 m],.int .i64 8]) (by simp [results,Tryz.results96,go_sem]) rfl ⟨by rw [HS.out,HE.out],?_⟩
  exact(((Below.refl _ _).alloc (Nat.le_refl _) _).alloc (by simp) _).alloc (by simp;omega) _
 ·have HS:Hid (chargeI m c=m-c):=Lib.hid (by simp [chargeI,h])
  have HE:Hid (chargeE m c=0):=Lib.hid (by simp [chargeE,h])
  go_enter Tryz.func96,Tryz.ntmps96
  go_wp2_with fail
  refine(BTake_yes _ m c _ (Blk.new (by simp)) (by omega) hm1 hc hm0).mono ?_
  rintro e w' ⟨rfl,rfl⟩
  go_wp2
  refine bodyPost_ret (v:=.tuple #[.agg #[.int .i64 (m-c)],.int .i64 0]) (by simp [results,Tryz.results96,go_sem]) rfl ⟨by rw [HS.out,HE.out],?_⟩
  exact(((Below.refl _ _).alloc (Nat.le_refl _) _).alloc (by simp) _).alloc (by simp;omega) _
end
def Unf (w:World)(A:Option Addr):Prop:=∀b off,A=some ⟨b,off,none⟩→∀o,w.frozen? ⟨b,o,none⟩=false
def NodU (lo:Nat)(x:Nd)(v:Value)(w:World):Prop:=∃A c B c2 hi,v=.agg #[.int .i64 x.k,.int .i64 x.e,.int .i64 x.n,.slice A x.d.length c,.slice B x.ks.length c2]∧hi≤w.heap.size∧NdO lo hi w A c B c2 x∧Unf w A∧Unf w B ∧
 ∀b off j A' l' c',B=some ⟨b,off,none⟩→j<x.ks.length→w.cell? ⟨b,off+j*5+3,none⟩=some (.slice A' l' c')→Unf w A'
theorem NodU.nod {lo:Nat}{x:Nd}{v:Value}{w:World}(h:NodU lo x v w):NodF lo x v w:=by
 obtain⟨A,c,B,c2,hi,h1,h2,h3,-⟩:=h
 exact⟨A,c,B,c2,hi,h1,h2,h3⟩
def gone (w:World)(b:Nat):World:={ w with heap:=w.heap.setIfInBounds b (.cells #[] 0) }
theorem gone_heap (w:World)(b k:Nat)(h:k≠b):(gone w b).heap[k]?=w.heap[k]?:=by
 unfold gone
 rw [Array.getElem?_setIfInBounds_ne (by omega)]
theorem gone_cell (w:World)(b o:Nat):(gone w b).cell? ⟨b,o,none⟩=none:=by
 unfold gone World.cell?
 by_cases h:b<w.heap.size
 ·simp [h]
 ·simp [Array.getElem?_eq_none (Nat.le_of_not_lt h),h]
theorem NdO.data {lo hi:Nat}{w:World}{A:Option Addr}{c:Nat}{B:Option Addr}{c2:Nat}{x:Nd}(h:NdO lo hi w A c B c2 x)(h0:0<x.d.length):∃b off,A=some ⟨b,off,none⟩∧lo≤b∧b<hi:=by
 obtain⟨k,e,n,d,ks⟩:=x
 obtain⟨b,off,hA,hc⟩:=h.nd.open.2.2.2.1.at (i:=0) h0
 refine⟨b,off,hA,Classical.byContradiction fun hn=>?_⟩
 have h1:=h (gone w b) (fun k hk1 hk2=>gone_heap w b k (fun e=>hn (e ▸ ⟨hk1,hk2⟩)))
 obtain⟨b',off',hA',hc'⟩:=h1.open.2.2.2.1.at (i:=0) h0
 rw [hA] at hA'
 injection hA' with e
 injection e with e1 e2
 subst e1
 have:=hc' 0 h0
 rw [gone_cell] at this
 cases this
theorem NdO.row {lo hi:Nat}{w:World}{A:Option Addr}{c:Nat}{B:Option Addr}{c2:Nat}{x:Nd}(h:NdO lo hi w A c B c2 x){j:Nat}(hj:j<x.ks.length):∃b off,B=some ⟨b,off,none⟩∧lo≤b∧b<hi:=by
 obtain⟨b,off,A',c',B',c2',hB,h0,-⟩:=h.nd.kidsX.1.at hj
 refine⟨b,off,hB,Classical.byContradiction fun hn=>?_⟩
 have h1:=h (gone w b) (fun k hk1 hk2=>gone_heap w b k (fun e=>hn (e ▸ ⟨hk1,hk2⟩)))
 obtain⟨b',off',_,_,_,_,hB',h0',-⟩:=h1.kidsX.1.at hj
 rw [hB] at hB'
 injection hB' with e
 injection e with e1 e2
 subst e1
 rw [gone_cell] at h0'
 cases h0'
def Byt (w:World)(base top:Nat)(A:Option Addr)(n:Nat):Prop:=n=0∨∃b off,A=some ⟨b,off,none⟩∧base≤b∧b<top∧(∀o,w.frozen? ⟨b,o,none⟩=false)∧∀j,j<n→∃z:Int,0≤z∧z<256∧w.cell? ⟨b,off+j,none⟩=some (.int .u8 z)
def Rws (w:World)(base top b off:Nat)(FA:Nat→Option Addr)(FL FC:Nat→Nat)(i kl:Nat):Prop:=base≤b∧b<top∧(∀o,w.frozen? ⟨b,o,none⟩=false)∧∀j,i≤j→j<kl→(∃k e n:Int,∃B l c,w.cell? ⟨b,off+j*5,none⟩=some (.int .i64 k)∧w.cell? ⟨b,off+j*5+1,none⟩=some (.int .i64 e)∧w.cell? ⟨b,off+j*5+2,none⟩=some (.int .i64 n) ∧
 w.cell? ⟨b,off+j*5+3,none⟩=some (.slice (FA j) (FL j) (FC j))∧w.cell? ⟨b,off+j*5+4,none⟩=some (.slice B l c))∧FL j≤FC j∧FC j≤9223372036854775807∧Byt w base top (FA j) (FL j)
theorem cell_same {w:World}{p:Addr}{u v:Value}(h:w.cell? p=some u):(w.setCell p v).cell? p=some v:=World.cell?_setCell_same' _ _ _ (by rw [h];rfl)
theorem cell_diff {w:World}{p q:Addr}{v:Value}(h:p≠q):(w.setCell p v).cell? q=w.cell? q:=World.cell?_setCell_other w p q v h
theorem Byt.put {w:World}{base top n:Nat}{A:Option Addr}(h:Byt w base top A n){p:Addr}{z z':Int}(hp:w.cell? p=some (.int .u8 z))(h0:0≤z')(h1:z'<256):Byt (w.setCell p (.int .u8 z')) base top A n:=by
 rcases h with h|⟨b,off,hA,hb,ht,hf,hc⟩
 ·exact .inl h
 ·refine .inr ⟨b,off,hA,hb,ht,fun o=>by rw [World.frozen?_setCell];exact hf o,fun j hj=>?_⟩
  by_cases e:p=⟨b,off+j,none⟩
  ·subst e
   exact⟨z',h0,h1,cell_same hp⟩
  ·obtain⟨y,h2,h3,h4⟩:=hc j hj
   exact⟨y,h2,h3,by rw [cell_diff e];exact h4⟩
theorem Byt.far {w:World}{base top n:Nat}{A:Option Addr}(h:Byt w base top A n){p:Addr}{u v:Value}(hp:w.cell? p=some u)(hu:∀z,u≠.int .u8 z):Byt (w.setCell p v) base top A n:=by
 rcases h with h|⟨b,off,hA,hb,ht,hf,hc⟩
 ·exact .inl h
 ·refine .inr ⟨b,off,hA,hb,ht,fun o=>by rw [World.frozen?_setCell];exact hf o,fun j hj=>?_⟩
  obtain⟨y,h2,h3,h4⟩:=hc j hj
  have e:p≠⟨b,off+j,none⟩:=by
   intro e
   subst e
   rw [h4] at hp
   injection hp with hp
   exact hu _ hp.symm
  exact⟨y,h2,h3,by rw [cell_diff e];exact h4⟩
theorem Rws.put {w:World}{base top b off i kl:Nat}{FA:Nat→Option Addr}{FL FC:Nat→Nat}(h:Rws w base top b off FA FL FC i kl){p:Addr}{z z':Int}(hp:w.cell? p=some (.int .u8 z))(h0:0≤z')(h1:z'<256):Rws (w.setCell p (.int .u8 z')) base top b off FA FL FC i kl:=by
 obtain⟨g1,g2,g3,g4⟩:=h
 refine⟨g1,g2,fun o=>by rw [World.frozen?_setCell];exact g3 o,fun j hi hj=>?_⟩
 obtain⟨⟨k,e,n,B,l,c,k0,k1,k2,k3,k4⟩,l1,l2,hb⟩:=g4 j hi hj
 have hd:∀q u,w.cell? q=some u→(∀z,u≠.int .u8 z)→(w.setCell p (.int .u8 z')).cell? q=some u:=by
  intro q u hq hu
  rw [cell_diff (fun e=>by subst e;rw [hp] at hq;injection hq with hq;exact hu _ hq.symm),hq]
 exact⟨⟨k,e,n,B,l,c,hd _ _ k0 (fun z h=>by cases h),hd _ _ k1 (fun z h=>by cases h),hd _ _ k2 (fun z h=>by cases h),hd _ _ k3 (fun z h=>by cases h),hd _ _ k4 (fun z h=>by cases h)⟩,l1,l2,hb.put hp h0 h1⟩
theorem Rws.cell {w:World}{base top b off i kl o:Nat}{FA:Nat→Option Addr}{FL FC:Nat→Nat}(h:Rws w base top b off FA FL FC (i+1) kl)(ho:o<5){u v:Value}(hp:w.cell? ⟨b,off+i*5+o,none⟩=some u)(hu:∀z,u≠.int .u8 z):Rws (w.setCell ⟨b,off+i*5+o,none⟩ v) base top b off FA FL FC (i+1) kl:=by
 obtain⟨g1,g2,g3,g4⟩:=h
 refine⟨g1,g2,fun o=>by rw [World.frozen?_setCell];exact g3 o,fun j hi hj=>?_⟩
 obtain⟨⟨k,e,n,B,l,c,k0,k1,k2,k3,k4⟩,l1,l2,hb⟩:=g4 j hi hj
 have hd:∀q,off+i*5+o<q→(w.setCell ⟨b,off+i*5+o,none⟩ v).cell? ⟨b,q,none⟩=w.cell? ⟨b,q,none⟩:=by
  intro q hq
  exact cell_diff (fun e=>by injection e with e1 e2;omega)
 exact⟨⟨k,e,n,B,l,c,by rw [hd _ (by omega)];exact k0,by rw [hd _ (by omega)];exact k1,by rw [hd _ (by omega)];exact k2,by rw [hd _ (by omega)];exact k3,by rw [hd _ (by omega)];exact k4⟩,l1,l2,hb.far hp hu⟩
theorem Rws.next {w:World}{base top b off i kl:Nat}{FA:Nat→Option Addr}{FL FC:Nat→Nat}(h:Rws w base top b off FA FL FC i kl)(hi:i<kl)(v0 v1 v2:Int)(A3:Option Addr)(l3 c3:Nat)(v4:Value):
  Rws (((((w.setCell ⟨b,off+i*5,none⟩ (.int .i64 v0)).setCell ⟨b,off+i*5+1,none⟩ (.int .i64 v1)).setCell ⟨b,off+i*5+2,none⟩ (.int .i64 v2)).setCell ⟨b,off+i*5+3,none⟩ (.slice A3 l3 c3)).setCell ⟨b,off+i*5+4,none⟩ v4) base top b off FA FL FC (i+1) kl:=by
 obtain⟨⟨k,e,n,B,l,c,k0,k1,k2,k3,k4⟩,-,-,-⟩:=h.2.2.2 i (Nat.le_refl _) hi
 have h1:Rws w base top b off FA FL FC (i+1) kl:=⟨h.1,h.2.1,h.2.2.1,fun j hj=>h.2.2.2 j (by omega)⟩
 have d:∀(w:World) (p q:Nat) v,p≠q→(w.setCell ⟨b,p,none⟩ v).cell? ⟨b,q,none⟩=w.cell? ⟨b,q,none⟩:=fun w p q v hpq=>cell_diff (fun e=>by injection e with e1 e2;exact hpq e2)
 refine(((((h1.cell (o:=0) (by omega) k0 (fun z h=>by cases h)).cell (o:=1) (u:=.int .i64 e) (by omega) ?_ (fun z h=>by cases h)).cell (o:=2) (u:=.int .i64 n) (by omega) ?_ (fun z h=>by cases h)).cell (o:=3) (u:=.slice (FA i) (FL i) (FC i)) (by omega) ?_ (fun z h=>by cases h)).cell (o:=4) (u:=.slice B l c) (by omega) ?_ (fun z h=>by cases h))
 ·rw [d _ _ _ _ (by omega)];exact k1
 ·rw [d _ _ _ _ (by omega),d _ _ _ _ (by omega)];exact k2
 ·rw [d _ _ _ _ (by omega),d _ _ _ _ (by omega),d _ _ _ _ (by omega)];exact k3
 ·rw [d _ _ _ _ (by omega),d _ _ _ _ (by omega),d _ _ _ _ (by omega),d _ _ _ _ (by omega)];exact k4
theorem NdO.byt {lo hi:Nat}{w:World}{A:Option Addr}{c:Nat}{B:Option Addr}{c2:Nat}{x:Nd}(h:NdO lo hi w A c B c2 x)(hU:Unf w A):Byt w lo hi A x.d.length:=by
 by_cases h0:x.d.length=0
 ·exact .inl h0
 obtain⟨b,off,hA,h1,h2⟩:=h.data (by omega)
 obtain⟨k,e,n,d,ks⟩:=x
 have hb:=h.nd.open.2.2.2.2.1
 obtain⟨b',off',hA',hc⟩:=h.nd.open.2.2.2.1.at (i:=0) (by simp only [Nd.d] at h0;omega)
 rw [hA] at hA'
 injection hA' with e
 injection e with e1 e2
 subst e1 e2
 exact .inr ⟨b,off,hA,h1,h2,hU b off hA,fun j hj=>⟨zat d j,(hb.at j).1,(hb.at j).2,hc j hj⟩⟩
theorem Byt.below {w w':World}{base top n N:Nat}{A:Option Addr}(h:Byt w base top A n)(hb:Below N w w')(hN:top≤N):Byt w' base top A n:=by
 rcases h with h|⟨b,off,hA,h1,h2,hf,hc⟩
 ·exact .inl h
 ·refine .inr ⟨b,off,hA,h1,h2,fun o=>?_,fun j hj=>?_⟩
  ·rw [hb.frozen (p:=⟨b,o,none⟩) (by show b<N;omega)];exact hf o
  ·obtain⟨z,z0,z1,hz⟩:=hc j hj
   exact⟨z,z0,z1,by rw [hb.cell (p:=⟨b,off+j,none⟩) (by show b<N;omega)];exact hz⟩
theorem Rws.below {w w':World}{base top b off i kl N:Nat}{FA:Nat→Option Addr}{FL FC:Nat→Nat}(h:Rws w base top b off FA FL FC i kl)(hb:Below N w w')(hN:top≤N):Rws w' base top b off FA FL FC i kl:=by
 obtain⟨g1,g2,g3,g4⟩:=h
 refine⟨g1,g2,fun o=>by rw [hb.frozen (p:=⟨b,o,none⟩) (by show b<N;omega)];exact g3 o,fun j hi hj=>?_⟩
 obtain⟨⟨k,e,n,B,l,c,k0,k1,k2,k3,k4⟩,l1,l2,hbt⟩:=g4 j hi hj
 have hc:=fun o=>hb.cell (p:=⟨b,o,none⟩) (by show b<N;omega)
 exact⟨⟨k,e,n,B,l,c,(hc _).trans k0,(hc _).trans k1,(hc _).trans k2,(hc _).trans k3,(hc _).trans k4⟩,l1,l2,hbt.below hb hN⟩
def KB (b:Nat):Nat→Prop:=fun k=>k=b
theorem bel_keeps {b:Nat}{w w':World}(h:Keeps (KB b) w w')(hb:b≤w.heap.size):Below b w w':=h.below hb (fun k hk=>by unfold KB at hk;omega)
theorem keeps_alloc {b:Nat}{w w':World}(h:Keeps (KB b) w w')(o:Obj):Keeps (KB b) w (w'.alloc o):=h.trans (keeps_of ((Below.refl _ _).alloc (Nat.le_refl _) o))
theorem keeps_set {b:Nat}{w w':World}(h:Keeps (KB b) w w'){p:Addr}(hp:p.block=b∨w.heap.size≤p.block)(v:Value):Keeps (KB b) w (w'.setCell p v):=by
  refine⟨h.os,h.tape,h.output,by simpa using h.size,fun k hk hS=>?_⟩
  rw [Below.heap_setCell _ _ _ _ (by rcases hp with e|e;·intro e2;exact hS (e2.trans e)
                                     · omega)]
  exact h.block k hk hS
theorem keeps_on {b:Nat}{w w1 w2:World}(h:Keeps (KB b) w w1)(hb:Below w1.heap.size w1 w2):Keeps (KB b) w w2:=h.trans (keeps_of hb)
theorem NodF.keeps {b lo:Nat}{x:Nd}{v:Value}{w w':World}(h:NodF lo x v w)(hk:Keeps (KB b) w w')(hb:b<lo):NodF lo x v w':=by
 obtain⟨A,c,B,c2,hi,h1,h2,h3⟩:=h
 exact⟨A,c,B,c2,hi,h1,Nat.le_trans h2 hk.size,h3.to fun k k1 k2=>hk.block k (by omega) (by unfold KB;omega)⟩
theorem got_keeps {b:Nat}{w w':World}{base:Nat}{E:TypeId}{k:IntKind}{v:Value}{zs:List Int}(h:Got w base E k v zs)(hk:Keeps (KB b) w w')(hb:b<base):Got w' base E k v zs:=
 got_agree h fun q h1 h2=>hk.block q h2 (by unfold KB;omega)
structure RowG (q n:Nat) (ts:List Nd) (W:World):Prop where
 cell:∀o,o<n*5→∃u,W.cell? ⟨q,o,none⟩=some u
 free:∀o,W.frozen? ⟨q,o,none⟩=false
 lt:q<W.heap.size
 done:∀j (hj:j<ts.length),∃A' c' B' c2' lo hi,q<lo∧hi≤W.heap.size∧NdO lo hi W A' c' B' c2' (ts[j])∧∀o,o<5→W.cell? ⟨q,j*5+o,none⟩=(fiveC (ts[j]) A' c' B' c2')[o]?
theorem RowG.agree {q n:Nat}{ts:List Nd}{W W':World}(h:RowG q n ts W)(hs:W.heap.size≤W'.heap.size)(hw:∀k,q≤k→k<W.heap.size→W'.heap[k]?=W.heap[k]?):RowG q n ts W':=by
 have hlt:=h.lt
 have hc:∀o,W'.cell? ⟨q,o,none⟩=W.cell? ⟨q,o,none⟩:=fun o=>World.cell?_of_block (hw q (Nat.le_refl _) hlt)
 refine⟨fun o ho=>?_,fun o=>?_,Nat.lt_of_lt_of_le hlt hs,fun j hj=>?_⟩
 ·obtain⟨u,hu⟩:=h.cell o ho
  exact⟨u,(hc o).trans hu⟩
 ·have:=h.free o
  unfold World.frozen? at this ⊢
  rw [show W'.heap[(⟨q,o,none⟩:Addr).block]?=W.heap[(⟨q,o,none⟩:Addr).block]? from hw q (Nat.le_refl _) hlt]
  exact this
 ·obtain⟨A',c',B',c2',lo,hi',h1,h2,h3,h5⟩:=h.done j hj
  exact⟨A',c',B',c2',lo,hi',h1,Nat.le_trans h2 hs,h3.to fun k k1 k2=>hw k (by omega) (by omega),fun o ho=>(hc _).trans (h5 o ho)⟩
theorem RowG.below {q n:Nat}{ts:List Nd}{W W':World}(h:RowG q n ts W)(hb:Below W.heap.size W W'):RowG q n ts W':=h.agree hb.size fun k _ h2=>hb.block k h2
theorem RowG.keeps {b q n:Nat}{ts:List Nd}{W W':World}(h:RowG q n ts W)(hk:Keeps (KB b) W W')(hb:b<q):RowG q n ts W':=h.agree hk.size fun k h1 h2=>hk.block k h2 (by unfold KB;omega)
theorem RowG.alloc {q n:Nat}{ts:List Nd}{W:World}(h:RowG q n ts W)(o:Obj):RowG q n ts (W.alloc o):=h.below ((Below.refl _ _).alloc (Nat.le_refl _) o)
theorem RowG.other {q n:Nat}{ts:List Nd}{W:World}(h:RowG q n ts W){p:Addr}(hp:p.block<q)(v:Value):RowG q n ts (W.setCell p v):=
 h.agree (by simp) fun k h1 _=>Below.heap_setCell _ _ _ _ (by omega)
theorem RowG.set {q n:Nat}{ts:List Nd}{W:World}(h:RowG q n ts W){p:Nat}(hp:ts.length*5≤p)(v:Value):RowG q n ts (W.setCell ⟨q,p,none⟩ v):=by
 have hd:∀o,p≠o→(W.setCell ⟨q,p,none⟩ v).cell? ⟨q,o,none⟩=W.cell? ⟨q,o,none⟩:=fun o ho=>cell_diff (fun e=>by injection e with e1 e2;exact ho e2)
 refine⟨fun o ho=>?_,fun o=>by rw [World.frozen?_setCell];exact h.free o,by simpa using h.lt,fun j hj=>?_⟩
 ·obtain⟨u,hu⟩:=h.cell o ho
  by_cases e:p=o
  ·subst e
   exact⟨v,cell_same hu⟩
  ·exact⟨u,(hd o e).trans hu⟩
 ·obtain⟨A',c',B',c2',lo,hi',h1,h2,h3,h5⟩:=h.done j hj
  exact⟨A',c',B',c2',lo,hi',h1,by simpa using h2,h3.to fun k k1 _=>Below.heap_setCell _ _ _ _ (by show k≠q;omega),fun o ho=>(hd _ (by omega)).trans (h5 o ho)⟩
theorem RowG.next {q n i:Nat}{ts:List Nd}{W:World}{x:Nd}(h:RowG q n ts W)(hi:ts.length=i)(hn:i<n){A':Option Addr}{c':Nat}{B':Option Addr}{c2' lo hi':Nat}(h1:q<lo)(h2:hi'≤W.heap.size)(h3:NdO lo hi' W A' c' B' c2' x):
  RowG q n (ts++[x]) (((((W.setCell ⟨q,i*5,none⟩ (.int .i64 x.k)).setCell ⟨q,i*5+1,none⟩ (.int .i64 x.e)).setCell ⟨q,i*5+2,none⟩ (.int .i64 x.n)).setCell ⟨q,i*5+3,none⟩ (.slice A' x.d.length c')).setCell ⟨q,i*5+4,none⟩ (.slice B' x.ks.length c2')):=by
 subst hi
 have hr:=((((h.set (p:=ts.length*5) (by omega) (.int .i64 x.k)).set (p:=ts.length*5+1) (by omega) (.int .i64 x.e)).set (p:=ts.length*5+2) (by omega) (.int .i64 x.n)).set (p:=ts.length*5+3) (by omega) (.slice A' x.d.length c')).set (p:=ts.length*5+4) (by omega) (.slice B' x.ks.length c2')
 refine⟨hr.cell,hr.free,hr.lt,fun j hj=>?_⟩
 by_cases e:j<ts.length
 ·have:=hr.done j e
  rw [List.getElem_append_left e]
  exact this
 have hjl:j=ts.length:=by rw [List.length_append,List.length_singleton] at hj;omega
 subst hjl
 have hx:(ts++[x])[ts.length]'hj=x:=by rw [List.getElem_append_right (Nat.le_refl _)];simp
 rw [hx]
 have hg:∀(w:World) k p v,lo≤k→(w.setCell ⟨q,p,none⟩ v).heap[k]?=w.heap[k]?:=fun w k p v hk=>Below.heap_setCell _ _ _ _ (by show k≠q;omega)
 refine⟨A',c',B',c2',lo,hi',h1,by simpa using h2,h3.to fun k k1 _=>by rw [hg _ _ _ _ k1,hg _ _ _ _ k1,hg _ _ _ _ k1,hg _ _ _ _ k1,hg _ _ _ _ k1],fun o ho=>?_⟩
 have d:∀(w:World) (p r:Nat) v,p≠r→(w.setCell ⟨q,p,none⟩ v).cell? ⟨q,r,none⟩=w.cell? ⟨q,r,none⟩:=fun w p r v hpr=>cell_diff (fun e=>by injection e with e1 e2;exact hpr e2)
 have c0:=fun o (ho:o<5)=>h.cell (ts.length*5+o) (by omega)
 have:o=0∨o=1∨o=2∨o=3∨o=4:=by omega
 rcases this with rfl|rfl|rfl|rfl|rfl
 ·obtain⟨u,hu⟩:=c0 0 (by omega)
  rw [d _ _ _ _ (by omega),d _ _ _ _ (by omega),d _ _ _ _ (by omega),d _ _ _ _ (by omega)]
  exact cell_same hu
 ·obtain⟨u,hu⟩:=c0 1 (by omega)
  rw [d _ _ _ _ (by omega),d _ _ _ _ (by omega),d _ _ _ _ (by omega)]
  exact cell_same (u:=u) (by rw [d _ _ _ _ (by omega)];exact hu)
 ·obtain⟨u,hu⟩:=c0 2 (by omega)
  rw [d _ _ _ _ (by omega),d _ _ _ _ (by omega)]
  exact cell_same (u:=u) (by rw [d _ _ _ _ (by omega),d _ _ _ _ (by omega)];exact hu)
 ·obtain⟨u,hu⟩:=c0 3 (by omega)
  rw [d _ _ _ _ (by omega)]
  exact cell_same (u:=u) (by rw [d _ _ _ _ (by omega),d _ _ _ _ (by omega),d _ _ _ _ (by omega)];exact hu)
 ·obtain⟨u,hu⟩:=c0 4 (by omega)
  exact cell_same (u:=u) (by rw [d _ _ _ _ (by omega),d _ _ _ _ (by omega),d _ _ _ _ (by omega),d _ _ _ _ (by omega)];exact hu)
theorem RowG.made {q n base:Nat}{W:World}{vs:List Value}(h:W.ownsRow base 39 5 (.slice (some ⟨q,0,none⟩) n n) n vs):RowG q n [] W:=by
 refine⟨fun o ho=>?_,fun o=>World.ownsRow.frozenAt h o,(h.lt q rfl).2,fun j hj=>by simp at hj⟩
 have hl:o<vs.length:=by rw [h.1];exact ho
 exact⟨vs[o],by rw [World.ownsRow.cellAt h o ho,List.getElem?_eq_getElem hl]⟩
theorem RowG.nod {q n base lo:Nat}{ts:List Nd}{W:World}(h:RowG q n ts W)(hlo:lo≤base)(hq:base≤q)(hl:ts.length=n)(hm:n≤maxLen){k e m:Int}{d:List Int}{A:Option Addr}{c:Nat}
  (hk:-9223372036854775808≤k∧k≤9223372036854775807) (he:-9223372036854775808≤e∧e≤9223372036854775807) (hn:-9223372036854775808≤m∧m≤9223372036854775807)
  (hd:Got W base 5 .u8 (.slice A d.length c) d) (hby:Bts d):NodF lo (.mk k e m d ts) (.agg #[.int .i64 k,.int .i64 e,.int .i64 m,.slice A d.length c,.slice (some ⟨q,0,none⟩) n n]) W:=by
 refine⟨A,c,some ⟨q,0,none⟩,n,W.heap.size,by rw [←hl];rfl,Nat.le_refl _,NdO.wide (lo:=base) (hi:=W.heap.size) ?_ hlo (Nat.le_refl _)⟩
 intro V hV
 have hdV:Got V base 5 .u8 (.slice A d.length c) d:=got_agree hd fun g h1 h2=>hV g h1 h2
 obtain⟨A0,c0,he0,hc0,hm0,hri,hnil⟩:=hdV.full
 injection he0 with e1 e2 e3
 subst e1 e3
 have hcell:∀o,V.cell? ⟨q,o,none⟩=W.cell? ⟨q,o,none⟩:=fun o=>World.cell?_of_block (w:=W) (hV q hq h.lt)
 have hkid:∀j (hj:j<ts.length),∃A' c' B' c2',NdR V A' c' B' c2' (ts[j])∧∀o,o<5→V.cell? ⟨q,j*5+o,none⟩=(fiveC (ts[j]) A' c' B' c2')[o]?:=by
  intro j hj
  obtain⟨A',c',B',c2',lo,hi,k1,k2,k3,k5⟩:=h.done j hj
  exact⟨A',c',B',c2',k3 V fun g g1 g2=>hV g (by omega) (by omega),fun o ho=>(hcell _).trans (k5 o ho)⟩
 refine .mk k e m d ts A c _ n (fun j=>if h:j<ts.length then Classical.choose (hkid j h) else none)
  (fun j=>if h:j<ts.length then Classical.choose (Classical.choose_spec (hkid j h)) else 0)
  (fun j=>if h:j<ts.length then Classical.choose (Classical.choose_spec (Classical.choose_spec (hkid j h))) else none)
  (fun j=>if h:j<ts.length then Classical.choose (Classical.choose_spec (Classical.choose_spec (Classical.choose_spec (hkid j h)))) else 0)
  hk he hn hri hby hc0 hm0 hnil (by omega) hm (fun h=>by cases h) ?_ ?_
 ·refine .inr ⟨q,0,rfl,fun j x hj=>?_⟩
  have hjl:j<ts.length:=(List.getElem?_eq_some_iff.1 hj).1
  obtain rfl:ts[j]=x:=(List.getElem?_eq_some_iff.1 hj).2
  have hspec:=Classical.choose_spec (Classical.choose_spec (Classical.choose_spec (Classical.choose_spec (hkid j hjl))))
  simp only [dif_pos hjl,Nat.zero_add]
  exact⟨hspec.2 0 (by omega),hspec.2 1 (by omega),hspec.2 2 (by omega),hspec.2 3 (by omega),hspec.2 4 (by omega)⟩
 ·intro j x hj
  have hjl:j<ts.length:=(List.getElem?_eq_some_iff.1 hj).1
  obtain rfl:ts[j]=x:=(List.getElem?_eq_some_iff.1 hj).2
  have hspec:=Classical.choose_spec (Classical.choose_spec (Classical.choose_spec (Classical.choose_spec (hkid j hjl))))
  simp only [dif_pos hjl]
  exact hspec.1
theorem KsR.take {w:World}{B:Option Addr}{ts:List Nd}(h:KsR w B ts)(K:Nat):KsR w B (ts.take K):=by
 rcases h with rfl|⟨b,off,hB,h⟩
 ·exact .inl (by simp)
 ·refine .inr ⟨b,off,hB,fun j hj=>?_⟩
  rw [List.length_take] at hj
  have:=h j (by omega)
  rw [List.getElem_take]
  exact this
def Unv (w:World)(A:Option Addr):Prop:=∀b off,A=some ⟨b,off,none⟩→b<w.heap.size∧∀o,w.frozen? ⟨b,o,none⟩=false
theorem Unv.unf {w:World}{A:Option Addr}(h:Unv w A):Unf w A:=fun b off e=>(h b off e).2
theorem Unv.below {w w':World}{A:Option Addr}(h:Unv w A){N:Nat}(hb:Below N w w')(hN:w.heap.size≤N):Unv w' A:=by
 intro b off e
 obtain⟨h1,h2⟩:=h b off e
 exact⟨Nat.lt_of_lt_of_le h1 hb.size,fun o=>by rw [hb.frozen (p:=⟨b,o,none⟩) (by show b<N;omega)];exact h2 o⟩
theorem Unv.set {w:World}{A:Option Addr}(h:Unv w A)(p:Addr)(v:Value):Unv (w.setCell p v) A:=by
 intro b off e
 obtain⟨h1,h2⟩:=h b off e
 exact⟨by simpa using h1,fun o=>by rw [World.frozen?_setCell];exact h2 o⟩
structure RowT (q n i:Nat) (ts:List Nd) (W:World):Prop where
 cell:∀o,o<n*5→∃u,W.cell? ⟨q,o,none⟩=some u
 free:∀o,W.frozen? ⟨q,o,none⟩=false
 lt:q<W.heap.size
 done:∀j (hj:j<ts.length),j<i→∃A' c' B' c2' lo hi,q<lo∧hi≤W.heap.size∧NdO lo hi W A' c' B' c2' (ts[j])∧Unv W A'∧∀o,o<5→W.cell? ⟨q,j*5+o,none⟩=(fiveC (ts[j]) A' c' B' c2')[o]?
theorem RowT.below {q n i:Nat}{ts:List Nd}{W W':World}(h:RowT q n i ts W){N:Nat}(hb:Below N W W')(hN:W.heap.size≤N):RowT q n i ts W':=by
 have hlt:=h.lt
 have hc:∀o,W'.cell? ⟨q,o,none⟩=W.cell? ⟨q,o,none⟩:=fun o=>hb.cell (p:=⟨q,o,none⟩) (by show q<N;omega)
 refine⟨fun o ho=>?_,fun o=>?_,Nat.lt_of_lt_of_le hlt hb.size,fun j hj hi=>?_⟩
 ·obtain⟨u,hu⟩:=h.cell o ho
  exact⟨u,(hc o).trans hu⟩
 ·rw [hb.frozen (p:=⟨q,o,none⟩) (by show q<N;omega)]
  exact h.free o
 ·obtain⟨A',c',B',c2',lo,hi',h1,h2,h3,h4,h5⟩:=h.done j hj hi
  exact⟨A',c',B',c2',lo,hi',h1,Nat.le_trans h2 hb.size,h3.below hb (by omega),h4.below hb hN,fun o ho=>(hc _).trans (h5 o ho)⟩
theorem RowT.set {q n i:Nat}{ts:List Nd}{W:World}(h:RowT q n i ts W){p:Nat}(hp:i*5≤p)(v:Value):RowT q n i ts (W.setCell ⟨q,p,none⟩ v):=by
 have hd:∀o,p≠o→(W.setCell ⟨q,p,none⟩ v).cell? ⟨q,o,none⟩=W.cell? ⟨q,o,none⟩:=fun o ho=>cell_diff (fun e=>by injection e with e1 e2;exact ho e2)
 refine⟨fun o ho=>?_,fun o=>by rw [World.frozen?_setCell];exact h.free o,by simpa using h.lt,fun j hj hi=>?_⟩
 ·obtain⟨u,hu⟩:=h.cell o ho
  by_cases e:p=o
  ·subst e
   exact⟨v,cell_same hu⟩
  ·exact⟨u,(hd o e).trans hu⟩
 ·obtain⟨A',c',B',c2',lo,hi',h1,h2,h3,h4,h5⟩:=h.done j hj hi
  exact⟨A',c',B',c2',lo,hi',h1,by simpa using h2,h3.to fun k k1 _=>Below.heap_setCell _ _ _ _ (by show k≠q;omega),h4.set _ _,fun o ho=>(hd _ (by omega)).trans (h5 o ho)⟩
theorem RowT.other {q n i:Nat}{ts:List Nd}{W:World}(h:RowT q n i ts W){p:Addr}(hp:p.block<q)(v:Value):RowT q n i ts (W.setCell p v):=by
 have hd:∀o,(W.setCell p v).cell? ⟨q,o,none⟩=W.cell? ⟨q,o,none⟩:=fun o=>cell_diff (fun e=>by subst e;exact Nat.lt_irrefl _ hp)
 refine⟨fun o ho=>?_,fun o=>by rw [World.frozen?_setCell];exact h.free o,by simpa using h.lt,fun j hj hi=>?_⟩
 ·obtain⟨u,hu⟩:=h.cell o ho
  exact⟨u,(hd o).trans hu⟩
 ·obtain⟨A',c',B',c2',lo,hi',h1,h2,h3,h4,h5⟩:=h.done j hj hi
  exact⟨A',c',B',c2',lo,hi',h1,by simpa using h2,h3.to fun k k1 _=>Below.heap_setCell _ _ _ _ (by omega),h4.set _ _,fun o ho=>(hd _).trans (h5 o ho)⟩
theorem RowT.next {q n i:Nat}{ts:List Nd}{W:World}(h:RowT q n i ts W)(hn:i<n)(hl:i<ts.length){A':Option Addr}{c':Nat}{B':Option Addr}{c2' lo hi:Nat}(h1:q<lo)(h2:hi≤W.heap.size)(h3:NdO lo hi W A' c' B' c2' (ts[i]))(h4:Unv W A'):
  RowT q n (i+1) ts (((((W.setCell ⟨q,i*5,none⟩ (.int .i64 (ts[i]).k)).setCell ⟨q,i*5+1,none⟩ (.int .i64 (ts[i]).e)).setCell ⟨q,i*5+2,none⟩ (.int .i64 (ts[i]).n)).setCell ⟨q,i*5+3,none⟩ (.slice A' (ts[i]).d.length c')).setCell ⟨q,i*5+4,none⟩ (.slice B' (ts[i]).ks.length c2')):=by
 have hr:=((((h.set (p:=i*5) (by omega) (.int .i64 (ts[i]).k)).set (p:=i*5+1) (by omega) (.int .i64 (ts[i]).e)).set (p:=i*5+2) (by omega) (.int .i64 (ts[i]).n)).set (p:=i*5+3) (by omega) (.slice A' (ts[i]).d.length c')).set (p:=i*5+4) (by omega) (.slice B' (ts[i]).ks.length c2')
 refine⟨hr.cell,hr.free,hr.lt,fun j hj hi2=>?_⟩
 by_cases e:j<i
 ·exact hr.done j hj e
 obtain rfl:j=i:=by omega
 have hg:∀(w:World) k p v,lo≤k→(w.setCell ⟨q,p,none⟩ v).heap[k]?=w.heap[k]?:=fun w k p v hk=>Below.heap_setCell _ _ _ _ (by show k≠q;omega)
 refine⟨A',c',B',c2',lo,hi,h1,by simpa using h2,h3.to fun k k1 _=>by rw [hg _ _ _ _ k1,hg _ _ _ _ k1,hg _ _ _ _ k1,hg _ _ _ _ k1,hg _ _ _ _ k1],((((h4.set _ _).set _ _).set _ _).set _ _).set _ _,fun o ho=>?_⟩
 have d:∀(w:World) (p r:Nat) v,p≠r→(w.setCell ⟨q,p,none⟩ v).cell? ⟨q,r,none⟩=w.cell? ⟨q,r,none⟩:=fun w p r v hpr=>cell_diff (fun e=>by injection e with e1 e2;exact hpr e2)
 have c0:=fun o (ho:o<5)=>h.cell (j*5+o) (by omega)
 have:o=0∨o=1∨o=2∨o=3∨o=4:=by omega
 rcases this with rfl|rfl|rfl|rfl|rfl
 ·obtain⟨u,hu⟩:=c0 0 (by omega)
  rw [d _ _ _ _ (by omega),d _ _ _ _ (by omega),d _ _ _ _ (by omega),d _ _ _ _ (by omega)]
  exact cell_same hu
 ·obtain⟨u,hu⟩:=c0 1 (by omega)
  rw [d _ _ _ _ (by omega),d _ _ _ _ (by omega),d _ _ _ _ (by omega)]
  exact cell_same (u:=u) (by rw [d _ _ _ _ (by omega)];exact hu)
 ·obtain⟨u,hu⟩:=c0 2 (by omega)
  rw [d _ _ _ _ (by omega),d _ _ _ _ (by omega)]
  exact cell_same (u:=u) (by rw [d _ _ _ _ (by omega),d _ _ _ _ (by omega)];exact hu)
 ·obtain⟨u,hu⟩:=c0 3 (by omega)
  rw [d _ _ _ _ (by omega)]
  exact cell_same (u:=u) (by rw [d _ _ _ _ (by omega),d _ _ _ _ (by omega),d _ _ _ _ (by omega)];exact hu)
 ·obtain⟨u,hu⟩:=c0 4 (by omega)
  exact cell_same (u:=u) (by rw [d _ _ _ _ (by omega),d _ _ _ _ (by omega),d _ _ _ _ (by omega),d _ _ _ _ (by omega)];exact hu)
theorem RowT.made {q n base:Nat}{ts:List Nd}{W:World}{vs:List Value}(h:W.ownsRow base 39 5 (.slice (some ⟨q,0,none⟩) n n) n vs):RowT q n 0 ts W:=by
 refine⟨fun o ho=>?_,fun o=>World.ownsRow.frozenAt h o,(h.lt q rfl).2,fun j hj h0=>by omega⟩
 have hl:o<vs.length:=by rw [h.1];exact ho
 exact⟨vs[o],by rw [World.ownsRow.cellAt h o ho,List.getElem?_eq_getElem hl]⟩
def NodV (lo:Nat)(x:Nd)(v:Value)(w:World):Prop:=∃A c B c2 hi,v=.agg #[.int .i64 x.k,.int .i64 x.e,.int .i64 x.n,.slice A x.d.length c,.slice B x.ks.length c2]∧hi≤w.heap.size∧NdO lo hi w A c B c2 x∧Unv w A∧Unv w B ∧
 ∀b off j A' l' c',B=some ⟨b,off,none⟩→j<x.ks.length→w.cell? ⟨b,off+j*5+3,none⟩=some (.slice A' l' c')→Unv w A'
theorem NodV.nodU {lo:Nat}{x:Nd}{v:Value}{w:World}(h:NodV lo x v w):NodU lo x v w:=by
 obtain⟨A,c,B,c2,hi,h1,h2,h3,h4,h5,h6⟩:=h
 exact⟨A,c,B,c2,hi,h1,h2,h3,h4.unf,h5.unf,fun b off j A' l' c' e1 e2 e3=>(h6 b off j A' l' c' e1 e2 e3).unf⟩
theorem RowT.node {q n base:Nat}{ts:List Nd}{W:World}(h:RowT q n n ts W)(hq:base≤q)(hl:ts.length=n)(hm:n≤maxLen){k e m:Int}{d:List Int}{A:Option Addr}{c:Nat}
  (hk:-9223372036854775808≤k∧k≤9223372036854775807) (he:-9223372036854775808≤e∧e≤9223372036854775807) (hn:-9223372036854775808≤m∧m≤9223372036854775807)
  (hd:Got W base 5 .u8 (.slice A d.length c) d) (hby:Bts d):NdO base W.heap.size W A c (some ⟨q,0,none⟩) n (.mk k e m d ts):=by
 intro V hV
 have hdV:Got V base 5 .u8 (.slice A d.length c) d:=got_agree hd fun g h1 h2=>hV g h1 h2
 obtain⟨A0,c0,he0,hc0,hm0,hri,hnil⟩:=hdV.full
 injection he0 with e1 e2 e3
 subst e1 e3
 have hcell:∀o,V.cell? ⟨q,o,none⟩=W.cell? ⟨q,o,none⟩:=fun o=>World.cell?_of_block (w:=W) (hV q hq h.lt)
 have hkid:∀j (hj:j<ts.length),∃A' c' B' c2',NdR V A' c' B' c2' (ts[j])∧∀o,o<5→V.cell? ⟨q,j*5+o,none⟩=(fiveC (ts[j]) A' c' B' c2')[o]?:=by
  intro j hj
  obtain⟨A',c',B',c2',lo,hi,k1,k2,k3,k4,k5⟩:=h.done j hj (by omega)
  exact⟨A',c',B',c2',k3 V fun g g1 g2=>hV g (by omega) (by omega),fun o ho=>(hcell _).trans (k5 o ho)⟩
 refine .mk k e m d ts A c _ n (fun j=>if h:j<ts.length then Classical.choose (hkid j h) else none)
  (fun j=>if h:j<ts.length then Classical.choose (Classical.choose_spec (hkid j h)) else 0)
  (fun j=>if h:j<ts.length then Classical.choose (Classical.choose_spec (Classical.choose_spec (hkid j h))) else none)
  (fun j=>if h:j<ts.length then Classical.choose (Classical.choose_spec (Classical.choose_spec (Classical.choose_spec (hkid j h)))) else 0)
  hk he hn hri hby hc0 hm0 hnil (by omega) hm (fun h=>by cases h) ?_ ?_
 ·refine .inr ⟨q,0,rfl,fun j x hj=>?_⟩
  have hjl:j<ts.length:=(List.getElem?_eq_some_iff.1 hj).1
  obtain rfl:ts[j]=x:=(List.getElem?_eq_some_iff.1 hj).2
  have hspec:=Classical.choose_spec (Classical.choose_spec (Classical.choose_spec (Classical.choose_spec (hkid j hjl))))
  simp only [dif_pos hjl,Nat.zero_add]
  exact⟨hspec.2 0 (by omega),hspec.2 1 (by omega),hspec.2 2 (by omega),hspec.2 3 (by omega),hspec.2 4 (by omega)⟩
 ·intro j x hj
  have hjl:j<ts.length:=(List.getElem?_eq_some_iff.1 hj).1
  obtain rfl:ts[j]=x:=(List.getElem?_eq_some_iff.1 hj).2
  have hspec:=Classical.choose_spec (Classical.choose_spec (Classical.choose_spec (Classical.choose_spec (hkid j hjl))))
  simp only [dif_pos hjl]
  exact hspec.1
theorem RowT.nodV {q n lo base:Nat}{ts:List Nd}{W:World}(h:RowT q n n ts W)(hlo:lo≤base)(hq:base≤q)(hl:ts.length=n)(hm:n≤maxLen){k e m:Int}{d:List Int}{A:Option Addr}{c:Nat}
  (hk:-9223372036854775808≤k∧k≤9223372036854775807) (he:-9223372036854775808≤e∧e≤9223372036854775807) (hn:-9223372036854775808≤m∧m≤9223372036854775807)
  (hd:Got W base 5 .u8 (.slice A d.length c) d) (hby:Bts d) {x:Nd} (hx:x=.mk k e m d ts) {l:Nat} (hdl:l=d.length):NodV lo x (.agg #[.int .i64 k,.int .i64 e,.int .i64 m,.slice A l c,.slice (some ⟨q,0,none⟩) n n]) W:=by
 subst hx hl hdl
 refine⟨A,c,_,_,_,rfl,Nat.le_refl _,(h.node hq rfl hm hk he hn hd hby).wide hlo (Nat.le_refl _),?_,?_,?_⟩
 ·intro b off e
  subst e
  have hlt:=hd.lt b rfl
  refine⟨hlt.2,fun o=>?_⟩
  rcases hd.2 with ⟨h1,-⟩|⟨g,cap,cur,h1,h2,h3,-⟩
  ·cases h1
  ·injection h1 with e1 e2 e3
   injection e1 with e1
   injection e1 with e1 e4
   subst e1
   simp [World.frozen?,h3]
 ·intro b off e
  injection e with e
  injection e with e1 e2
  subst e1
  exact⟨h.lt,h.free⟩
 ·intro b off j A' l' c' e hj hc
  injection e with e
  injection e with e1 e2
  subst e1 e2
  obtain⟨A1,c1,B1,c2,lo1,hi1,k1,k2,k3,k4,k5⟩:=h.done j hj hj
  have:=k5 3 (by omega)
  rw [Nat.zero_add] at hc
  rw [hc] at this
  injection this with this
  injection this with e1 e2 e3
  subst e1
  exact k4
theorem SegOK.stored {w:World}{base g c n:Nat}{u y:Value}{vs:List Value}{l:List Int}(h:SegOK w base u l)(hv:w.ownsRow base 27 1 (.slice (some ⟨g,0,none⟩) n c) n vs)(j:Nat):SegOK (w.setCell ⟨g,j,none⟩ y) base u l:=by
 have hg:=(hv.lt g rfl).1
 exact h.grown hv (World.ownsRow.stored hv j y).2 ((Below.refl _ _).setCell hg y)
theorem OwnS.set {w:World}{base g c:Nat}{ls:List (List Int)}(h:OwnS w base (.slice (some ⟨g,0,none⟩) ls.length c) ls){j:Nat}(hj:j<ls.length){u:Value}{l:List Int}(hu:SegOK w base u l):
  OwnS (w.setCell ⟨g,j,none⟩ u) base (.slice (some ⟨g,0,none⟩) ls.length c) (ls.set j l):=by
 obtain⟨vs,h1,h2⟩:=h
 have h3:=(World.ownsRow.stored h1 j u).1
 have hvl:=h1.1
 refine⟨vs.set j u,by rw [List.length_set];exact h3,fun i hi=>?_⟩
 rw [List.length_set] at hi
 by_cases e:j=i
 ·subst e
  obtain⟨u0,hu0,_⟩:=h2 j hj
  have hlt:j<vs.length:=(List.getElem?_eq_some_iff.1 hu0).1
  refine⟨u,List.getElem?_set_self hlt,?_⟩
  have e2:seg (ls.set j l) j=l:=by unfold seg;rw [List.getD_eq_getElem?_getD,List.getElem?_set_self hj];rfl
  rw [e2]
  exact hu.stored h1 j
 ·obtain⟨u0,hu0,hs0⟩:=h2 i hi
  refine⟨u0,by rw [List.getElem?_set_ne e];exact hu0,?_⟩
  have e2:seg (ls.set j l) i=seg ls i:=by unfold seg;rw [List.getD_eq_getElem?_getD,List.getElem?_set_ne e,List.getD_eq_getElem?_getD]
  rw [e2]
  exact hs0.stored h1 j
theorem GotS.made0 (w:World){base:Nat}(hb:base≤w.heap.size):GotS (w.alloc (.cells #[] 27)) base (.slice (some ⟨w.heap.size,0,none⟩) 0 0) []:=
 ⟨[],World.ownsRow_made w #[] 0 hb (Nat.zero_le _) rfl,fun j hj=>by simp at hj⟩
theorem OwnS.row {w:World}{base:Nat}{v:Value}{ls:List (List Int)}(h:OwnS w base v ls)(h0:0<ls.length):∃g c,v=.slice (some ⟨g,0,none⟩) ls.length c∧base≤g∧g<w.heap.size∧ls.length≤c∧(∀j,w.frozen? ⟨g,j,none⟩=false)∧∀j,j<ls.length→∃u,w.cell? ⟨g,j,none⟩=some u:=by
 obtain⟨vs,h1,h2⟩:=h
 have h3:=h1
 rcases h1.2 with ⟨rfl,hn⟩|⟨g,cap,cur,rfl,hg,hh,hc,hm,hs,ht⟩
 ·omega
 ·have hlt:=(h3.lt g rfl)
  refine⟨g,cap,rfl,hlt.1,hlt.2,hc,fun j=>h3.frozenAt j,fun j hj=>?_⟩
  obtain⟨u,hu,_⟩:=h2 j hj
  refine⟨u,?_⟩
  rw [World.ownsRow.cellAt h3 j (by omega)]
  exact hu
end Go.Proofs.YtbpmeppdjicmhaaGreatDoor
