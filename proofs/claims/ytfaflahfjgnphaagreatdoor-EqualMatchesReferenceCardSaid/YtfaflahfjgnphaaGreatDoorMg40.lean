/- The texts CanonN, Ref14f, Ref14g, Ref15 (what is wanted of them), one after the other. -/
import Derived.Test.YtfaflahfjgnphaaGreatDoorMg31
import Derived.Test.YtfaflahfjgnphaaGreatDoorMg39
namespace Go.Proofs.YtfaflahfjgnphaaGreatDoor
open Go.ChangeShapes Go.WideShapes Go.ChangeAt Go.RowKit
set_option linter.unusedVariables false
set_option linter.unusedSimpArgs false
set_option maxRecDepth 100000
section
section
variable {ls:List (List Int)} (hw:Wd2 ls) (hm:ls.length≤40) (hf:∀j,(seg ls j).length≤20000000)
include hw hm hf
theorem canon_facts (D X:Int)(hX:X≤100000000)(he:(msgV ls D X).2=0):validN (msgV ls D X).1=true∧trimmedN (msgV ls D X).1=true∧depthN (msgV ls D X).1≤D.toNat∧0≤canN (msgV ls D X).1∧canN (msgV ls D X).1≤(measV ls D X).1∧costN (msgV ls D X).1≤(measV ls D X).1∧(measV ls D X).1≤startI X∧startI X≤100000000:=by
 obtain⟨h1,h2,h3⟩:=msg_valid hw hm hf (D:=D) (X:=X)
 have h4:=msg_can hw hm hf D X he
 have h5:=msg_cost hw hm hf D X he
 have h6:=(meas_bd hw hm hf (D:=D) (X:=X)).2
 have h7:startI X≤100000000:=by unfold startI;split<;>omega
 exact⟨h1,h2,h3,(can_size _ h1).1,h4,h5,h6,h7⟩
theorem canon_idem (D X:Int)(hX:X≤100000000)(he:(msgV ls D X).2=0)(hb:bytN (msgV ls D X).1):msgV [writeF (msgV ls D X).1] D X=((msgV ls D X).1,0)∧measV [writeF (msgV ls D X).1] D X=(costN (msgV ls D X).1,0):=by
 obtain⟨h1,h2,h3,h4,h5,h6,h7,h8⟩:=canon_facts hw hm hf D X hX he
 generalize (msgV ls D X).1=n at *
 obtain⟨v,g1,g2⟩:=write_val h1 h2 hb (by omega) h3 (m:=startI X) (by omega)
 have hl:¬(0<([writeF n]:List (List Int)).length∧(seg [writeF n] 0).length=0):=by
  rintro⟨-,h⟩
  have:(seg [writeF n] 0).length=(writeF n).length:=rfl
  rw [this] at h
  simp [writeF] at h
 unfold msgV measV
 rw [if_neg hl,if_neg hl,g1]
 simp [g2]
 omega
end
end
section
attribute [local simp] AllK KnowsV look Is
theorem got_empty14 {w:World}{base q:Nat}(hb:base≤w.heap.size)(hq:q=w.heap.size):Got (w.alloc (.cells #[] 39)) base 39 .u64 (.slice (some ⟨q,0,none⟩) 0 0) []:=hq ▸ Got.empty_made w 39 .u64 hb
theorem got_other14 {w:World}{base:Nat}{E:TypeId}{k:IntKind}{u:Value}{zs:List Int}(h:Got w base E k u zs){p:Addr}(hp:u.ownBlock=some p.block→False)(v:Value):Got (w.setCell p v) base E k u zs:=by
 refine⟨h.1,?_⟩
 rcases h.2 with h3|⟨g,cap,cur,hv,hg,hh,r⟩
 ·exact .inl h3
 ·exact .inr ⟨g,cap,cur,hv,hg,(Below.heap_setCell _ _ _ _ (fun e=>hp (by rw [hv,←e];rfl))).trans hh,r⟩
theorem wp_region_n12 {P:Program}{id:Nat}{o0 o1 o2 o3 o4 o5 o6 o7 o8 o9 o10 o11 t:Oper}{Q:Exit→Act→World→Prop}{a:Act}{w:World}(hm:P.follows .mixedOrders=true)(hB:chainAB a.tmps.size [o0,o1,o2,o3,o4,o5,o6,o7,o8,o9,o10,o11] t=true)
  (h:ChainA P #[o0,o1,o2,o3,o4,o5,o6,o7,o8,o9,o10,o11,t] [o0,o1,o2,o3,o4,o5,o6,o7,o8,o9,o10,o11] t 999 NoBlk a w.drew Q [o0,o1,o2,o3,o4,o5,o6,o7,o8,o9,o10,o11] 0 [] []):(Code.region id #[o0,o1,o2,o3,o4,o5,o6,o7,o8,o9,o10,o11,t] true).wp P Q a w:=
 wp_region_a [o0,o1,o2,o3,o4,o5,o6,o7,o8,o9,o10,o11] t 999 NoBlk rfl hm hB h
theorem canK_pos14 {l:List Nd}(h:∀y∈l,validN y=true):0≤canK l:=by
 induction l with
 | nil=>simp [canK]
 | cons y ys ih=>
  have h3:=(can_size y (h y (List.mem_cons_self ..))).1
  have h4:=ih (fun z hz=>h z (List.mem_cons_of_mem _ hz))
  simp only [canK]
  omega
def HoldF (l:List Int):Fact:=fun v w=>Holds w v l
theorem stable_holdf (l:List Int):stable (HoldF l):=fun v w w' h hb=>Holds.below h hb (Nat.le_refl _)
set_option maxHeartbeats 8000000 in
set_option maxRecDepth 100000 in
theorem RefPlace14:∀(x:Nd) (ws:List Int) (at':Nat) (Aw:Option Addr) (cw:Nat) (A:Option Addr) (c:Nat) (B:Option Addr) (c2:Nat) (w:World),NdR w A c B c2 x→validN x=true→sizeN x≤1048576 →
  Ri w .u64 Aw ws→(Aw=none→cw=0)→ws.length≤cw→cw≤maxLen→at'<ws.length→zat ws at'=0→(ws.length:Int)+canN x≤536870911 →
  Calls Tryz.prog 40 #[.slice Aw ws.length cw,.int .i64 at',.agg #[.int .i64 x.k,.int .i64 x.e,.int .i64 x.n,.slice A x.d.length c,.slice B x.ks.length c2]] w fun r w'=>∃v,r=.returned v∧Holds w' v (placeF ws at' x)∧Below w.heap.size w w':=by
 refine size_ind ?_
 intro x ih ws at' Aw cw A c B c2 w hx hv hs hws hwn hwc hwm hat hz hcan
 have HX:=Lib.hid hx
 have HI:=Lib.hid ih
 have HWS0:=Lib.hid hws
 have HWN:=Lib.hid hwn
 by_cases hk:x.k=0
 ·have HR:Hid (placeF ws at' x=ws):=Lib.hid (place_nul hk hv hat hz)
  have HBA:=Lib.hid (fun o=>(Below.refl w.heap.size w).alloc (Nat.le_refl _) o)
  have t1:(x.k==0)=true:=by simpa using hk
  clear hx ih hv hws hwn hz hk
  go_enter Tryz.func40,Tryz.ntmps40
  go_wp2
  go_ret
  exact⟨_,rfl,by rw [HR.out];exact⟨Aw,cw,rfl,HWS0.out.alloc _,HWN.out,hwc,hwm⟩,HBA.out _⟩
 have hcN:=canN_eq x
 have hcO:=(canO_size hv).1
 have hcK:0≤canK (targN x):=canK_pos14 (valid_targ hv)
 obtain⟨k',d',p',e',c',hsh,hk01,hpw,hvld⟩:=RefShallow14 x A c B c2 hv hs hk (by omega)
 have HSH:=Lib.hid hsh
 obtain⟨pt,hpt⟩:∃pt,ptrW x ((ws.length:Int)-at'-1)=pt:=⟨_,rfl⟩
 have hpw2:=hpw ((ws.length:Int)-at'-1)
 rw [hpt] at hpw2
 have HFL:Hid (((fillW x 0).length:Int)=canO x):=Lib.hid (fillW_length hv 0 (Nat.zero_le _))
 have HO0:Hid ((ws++fillW x 0).set at' pt=outF ws at' x 0):=Lib.hid (by
  rw [set_left _ _ _ _ hat,←hpt]
  simp [outF,objK])
 have HOL:Hid (∀i,i≤(targN x).length→((outF ws at' x i).length:Int)=ws.length+canO x+canK ((targN x).take i)):=Lib.hid (fun i hi=>outF_length hv ws at' i hi)
 have HOS:Hid (∀i (hi:i<(targN x).length),ws.length+(posL x).getD i 0<(outF ws at' x i).length∧zat (outF ws at' x i) (ws.length+(posL x).getD i 0)=0∧placeF (outF ws at' x i) (ws.length+(posL x).getD i 0) (targN x)[i]=outF ws at' x (i+1)):=Lib.hid (fun i hi=>outF_step hv ws at' i hi)
 have HOA:Hid (outF ws at' x (targN x).length=placeF ws at' x):=Lib.hid (outF_all hv ws at')
 have HPL:Hid ((posL x).length=(targN x).length):=Lib.hid (posL_length hv)
 have HTV:Hid (∀t∈targN x,validN t=true∧sizeN t<sizeN x∧sizeN t≤1048576):=Lib.hid (fun t ht=>⟨valid_targ hv t ht,targ_lt ht,by have:=targ_lt ht;omega⟩)
 have HCK:Hid (∀i (hi:i<(targN x).length),canK ((targN x).take i)+canN (targN x)[i]≤canK (targN x)∧0≤canK ((targN x).take i)):=Lib.hid (fun i hi=>by
  have h1:=canK_take (targN x) i hi
  have h2:=canK_append ((targN x).take (i+1)) ((targN x).drop (i+1))
  rw [List.take_append_drop] at h2
  have h3:=canK_pos14 (l:=(targN x).drop (i+1)) (fun y hy=>valid_targ hv y (List.mem_of_mem_drop hy))
  have h4:=canK_pos14 (l:=(targN x).take i) (fun y hy=>valid_targ hv y (List.mem_of_mem_take hy))
  omega)
 have HTG:=Lib.hid (fun w2 (h2:NdR w2 A c B c2 x)=>RefTargets14 x A c B c2 w2 h2 (by omega))
 have HB0:=Lib.hid (fun o=>(Below.refl w.heap.size w).alloc (Nat.le_refl _) o)
 have t1:(x.k==0)=false:=by simpa using hk
 have htl:(targN x).length≤1048576:=by
  have h1:=sizeK_length (targN x)
  have h2:=sizeK_targ x
  omega
 obtain⟨L,hL⟩:∃L,ws.length=L:=⟨_,rfl⟩
 obtain⟨C,hC⟩:∃C,(fillW x 0).length=C:=⟨_,rfl⟩
 have hC2:(C:Int)=canO x:=by rw [←hC];exact HFL.out
 obtain⟨i0,hi,hz0,hz1,hz2⟩:=info_parts int64_info
 have hLC:L+C≤536870911:=by omega
 have HCZ:Hid ((L:Int)+canO x+canK (targN x)≤536870911):=Lib.hid (by omega)
 rw [hL] at hpw2 hat HOL HOS
 have HL:=Lib.hid hL
 have hcase:∃oo:Int,-536870912≤oo∧oo≤536870911∧pt=encW ⟨k',oo,d',p',e',c',false,0,0,0⟩∧((k'=0∧d'=0∧p'=0∧oo=-1)∨(k'≠0∧oo=(L:Int)-at'-1)∨(k'=0∧d'≠0∧oo=(L:Int)-at'-1)∨(k'=0∧d'=0∧p'≠0∧oo=(L:Int)-at'-1)):=by
  by_cases h:k'=0∧d'=0∧p'=0
  ·exact⟨-1,by omega,by omega,by rw [hpw2,if_pos h],.inl ⟨h.1,h.2.1,h.2.2,rfl⟩⟩
  ·refine⟨(L:Int)-at'-1,by omega,by omega,by rw [hpw2,if_neg h],?_⟩
   omega
 obtain⟨oo,ho1,ho2,hpe,hc4⟩:=hcase
 have HEN:Hid (∀w2,Calls Tryz.prog 68 #[.agg #[.int .i64 k',.int .i64 oo,.int .i64 d',.int .i64 p',.int .i64 e',.int .i64 c',.bool false,.int .i64 0,.int .u32 0,.int .u32 0]] w2 fun r w'=>(∃b,r=.returned (.tuple #[.int .u64 pt,.bool b]))∧Below w2.heap.size w2 w'):=Lib.hid (fun w2=>by
  refine(RefEncode_any k' oo d' p' e' c' 0 0 0 false w2 (by decide) (by decide) (by decide)).mono ?_
  rintro r w' ⟨rfl,hb⟩
  have:encE ⟨k',oo,d',p',e',c',false,0,0,0⟩=pt:=by
   unfold encE okE
   rw [if_pos (decide_eq_true (hvld oo ho1 ho2)),hpe]
  exact⟨⟨okE ⟨k',oo,d',p',e',c',false,0,0,0⟩,by rw [this]⟩,hb⟩)
 have HPZ:Hid (∀i,zat (natsI (posL x)) i=((posL x).getD i 0:Nat)):=Lib.hid (fun i=>by simp [natsI,zat,List.getD_eq_getElem?_getD];cases (posL x)[i]?<;>rfl)
 have HNL:Hid ((natsI (posL x)).length=(targN x).length):=Lib.hid (by rw [natsI_length,HPL.out])
 clear hx ih hv hws hwn hz hk hsh hpw hpw2 hvld hpt hcN hcan hpe HPL
 generalize targN x=ts at *
 rw [hL] at hwc
 rw [hL]
 go_enter Tryz.func40,Tryz.ntmps40
 go_wp2_with fail
 refine(HSH.out _ (HX.out.on (HB0.out _) (Nat.le_refl _))).mono ?_
 rintro r w4 ⟨v4,u4,rfl,hg4,hu4,hb4⟩
 have HB4:=Lib.hid ((HB0.out (.cells #[.int .i64 x.k,.int .i64 x.e,.int .i64 x.n,.slice A x.d.length c,.slice B x.ks.length c2] 53)).trans (hb4.mono (by simp)))
 have HX4:=Lib.hid ((Blk.fresh w #[.int .i64 x.k,.int .i64 x.e,.int .i64 x.n,.slice A x.d.length c,.slice B x.ks.length c2] 53).below hb4)
 obtain⟨A4,c4,rfl,hl4,hm4,hr4,hn4⟩:=hg4.full
 have HR4:=Lib.hid hr4
 have HN4:=Lib.hid hn4
 have HU4:Hid (Got w4 (w.heap.size+1) 3 .i64 u4 (natsI (posL x))):=Lib.hid (hu4.mono (by simp))
 have HWS4:=Lib.hid (HWS0.out.below HB4.out (Nat.le_refl _))
 have hz4:w.heap.size+1≤w4.heap.size:=HX4.out.lt
 rw [hC]
 rw [hC] at hl4
 have HC:=Lib.hid hC
 clear hg4 hr4 hn4 hu4 hb4 hC hL
 have HUL:Hid (∀g,u4.ownBlock=some g→g<w4.heap.size):=Lib.hid (fun g hg=>(HU4.out.lt g hg).2)
 rcases hc4 with ⟨h1,h2,h3,h4⟩|⟨h1,h4⟩|⟨h1,h2,h4⟩|⟨h1,h2,h3,h4⟩
 focus
  subst h1 h2 h3 h4
  go_wp2_with (first
   | (at_builtin;refine wpList_appNn L rfl (.tmp 45) (.tmp 46) 25 rfl Tryz.underlying25 hi hz0 hz1 hz2 HL.out.symm rfl (got_empty14 (w:=w4.alloc _) (base:=w4.heap.size+1) (q:=w4.heap.size+1) (by simp) (by simp)) rfl ((HWS4.out.alloc _).alloc _) HWN.out (by unfold maxLen;simp;omega) (by simp;omega) (by simp) ?_;intro v1 w1 hg1 hb1)
   | (at_builtin;refine wpList_appNn C rfl (.tmp 47) (.tmp 48) 25 rfl Tryz.underlying25 hi hz0 hz1 hz2 HC.out.symm rfl hg1 rfl ((HR4.out.alloc _).below (B:=w4.heap.size+1) (((Below.refl (w4.heap.size+1) _).alloc (by simp) _).trans hb1) (by simp)) HN4.out (by simp only [List.nil_append];rw [HL.out];unfold maxLen;omega) (by simp only [List.nil_append];rw [HL.out];omega) (by have:=hb1.size;simp at this;omega) ?_;intro v2 w2 hg2 hb2;have hbb:=((Below.refl (w4.heap.size+1) _).alloc (by simp) _).trans (hb1.trans hb2);obtain⟨xp,yp,zp⟩:=(Blk.fresh w4 _ _).belowN hbb (by omega)))
  have HG2:=Lib.hid hg2
  have HB2:=Lib.hid ((HB4.out.alloc (by omega) _).trans (hbb.mono (by omega)))
  have HX2:=Lib.hid ((HX4.out.alloc _).belowN hbb (by omega))
  have HU2:=Lib.hid ((HU4.out.below ((Below.refl _ _).alloc (Nat.le_refl _) _) (Nat.le_refl _)).below hbb (by simp))
  clear hg1 hg2 hb1 hb2 hbb xp yp zp
 rotate_left
 focus
  have a1:(k'==0)=false:=by simpa using h1
  subst h4
  clear h1
  go_wp2_with (first
   | (at_builtin;refine wpList_appNn L rfl (.tmp 45) (.tmp 46) 25 rfl Tryz.underlying25 hi hz0 hz1 hz2 HL.out.symm rfl (got_empty14 (w:=w4.alloc _) (base:=w4.heap.size+1) (q:=w4.heap.size+1) (by simp) (by simp)) rfl ((HWS4.out.alloc _).alloc _) HWN.out (by unfold maxLen;simp;omega) (by simp;omega) (by simp) ?_;intro v1 w1 hg1 hb1)
   | (at_builtin;refine wpList_appNn C rfl (.tmp 47) (.tmp 48) 25 rfl Tryz.underlying25 hi hz0 hz1 hz2 HC.out.symm rfl hg1 rfl ((HR4.out.alloc _).below (B:=w4.heap.size+1) (((Below.refl (w4.heap.size+1) _).alloc (by simp) _).trans hb1) (by simp)) HN4.out (by simp only [List.nil_append];rw [HL.out];unfold maxLen;omega) (by simp only [List.nil_append];rw [HL.out];omega) (by have:=hb1.size;simp at this;omega) ?_;intro v2 w2 hg2 hb2;have hbb:=((Below.refl (w4.heap.size+1) _).alloc (by simp) _).trans (hb1.trans hb2);obtain⟨xp,yp,zp⟩:=(Blk.fresh w4 _ _).belowN hbb (by omega)))
  have HG2:=Lib.hid hg2
  have HB2:=Lib.hid ((HB4.out.alloc (by omega) _).trans (hbb.mono (by omega)))
  have HX2:=Lib.hid ((HX4.out.alloc _).belowN hbb (by omega))
  have HU2:=Lib.hid ((HU4.out.below ((Below.refl _ _).alloc (Nat.le_refl _) _) (Nat.le_refl _)).below hbb (by simp))
  clear hg1 hg2 hb1 hb2 hbb xp yp zp
 rotate_left
 focus
  have a1:(d'==0)=false:=by simpa using h2
  subst h1 h4
  clear h2
  go_wp2_with (first
   | (at_builtin;refine wpList_appNn L rfl (.tmp 45) (.tmp 46) 25 rfl Tryz.underlying25 hi hz0 hz1 hz2 HL.out.symm rfl (got_empty14 (w:=w4.alloc _) (base:=w4.heap.size+1) (q:=w4.heap.size+1) (by simp) (by simp)) rfl ((HWS4.out.alloc _).alloc _) HWN.out (by unfold maxLen;simp;omega) (by simp;omega) (by simp) ?_;intro v1 w1 hg1 hb1)
   | (at_builtin;refine wpList_appNn C rfl (.tmp 47) (.tmp 48) 25 rfl Tryz.underlying25 hi hz0 hz1 hz2 HC.out.symm rfl hg1 rfl ((HR4.out.alloc _).below (B:=w4.heap.size+1) (((Below.refl (w4.heap.size+1) _).alloc (by simp) _).trans hb1) (by simp)) HN4.out (by simp only [List.nil_append];rw [HL.out];unfold maxLen;omega) (by simp only [List.nil_append];rw [HL.out];omega) (by have:=hb1.size;simp at this;omega) ?_;intro v2 w2 hg2 hb2;have hbb:=((Below.refl (w4.heap.size+1) _).alloc (by simp) _).trans (hb1.trans hb2);obtain⟨xp,yp,zp⟩:=(Blk.fresh w4 _ _).belowN hbb (by omega)))
  have HG2:=Lib.hid hg2
  have HB2:=Lib.hid ((HB4.out.alloc (by omega) _).trans (hbb.mono (by omega)))
  have HX2:=Lib.hid ((HX4.out.alloc _).belowN hbb (by omega))
  have HU2:=Lib.hid ((HU4.out.below ((Below.refl _ _).alloc (Nat.le_refl _) _) (Nat.le_refl _)).below hbb (by simp))
  clear hg1 hg2 hb1 hb2 hbb xp yp zp
 rotate_left
 focus
  have a1:(p'==0)=false:=by simpa using h3
  subst h1 h2 h4
  clear h3
  go_wp2_with (first
   | (at_builtin;refine wpList_appNn L rfl (.tmp 45) (.tmp 46) 25 rfl Tryz.underlying25 hi hz0 hz1 hz2 HL.out.symm rfl (got_empty14 (w:=w4.alloc _) (base:=w4.heap.size+1) (q:=w4.heap.size+1) (by simp) (by simp)) rfl ((HWS4.out.alloc _).alloc _) HWN.out (by unfold maxLen;simp;omega) (by simp;omega) (by simp) ?_;intro v1 w1 hg1 hb1)
   | (at_builtin;refine wpList_appNn C rfl (.tmp 47) (.tmp 48) 25 rfl Tryz.underlying25 hi hz0 hz1 hz2 HC.out.symm rfl hg1 rfl ((HR4.out.alloc _).below (B:=w4.heap.size+1) (((Below.refl (w4.heap.size+1) _).alloc (by simp) _).trans hb1) (by simp)) HN4.out (by simp only [List.nil_append];rw [HL.out];unfold maxLen;omega) (by simp only [List.nil_append];rw [HL.out];omega) (by have:=hb1.size;simp at this;omega) ?_;intro v2 w2 hg2 hb2;have hbb:=((Below.refl (w4.heap.size+1) _).alloc (by simp) _).trans (hb1.trans hb2);obtain⟨xp,yp,zp⟩:=(Blk.fresh w4 _ _).belowN hbb (by omega)))
  have HG2:=Lib.hid hg2
  have HB2:=Lib.hid ((HB4.out.alloc (by omega) _).trans (hbb.mono (by omega)))
  have HX2:=Lib.hid ((HX4.out.alloc _).belowN hbb (by omega))
  have HU2:=Lib.hid ((HU4.out.below ((Below.refl _ _).alloc (Nat.le_refl _) _) (Nat.le_refl _)).below hbb (by simp))
  clear hg1 hg2 hb1 hb2 hbb xp yp zp
 rotate_left
 all_goals
  refine(HEN.out _).mono ?_
  rintro r w5 ⟨⟨bb,rfl⟩,hb5⟩
  have hg5:Got w5 (w4.heap.size+1) 39 .u64 v2 (ws++fillW x 0):=(HG2.out.below hb5 (Nat.le_refl _)).cast rfl (by simp)
  have HX5:=Lib.hid (HX2.out.below hb5)
  have HU5:=Lib.hid (HU2.out.below hb5 (Nat.le_refl _))
  have HB5:=Lib.hid (bel_on HB2.out hb5)
  have hLC2:(ws++fillW x 0).length=L+C:=by rw [List.length_append,HL.out,HC.out]
  obtain⟨A5,c5,rfl,-⟩:=hg5.slice
  obtain⟨g,rfl,hgb,hgl,-⟩:=hg5.addr (by rw [hLC2];omega)
  have hcell:=hg5.cell at' (by rw [hLC2];omega)
  have hfree:=hg5.free at'
  have hput:=hg5.put at' pt
  rw [HO0.out] at hput
  rw [hLC2] at hput ⊢
  have HP:=Lib.hid hput
  have hat2:(at':Int)<(L:Int)+(C:Int):=by omega
  have HX6:=Lib.hid (HX5.out.other (p:=⟨g,at',none⟩) (by show g≠w.heap.size;omega) (.int .u64 pt))
  have HU6:=Lib.hid (got_other14 HU5.out (p:=⟨g,at',none⟩) (fun h=>by have:=HUL.out g h;omega) (.int .u64 pt))
  have HB6:=Lib.hid (HB5.out.setCell (p:=⟨g,at',none⟩) (by show w.heap.size≤g;omega) (.int .u64 pt))
  obtain⟨x1,y1,z1⟩:=HX6.out
  clear hg5 hput hb5 hLC2 HG2 HX2 HU2 HB2 HX5 HU5 HB5
  go_wp2_with fail
  refine abs_world (F:=fun W=>Blk W w.heap.size #[.int .i64 x.k,.int .i64 x.e,.int .i64 x.n,.slice A x.d.length c,.slice B x.ks.length c2]∧Got W (w4.heap.size+1) 39 .u64 (.slice (some ⟨g,0,none⟩) (L+C) c5) (outF ws at' x 0)∧Got W (w.heap.size+1) 3 .i64 u4 (natsI (posL x))∧Below w.heap.size w W) ⟨HX6.out,HP.out,HU6.out,HB6.out⟩ ?_
  clear HX6 HP HU6 HB6 x1 y1 z1 hcell hfree hgl
  rintro W6 ⟨hx6,hp6,hu6,hb6⟩
  refine(HTG.out W6 (HX.out.on hb6 (Nat.le_refl _))).mono ?_
  rintro r w7 ⟨B5,c6,rfl,hks,hkl,hkc,hb7⟩
  have HK:=Lib.hid hks
  have hoo:=hp6.below hb7 (Nat.le_refl _)
  have HU7:=Lib.hid (hu6.below hb7 (Nat.le_refl _))
  have HB7:=Lib.hid (bel_on hb6 hb7)
  have hh7:Holds w7 (.slice (some ⟨g,0,none⟩) (L+C) c5) (outF ws at' x 0):=by
   obtain⟨A9,c9,he,h1,h2,h3,h4⟩:=hoo.full
   exact⟨A9,c9,he,h3,h4,h1,h2⟩
  have HH7:=Lib.hid hh7
  obtain⟨Au,cu,rfl,-,-,hru,-⟩:=HU7.out.full
  have HRU:=Lib.hid hru
  rw [HNL.out]
  clear hx6 hp6 hu6 hb6 hks hb7 hoo hh7 hru HU7
  go_wp2
  go_loopw [11,13] (fun v i wr=>∃j:Nat,j≤ts.length∧i=.int .i64 j∧Holds wr v (outF ws at' x j)∧Below w7.heap.size w7 wr) (fun _ i _=>ts.length-(intOf i).toNat)
  case atStart=>exact⟨0,by omega,rfl,HH7.out,Below.refl _ _⟩
  case round=>
   obtain⟨j,hj,rfl,⟨Ao,co,rfl,hro,hno,hlo,hmo⟩,hbr⟩:=hrel
   have HBR:=Lib.hid hbr
   have HRO:=Lib.hid hro
   have HNO:=Lib.hid hno
   by_cases hlt:j<ts.length
   ·obtain⟨b,off,A',c',B',c2',rfl,k0,k1,k2,k3,k4,hsub⟩:=(HK.out.on hbr (Nat.le_refl _)).at hlt
    have hj1:(j:Int)<(ts.length:Int):=by omega
    obtain⟨ba,oa,rfl,hca⟩:=(HRU.out.below hbr (Nat.le_refl _)).at (i:=j) (by rw [HNL.out];exact hlt)
    have hcj:=hca j (by rw [HNL.out];exact hlt)
    rw [HPZ.out j] at hcj
    obtain⟨s1,s2,s3⟩:=HOS.out j hlt
    have hol:=HOL.out j (by omega)
    obtain⟨q1,q2⟩:=HCK.out j hlt
    have hcz:=HCZ.out
    obtain⟨v1,v2,v3⟩:=HTV.out ts[j] (List.getElem_mem hlt)
    obtain⟨ps,hps⟩:∃ps,(posL x).getD j 0=ps:=⟨_,rfl⟩
    rw [hps] at hcj s1 s2 s3
    have hbl:b<wr.heap.size:=World.block_lt_of_cell? wr ⟨b,off+j*5,none⟩ k0
    have hal:ba<wr.heap.size:=World.block_lt_of_cell? wr ⟨ba,oa+j,none⟩ hcj
    have HAC:Hid (∀wc,Below wr.heap.size wr wc→wc.cell? ⟨ba,oa+j,none⟩=some (.int .i64 ps)):=Lib.hid (fun wc h=>(h.cell (p:=⟨ba,oa+j,none⟩) hal).trans hcj)
    have hK:=fun (o:Nat) wc (h:Below wr.heap.size wr wc)=>h.cell (p:=⟨b,o,none⟩) hbl
    have HKC:Hid (∀wc,Below wr.heap.size wr wc→wc.cell? ⟨b,off+j*5,none⟩=some (.int .i64 (ts[j]).k)∧wc.cell? ⟨b,off+j*5+1,none⟩=some (.int .i64 (ts[j]).e)∧wc.cell? ⟨b,off+j*5+2,none⟩=some (.int .i64 (ts[j]).n) ∧
      wc.cell? ⟨b,off+j*5+3,none⟩=some (.slice A' (ts[j]).d.length c')∧wc.cell? ⟨b,off+j*5+4,none⟩=some (.slice B' (ts[j]).ks.length c2')):=Lib.hid (fun wc h=>⟨(hK _ wc h).trans k0,(hK _ wc h).trans k1,(hK _ wc h).trans k2,(hK _ wc h).trans k3,(hK _ wc h).trans k4⟩)
    have HPC:Hid (∀wc,Below wr.heap.size wr wc→Calls Tryz.prog 40 #[.slice Ao (outF ws at' x j).length co,.int .i64 ((L+ps:Nat):Int),.agg #[.int .i64 ts[j].k,.int .i64 ts[j].e,.int .i64 ts[j].n,.slice A' ts[j].d.length c',.slice B' ts[j].ks.length c2']] wc fun r w'=>∃v,r=.returned v∧Holds w' v (outF ws at' x (j+1))∧Below wc.heap.size wc w'):=Lib.hid (fun wc h=>by
     rw [←s3]
     exact HI.out ts[j] v2 (outF ws at' x j) (L+ps) Ao co A' c' B' c2' wc (hsub.on h (Nat.le_refl _)) v1 v3 (HRO.out.below h (Nat.le_refl _)) HNO.out hlo hmo s1 s2 (by omega))
    have q3:=(can_size ts[j] v1).1
    have HBD:Hid (L+ps≤536870911):=Lib.hid (by omega)
    clear k0 k1 k2 k3 k4 hsub hca hcj s1 s2 s3 hol q1 q2 q3 hcz v1 v2 v3 hK hps hbl hal hbr hro hno
    generalize (outF ws at' x j).length=lo at *
    generalize ts[j]=tj at *
    go_wp2_with fail
    refine wp_region_n12 (by kernel_rfl) (by kernel_rfl) ?_
    refine n_val (u:=?_) [11] (by kernel_rfl) rfl (by kernel_rfl) trivial (fun ρ wc hbc hcn hk=>?_) ?_;rotate_left
    ·obtain⟨hcn,-⟩:=hcn
     simp at hk
     go_simp
     rfl
    refine n_val (u:=?_) [10] (by kernel_rfl) rfl (by kernel_rfl) trivial (fun ρ wc hbc hcn hk=>?_) ?_;rotate_left
    ·obtain⟨hcn,-⟩:=hcn
     simp at hk
     go_simp
     rfl
    refine n_val (u:=?_) [9] (by kernel_rfl) rfl (by kernel_rfl) trivial (fun ρ wc hbc hcn hk=>?_) ?_;rotate_left
    ·obtain⟨hcn,-⟩:=hcn
     simp at hk
     go_simp
     rfl
    refine n_val (u:=?_) [13] (by kernel_rfl) rfl (by kernel_rfl) trivial (fun ρ wc hbc hcn hk=>?_) ?_;rotate_left
    ·obtain⟨hcn,-⟩:=hcn
     simp at hk
     go_simp
     rfl
    refine n_val (u:=?_) [68,69] (by kernel_rfl) rfl (by kernel_rfl) trivial (fun ρ wc hbc hcn hk=>?_) ?_;rotate_left
    ·obtain⟨hcn,-⟩:=hcn
     simp at hk
     go_simp
     rfl
    refine n_val (u:=?_) [70] (by kernel_rfl) rfl (by kernel_rfl) trivial (fun ρ wc hbc hcn hk=>?_) ?_;rotate_left
    ·obtain⟨hcn,-⟩:=hcn
     simp at hk
     have ha:=HAC.out wc ⟨hbc.os,hbc.tape,hbc.output,hbc.size,hbc.block⟩
     go_simp
     rfl
    refine n_val (u:=.int .i64 ((L+ps:Nat):Int)) [67,71] (by kernel_rfl) rfl (by kernel_rfl) trivial (fun ρ wc hbc hcn hk=>?_) ?_
    ·obtain⟨hcn,-⟩:=hcn
     simp at hk
     have hb:=HBD.out
     go_simp
     rw [IntKind.wrap_i64]
     omega
    refine n_val (u:=?_) [12] (by kernel_rfl) rfl (by kernel_rfl) trivial (fun ρ wc hbc hcn hk=>?_) ?_;rotate_left
    ·obtain⟨hcn,-⟩:=hcn
     simp at hk
     go_simp
     rfl
    refine n_val (u:=?_) [13] (by kernel_rfl) rfl (by kernel_rfl) trivial (fun ρ wc hbc hcn hk=>?_) ?_;rotate_left
    ·obtain⟨hcn,-⟩:=hcn
     simp at hk
     go_simp
     rfl
    refine n_val (u:=?_) [73,74] (by kernel_rfl) rfl (by kernel_rfl) trivial (fun ρ wc hbc hcn hk=>?_) ?_;rotate_left
    ·obtain⟨hcn,-⟩:=hcn
     simp at hk
     go_simp
     rfl
    refine n_val (u:=?_) [75] (by kernel_rfl) rfl (by kernel_rfl) trivial (fun ρ wc hbc hcn hk=>?_) ?_;rotate_left
    ·obtain⟨hcn,-⟩:=hcn
     simp at hk
     obtain⟨k0,k1,k2,k3,k4⟩:=HKC.out wc ⟨hbc.os,hbc.tape,hbc.output,hbc.size,hbc.block⟩
     go_simp
     rfl
    refine n_call (T:=HoldF (outF ws at' x (j+1))) 40 [66,72,76] (by kernel_rfl) rfl (by kernel_rfl) trivial (stable_holdf _) (fun ρ wc hbc hcn hk=>?_) ?_
    ·obtain⟨hcn,hfn⟩:=hcn
     simp at hk
     refine⟨_,by go_simp;rfl,?_⟩
     refine(HPC.out wc ⟨hbc.os,hbc.tape,hbc.output,hbc.size,hbc.block⟩).mono ?_
     rintro e w' ⟨v,rfl,hh,hbq⟩
     exact⟨_,rfl,hh,hbq⟩
    refine a_end_lit 79 (by kernel_rfl) (fun ff w9 hb9 hk=>?_)
    have hh9:Holds w9 (ff 77) (outF ws at' x (j+1)):=allN_at10d hk 77 (by decide) (by decide)
    simp [AllN] at hk
    simp only [frameL,hk,Nat.zero_add,Nat.reduceAdd]
    have hb9':Below wr.heap.size wr w9:=by
     have:=keeps_none hb9
     exact⟨this.os,this.tape,this.output,this.size,this.block⟩
    have HB9:=Lib.hid (bel_on HBR.out hb9')
    have HH9:=Lib.hid hh9
    clear hb9 hk hb9' hh9
    generalize ff 77=v77 at *
    go_wp2
    go_roundw
    case rel=>exact⟨j+1,by omega,by go_num,HH9.out,HB9.out⟩
    case measure=>simp [intOf];omega
   ·obtain rfl:j=ts.length:=by omega
    go_wp2
    go_ret
    exact⟨_,rfl,by rw [←HOA.out];exact⟨Ao,co,rfl,HRO.out,HNO.out,hlo,hmo⟩,HB7.out.trans (HBR.out.mono HB7.out.size)⟩
end
theorem place_one (x:Nd):placeF [0] 0 x=writeF x:=by
 unfold placeF writeF
 rfl
theorem ri_new14 (W:World)(q:Nat)(y:Int)(hq:q=W.heap.size){T:TypeId}:Ri (W.alloc (.cells #[.int .u64 y] T)) .u64 (some ⟨q,0,none⟩) [y]:=hq ▸ Ri.lit W .u64 [y] T
set_option maxRecDepth 100000 in
theorem RefWrite14 (x:Nd)(A:Option Addr)(c:Nat)(B:Option Addr)(c2:Nat)(w:World)(hx:NdR w A c B c2 x)(hv:validN x=true)(hs:sizeN x≤1048576)(hC:canN x≤536870910):
  Calls Tryz.prog 21 #[.agg #[.int .i64 x.k,.int .i64 x.e,.int .i64 x.n,.slice A x.d.length c,.slice B x.ks.length c2]] w fun r w'=>∃v,r=.returned v∧Holds w' v (writeF x)∧Below w.heap.size w w':=by
 have HX:=Lib.hid hx
 have HB0:=Lib.hid (fun o1 o2=>((Below.refl w.heap.size w).alloc (Nat.le_refl _) o1).alloc (by simp) o2)
 have HP:=Lib.hid (fun w2 q (h2:NdR w2 A c B c2 x) (hr:Ri w2 .u64 (some ⟨q,0,none⟩) [0])=>RefPlace14 x [0] 0 (some ⟨q,0,none⟩) 1 A c B c2 w2 h2 hv hs hr (fun h=>by cases h) (by simp) (by unfold maxLen;omega) (by simp) rfl (by simp;omega))
 have HE:=Lib.hid (place_one x)
 clear hx hv
 go_enter Tryz.func21,Tryz.ntmps21
 go_wp2_with fail
 refine(HP.out _ (w.heap.size+1) (HX.out.on (HB0.out _ _) (Nat.le_refl _)) (ri_new14 _ _ 0 (by simp))).mono ?_
 rintro r w3 ⟨v,rfl,hh,hb⟩
 have HH:=Lib.hid hh
 have HB:=Lib.hid ((HB0.out (.cells #[.int .i64 x.k,.int .i64 x.e,.int .i64 x.n,.slice A x.d.length c,.slice B x.ks.length c2] 53) (.cells #[.int .u64 0] 39)).trans (hb.mono (by simp;omega)))
 clear hh hb
 go_wp2
 go_ret
 exact⟨_,rfl,by rw [←HE.out];exact HH.out,HB.out⟩
section
def small15B (ls:List (List Int))(D X:Int):Bool:=decide (D≤40)&&(decide (X≤2000)&&fewB ls)
theorem RefSmall15 (A:Option Addr)(c:Nat)(ls:List (List Int))(D X O:Int)(w:World)(hs:Sg w A ls)(hlm:ls.length≤9223372036854775807):
  Calls Tryz.prog 6 #[.slice A ls.length c,.agg #[.int .i64 D,.int .i64 X,.int .i64 O]] w fun e w'=>e=.returned (.bool (small15B ls D X))∧Below w.heap.size w w':=by
 have Hs:=Lib.hid hs
 clear hs
 by_cases h1:D≤40
 ·by_cases h2:X≤2000
  ·have HR:Hid (small15B ls D X=fewB ls):=Lib.hid (by unfold small15B;simp [h1,h2])
   generalize small15B ls D X=v at *
   have HF:=Lib.hid (fun w2 hs2=>Few_any A c ls w2 hs2 hlm)
   generalize fewB ls=fb at *
   have t1:decide (D≤40)=true:=decide_eq_true h1
   have t2:decide (X≤2000)=true:=decide_eq_true h2
   clear h1 h2
   go_enter Tryz.func6,Tryz.ntmps6
   go_wp2_with fail
   refine(HF.out _ (Hs.out.alloc _)).mono ?_
   rintro e w' ⟨rfl,rfl⟩
   go_wp2
   go_ret
   exact⟨by rw [HR.out];rfl,(Below.refl _ _).alloc (Nat.le_refl _) _⟩
  ·have HR:Hid (small15B ls D X=false):=Lib.hid (by unfold small15B;simp [h1,h2])
   generalize small15B ls D X=v at *
   have t1:decide (D≤40)=true:=decide_eq_true h1
   go_enter Tryz.func6,Tryz.ntmps6
   go_wp2
   go_ret
   exact⟨by rw [HR.out];rfl,(Below.refl _ _).alloc (Nat.le_refl _) _⟩
 ·have HR:Hid (small15B ls D X=false):=Lib.hid (by unfold small15B;simp [h1])
  generalize small15B ls D X=v at *
  go_enter Tryz.func6,Tryz.ntmps6
  go_wp2
  go_ret
  exact⟨by rw [HR.out];rfl,(Below.refl _ _).alloc (Nat.le_refl _) _⟩
theorem small15_fits {ls:List (List Int)}{D X:Int}(h:small15B ls D X=true):D≤40∧X≤2000∧ls.length≤20∧∀j,(seg ls j).length≤300:=by
 unfold small15B at h
 simp only [Bool.and_eq_true,decide_eq_true_eq] at h
 have:=few_fits h.2.2
 exact⟨h.1,h.2.1,this.2,this.1⟩
theorem RefMessage15 (A:Option Addr)(c m:Nat)(ls:List (List Int))(D X O:Int)(x:Nd)(e:Int)(w:World)(hl:m=ls.length)(hs:Sg w A ls)(hw:Wd2 ls)(hm:ls.length≤40)(hf:∀j,(seg ls j).length≤20000000)(hD:D≤900)(hX:X≤1000000)(hq:msgV ls D X=(x,e)):
  Calls Tryz.prog 17 #[.slice A m c,.agg #[.int .i64 D,.int .i64 X,.int .i64 O]] w fun r w'=>∃v,r=.returned (.tuple #[v,.int .i64 e])∧NodF w.heap.size x v w'∧Below w.heap.size w w':=by
 subst hl
 have h:=RefMessage12 A c ls D X O w hs hw hm hf hD hX
 rw [hq] at h
 exact h
def canW (ls:List (List Int))(D X:Int):List Int:=if (msgV ls D X).2=0 then writeF (msgV ls D X).1 else []
theorem canon_size {ls:List (List Int)}(hw:Wd2 ls)(hm:ls.length≤40)(hf:∀j,(seg ls j).length≤20000000)(D X:Int)(hX:X≤100000):sizeN (msgV ls D X).1≤1048576:=by
 have h1:=msg_size hw hm hf D X
 have h2:startI X≤100000:=by unfold startI;split<;>omega
 omega
attribute [local irreducible] msgV measV writeF
set_option maxRecDepth 100000 in
theorem RefWords15 (A:Option Addr)(c:Nat)(ls:List (List Int))(D X O:Int)(w:World)(hs:Sg w A ls)(hw:Wd2 ls)(hm:ls.length≤40)(hf:∀j,(seg ls j).length≤20000000)(hD:D≤900)(hX:X≤100000):
  Calls Tryz.prog 11 #[.slice A ls.length c,.agg #[.int .i64 D,.int .i64 X,.int .i64 O]] w fun r w'=>∃v,r=.returned (.tuple #[v,.int .i64 (msgV ls D X).2])∧Holds w' v (canW ls D X)∧Below w.heap.size w w':=by
 have Hs:=Lib.hid hs
 have hsz:=canon_size hw hm hf D X hX
 have HFA:=Lib.hid (fun h=>canon_facts hw hm hf D X (by omega) h)
 have HCW:Hid (canW ls D X=if (msgV ls D X).2=0 then writeF (msgV ls D X).1 else []):=Lib.hid rfl
 generalize canW ls D X=cw at *
 obtain⟨⟨x,e⟩,hq⟩:∃q,msgV ls D X=q:=⟨_,rfl⟩
 have HM:=Lib.hid (fun w2 hs2=>RefMessage15 A c ls.length ls D X O x e w2 rfl hs2 hw hm hf hD (by omega) hq)
 rw [hq] at HFA HCW hsz
 rw [hq]
 simp only at HFA HCW hsz ⊢
 have HB0:=Lib.hid (fun o=>(Below.refl w.heap.size w).alloc (Nat.le_refl _) o)
 have hXs:startI X≤100000:=by unfold startI;split<;>omega
 clear hs hw hm hf hq
 by_cases he:e=0
 ·have hfa:=HFA.out he
  have HV:=Lib.hid hfa.1
  have HC:Hid (canN x≤536870910):=Lib.hid (by omega)
  have HCW2:Hid (cw=writeF x):=Lib.hid (by rw [HCW.out,if_pos he])
  have HSX:=Lib.hid hsz
  subst he
  clear HFA HCW hfa hsz
  go_enter Tryz.func11,Tryz.ntmps11
  go_wp2_with fail
  refine(HM.out _ (Hs.out.alloc _)).mono ?_
  rintro r w3 ⟨v,rfl,⟨A1,c1,E1,e1,hi1,rfl,-,hno⟩,hb⟩
  have HN:=Lib.hid hno.nd
  have HB:=Lib.hid ((HB0.out (.cells #[.int .i64 D,.int .i64 X,.int .i64 O] 24)).trans (hb.mono (by simp)))
  clear hno hb
  go_wp2_with fail
  refine(RefWrite14 x A1 c1 E1 e1 _ (HN.out.on ((Below.refl _ _).alloc (Nat.le_refl _) _) (Nat.le_refl _)) HV.out HSX.out HC.out).mono ?_
  rintro r w4 ⟨v4,rfl,hh,hb4⟩
  have HH:=Lib.hid hh
  have HB4:=Lib.hid (HB.out.trans (((Below.refl w3.heap.size w3).alloc (Nat.le_refl _) (.cells #[.int .i64 x.k,.int .i64 x.e,.int .i64 x.n,.slice A1 x.d.length c1,.slice E1 x.ks.length e1] 53)).trans (hb4.mono (by simp))|>.mono HB.out.size))
  clear hh hb4
  go_wp2
  go_ret2
  exact⟨_,rfl,by rw [HCW2.out];exact HH.out,HB4.out⟩
 ·have t1:(e != 0)=true:=by simpa using he
  have HCW2:Hid (cw=[]):=Lib.hid (by rw [HCW.out,if_neg he])
  clear HFA HCW hsz he
  go_enter Tryz.func11,Tryz.ntmps11
  go_wp2_with fail
  refine(HM.out _ (Hs.out.alloc _)).mono ?_
  rintro r w3 ⟨v,rfl,⟨A1,c1,E1,e1,hi1,rfl,-,hno⟩,hb⟩
  have HB:=Lib.hid ((HB0.out (.cells #[.int .i64 D,.int .i64 X,.int .i64 O] 24)).trans (hb.mono (by simp)))
  clear hno hb
  go_wp2
  go_ret2
  exact⟨_,rfl,by rw [HCW2.out];exact⟨none,0,rfl,Ri.nil _ _ _,fun _=>rfl,Nat.le_refl _,by unfold maxLen;omega⟩,HB.out.alloc HB.out.size _⟩
end
end Go.Proofs.YtfaflahfjgnphaaGreatDoor
