/- A law of layer 15: CanonIsIdempotent. -/
import Derived.Test.YtbpmeppdjicmhaaGreatDoorMg45
import Derived.Test.YtbpmeppdjicmhaaGreatDoorLaw15
namespace Go.Proofs.YtbpmeppdjicmhaaGreatDoor
open Go.ChangeShapes Go.WideShapes Go.ChangeAt Go.RowKit
set_option linter.unusedVariables false
set_option linter.unusedSimpArgs false
set_option maxRecDepth 100000
section
attribute [local irreducible] msgV measV small15B fewB canW writeF costN canN validN eqN
set_option maxHeartbeats 4000000 in
set_option maxRecDepth 100000 in
theorem Idem15_walk (A:Option Addr)(c:Nat)(ls:List (List Int))(D X O:Int)(w:World)(hT:TabOK w)(hA:Sg w A ls)(hw:Wd2 ls)(hnil:A=none→c=0)(hlm:ls.length≤9223372036854775807)(hlc:ls.length≤c)(hcm:c≤9223372036854775807)
  (d0:-9223372036854775808≤D) (d1:D≤9223372036854775807) (x0:-9223372036854775808≤X) (x1:X≤9223372036854775807) :
  Calls Tryz.prog 5 #[.slice A ls.length c,.agg #[.int .i64 D,.int .i64 X,.int .i64 O]] w fun e w'=>e=.returned (.bool true)∧Below w.heap.size w w':=by
 have HT:=Lib.hid hT
 have Hm:=Lib.hid hA
 have HW:=Lib.hid hw
 clear hT hA hw hnil
 go_enter Tryz.func5,Tryz.ntmps5
 go_wp2_with fail
 refine abs_world (F:=fun W=>Sg W A ls∧Blk W w.heap.size #[.int .i64 D,.int .i64 X,.int .i64 O]∧Below w.heap.size w W) ⟨?_,?_,?_⟩ ?_
 ·exact(Hm.out.alloc _)
 ·exact Blk.fresh _ _ _
 ·exact((Below.refl w.heap.size w).alloc (by first|exact Nat.le_refl _|(simp;done)|(simp;omega)) _)
 clear Hm
 rintro W1 ⟨hm,hl,hb⟩
 have Hm:=Lib.hid hm
 have Hl:=Lib.hid hl
 have HB:=Lib.hid hb
 clear hb hm hl
 refine(awake15_any _ (HT.out.on HB.out)).mono ?_
 rintro r w2 ⟨rfl,hb⟩
 have fm:=Hm.out.below hb (Nat.le_refl _)
 have fl:=Hl.out.below hb
 have HB0:=Lib.hid (bel_on HB.out hb)
 clear hb Hm Hl HB
 have HB:=HB0
 clear HB0
 have Hm:=Lib.hid fm
 clear fm
 have Hl:=Lib.hid fl
 clear fl
 obtain⟨xl,yl,zl⟩:=Hl.out
 go_wp2_with fail
 clear xl yl zl
 refine(RefSmall15 A c ls D X O _ Hm.out hlm).mono ?_
 rintro r w3 ⟨rfl,hb⟩
 have fm:=Hm.out.below hb (Nat.le_refl _)
 have fl:=Hl.out.below hb
 have HB0:=Lib.hid (bel_on HB.out hb)
 clear hb Hm Hl HB
 have HB:=HB0
 clear HB0
 have Hm:=Lib.hid fm
 clear fm
 have Hl:=Lib.hid fl
 clear fl
 cases hsm:small15B ls D X with
 | false=>
  clear hsm
  go_wp2_with fail
  refine(awake15_any _ (HT.out.on HB.out)).mono ?_
  rintro r w4 ⟨rfl,hb⟩
  have fm:=Hm.out.below hb (Nat.le_refl _)
  have fl:=Hl.out.below hb
  have HB0:=Lib.hid (bel_on HB.out hb)
  clear hb Hm Hl HB
  have HB:=HB0
  clear HB0
  have Hm:=Lib.hid fm
  clear fm
  have Hl:=Lib.hid fl
  clear fl
  go_wp2
  go_ret
  exact⟨rfl,HB.out⟩
 | true=>
  obtain⟨hD,hX,hl20,hf⟩:=small15_fits hsm
  have HF:Hid (∀j,(seg ls j).length≤20000000):=Lib.hid (fun j=>by have:=hf j;omega)
  have hm':ls.length≤40:=by omega
  clear hsm hf
  have hcl:=can15 HW.out hm' HF.out D X (by omega)
  have HCF:=Lib.hid (fun h=>canon_facts HW.out hm' HF.out D X (by omega) h)
  have HCI:=Lib.hid (fun h hb=>canon_idem HW.out hm' HF.out D X (by omega) h hb)
  have hqs:sizeN (msgV ls D X).1≤1048576:=canon_size HW.out hm' HF.out D X (by omega)
  have hcw:canW ls D X=if (msgV ls D X).2=0 then writeF (msgV ls D X).1 else []:=by unfold canW;rfl
  have hso:(if (msgV ls D X).2=0 then [writeF (msgV ls D X).1] else [])=if (msgV ls D X).2=0 then [writeF (msgV ls D X).1] else []:=rfl
  obtain⟨⟨x,e⟩,hq⟩:∃q,msgV ls D X=q:=⟨_,rfl⟩
  obtain⟨⟨y,f⟩,hr⟩:∃q,measV ls D X=q:=⟨_,rfl⟩
  have hfe:=msg_same ls D X
  rw [hq,hr] at hfe
  simp only at hfe
  subst hfe
  have he':(msgV ls D X).2=e:=by rw [hq]
  conv at hso=>rhs;rw [hq]
  rw [hq] at hcw hqs
  rw [hq,hr] at HCF
  rw [hq] at HCI
  simp only at hcw hso hqs HCF HCI
  rw [hcw] at hcl
  by_cases he:e=0
  ·subst he
   rw [if_pos rfl] at hcw hso hcl
   obtain⟨hv,ht,hdp,hc0,hc1,hc2,hc3,hc4⟩:=HCF.out rfl
   have hln:=writeF_length hv
   have HWW:=Lib.hid (fun (h:bytN x)=>writeF_wds h)
   have HII:Hid (bytN x→msgV [writeF x] D X=(x,0)∧measV [writeF x] D X=(costN x,0)∧canW [writeF x] D X=writeF x):=Lib.hid (fun h=>by
    obtain⟨g1,g2⟩:=HCI.out rfl h
    exact⟨g1,g2,by unfold canW;rw [g1];rfl⟩)
   clear HCF HCI
   obtain⟨cw,hcwe⟩:∃c,writeF x=c:=⟨_,rfl⟩
   rw [hcwe] at hcw hso hcl hln HWW HII
   obtain⟨L,hL⟩:∃L,cw.length=L:=⟨_,rfl⟩
   rw [hL] at hcl hln
   obtain⟨z,hz⟩:∃z,costN x=z:=⟨_,rfl⟩
   rw [hz] at HII hc2
   obtain⟨k,hk⟩:∃k,canN x=k:=⟨_,rfl⟩
   rw [hk] at hln hc0 hc1
   have HQ:=Lib.hid hq
   have HR:=Lib.hid hr
   have HE:=Lib.hid he'
   have HC:=Lib.hid hcw
   have HS:=Lib.hid hso
   have HL:=Lib.hid hL
   have HK:=Lib.hid hk
   have HV:=Lib.hid hv
   have HSZ:Hid (sizeN x≤1099511627776):=Lib.hid (by omega)
   clear hq hr he' hcw hso hL hcwe hz hk hv ht hdp hqs
   obtain⟨xl,yl,zl⟩:=Hl.out
   go_wp2_with fail
   clear xl yl zl
   refine(CWords_w A c _ ls D X O 0 cw L _ (HT.out.on HB.out) rfl Hm.out HW.out hm' HF.out (by omega) (by omega) HE.out HC.out HL.out).mono ?_
   rintro r w4 ⟨A1,c1,rfl,-,hn,hn1,hl1,hm1,hb⟩
   have fm:=Hm.out.below hb (Nat.le_refl _)
   have fl:=Hl.out.below hb
   have HB0:=Lib.hid (bel_on HB.out hb)
   clear hb Hm Hl HB
   have HB:=HB0
   clear HB0
   have Hm:=Lib.hid fm
   clear fm
   have Hl:=Lib.hid fl
   clear fl
   have Ha:=Lib.hid hn
   clear hn
   have HN1:=Lib.hid hn1
   clear hn1
   obtain⟨xl,yl,zl⟩:=Hl.out
   go_wp2_with fail
   clear xl yl zl
   refine(RefMessage15 A c _ ls D X O x 0 _ rfl Hm.out HW.out hm' HF.out (by omega) (by omega) HQ.out).mono ?_
   rintro r w5 ⟨v,rfl,⟨A2,c2,E2,e2,hi2,rfl,-,hno⟩,hb⟩
   have fm:=Hm.out.below hb (Nat.le_refl _)
   have fl:=Hl.out.below hb
   have fa:=Ha.out.below hb (Nat.le_refl _)
   have HB0:=Lib.hid (bel_on HB.out hb)
   clear hb Hm Hl Ha HB
   have HB:=HB0
   clear HB0
   have Hm:=Lib.hid fm
   clear fm
   have Hl:=Lib.hid fl
   clear fl
   have Ha:=Lib.hid fa
   clear fa
   have hn:=hno.nd
   clear hno
   have Hp:=Lib.hid hn
   clear hn
   obtain⟨xl,yl,zl⟩:=(Hl.out.alloc (.cells #[.int .i64 x.k,.int .i64 x.e,.int .i64 x.n,.slice A2 x.d.length c2,.slice E2 x.ks.length e2] 39))
   go_wp2_with fail
   refine abs_world (F:=fun W=>Sg W A ls∧Blk W w.heap.size #[.int .i64 D,.int .i64 X,.int .i64 O]∧Ri W .u64 A1 cw∧NdR W A2 c2 E2 e2 x∧Blk W w5.heap.size #[.int .i64 x.k,.int .i64 x.e,.int .i64 x.n,.slice A2 x.d.length c2,.slice E2 x.ks.length e2]∧Below w.heap.size w W) ⟨?_,?_,?_,?_,?_,?_⟩ ?_
   ·exact(Hm.out.alloc _)
   ·exact(Hl.out.alloc _)
   ·exact(Ri.below Ha.out ((Below.refl _ _).alloc (Nat.le_refl _) _) (Nat.le_refl _))
   ·exact(NdR.on Hp.out ((Below.refl _ _).alloc (Nat.le_refl _) _) (Nat.le_refl _))
   ·exact Blk.fresh _ _ _
   ·exact(HB.out.alloc (by first|exact Nat.le_refl _|(have:=HB.out.size;simp;omega)|(have:=HB.out.size;omega)|(simp;done)|(simp;omega)) _)
   clear Hm Hl Ha Hp HB xl yl zl
   rintro W6 ⟨hm,hl,ha,hp,hn,hb⟩
   have Hm:=Lib.hid hm
   have Hl:=Lib.hid hl
   have Ha:=Lib.hid ha
   have Hp:=Lib.hid hp
   have Hn:=Lib.hid hn
   have HB:=Lib.hid hb
   clear hb hm hl ha hp hn
   refine(RefMeasure15 A c _ ls D X O y 0 _ rfl Hm.out HW.out hm' HF.out (by omega) (by omega) HR.out).mono ?_
   rintro r w7 ⟨rfl,hb⟩
   have fm:=Hm.out.below hb (Nat.le_refl _)
   have fl:=Hl.out.below hb
   have fa:=Ha.out.below hb (Nat.le_refl _)
   have fp:=Hp.out.on hb (Nat.le_refl _)
   have fn:=Hn.out.below hb
   have HB0:=Lib.hid (bel_on HB.out hb)
   clear hb Hm Hl Ha Hp Hn HB
   have HB:=HB0
   clear HB0
   have Hm:=Lib.hid fm
   clear fm
   have Hl:=Lib.hid fl
   clear fl
   have Ha:=Lib.hid fa
   clear fa
   have Hp:=Lib.hid fp
   clear fp
   have Hn:=Lib.hid fn
   clear fn
   clear Hm
   obtain⟨hi1,hi2,hi3⟩:=HII.out Hp.out.byt
   have HI1:=Lib.hid hi1
   have HI2:=Lib.hid hi2
   have HI3:=Lib.hid hi3
   have HWC:=Lib.hid (wd_one15 (HWW.out Hp.out.byt))
   have HFC:Hid (∀j,(seg [cw] j).length≤20000000):=Lib.hid (fw_one15 (by rw [HL.out];omega))
   have hm1':[cw].length≤40:=by simp
   clear hi1 hi2 hi3 HII HWW
   obtain⟨xl,yl,zl⟩:=(Hl.out.alloc (.cells #[.slice A1 L c1] 27))
   go_wp2_with fail
   refine abs_world (F:=fun W=>Blk W w.heap.size #[.int .i64 D,.int .i64 X,.int .i64 O]∧Ri W .u64 A1 cw∧NdR W A2 c2 E2 e2 x∧Blk W w5.heap.size #[.int .i64 x.k,.int .i64 x.e,.int .i64 x.n,.slice A2 x.d.length c2,.slice E2 x.ks.length e2]∧Sg W (some ⟨w7.heap.size,0,none⟩) [cw]∧Below w.heap.size w W) ⟨?_,?_,?_,?_,?_,?_⟩ ?_
   ·exact(Hl.out.alloc _)
   ·exact(Ri.below Ha.out ((Below.refl _ _).alloc (Nat.le_refl _) _) (Nat.le_refl _))
   ·exact(NdR.on Hp.out ((Below.refl _ _).alloc (Nat.le_refl _) _) (Nat.le_refl _))
   ·exact(Hn.out.alloc _)
   ·exact sg_wrap15 _ A1 c1 L _ cw _ Ha.out HL.out HN1.out hl1 hm1 rfl
   ·exact(HB.out.alloc (by first|exact Nat.le_refl _|(have:=HB.out.size;simp;omega)|(have:=HB.out.size;omega)|(simp;done)|(simp;omega)) _)
   clear Hl Ha Hp Hn HB xl yl zl
   rintro W8 ⟨hl,ha,hp,hn,ht,hb⟩
   have Hl:=Lib.hid hl
   have Ha:=Lib.hid ha
   have Hp:=Lib.hid hp
   have Hn:=Lib.hid hn
   have Ht:=Lib.hid ht
   have HB:=Lib.hid hb
   clear hb hl ha hp hn ht
   refine(RefMessage15 (some ⟨w7.heap.size,0,none⟩) 1 1 [cw] D X O x 0 _ rfl Ht.out HWC.out hm1' HFC.out (by omega) (by omega) HI1.out).mono ?_
   rintro r w9 ⟨v,rfl,⟨A4,c4,E4,e4,hi4,rfl,-,hno⟩,hb⟩
   have fl:=Hl.out.below hb
   have fa:=Ha.out.below hb (Nat.le_refl _)
   have fp:=Hp.out.on hb (Nat.le_refl _)
   have fn:=Hn.out.below hb
   have ft:=Ht.out.below hb (Nat.le_refl _)
   have HB0:=Lib.hid (bel_on HB.out hb)
   clear hb Hl Ha Hp Hn Ht HB
   have HB:=HB0
   clear HB0
   have Hl:=Lib.hid fl
   clear fl
   have Ha:=Lib.hid fa
   clear fa
   have Hp:=Lib.hid fp
   clear fp
   have Hn:=Lib.hid fn
   clear fn
   have Ht:=Lib.hid ft
   clear ft
   have hn:=hno.nd
   clear hno
   have Hq:=Lib.hid hn
   clear hn
   clear Ht
   obtain⟨xl,yl,zl⟩:=((Hl.out.alloc (.cells #[.int .i64 x.k,.int .i64 x.e,.int .i64 x.n,.slice A4 x.d.length c4,.slice E4 x.ks.length e4] 39)).alloc (.cells #[.slice A1 L c1] 27))
   go_wp2_with fail
   refine abs_world (F:=fun W=>Blk W w.heap.size #[.int .i64 D,.int .i64 X,.int .i64 O]∧Ri W .u64 A1 cw∧NdR W A2 c2 E2 e2 x∧Blk W w5.heap.size #[.int .i64 x.k,.int .i64 x.e,.int .i64 x.n,.slice A2 x.d.length c2,.slice E2 x.ks.length e2]∧NdR W A4 c4 E4 e4 x∧Blk W w9.heap.size #[.int .i64 x.k,.int .i64 x.e,.int .i64 x.n,.slice A4 x.d.length c4,.slice E4 x.ks.length e4]∧Sg W (some ⟨w9.heap.size+1,0,none⟩) [cw]∧Below w.heap.size w W) ⟨?_,?_,?_,?_,?_,?_,?_,?_⟩ ?_
   ·exact((Hl.out.alloc _).alloc _)
   ·exact(Ri.below (Ri.below Ha.out ((Below.refl _ _).alloc (Nat.le_refl _) _) (Nat.le_refl _)) ((Below.refl _ _).alloc (Nat.le_refl _) _) (Nat.le_refl _))
   ·exact(NdR.on (NdR.on Hp.out ((Below.refl _ _).alloc (Nat.le_refl _) _) (Nat.le_refl _)) ((Below.refl _ _).alloc (Nat.le_refl _) _) (Nat.le_refl _))
   ·exact((Hn.out.alloc _).alloc _)
   ·exact(NdR.on (NdR.on Hq.out ((Below.refl _ _).alloc (Nat.le_refl _) _) (Nat.le_refl _)) ((Below.refl _ _).alloc (Nat.le_refl _) _) (Nat.le_refl _))
   ·exact(Blk.fresh _ _ _).alloc _
   ·exact sg_wrap15 _ A1 c1 L _ cw _ (Ri.below Ha.out ((Below.refl _ _).alloc (Nat.le_refl _) _) (Nat.le_refl _)) HL.out HN1.out hl1 hm1 (by simp)
   ·exact((HB.out.alloc (by first|exact Nat.le_refl _|(have:=HB.out.size;simp;omega)|(have:=HB.out.size;omega)|(simp;done)|(simp;omega)) _).alloc (by first|exact Nat.le_refl _|(have:=HB.out.size;simp;omega)|(have:=HB.out.size;omega)|(simp;done)|(simp;omega)) _)
   clear Hl Ha Hp Hn Hq HB xl yl zl
   rintro W10 ⟨hl,ha,hp,hn,hq,hg,hu,hb⟩
   have Hl:=Lib.hid hl
   have Ha:=Lib.hid ha
   have Hp:=Lib.hid hp
   have Hn:=Lib.hid hn
   have Hq:=Lib.hid hq
   have Hg:=Lib.hid hg
   have Hu:=Lib.hid hu
   have HB:=Lib.hid hb
   clear hb hl ha hp hn hq hg hu
   have hi0':(msgV [cw] D X).2=0:=by rw [HI1.out]
   refine(CWords_w (some ⟨w9.heap.size+1,0,none⟩) 1 1 [cw] D X O 0 cw L _ (HT.out.on HB.out) rfl Hu.out HWC.out hm1' HFC.out (by omega) (by omega) hi0' HI3.out HL.out).mono ?_
   rintro r w11 ⟨A5,c5,rfl,-,hn,-,-,-,hb⟩
   have fl:=Hl.out.below hb
   have fa:=Ha.out.below hb (Nat.le_refl _)
   have fp:=Hp.out.on hb (Nat.le_refl _)
   have fn:=Hn.out.below hb
   have fq:=Hq.out.on hb (Nat.le_refl _)
   have fg:=Hg.out.below hb
   have fu:=Hu.out.below hb (Nat.le_refl _)
   have HB0:=Lib.hid (bel_on HB.out hb)
   clear hb Hl Ha Hp Hn Hq Hg Hu HB
   have HB:=HB0
   clear HB0
   have Hl:=Lib.hid fl
   clear fl
   have Ha:=Lib.hid fa
   clear fa
   have Hp:=Lib.hid fp
   clear fp
   have Hn:=Lib.hid fn
   clear fn
   have Hq:=Lib.hid fq
   clear fq
   have Hg:=Lib.hid fg
   clear fg
   have Hu:=Lib.hid fu
   clear fu
   have Hv:=Lib.hid hn
   clear hn
   clear Hu
   clear Hl
   obtain⟨xn,yn,zn⟩:=Hn.out
   obtain⟨xg,yg,zg⟩:=Hg.out
   go_wp2_with fail
   clear xn yn zn xg yg zg
   refine(RefEqual_15 x x A4 c4 E4 e4 A2 c2 E2 e2 true _ Hq.out Hp.out (eqN_yes rfl)).mono ?_
   rintro r w12 ⟨rfl,hb⟩
   have fa:=Ha.out.below hb (Nat.le_refl _)
   have fp:=Hp.out.on hb (Nat.le_refl _)
   have fn:=Hn.out.below hb
   have fq:=Hq.out.on hb (Nat.le_refl _)
   have fg:=Hg.out.below hb
   have fv:=Hv.out.below hb (Nat.le_refl _)
   have HB0:=Lib.hid (bel_on HB.out hb)
   clear hb Ha Hp Hn Hq Hg Hv HB
   have HB:=HB0
   clear HB0
   have Ha:=Lib.hid fa
   clear fa
   have Hp:=Lib.hid fp
   clear fp
   have Hn:=Lib.hid fn
   clear fn
   have Hq:=Lib.hid fq
   clear fq
   have Hg:=Lib.hid fg
   clear fg
   have Hv:=Lib.hid fv
   clear fv
   go_wp2_with fail
   refine(SameWords_15 A5 A1 c5 c1 cw cw L L true _ Hv.out Ha.out HL.out HL.out (by omega) (by omega) (by simp [sameB])).mono ?_
   rintro r w13 ⟨rfl,hb⟩
   have fa:=Ha.out.below hb (Nat.le_refl _)
   have fp:=Hp.out.on hb (Nat.le_refl _)
   have fn:=Hn.out.below hb
   have fq:=Hq.out.on hb (Nat.le_refl _)
   have fg:=Hg.out.below hb
   have fv:=Hv.out.below hb (Nat.le_refl _)
   have HB0:=Lib.hid (bel_on HB.out hb)
   clear hb Ha Hp Hn Hq Hg Hv HB
   have HB:=HB0
   clear HB0
   have Ha:=Lib.hid fa
   clear fa
   have Hp:=Lib.hid fp
   clear fp
   have Hn:=Lib.hid fn
   clear fn
   have Hq:=Lib.hid fq
   clear fq
   have Hg:=Lib.hid fg
   clear fg
   have Hv:=Lib.hid fv
   clear fv
   have tk:decide (k+1≤1+y)=true:=decide_eq_true (by omega)
   go_wp2
   go_ret
   exact⟨rfl,HB.out⟩
  ·rw [if_neg he] at hcw hso hcl
   have t0:(e != 0)=true:=by simpa using he
   have tt:(e != e)=false:=by simp
   have HQ:=Lib.hid hq
   have HR:=Lib.hid hr
   have HE:=Lib.hid he'
   have HC:=Lib.hid hcw
   have HS:=Lib.hid hso
   clear hq hr he' hcw hso hcl hqs HCF HCI he
   obtain⟨xl,yl,zl⟩:=Hl.out
   go_wp2_with fail
   clear xl yl zl
   refine(CWords_w A c _ ls D X O e [] 0 _ (HT.out.on HB.out) rfl Hm.out HW.out hm' HF.out (by omega) (by omega) HE.out HC.out rfl).mono ?_
   rintro r w4 ⟨A1,c1,rfl,-,-,-,-,-,hb⟩
   have fm:=Hm.out.below hb (Nat.le_refl _)
   have fl:=Hl.out.below hb
   have HB0:=Lib.hid (bel_on HB.out hb)
   clear hb Hm Hl HB
   have HB:=HB0
   clear HB0
   have Hm:=Lib.hid fm
   clear fm
   have Hl:=Lib.hid fl
   clear fl
   go_wp2
   go_ret
   exact⟨rfl,HB.out⟩
end
end Go.Proofs.YtbpmeppdjicmhaaGreatDoor
