/- A law of layer 15: CanonicalizeIsCanonical. -/
import Derived.Test.YtbpmeppdjicmhaaGreatDoorMg45
import Derived.Test.YtbpmeppdjicmhaaGreatDoorLaw15
namespace Go.Proofs.YtbpmeppdjicmhaaGreatDoor
open Go.ChangeShapes Go.WideShapes Go.ChangeAt Go.RowKit
set_option linter.unusedVariables false
set_option linter.unusedSimpArgs false
set_option maxRecDepth 100000
section
attribute [local simp] AllK KnowsV look Is
attribute [local irreducible] msgV measV small15B fewB canW writeF costN canN validN eqN fewN trimmedN sizeN
set_option maxHeartbeats 4000000 in
set_option maxRecDepth 100000 in
theorem Canon15_walk (A:Option Addr)(c:Nat)(la:List (List Int))(B:Option Addr)(d:Nat)(lb:List (List Int))(D X O:Int)(w:World)(hT:TabOK w)(hA:Sg w A la)(hw:Wd2 la)(hnil:A=none→c=0)(hlm:la.length≤9223372036854775807)(hlc:la.length≤c)(hcm:c≤9223372036854775807)
  (hA2:Sg w B lb) (hw2:Wd2 lb) (hnil2:B=none→d=0) (hlm2:lb.length≤9223372036854775807) (hlc2:lb.length≤d) (hcm2:d≤9223372036854775807)
  (d0:-9223372036854775808≤D) (d1:D≤9223372036854775807) (x0:-9223372036854775808≤X) (x1:X≤9223372036854775807) :
  Calls Tryz.prog 4 #[.slice A la.length c,.slice B lb.length d,.agg #[.int .i64 D,.int .i64 X,.int .i64 O]] w fun e w'=>e=.returned (.bool true)∧Below w.heap.size w w':=by
 have HT:=Lib.hid hT
 have Hm:=Lib.hid hA
 have HW:=Lib.hid hw
 have Ho:=Lib.hid hA2
 have HW2:=Lib.hid hw2
 clear hT hA hw hnil hA2 hw2 hnil2
 go_enter Tryz.func4,Tryz.ntmps4
 go_wp2_with fail
 refine abs_world (F:=fun W=>Sg W A la∧Sg W B lb∧Blk W w.heap.size #[.int .i64 D,.int .i64 X,.int .i64 O]∧Below w.heap.size w W) ⟨?_,?_,?_,?_⟩ ?_
 ·exact(Hm.out.alloc _)
 ·exact(Ho.out.alloc _)
 ·exact Blk.fresh _ _ _
 ·exact((Below.refl w.heap.size w).alloc (by first|exact Nat.le_refl _|(simp;done)|(simp;omega)) _)
 clear Hm Ho
 rintro W1 ⟨hm,ho,hl,hb⟩
 have Hm:=Lib.hid hm
 have Ho:=Lib.hid ho
 have Hl:=Lib.hid hl
 have HB:=Lib.hid hb
 clear hb hm ho hl
 refine(awake15_any _ (HT.out.on HB.out)).mono ?_
 rintro r w2 ⟨rfl,hb⟩
 have fm:=Hm.out.below hb (Nat.le_refl _)
 have fo:=Ho.out.below hb (Nat.le_refl _)
 have fl:=Hl.out.below hb
 have HB0:=Lib.hid (bel_on HB.out hb)
 clear hb Hm Ho Hl HB
 have HB:=HB0
 clear HB0
 have Hm:=Lib.hid fm
 clear fm
 have Ho:=Lib.hid fo
 clear fo
 have Hl:=Lib.hid fl
 clear fl
 obtain⟨xl,yl,zl⟩:=Hl.out
 go_wp2_with fail
 clear xl yl zl
 refine(RefSmall15 A c la D X O _ Hm.out hlm).mono ?_
 rintro r w3 ⟨rfl,hb⟩
 have fm:=Hm.out.below hb (Nat.le_refl _)
 have fo:=Ho.out.below hb (Nat.le_refl _)
 have fl:=Hl.out.below hb
 have HB0:=Lib.hid (bel_on HB.out hb)
 clear hb Hm Ho Hl HB
 have HB:=HB0
 clear HB0
 have Hm:=Lib.hid fm
 clear fm
 have Ho:=Lib.hid fo
 clear fo
 have Hl:=Lib.hid fl
 clear fl
 cases hsm1:small15B la D X with
 | false=>
  clear hsm1
  go_wp2_with fail
  refine(awake15_any _ (HT.out.on HB.out)).mono ?_
  rintro r w4 ⟨rfl,hb⟩
  have fm:=Hm.out.below hb (Nat.le_refl _)
  have fo:=Ho.out.below hb (Nat.le_refl _)
  have fl:=Hl.out.below hb
  have HB0:=Lib.hid (bel_on HB.out hb)
  clear hb Hm Ho Hl HB
  have HB:=HB0
  clear HB0
  have Hm:=Lib.hid fm
  clear fm
  have Ho:=Lib.hid fo
  clear fo
  have Hl:=Lib.hid fl
  clear fl
  go_wp2
  go_ret
  exact⟨rfl,HB.out⟩
 | true=>
  obtain⟨xl,yl,zl⟩:=Hl.out
  go_wp2_with fail
  clear xl yl zl
  refine(RefSmall15 B d lb D X O _ Ho.out hlm2).mono ?_
  rintro r w4 ⟨rfl,hb⟩
  have fm:=Hm.out.below hb (Nat.le_refl _)
  have fo:=Ho.out.below hb (Nat.le_refl _)
  have fl:=Hl.out.below hb
  have HB0:=Lib.hid (bel_on HB.out hb)
  clear hb Hm Ho Hl HB
  have HB:=HB0
  clear HB0
  have Hm:=Lib.hid fm
  clear fm
  have Ho:=Lib.hid fo
  clear fo
  have Hl:=Lib.hid fl
  clear fl
  cases hsm2:small15B lb D X with
  | false=>
   clear hsm1 hsm2
   go_wp2_with fail
   refine(awake15_any _ (HT.out.on HB.out)).mono ?_
   rintro r w5 ⟨rfl,hb⟩
   have fm:=Hm.out.below hb (Nat.le_refl _)
   have fo:=Ho.out.below hb (Nat.le_refl _)
   have fl:=Hl.out.below hb
   have HB0:=Lib.hid (bel_on HB.out hb)
   clear hb Hm Ho Hl HB
   have HB:=HB0
   clear HB0
   have Hm:=Lib.hid fm
   clear fm
   have Ho:=Lib.hid fo
   clear fo
   have Hl:=Lib.hid fl
   clear fl
   go_wp2
   go_ret
   exact⟨rfl,HB.out⟩
  | true=>
   obtain⟨hD,hX,hl20,hf⟩:=small15_fits hsm1
   have HF:Hid (∀j,(seg la j).length≤20000000):=Lib.hid (fun j=>by have:=hf j;omega)
   obtain⟨hD',hX',hl20',hf'⟩:=small15_fits hsm2
   have HF2:Hid (∀j,(seg lb j).length≤20000000):=Lib.hid (fun j=>by have:=hf' j;omega)
   have hm':la.length≤40:=by omega
   have hm2':lb.length≤40:=by omega
   clear hsm1 hsm2 hf hf' hD' hX' hl20 hl20'
   have hcl1:=can15 HW.out hm' HF.out D X (by omega)
   have hcf1:=fun h=>canon_facts HW.out hm' HF.out D X (by omega) h
   have hqs1:sizeN (msgV la D X).1≤1048576:=canon_size HW.out hm' HF.out D X (by omega)
   have hcw1:canW la D X=if (msgV la D X).2=0 then writeF (msgV la D X).1 else []:=by unfold canW;rfl
   obtain⟨⟨x,e⟩,hq1⟩:∃q,msgV la D X=q:=⟨_,rfl⟩
   have he1:(msgV la D X).2=e:=by rw [hq1]
   rw [hq1] at hcw1 hqs1
   rw [hq1] at hcf1
   simp only at hcw1 hqs1 hcf1
   obtain⟨cx,hcc1⟩:∃c,canW la D X=c:=⟨_,rfl⟩
   rw [hcc1] at hcw1 hcl1
   obtain⟨L1,hL1⟩:∃L,cx.length=L:=⟨_,rfl⟩
   rw [hL1] at hcl1
   have HQ1:=Lib.hid hq1
   have HE1:=Lib.hid he1
   have HC1:=Lib.hid hcc1
   have HL1:=Lib.hid hL1
   have HCW1:=Lib.hid hcw1
   have HCF1:=Lib.hid hcf1
   have HSZ1:Hid (sizeN x≤1099511627776):=Lib.hid (by omega)
   clear hq1 he1 hcc1 hL1 hcw1 hcf1 hqs1
   have hcl2:=can15 HW2.out hm2' HF2.out D X (by omega)
   have hcf2:=fun h=>canon_facts HW2.out hm2' HF2.out D X (by omega) h
   have hqs2:sizeN (msgV lb D X).1≤1048576:=canon_size HW2.out hm2' HF2.out D X (by omega)
   have hcw2:canW lb D X=if (msgV lb D X).2=0 then writeF (msgV lb D X).1 else []:=by unfold canW;rfl
   obtain⟨⟨y,f⟩,hq2⟩:∃q,msgV lb D X=q:=⟨_,rfl⟩
   have he2:(msgV lb D X).2=f:=by rw [hq2]
   rw [hq2] at hcw2 hqs2
   rw [hq2] at hcf2
   simp only at hcw2 hqs2 hcf2
   obtain⟨cy,hcc2⟩:∃c,canW lb D X=c:=⟨_,rfl⟩
   rw [hcc2] at hcw2 hcl2
   obtain⟨L2,hL2⟩:∃L,cy.length=L:=⟨_,rfl⟩
   rw [hL2] at hcl2
   have HQ2:=Lib.hid hq2
   have HE2:=Lib.hid he2
   have HC2:=Lib.hid hcc2
   have HL2:=Lib.hid hL2
   have HCW2:=Lib.hid hcw2
   have HCF2:=Lib.hid hcf2
   have HSZ2:Hid (sizeN y≤1099511627776):=Lib.hid (by omega)
   clear hq2 he2 hcc2 hL2 hcw2 hcf2 hqs2
   by_cases he:e=0
   ·subst he
    by_cases hf:f=0
    ·subst hf
     obtain⟨xl,yl,zl⟩:=Hl.out
     go_wp2_with fail
     clear xl yl zl
     refine(CWords_w A c _ la D X O 0 cx L1 _ (HT.out.on HB.out) rfl Hm.out HW.out hm' HF.out (by omega) (by omega) HE1.out HC1.out HL1.out).mono ?_
     rintro r w5 ⟨A1,c1,rfl,-,hn,-,-,-,hb⟩
     have fm:=Hm.out.below hb (Nat.le_refl _)
     have fo:=Ho.out.below hb (Nat.le_refl _)
     have fl:=Hl.out.below hb
     have HB0:=Lib.hid (bel_on HB.out hb)
     clear hb Hm Ho Hl HB
     have HB:=HB0
     clear HB0
     have Hm:=Lib.hid fm
     clear fm
     have Ho:=Lib.hid fo
     clear fo
     have Hl:=Lib.hid fl
     clear fl
     have Ha:=Lib.hid hn
     clear hn
     obtain⟨xl,yl,zl⟩:=Hl.out
     go_wp2_with fail
     clear xl yl zl
     refine(CWords_w B d _ lb D X O 0 cy L2 _ (HT.out.on HB.out) rfl Ho.out HW2.out hm2' HF2.out (by omega) (by omega) HE2.out HC2.out HL2.out).mono ?_
     rintro r w6 ⟨A2,c2,rfl,-,hn,-,-,-,hb⟩
     have fm:=Hm.out.below hb (Nat.le_refl _)
     have fo:=Ho.out.below hb (Nat.le_refl _)
     have fl:=Hl.out.below hb
     have fa:=Ha.out.below hb (Nat.le_refl _)
     have HB0:=Lib.hid (bel_on HB.out hb)
     clear hb Hm Ho Hl Ha HB
     have HB:=HB0
     clear HB0
     have Hm:=Lib.hid fm
     clear fm
     have Ho:=Lib.hid fo
     clear fo
     have Hl:=Lib.hid fl
     clear fl
     have Ha:=Lib.hid fa
     clear fa
     have Hd:=Lib.hid hn
     clear hn
     obtain⟨xl,yl,zl⟩:=Hl.out
     go_wp2_with fail
     clear xl yl zl
     refine(RefMessage15 A c _ la D X O x 0 _ rfl Hm.out HW.out hm' HF.out (by omega) (by omega) HQ1.out).mono ?_
     rintro r w7 ⟨v,rfl,⟨A3,c3,E3,e3,hi3,rfl,-,hno⟩,hb⟩
     have fm:=Hm.out.below hb (Nat.le_refl _)
     have fo:=Ho.out.below hb (Nat.le_refl _)
     have fl:=Hl.out.below hb
     have fa:=Ha.out.below hb (Nat.le_refl _)
     have fd:=Hd.out.below hb (Nat.le_refl _)
     have HB0:=Lib.hid (bel_on HB.out hb)
     clear hb Hm Ho Hl Ha Hd HB
     have HB:=HB0
     clear HB0
     have Hm:=Lib.hid fm
     clear fm
     have Ho:=Lib.hid fo
     clear fo
     have Hl:=Lib.hid fl
     clear fl
     have Ha:=Lib.hid fa
     clear fa
     have Hd:=Lib.hid fd
     clear fd
     have hn:=hno.nd
     clear hno
     have Hp:=Lib.hid hn
     clear hn
     obtain⟨xl,yl,zl⟩:=(Hl.out.alloc (.cells #[.int .i64 x.k,.int .i64 x.e,.int .i64 x.n,.slice A3 x.d.length c3,.slice E3 x.ks.length e3] 39))
     go_wp2_with fail
     refine abs_world (F:=fun W=>Sg W A la∧Sg W B lb∧Blk W w.heap.size #[.int .i64 D,.int .i64 X,.int .i64 O]∧Ri W .u64 A1 cx∧Ri W .u64 A2 cy∧NdR W A3 c3 E3 e3 x∧Blk W w7.heap.size #[.int .i64 x.k,.int .i64 x.e,.int .i64 x.n,.slice A3 x.d.length c3,.slice E3 x.ks.length e3]∧Below w.heap.size w W) ⟨?_,?_,?_,?_,?_,?_,?_,?_⟩ ?_
     ·exact(Hm.out.alloc _)
     ·exact(Ho.out.alloc _)
     ·exact(Hl.out.alloc _)
     ·exact(Ri.below Ha.out ((Below.refl _ _).alloc (Nat.le_refl _) _) (Nat.le_refl _))
     ·exact(Ri.below Hd.out ((Below.refl _ _).alloc (Nat.le_refl _) _) (Nat.le_refl _))
     ·exact(NdR.on Hp.out ((Below.refl _ _).alloc (Nat.le_refl _) _) (Nat.le_refl _))
     ·exact Blk.fresh _ _ _
     ·exact(HB.out.alloc (by first|exact Nat.le_refl _|(have:=HB.out.size;simp;omega)|(have:=HB.out.size;omega)|(simp;done)|(simp;omega)) _)
     clear Hm Ho Hl Ha Hd Hp HB xl yl zl
     rintro W8 ⟨hm,ho,hl,ha,hd,hp,hn,hb⟩
     have Hm:=Lib.hid hm
     have Ho:=Lib.hid ho
     have Hl:=Lib.hid hl
     have Ha:=Lib.hid ha
     have Hd:=Lib.hid hd
     have Hp:=Lib.hid hp
     have Hn:=Lib.hid hn
     have HB:=Lib.hid hb
     clear hb hm ho hl ha hd hp hn
     refine(RefMessage15 B d _ lb D X O y 0 _ rfl Ho.out HW2.out hm2' HF2.out (by omega) (by omega) HQ2.out).mono ?_
     rintro r w9 ⟨v,rfl,⟨A4,c4,E4,e4,hi4,rfl,-,hno⟩,hb⟩
     have fm:=Hm.out.below hb (Nat.le_refl _)
     have fo:=Ho.out.below hb (Nat.le_refl _)
     have fl:=Hl.out.below hb
     have fa:=Ha.out.below hb (Nat.le_refl _)
     have fd:=Hd.out.below hb (Nat.le_refl _)
     have fp:=Hp.out.on hb (Nat.le_refl _)
     have fn:=Hn.out.below hb
     have HB0:=Lib.hid (bel_on HB.out hb)
     clear hb Hm Ho Hl Ha Hd Hp Hn HB
     have HB:=HB0
     clear HB0
     have Hm:=Lib.hid fm
     clear fm
     have Ho:=Lib.hid fo
     clear fo
     have Hl:=Lib.hid fl
     clear fl
     have Ha:=Lib.hid fa
     clear fa
     have Hd:=Lib.hid fd
     clear fd
     have Hp:=Lib.hid fp
     clear fp
     have Hn:=Lib.hid fn
     clear fn
     have hn:=hno.nd
     clear hno
     have Hq:=Lib.hid hn
     clear hn
     clear Hm
     clear Ho
     clear Hl
     obtain⟨xn,yn,zn⟩:=(Hn.out.alloc (.cells #[.int .i64 y.k,.int .i64 y.e,.int .i64 y.n,.slice A4 y.d.length c4,.slice E4 y.ks.length e4] 39))
     go_wp2_with fail
     refine abs_world (F:=fun W=>Ri W .u64 A1 cx∧Ri W .u64 A2 cy∧NdR W A3 c3 E3 e3 x∧Blk W w7.heap.size #[.int .i64 x.k,.int .i64 x.e,.int .i64 x.n,.slice A3 x.d.length c3,.slice E3 x.ks.length e3]∧NdR W A4 c4 E4 e4 y∧Blk W w9.heap.size #[.int .i64 y.k,.int .i64 y.e,.int .i64 y.n,.slice A4 y.d.length c4,.slice E4 y.ks.length e4]∧Below w.heap.size w W) ⟨?_,?_,?_,?_,?_,?_,?_⟩ ?_
     ·exact(Ri.below Ha.out ((Below.refl _ _).alloc (Nat.le_refl _) _) (Nat.le_refl _))
     ·exact(Ri.below Hd.out ((Below.refl _ _).alloc (Nat.le_refl _) _) (Nat.le_refl _))
     ·exact(NdR.on Hp.out ((Below.refl _ _).alloc (Nat.le_refl _) _) (Nat.le_refl _))
     ·exact(Hn.out.alloc _)
     ·exact(NdR.on Hq.out ((Below.refl _ _).alloc (Nat.le_refl _) _) (Nat.le_refl _))
     ·exact Blk.fresh _ _ _
     ·exact(HB.out.alloc (by first|exact Nat.le_refl _|(have:=HB.out.size;simp;omega)|(have:=HB.out.size;omega)|(simp;done)|(simp;omega)) _)
     clear Ha Hd Hp Hn Hq HB xn yn zn
     rintro W10 ⟨ha,hd,hp,hn,hq,hg,hb⟩
     have Ha:=Lib.hid ha
     have Hd:=Lib.hid hd
     have Hp:=Lib.hid hp
     have Hn:=Lib.hid hn
     have Hq:=Lib.hid hq
     have Hg:=Lib.hid hg
     have HB:=Lib.hid hb
     clear hb ha hd hp hn hq hg
     refine(RefFew_node x A3 c3 E3 e3 _ Hp.out HSZ1.out).mono ?_
     rintro r w11 ⟨rfl,hb⟩
     have fa:=Ha.out.below hb (Nat.le_refl _)
     have fd:=Hd.out.below hb (Nat.le_refl _)
     have fp:=Hp.out.on hb (Nat.le_refl _)
     have fn:=Hn.out.below hb
     have fq:=Hq.out.on hb (Nat.le_refl _)
     have fg:=Hg.out.below hb
     have HB0:=Lib.hid (bel_on HB.out hb)
     clear hb Ha Hd Hp Hn Hq Hg HB
     have HB:=HB0
     clear HB0
     have Ha:=Lib.hid fa
     clear fa
     have Hd:=Lib.hid fd
     clear fd
     have Hp:=Lib.hid fp
     clear fp
     have Hn:=Lib.hid fn
     clear fn
     have Hq:=Lib.hid fq
     clear fq
     have Hg:=Lib.hid fg
     clear fg
     cases hfx:fewN x with
     | false=>
      clear hfx
      go_wp2
      go_ret
      exact⟨rfl,HB.out⟩
     | true=>
      clear hfx
      obtain⟨xg,yg,zg⟩:=Hg.out
      go_wp2_with fail
      clear xg yg zg
      refine(RefFew_node y A4 c4 E4 e4 _ Hq.out HSZ2.out).mono ?_
      rintro r w12 ⟨rfl,hb⟩
      have fa:=Ha.out.below hb (Nat.le_refl _)
      have fd:=Hd.out.below hb (Nat.le_refl _)
      have fp:=Hp.out.on hb (Nat.le_refl _)
      have fn:=Hn.out.below hb
      have fq:=Hq.out.on hb (Nat.le_refl _)
      have fg:=Hg.out.below hb
      have HB0:=Lib.hid (bel_on HB.out hb)
      clear hb Ha Hd Hp Hn Hq Hg HB
      have HB:=HB0
      clear HB0
      have Ha:=Lib.hid fa
      clear fa
      have Hd:=Lib.hid fd
      clear fd
      have Hp:=Lib.hid fp
      clear fp
      have Hn:=Lib.hid fn
      clear fn
      have Hq:=Lib.hid fq
      clear fq
      have Hg:=Lib.hid fg
      clear fg
      cases hfy:fewN y with
      | false=>
       clear hfy
       go_wp2
       go_ret
       exact⟨rfl,HB.out⟩
      | true=>
       clear hfy
       have hse:sameB cx cy=eqN x y:=by
        obtain⟨g1,g2,g3,g4,g5,g6,g7,g8⟩:=HCF1.out (by first|rfl|trivial)
        obtain⟨k1,k2,k3,k4,k5,k6,k7,k8⟩:=HCF2.out (by first|rfl|trivial)
        have hxx:cx=writeF x:=by have:=HCW1.out;simpa using this
        have hyy:cy=writeF y:=by have:=HCW2.out;simpa using this
        rw [hxx,hyy]
        have hXs:startI X≤2000:=by unfold startI;split<;>omega
        exact canon_same g1 k1 g2 k2 Hp.out.byt Hq.out.byt (by omega) (by omega)
       obtain⟨v,hv⟩:∃v,eqN x y=v:=⟨_,rfl⟩
       rw [hv] at hse
       have HSE:=Lib.hid hse
       have HEQ:=Lib.hid hv
       clear hse hv
       go_wp2_with fail
       rename_i KK hKK
       refine wp_region_chain (by kernel_rfl) (by kernel_rfl) ?_
       refine chain_val (u:=?_) [7] rfl (by kernel_rfl) trivial (fun ρ wc hbc hcn hk=>?_) ?_;rotate_left
       ·obtain⟨hcn,-⟩:=hcn
        simp at hk
        go_simp
        rfl
       refine chain_val (u:=?_) [9] rfl (by kernel_rfl) trivial (fun ρ wc hbc hcn hk=>?_) ?_;rotate_left
       ·obtain⟨hcn,-⟩:=hcn
        simp at hk
        go_simp
        rfl
       refine chain_call (T:=Is (.bool v)) 13 [87,88] rfl (by kernel_rfl) trivial (stable_is _) (fun ρ wc hbc hcn hk=>?_) ?_
       ·obtain⟨hcn,hfn⟩:=hcn
        simp at hk
        refine⟨_,by go_simp;rfl,?_⟩
        refine(SameWords_15 A1 A2 c1 c2 cx cy L1 L2 v wc (Ha.out.below (⟨hbc.os,hbc.tape,hbc.output,hbc.size,hbc.block⟩:Below w12.heap.size w12 wc) (Nat.le_refl _)) (Hd.out.below (⟨hbc.os,hbc.tape,hbc.output,hbc.size,hbc.block⟩:Below w12.heap.size w12 wc) (Nat.le_refl _)) HL1.out HL2.out (by omega) (by omega) HSE.out).mono ?_
        rintro e w' ⟨rfl,hbq⟩
        exact⟨_,rfl,rfl,hbq⟩
       refine chain_val (u:=?_) [11] rfl (by kernel_rfl) trivial (fun ρ wc hbc hcn hk=>?_) ?_;rotate_left
       ·obtain⟨hcn,-⟩:=hcn
        simp at hk
        obtain⟨xn,yn,zn⟩:=Hn.out.drew.below hbc
        go_simp
        rfl
       refine chain_val (u:=?_) [13] rfl (by kernel_rfl) trivial (fun ρ wc hbc hcn hk=>?_) ?_;rotate_left
       ·obtain⟨hcn,-⟩:=hcn
        simp at hk
        obtain⟨xg,yg,zg⟩:=Hg.out.drew.below hbc
        go_simp
        rfl
       refine chain_call (T:=Is (.bool v)) 16 [90,91] rfl (by kernel_rfl) trivial (stable_is _) (fun ρ wc hbc hcn hk=>?_) ?_
       ·obtain⟨hcn,hfn⟩:=hcn
        simp at hk
        refine⟨_,by go_simp;rfl,?_⟩
        refine(RefEqual_15 x y A3 c3 E3 e3 A4 c4 E4 e4 v wc (Hp.out.on (⟨hbc.os,hbc.tape,hbc.output,hbc.size,hbc.block⟩:Below w12.heap.size w12 wc) (Nat.le_refl _)) (Hq.out.on (⟨hbc.os,hbc.tape,hbc.output,hbc.size,hbc.block⟩:Below w12.heap.size w12 wc) (Nat.le_refl _)) HEQ.out).mono ?_
        rintro e w' ⟨rfl,hbq⟩
        exact⟨_,rfl,rfl,hbq⟩
       refine chain_val (u:=?_) [89,92] rfl (by kernel_rfl) trivial (fun ρ wc hbc hcn hk=>?_) ?_;rotate_left
       ·obtain⟨hcn,-⟩:=hcn
        simp at hk
        go_simp
        rfl
       refine chain_val (u:=?_) [93] rfl (by kernel_rfl) trivial (fun ρ wc hbc hcn hk=>?_) ?_;rotate_left
       ·obtain⟨hcn,-⟩:=hcn
        simp at hk
        go_simp
        rfl
       refine chain_end_lit 94 (by kernel_rfl) (fun ff w7 hb7 hk=>?_)
       refine hKK _ _ ?_
       simp [AllN] at hk
       simp only [frameL,hk,Nat.zero_add,Nat.reduceAdd]
       have hb7':Below w12.heap.size w12 w7:=⟨hb7.os,hb7.tape,hb7.output,hb7.size,hb7.block⟩
       have HB7:=Lib.hid (bel_on HB.out hb7')
       clear hb7 hk hb7'
       go_wp2
       go_ret
       exact⟨rfl,HB7.out⟩
    ·have tf:(f != 0)=true:=by simpa using hf
     have tt:(f != f)=false:=by simp
     clear hf
     obtain⟨xl,yl,zl⟩:=Hl.out
     go_wp2_with fail
     clear xl yl zl
     refine(CWords_w A c _ la D X O 0 cx L1 _ (HT.out.on HB.out) rfl Hm.out HW.out hm' HF.out (by omega) (by omega) HE1.out HC1.out HL1.out).mono ?_
     rintro r w5 ⟨A1,c1,rfl,-,hn,-,-,-,hb⟩
     have fm:=Hm.out.below hb (Nat.le_refl _)
     have fo:=Ho.out.below hb (Nat.le_refl _)
     have fl:=Hl.out.below hb
     have HB0:=Lib.hid (bel_on HB.out hb)
     clear hb Hm Ho Hl HB
     have HB:=HB0
     clear HB0
     have Hm:=Lib.hid fm
     clear fm
     have Ho:=Lib.hid fo
     clear fo
     have Hl:=Lib.hid fl
     clear fl
     have Ha:=Lib.hid hn
     clear hn
     obtain⟨xl,yl,zl⟩:=Hl.out
     go_wp2_with fail
     clear xl yl zl
     refine(CWords_w B d _ lb D X O f cy L2 _ (HT.out.on HB.out) rfl Ho.out HW2.out hm2' HF2.out (by omega) (by omega) HE2.out HC2.out HL2.out).mono ?_
     rintro r w6 ⟨A2,c2,rfl,-,hn,-,-,-,hb⟩
     have fm:=Hm.out.below hb (Nat.le_refl _)
     have fo:=Ho.out.below hb (Nat.le_refl _)
     have fl:=Hl.out.below hb
     have fa:=Ha.out.below hb (Nat.le_refl _)
     have HB0:=Lib.hid (bel_on HB.out hb)
     clear hb Hm Ho Hl Ha HB
     have HB:=HB0
     clear HB0
     have Hm:=Lib.hid fm
     clear fm
     have Ho:=Lib.hid fo
     clear fo
     have Hl:=Lib.hid fl
     clear fl
     have Ha:=Lib.hid fa
     clear fa
     have Hd:=Lib.hid hn
     clear hn
     obtain⟨xl,yl,zl⟩:=Hl.out
     go_wp2_with fail
     clear xl yl zl
     refine(RefMessage15 A c _ la D X O x 0 _ rfl Hm.out HW.out hm' HF.out (by omega) (by omega) HQ1.out).mono ?_
     rintro r w7 ⟨v,rfl,⟨A3,c3,E3,e3,hi3,rfl,-,hno⟩,hb⟩
     have fm:=Hm.out.below hb (Nat.le_refl _)
     have fo:=Ho.out.below hb (Nat.le_refl _)
     have fl:=Hl.out.below hb
     have fa:=Ha.out.below hb (Nat.le_refl _)
     have fd:=Hd.out.below hb (Nat.le_refl _)
     have HB0:=Lib.hid (bel_on HB.out hb)
     clear hb Hm Ho Hl Ha Hd HB
     have HB:=HB0
     clear HB0
     have Hm:=Lib.hid fm
     clear fm
     have Ho:=Lib.hid fo
     clear fo
     have Hl:=Lib.hid fl
     clear fl
     have Ha:=Lib.hid fa
     clear fa
     have Hd:=Lib.hid fd
     clear fd
     have hn:=hno.nd
     clear hno
     have Hp:=Lib.hid hn
     clear hn
     obtain⟨xl,yl,zl⟩:=(Hl.out.alloc (.cells #[.int .i64 x.k,.int .i64 x.e,.int .i64 x.n,.slice A3 x.d.length c3,.slice E3 x.ks.length e3] 39))
     go_wp2_with fail
     refine abs_world (F:=fun W=>Sg W A la∧Sg W B lb∧Blk W w.heap.size #[.int .i64 D,.int .i64 X,.int .i64 O]∧Ri W .u64 A1 cx∧Ri W .u64 A2 cy∧NdR W A3 c3 E3 e3 x∧Blk W w7.heap.size #[.int .i64 x.k,.int .i64 x.e,.int .i64 x.n,.slice A3 x.d.length c3,.slice E3 x.ks.length e3]∧Below w.heap.size w W) ⟨?_,?_,?_,?_,?_,?_,?_,?_⟩ ?_
     ·exact(Hm.out.alloc _)
     ·exact(Ho.out.alloc _)
     ·exact(Hl.out.alloc _)
     ·exact(Ri.below Ha.out ((Below.refl _ _).alloc (Nat.le_refl _) _) (Nat.le_refl _))
     ·exact(Ri.below Hd.out ((Below.refl _ _).alloc (Nat.le_refl _) _) (Nat.le_refl _))
     ·exact(NdR.on Hp.out ((Below.refl _ _).alloc (Nat.le_refl _) _) (Nat.le_refl _))
     ·exact Blk.fresh _ _ _
     ·exact(HB.out.alloc (by first|exact Nat.le_refl _|(have:=HB.out.size;simp;omega)|(have:=HB.out.size;omega)|(simp;done)|(simp;omega)) _)
     clear Hm Ho Hl Ha Hd Hp HB xl yl zl
     rintro W8 ⟨hm,ho,hl,ha,hd,hp,hn,hb⟩
     have Hm:=Lib.hid hm
     have Ho:=Lib.hid ho
     have Hl:=Lib.hid hl
     have Ha:=Lib.hid ha
     have Hd:=Lib.hid hd
     have Hp:=Lib.hid hp
     have Hn:=Lib.hid hn
     have HB:=Lib.hid hb
     clear hb hm ho hl ha hd hp hn
     refine(RefMessage15 B d _ lb D X O y f _ rfl Ho.out HW2.out hm2' HF2.out (by omega) (by omega) HQ2.out).mono ?_
     rintro r w9 ⟨v,rfl,⟨A4,c4,E4,e4,hi4,rfl,-,hno⟩,hb⟩
     have fm:=Hm.out.below hb (Nat.le_refl _)
     have fo:=Ho.out.below hb (Nat.le_refl _)
     have fl:=Hl.out.below hb
     have fa:=Ha.out.below hb (Nat.le_refl _)
     have fd:=Hd.out.below hb (Nat.le_refl _)
     have fp:=Hp.out.on hb (Nat.le_refl _)
     have fn:=Hn.out.below hb
     have HB0:=Lib.hid (bel_on HB.out hb)
     clear hb Hm Ho Hl Ha Hd Hp Hn HB
     have HB:=HB0
     clear HB0
     have Hm:=Lib.hid fm
     clear fm
     have Ho:=Lib.hid fo
     clear fo
     have Hl:=Lib.hid fl
     clear fl
     have Ha:=Lib.hid fa
     clear fa
     have Hd:=Lib.hid fd
     clear fd
     have Hp:=Lib.hid fp
     clear fp
     have Hn:=Lib.hid fn
     clear fn
     have hn:=hno.nd
     clear hno
     have Hq:=Lib.hid hn
     clear hn
     go_wp2
     go_ret
     exact⟨rfl,HB.out.alloc HB.out.size _⟩
   ·have t0:(e != 0)=true:=by simpa using he
    have tt:(e != e)=false:=by simp
    have tf:(f != f)=false:=by simp
    have hc0:cx=[]:=by have:=HCW1.out;rw [if_neg he] at this;exact this
    subst hc0
    clear he
    obtain⟨xl,yl,zl⟩:=Hl.out
    go_wp2_with fail
    clear xl yl zl
    refine(CWords_w A c _ la D X O e [] 0 _ (HT.out.on HB.out) rfl Hm.out HW.out hm' HF.out (by omega) (by omega) HE1.out HC1.out rfl).mono ?_
    rintro r w5 ⟨A1,c1,rfl,-,hn,-,-,-,hb⟩
    have fm:=Hm.out.below hb (Nat.le_refl _)
    have fo:=Ho.out.below hb (Nat.le_refl _)
    have fl:=Hl.out.below hb
    have HB0:=Lib.hid (bel_on HB.out hb)
    clear hb Hm Ho Hl HB
    have HB:=HB0
    clear HB0
    have Hm:=Lib.hid fm
    clear fm
    have Ho:=Lib.hid fo
    clear fo
    have Hl:=Lib.hid fl
    clear fl
    have Ha:=Lib.hid hn
    clear hn
    obtain⟨xl,yl,zl⟩:=Hl.out
    go_wp2_with fail
    clear xl yl zl
    refine(CWords_w B d _ lb D X O f cy L2 _ (HT.out.on HB.out) rfl Ho.out HW2.out hm2' HF2.out (by omega) (by omega) HE2.out HC2.out HL2.out).mono ?_
    rintro r w6 ⟨A2,c2,rfl,-,hn,-,-,-,hb⟩
    have fm:=Hm.out.below hb (Nat.le_refl _)
    have fo:=Ho.out.below hb (Nat.le_refl _)
    have fl:=Hl.out.below hb
    have fa:=Ha.out.below hb (Nat.le_refl _)
    have HB0:=Lib.hid (bel_on HB.out hb)
    clear hb Hm Ho Hl Ha HB
    have HB:=HB0
    clear HB0
    have Hm:=Lib.hid fm
    clear fm
    have Ho:=Lib.hid fo
    clear fo
    have Hl:=Lib.hid fl
    clear fl
    have Ha:=Lib.hid fa
    clear fa
    have Hd:=Lib.hid hn
    clear hn
    obtain⟨xl,yl,zl⟩:=Hl.out
    go_wp2_with fail
    clear xl yl zl
    refine(RefMessage15 A c _ la D X O x e _ rfl Hm.out HW.out hm' HF.out (by omega) (by omega) HQ1.out).mono ?_
    rintro r w7 ⟨v,rfl,⟨A3,c3,E3,e3,hi3,rfl,-,hno⟩,hb⟩
    have fm:=Hm.out.below hb (Nat.le_refl _)
    have fo:=Ho.out.below hb (Nat.le_refl _)
    have fl:=Hl.out.below hb
    have fa:=Ha.out.below hb (Nat.le_refl _)
    have fd:=Hd.out.below hb (Nat.le_refl _)
    have HB0:=Lib.hid (bel_on HB.out hb)
    clear hb Hm Ho Hl Ha Hd HB
    have HB:=HB0
    clear HB0
    have Hm:=Lib.hid fm
    clear fm
    have Ho:=Lib.hid fo
    clear fo
    have Hl:=Lib.hid fl
    clear fl
    have Ha:=Lib.hid fa
    clear fa
    have Hd:=Lib.hid fd
    clear fd
    have hn:=hno.nd
    clear hno
    have Hp:=Lib.hid hn
    clear hn
    obtain⟨xl,yl,zl⟩:=(Hl.out.alloc (.cells #[.int .i64 x.k,.int .i64 x.e,.int .i64 x.n,.slice A3 x.d.length c3,.slice E3 x.ks.length e3] 39))
    go_wp2_with fail
    refine abs_world (F:=fun W=>Sg W A la∧Sg W B lb∧Blk W w.heap.size #[.int .i64 D,.int .i64 X,.int .i64 O]∧Ri W .u64 A1 []∧Ri W .u64 A2 cy∧NdR W A3 c3 E3 e3 x∧Blk W w7.heap.size #[.int .i64 x.k,.int .i64 x.e,.int .i64 x.n,.slice A3 x.d.length c3,.slice E3 x.ks.length e3]∧Below w.heap.size w W) ⟨?_,?_,?_,?_,?_,?_,?_,?_⟩ ?_
    ·exact(Hm.out.alloc _)
    ·exact(Ho.out.alloc _)
    ·exact(Hl.out.alloc _)
    ·exact(Ri.below Ha.out ((Below.refl _ _).alloc (Nat.le_refl _) _) (Nat.le_refl _))
    ·exact(Ri.below Hd.out ((Below.refl _ _).alloc (Nat.le_refl _) _) (Nat.le_refl _))
    ·exact(NdR.on Hp.out ((Below.refl _ _).alloc (Nat.le_refl _) _) (Nat.le_refl _))
    ·exact Blk.fresh _ _ _
    ·exact(HB.out.alloc (by first|exact Nat.le_refl _|(have:=HB.out.size;simp;omega)|(have:=HB.out.size;omega)|(simp;done)|(simp;omega)) _)
    clear Hm Ho Hl Ha Hd Hp HB xl yl zl
    rintro W8 ⟨hm,ho,hl,ha,hd,hp,hn,hb⟩
    have Hm:=Lib.hid hm
    have Ho:=Lib.hid ho
    have Hl:=Lib.hid hl
    have Ha:=Lib.hid ha
    have Hd:=Lib.hid hd
    have Hp:=Lib.hid hp
    have Hn:=Lib.hid hn
    have HB:=Lib.hid hb
    clear hb hm ho hl ha hd hp hn
    refine(RefMessage15 B d _ lb D X O y f _ rfl Ho.out HW2.out hm2' HF2.out (by omega) (by omega) HQ2.out).mono ?_
    rintro r w9 ⟨v,rfl,⟨A4,c4,E4,e4,hi4,rfl,-,hno⟩,hb⟩
    have fm:=Hm.out.below hb (Nat.le_refl _)
    have fo:=Ho.out.below hb (Nat.le_refl _)
    have fl:=Hl.out.below hb
    have fa:=Ha.out.below hb (Nat.le_refl _)
    have fd:=Hd.out.below hb (Nat.le_refl _)
    have fp:=Hp.out.on hb (Nat.le_refl _)
    have fn:=Hn.out.below hb
    have HB0:=Lib.hid (bel_on HB.out hb)
    clear hb Hm Ho Hl Ha Hd Hp Hn HB
    have HB:=HB0
    clear HB0
    have Hm:=Lib.hid fm
    clear fm
    have Ho:=Lib.hid fo
    clear fo
    have Hl:=Lib.hid fl
    clear fl
    have Ha:=Lib.hid fa
    clear fa
    have Hd:=Lib.hid fd
    clear fd
    have Hp:=Lib.hid fp
    clear fp
    have Hn:=Lib.hid fn
    clear fn
    have hn:=hno.nd
    clear hno
    have Hq:=Lib.hid hn
    clear hn
    go_wp2
    go_ret
    exact⟨rfl,HB.out.alloc HB.out.size _⟩
end
end Go.Proofs.YtbpmeppdjicmhaaGreatDoor
