/- A law of layer 17: EqualMatchesReference. -/
import Derived.Test.YtfaflahfjgnphaaGreatDoorMg40
import Derived.Test.YtfaflahfjgnphaaGreatDoorMg42
import Derived.Test.YtfaflahfjgnphaaGreatDoorAwake17
namespace Go.Proofs.YtfaflahfjgnphaaGreatDoor
open Go.ChangeShapes Go.WideShapes Go.ChangeAt Go.RowKit
set_option linter.unusedVariables false
set_option linter.unusedSimpArgs false
set_option maxRecDepth 100000
section
attribute [local irreducible] msgV measV small15B fewB canW writeF eqM eqN dataE sameB sizeN
set_option maxHeartbeats 4000000 in
set_option maxRecDepth 100000 in
theorem MR17_walk (Aa:Option Addr)(ca:Nat)(la:List (List Int))(Ab:Option Addr)(cb:Nat)(lb:List (List Int))(P:Option Addr)(cp np:Nat)(ps:List Int)(Q:Option Addr)(cq nq:Nat)(qs:List Int)(D X O:Int)(w:World)(hT:TabOK w)(hAa:Sg w Aa la)(hwa:Wd2 la)(hna:Aa=none→ca=0)(hma:la.length≤9223372036854775807)(hca:la.length≤ca)(hka:ca≤9223372036854775807)(hAb:Sg w Ab lb)(hwb:Wd2 lb)(hnb:Ab=none→cb=0)(hmb:lb.length≤9223372036854775807)(hcb:lb.length≤cb)(hkb:cb≤9223372036854775807)(hp:Ri w .u64 P ps)(hnp:ps.length=np)(hip:P=none→cp=0)(hcp:np≤cp)(hkp:cp≤9223372036854775807)(hq:Ri w .u64 Q qs)(hnq:qs.length=nq)(hiq:Q=none→cq=0)(hcq:nq≤cq)(hkq:cq≤9223372036854775807)
  (d0:-9223372036854775808≤D) (d1:D≤9223372036854775807) (x0:-9223372036854775808≤X) (x1:X≤9223372036854775807) :
  Calls Tryz.prog 3 #[.slice Aa la.length ca,.slice Ab lb.length cb,.agg #[.int .i64 D,.int .i64 X,.int .i64 O],.slice P np cp,.slice Q nq cq] w fun e w'=>e=.returned (.bool true)∧Below w.heap.size w w':=by
 have Hp:=Lib.hid hp
 have Hq:=Lib.hid hq
 have HWP:=Lib.hid hnp
 have HWQ:=Lib.hid hnq
 have HNP:=Lib.hid hip
 have HNQ:=Lib.hid hiq
 clear hp hq hnp hnq hip hiq
 have HT:=Lib.hid hT
 clear hT
 have Hma:=Lib.hid hAa
 have HWa:=Lib.hid hwa
 clear hAa hwa hna
 have Hmb:=Lib.hid hAb
 have HWb:=Lib.hid hwb
 clear hAb hwb hnb
 go_enter Tryz.func3,Tryz.ntmps3
 go_wp2_with fail
 refine abs_world (F:=fun W=>Sg W Aa la∧Sg W Ab lb∧Ri W .u64 P ps∧Ri W .u64 Q qs∧Blk W w.heap.size #[.int .i64 D,.int .i64 X,.int .i64 O]∧Below w.heap.size w W) ⟨?_,?_,?_,?_,?_,?_⟩ ?_
 ·exact(Hma.out.alloc _)
 ·exact(Hmb.out.alloc _)
 ·exact(Ri.below Hp.out ((Below.refl _ _).alloc (Nat.le_refl _) _) (Nat.le_refl _))
 ·exact(Ri.below Hq.out ((Below.refl _ _).alloc (Nat.le_refl _) _) (Nat.le_refl _))
 ·exact Blk.fresh _ _ _
 ·exact((Below.refl w.heap.size w).alloc (by first|exact Nat.le_refl _|(simp;done)|(simp;omega)) _)
 clear Hma Hmb Hp Hq
 rintro W1 ⟨hma,hmb,hp,hq,hl,hb⟩
 have Hma:=Lib.hid hma
 have Hmb:=Lib.hid hmb
 have Hp:=Lib.hid hp
 have Hq:=Lib.hid hq
 have Hl:=Lib.hid hl
 have HB:=Lib.hid hb
 clear hb hma hmb hp hq hl
 refine(awake17_any _ (HT.out.on HB.out)).mono ?_
 rintro r w2 ⟨rfl,hb⟩
 have fma:=Hma.out.below hb (Nat.le_refl _)
 have fmb:=Hmb.out.below hb (Nat.le_refl _)
 have fp:=Hp.out.below hb (Nat.le_refl _)
 have fq:=Hq.out.below hb (Nat.le_refl _)
 have fl:=Hl.out.below hb
 have HB0:=Lib.hid (bel_on HB.out hb)
 clear hb Hma Hmb Hp Hq Hl HB
 have HB:=HB0
 clear HB0
 have Hma:=Lib.hid fma
 clear fma
 have Hmb:=Lib.hid fmb
 clear fmb
 have Hp:=Lib.hid fp
 clear fp
 have Hq:=Lib.hid fq
 clear fq
 have Hl:=Lib.hid fl
 clear fl
 obtain⟨xl,yl,zl⟩:=Hl.out
 go_wp2_with fail
 clear xl yl zl
 refine(RefSmall15 Aa ca la D X O _ Hma.out hma).mono ?_
 rintro r w3 ⟨rfl,hb⟩
 have fma:=Hma.out.below hb (Nat.le_refl _)
 have fmb:=Hmb.out.below hb (Nat.le_refl _)
 have fp:=Hp.out.below hb (Nat.le_refl _)
 have fq:=Hq.out.below hb (Nat.le_refl _)
 have fl:=Hl.out.below hb
 have HB0:=Lib.hid (bel_on HB.out hb)
 clear hb Hma Hmb Hp Hq Hl HB
 have HB:=HB0
 clear HB0
 have Hma:=Lib.hid fma
 clear fma
 have Hmb:=Lib.hid fmb
 clear fmb
 have Hp:=Lib.hid fp
 clear fp
 have Hq:=Lib.hid fq
 clear fq
 have Hl:=Lib.hid fl
 clear fl
 cases hsm:small15B la D X with
 | false=>
  clear hsm
  go_wp2_with fail
  refine(awake17_any _ (HT.out.on HB.out)).mono ?_
  rintro r w4 ⟨rfl,hb⟩
  have fma:=Hma.out.below hb (Nat.le_refl _)
  have fmb:=Hmb.out.below hb (Nat.le_refl _)
  have fp:=Hp.out.below hb (Nat.le_refl _)
  have fq:=Hq.out.below hb (Nat.le_refl _)
  have fl:=Hl.out.below hb
  have HB0:=Lib.hid (bel_on HB.out hb)
  clear hb Hma Hmb Hp Hq Hl HB
  have HB:=HB0
  clear HB0
  have Hma:=Lib.hid fma
  clear fma
  have Hmb:=Lib.hid fmb
  clear fmb
  have Hp:=Lib.hid fp
  clear fp
  have Hq:=Lib.hid fq
  clear fq
  have Hl:=Lib.hid fl
  clear fl
  go_wp2
  go_ret
  exact⟨rfl,HB.out⟩
 | true=>
  obtain⟨hD,hX,hl20,hf⟩:=small15_fits hsm
  have HFa:Hid (∀j,(seg la j).length≤20000000):=Lib.hid (fun j=>by have:=hf j;omega)
  have H3a:Hid (∀j,(seg la j).length≤300):=Lib.hid hf
  have hm'a:la.length≤40:=by omega
  clear hsm hf hl20
  obtain⟨xl,yl,zl⟩:=Hl.out
  go_wp2_with fail
  clear xl yl zl
  refine(RefSmall15 Ab cb lb D X O _ Hmb.out hmb).mono ?_
  rintro r w4 ⟨rfl,hb⟩
  have fma:=Hma.out.below hb (Nat.le_refl _)
  have fmb:=Hmb.out.below hb (Nat.le_refl _)
  have fp:=Hp.out.below hb (Nat.le_refl _)
  have fq:=Hq.out.below hb (Nat.le_refl _)
  have fl:=Hl.out.below hb
  have HB0:=Lib.hid (bel_on HB.out hb)
  clear hb Hma Hmb Hp Hq Hl HB
  have HB:=HB0
  clear HB0
  have Hma:=Lib.hid fma
  clear fma
  have Hmb:=Lib.hid fmb
  clear fmb
  have Hp:=Lib.hid fp
  clear fp
  have Hq:=Lib.hid fq
  clear fq
  have Hl:=Lib.hid fl
  clear fl
  cases hsm:small15B lb D X with
  | false=>
   clear hsm
   go_wp2_with fail
   refine(awake17_any _ (HT.out.on HB.out)).mono ?_
   rintro r w5 ⟨rfl,hb⟩
   have fma:=Hma.out.below hb (Nat.le_refl _)
   have fmb:=Hmb.out.below hb (Nat.le_refl _)
   have fp:=Hp.out.below hb (Nat.le_refl _)
   have fq:=Hq.out.below hb (Nat.le_refl _)
   have fl:=Hl.out.below hb
   have HB0:=Lib.hid (bel_on HB.out hb)
   clear hb Hma Hmb Hp Hq Hl HB
   have HB:=HB0
   clear HB0
   have Hma:=Lib.hid fma
   clear fma
   have Hmb:=Lib.hid fmb
   clear fmb
   have Hp:=Lib.hid fp
   clear fp
   have Hq:=Lib.hid fq
   clear fq
   have Hl:=Lib.hid fl
   clear fl
   go_wp2
   go_ret
   exact⟨rfl,HB.out⟩
  | true=>
   obtain⟨hD,hX,hl20,hf⟩:=small15_fits hsm
   have HFb:Hid (∀j,(seg lb j).length≤20000000):=Lib.hid (fun j=>by have:=hf j;omega)
   have H3b:Hid (∀j,(seg lb j).length≤300):=Lib.hid hf
   have hm'b:lb.length≤40:=by omega
   clear hsm hf hl20
   by_cases hp2:200<np
   ·skip
    have t1:decide ((200:Int)<(np:Int))=true:=decide_eq_true (by omega)
    have t2:decide (200<np)=true:=decide_eq_true hp2
    go_wp2_with fail
    refine(awake17_any _ (HT.out.on HB.out)).mono ?_
    rintro r w5 ⟨rfl,hb⟩
    have fma:=Hma.out.below hb (Nat.le_refl _)
    have fmb:=Hmb.out.below hb (Nat.le_refl _)
    have fp:=Hp.out.below hb (Nat.le_refl _)
    have fq:=Hq.out.below hb (Nat.le_refl _)
    have fl:=Hl.out.below hb
    have HB0:=Lib.hid (bel_on HB.out hb)
    clear hb Hma Hmb Hp Hq Hl HB
    have HB:=HB0
    clear HB0
    have Hma:=Lib.hid fma
    clear fma
    have Hmb:=Lib.hid fmb
    clear fmb
    have Hp:=Lib.hid fp
    clear fp
    have Hq:=Lib.hid fq
    clear fq
    have Hl:=Lib.hid fl
    clear fl
    go_wp2
    go_ret
    exact⟨rfl,HB.out⟩
   have tp1:decide ((200:Int)<(np:Int))=false:=decide_eq_false (by omega)
   have tp2:decide (200<np)=false:=decide_eq_false hp2
   by_cases hq2:200<nq
   ·skip
    have t1:decide ((200:Int)<(nq:Int))=true:=decide_eq_true (by omega)
    have t2:decide (200<nq)=true:=decide_eq_true hq2
    go_wp2_with fail
    refine(awake17_any _ (HT.out.on HB.out)).mono ?_
    rintro r w5 ⟨rfl,hb⟩
    have fma:=Hma.out.below hb (Nat.le_refl _)
    have fmb:=Hmb.out.below hb (Nat.le_refl _)
    have fp:=Hp.out.below hb (Nat.le_refl _)
    have fq:=Hq.out.below hb (Nat.le_refl _)
    have fl:=Hl.out.below hb
    have HB0:=Lib.hid (bel_on HB.out hb)
    clear hb Hma Hmb Hp Hq Hl HB
    have HB:=HB0
    clear HB0
    have Hma:=Lib.hid fma
    clear fma
    have Hmb:=Lib.hid fmb
    clear fmb
    have Hp:=Lib.hid fp
    clear fp
    have Hq:=Lib.hid fq
    clear fq
    have Hl:=Lib.hid fl
    clear fl
    go_wp2
    go_ret
    exact⟨rfl,HB.out⟩
   have tq1:decide ((200:Int)<(nq:Int))=false:=decide_eq_false (by omega)
   have tq2:decide (200<nq)=false:=decide_eq_false hq2
   obtain⟨⟨v,e⟩,hq⟩:∃q,eqM la lb D X=q:=⟨_,rfl⟩
   have HQ:=Lib.hid hq
   obtain⟨u,hu⟩:∃u,dataE ps qs=u:=⟨_,rfl⟩
   have HU:=Lib.hid hu
   clear hq hu
   obtain⟨xl,yl,zl⟩:=Hl.out
   go_wp2_with fail
   clear xl yl zl
   refine(EMessages_w Aa ca _ Ab cb _ la lb D X O v e _ (HT.out.on HB.out) rfl rfl Hma.out Hmb.out HWa.out HWb.out hm'a hm'b HFa.out HFb.out (by omega) (by omega) (by omega) (by omega) (by omega) (by omega) HQ.out).mono ?_
   rintro r w5 ⟨rfl,hb⟩
   have fma:=Hma.out.below hb (Nat.le_refl _)
   have fmb:=Hmb.out.below hb (Nat.le_refl _)
   have fp:=Hp.out.below hb (Nat.le_refl _)
   have fq:=Hq.out.below hb (Nat.le_refl _)
   have fl:=Hl.out.below hb
   have HB0:=Lib.hid (bel_on HB.out hb)
   clear hb Hma Hmb Hp Hq Hl HB
   have HB:=HB0
   clear HB0
   have Hma:=Lib.hid fma
   clear fma
   have Hmb:=Lib.hid fmb
   clear fmb
   have Hp:=Lib.hid fp
   clear fp
   have Hq:=Lib.hid fq
   clear fq
   have Hl:=Lib.hid fl
   clear fl
   obtain⟨xl,yl,zl⟩:=Hl.out
   go_wp2_with fail
   clear xl yl zl
   refine(RefMessages17_w Aa ca _ Ab cb _ la lb D X O v e _ rfl rfl Hma.out Hmb.out HWa.out HWb.out hm'a hm'b HFa.out HFb.out (by omega) (by omega) HQ.out).mono ?_
   rintro r w6 ⟨rfl,hb⟩
   have fma:=Hma.out.below hb (Nat.le_refl _)
   have fmb:=Hmb.out.below hb (Nat.le_refl _)
   have fp:=Hp.out.below hb (Nat.le_refl _)
   have fq:=Hq.out.below hb (Nat.le_refl _)
   have fl:=Hl.out.below hb
   have HB0:=Lib.hid (bel_on HB.out hb)
   clear hb Hma Hmb Hp Hq Hl HB
   have HB:=HB0
   clear HB0
   have Hma:=Lib.hid fma
   clear fma
   have Hmb:=Lib.hid fmb
   clear fmb
   have Hp:=Lib.hid fp
   clear fp
   have Hq:=Lib.hid fq
   clear fq
   have Hl:=Lib.hid fl
   clear fl
   clear Hl
   clear Hma
   clear Hmb
   have tv:(v==v)=true:=by simp
   have te:(e==e)=true:=by simp
   have tu:(u==u)=true:=by simp
   go_wp2_with fail
   refine(EData_w P cp np Q cq nq ps qs u _ (HT.out.on HB.out) HWP.out HWQ.out Hp.out Hq.out (by omega) (by omega) (by omega) (by omega) HNP.out HNQ.out (by omega) (by omega) HU.out).mono ?_
   rintro r w7 ⟨rfl,hb⟩
   have fp:=Hp.out.below hb (Nat.le_refl _)
   have fq:=Hq.out.below hb (Nat.le_refl _)
   have HB0:=Lib.hid (bel_on HB.out hb)
   clear hb Hp Hq HB
   have HB:=HB0
   clear HB0
   have Hp:=Lib.hid fp
   clear fp
   have Hq:=Lib.hid fq
   clear fq
   go_wp2_with fail
   refine(RefData17_w P cp np Q cq nq ps qs u _ HWP.out HWQ.out Hp.out Hq.out (by omega) (by omega) HU.out).mono ?_
   rintro r w8 ⟨rfl,hb⟩
   have fp:=Hp.out.below hb (Nat.le_refl _)
   have fq:=Hq.out.below hb (Nat.le_refl _)
   have HB0:=Lib.hid (bel_on HB.out hb)
   clear hb Hp Hq HB
   have HB:=HB0
   clear HB0
   have Hp:=Lib.hid fp
   clear fp
   have Hq:=Lib.hid fq
   clear fq
   go_wp2
   go_ret
   exact⟨rfl,HB.out⟩
end
end Go.Proofs.YtfaflahfjgnphaaGreatDoor
