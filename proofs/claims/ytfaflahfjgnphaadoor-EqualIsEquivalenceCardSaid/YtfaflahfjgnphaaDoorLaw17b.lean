/- A law of layer 17: EqualIsEquivalence. -/
import Derived.Test.YtfaflahfjgnphaaDoorMg45
import Derived.Test.YtfaflahfjgnphaaDoorAwake17
namespace Go.Proofs.YtfaflahfjgnphaaDoor
open Go.ChangeShapes Go.WideShapes Go.ChangeAt Go.RowKit
set_option linter.unusedVariables false
set_option linter.unusedSimpArgs false
set_option maxRecDepth 100000
section
theorem eq_self17 (la:List (List Int))(D X:Int){s:Bool}{e:Int}(h:eqM la la D X=(s,e)):s=(e==0):=by
 unfold eqM eqQ at h
 by_cases h1:(msgV la D X).2≠0
 ·rw [if_pos h1] at h
  injection h with h2 h3
  subst h2 h3
  simpa using h1
 ·rw [if_neg h1,if_neg h1,eqN_yes rfl] at h
  injection h with h2 h3
  subst h2 h3
  rfl
theorem eq_flip17 (la lb:List (List Int))(D X:Int){x y:Bool}{f g:Int}(h:eqM la lb D X=(x,f))(k:eqM lb la D X=(y,g)):x=y∧(x=true→f=0)∧((f==0)=(g==0)):=by
 unfold eqM eqQ at h k
 by_cases h1:(msgV la D X).2≠0
 ·rw [if_pos h1] at h
  injection h with h2 h3
  subst h2 h3
  by_cases h4:(msgV lb D X).2≠0
  ·rw [if_pos h4] at k
   injection k with k2 k3
   subst k2 k3
   refine⟨rfl,fun h=>(by cases h),?_⟩
   rw [beq_eq_false_iff_ne.2 h1,beq_eq_false_iff_ne.2 h4]
  ·rw [if_neg h4,if_pos h1] at k
   injection k with k2 k3
   subst k2 k3
   exact⟨rfl,fun h=>(by cases h),rfl⟩
 ·rw [if_neg h1] at h
  by_cases h4:(msgV lb D X).2≠0
  ·rw [if_pos h4] at h k
   injection h with h2 h3
   injection k with k2 k3
   subst h2 h3 k2 k3
   exact⟨rfl,fun h=>(by cases h),rfl⟩
  ·rw [if_neg h4] at h k
   rw [if_neg h1] at k
   injection h with h2 h3
   injection k with k2 k3
   subst h2 h3 k2 k3
   refine⟨?_,fun _=>rfl,rfl⟩
   rw [Bool.eq_iff_iff,eqN_iff,eqN_iff]
   exact⟨fun h=>h.symm,fun h=>h.symm⟩
theorem eq_ok17 {la lb:List (List Int)}{D X:Int}{x:Bool}{f:Int}(h:eqM la lb D X=(x,f))(h0:x=true):(msgV la D X).1=(msgV lb D X).1:=by
 unfold eqM eqQ at h
 subst h0
 by_cases h1:(msgV la D X).2≠0
 ·rw [if_pos h1] at h;injection h with h2;cases h2
 ·rw [if_neg h1] at h
  by_cases h4:(msgV lb D X).2≠0
  ·rw [if_pos h4] at h;injection h with h2;cases h2
  ·rw [if_neg h4] at h
   injection h with h2
   exact eqN_iff.1 h2
theorem eq_val17 {la lb:List (List Int)}{D X:Int}{x:Bool}(h:eqM la lb D X=(x,0)):x=eqN (msgV la D X).1 (msgV lb D X).1:=by
 unfold eqM eqQ at h
 by_cases h1:(msgV la D X).2≠0
 ·rw [if_pos h1] at h;injection h with h2 h3;exact absurd h3 h1
 ·rw [if_neg h1] at h
  by_cases h4:(msgV lb D X).2≠0
  ·rw [if_pos h4] at h;injection h with h2 h3;exact absurd h3 h4
  ·rw [if_neg h4] at h
   injection h with h2
   exact h2.symm
theorem eq_chain17 {la lb lc:List (List Int)}{D X:Int}{x z w:Bool}{f h:Int}(h1:eqM la lb D X=(x,f))(h2:eqM lb lc D X=(z,h))(h3:eqM la lc D X=(w,0))(hx:x=true)(hz:z=true):w=true:=by
 rw [eq_val17 h3,eqN_iff,eq_ok17 h1 hx,eq_ok17 h2 hz]
attribute [local irreducible] msgV measV small15B fewB canW writeF eqM eqN dataE sameB sizeN
set_option maxHeartbeats 4000000 in
set_option maxRecDepth 100000 in
theorem Equiv17_walk (Aa:Option Addr)(ca:Nat)(la:List (List Int))(Ab:Option Addr)(cb:Nat)(lb:List (List Int))(Ac:Option Addr)(cc:Nat)(lc:List (List Int))(D X O:Int)(w:World)(hT:TabOK w)(hAa:Sg w Aa la)(hwa:Wd2 la)(hna:Aa=none→ca=0)(hma:la.length≤9223372036854775807)(hca:la.length≤ca)(hka:ca≤9223372036854775807)(hAb:Sg w Ab lb)(hwb:Wd2 lb)(hnb:Ab=none→cb=0)(hmb:lb.length≤9223372036854775807)(hcb:lb.length≤cb)(hkb:cb≤9223372036854775807)(hAc:Sg w Ac lc)(hwc:Wd2 lc)(hnc:Ac=none→cc=0)(hmc:lc.length≤9223372036854775807)(hcc:lc.length≤cc)(hkc:cc≤9223372036854775807)
  (d0:-9223372036854775808≤D) (d1:D≤9223372036854775807) (x0:-9223372036854775808≤X) (x1:X≤9223372036854775807) :
  Calls Tryd.prog 3 #[.slice Aa la.length ca,.slice Ab lb.length cb,.slice Ac lc.length cc,.agg #[.int .i64 D,.int .i64 X,.int .i64 O]] w fun e w'=>e=.returned (.bool true)∧Below w.heap.size w w':=by
 have HT:=Lib.hid hT
 clear hT
 have Hma:=Lib.hid hAa
 have HWa:=Lib.hid hwa
 clear hAa hwa hna
 have Hmb:=Lib.hid hAb
 have HWb:=Lib.hid hwb
 clear hAb hwb hnb
 have Hmc:=Lib.hid hAc
 have HWc:=Lib.hid hwc
 clear hAc hwc hnc
 go_enter Tryd.func3,Tryd.ntmps3
 go_wp2_with fail
 refine abs_world (F:=fun W=>Sg W Aa la∧Sg W Ab lb∧Sg W Ac lc∧Blk W w.heap.size #[.int .i64 D,.int .i64 X,.int .i64 O]∧Below w.heap.size w W) ⟨?_,?_,?_,?_,?_⟩ ?_
 ·exact(Hma.out.alloc _)
 ·exact(Hmb.out.alloc _)
 ·exact(Hmc.out.alloc _)
 ·exact Blk.fresh _ _ _
 ·exact((Below.refl w.heap.size w).alloc (by first|exact Nat.le_refl _|(simp;done)|(simp;omega)) _)
 clear Hma Hmb Hmc
 rintro W1 ⟨hma,hmb,hmc,hl,hb⟩
 have Hma:=Lib.hid hma
 have Hmb:=Lib.hid hmb
 have Hmc:=Lib.hid hmc
 have Hl:=Lib.hid hl
 have HB:=Lib.hid hb
 clear hb hma hmb hmc hl
 refine(awake17_any _ (HT.out.on HB.out)).mono ?_
 rintro r w2 ⟨rfl,hb⟩
 have fma:=Hma.out.below hb (Nat.le_refl _)
 have fmb:=Hmb.out.below hb (Nat.le_refl _)
 have fmc:=Hmc.out.below hb (Nat.le_refl _)
 have fl:=Hl.out.below hb
 have HB0:=Lib.hid (bel_on HB.out hb)
 clear hb Hma Hmb Hmc Hl HB
 have HB:=HB0
 clear HB0
 have Hma:=Lib.hid fma
 clear fma
 have Hmb:=Lib.hid fmb
 clear fmb
 have Hmc:=Lib.hid fmc
 clear fmc
 have Hl:=Lib.hid fl
 clear fl
 obtain⟨xl,yl,zl⟩:=Hl.out
 go_wp2_with fail
 clear xl yl zl
 refine(RefSmall15 Aa ca la D X O _ Hma.out hma).mono ?_
 rintro r w3 ⟨rfl,hb⟩
 have fma:=Hma.out.below hb (Nat.le_refl _)
 have fmb:=Hmb.out.below hb (Nat.le_refl _)
 have fmc:=Hmc.out.below hb (Nat.le_refl _)
 have fl:=Hl.out.below hb
 have HB0:=Lib.hid (bel_on HB.out hb)
 clear hb Hma Hmb Hmc Hl HB
 have HB:=HB0
 clear HB0
 have Hma:=Lib.hid fma
 clear fma
 have Hmb:=Lib.hid fmb
 clear fmb
 have Hmc:=Lib.hid fmc
 clear fmc
 have Hl:=Lib.hid fl
 clear fl
 cases hsm:small15B la D X with
 | false=>
  clear hsm
  go_wp2_with fail
  refine(awake17_any _ (HT.out.on HB.out)).mono ?_
  rintro r w4 ⟨rfl,hb⟩
  have fma:=Hma.out.below hb (Nat.le_refl _)
  have fmb:=Hmb.out.below hb (Nat.le_refl _)
  have fmc:=Hmc.out.below hb (Nat.le_refl _)
  have fl:=Hl.out.below hb
  have HB0:=Lib.hid (bel_on HB.out hb)
  clear hb Hma Hmb Hmc Hl HB
  have HB:=HB0
  clear HB0
  have Hma:=Lib.hid fma
  clear fma
  have Hmb:=Lib.hid fmb
  clear fmb
  have Hmc:=Lib.hid fmc
  clear fmc
  have Hl:=Lib.hid fl
  clear fl
  go_wp2
  go_ret
  exact⟨rfl,HB.out⟩
 | true=>
  obtain⟨hD,hX,hl20,hf⟩:=small15_fits hsm
  have HFa:Hid (∀j,(seg la j).length≤20000000):=Lib.hid (fun j=>by have:=hf j;omega)
  have H3a:Hid (∀j,(seg la j).length≤300):=Lib.hid hf
  have hm'a:la.length≤40:=by omega
  clear hsm hf hl20
  obtain⟨xl,yl,zl⟩:=Hl.out
  go_wp2_with fail
  clear xl yl zl
  refine(RefSmall15 Ab cb lb D X O _ Hmb.out hmb).mono ?_
  rintro r w4 ⟨rfl,hb⟩
  have fma:=Hma.out.below hb (Nat.le_refl _)
  have fmb:=Hmb.out.below hb (Nat.le_refl _)
  have fmc:=Hmc.out.below hb (Nat.le_refl _)
  have fl:=Hl.out.below hb
  have HB0:=Lib.hid (bel_on HB.out hb)
  clear hb Hma Hmb Hmc Hl HB
  have HB:=HB0
  clear HB0
  have Hma:=Lib.hid fma
  clear fma
  have Hmb:=Lib.hid fmb
  clear fmb
  have Hmc:=Lib.hid fmc
  clear fmc
  have Hl:=Lib.hid fl
  clear fl
  cases hsm:small15B lb D X with
  | false=>
   clear hsm
   go_wp2_with fail
   refine(awake17_any _ (HT.out.on HB.out)).mono ?_
   rintro r w5 ⟨rfl,hb⟩
   have fma:=Hma.out.below hb (Nat.le_refl _)
   have fmb:=Hmb.out.below hb (Nat.le_refl _)
   have fmc:=Hmc.out.below hb (Nat.le_refl _)
   have fl:=Hl.out.below hb
   have HB0:=Lib.hid (bel_on HB.out hb)
   clear hb Hma Hmb Hmc Hl HB
   have HB:=HB0
   clear HB0
   have Hma:=Lib.hid fma
   clear fma
   have Hmb:=Lib.hid fmb
   clear fmb
   have Hmc:=Lib.hid fmc
   clear fmc
   have Hl:=Lib.hid fl
   clear fl
   go_wp2
   go_ret
   exact⟨rfl,HB.out⟩
  | true=>
   obtain⟨hD,hX,hl20,hf⟩:=small15_fits hsm
   have HFb:Hid (∀j,(seg lb j).length≤20000000):=Lib.hid (fun j=>by have:=hf j;omega)
   have H3b:Hid (∀j,(seg lb j).length≤300):=Lib.hid hf
   have hm'b:lb.length≤40:=by omega
   clear hsm hf hl20
   obtain⟨xl,yl,zl⟩:=Hl.out
   go_wp2_with fail
   clear xl yl zl
   refine(RefSmall15 Ac cc lc D X O _ Hmc.out hmc).mono ?_
   rintro r w5 ⟨rfl,hb⟩
   have fma:=Hma.out.below hb (Nat.le_refl _)
   have fmb:=Hmb.out.below hb (Nat.le_refl _)
   have fmc:=Hmc.out.below hb (Nat.le_refl _)
   have fl:=Hl.out.below hb
   have HB0:=Lib.hid (bel_on HB.out hb)
   clear hb Hma Hmb Hmc Hl HB
   have HB:=HB0
   clear HB0
   have Hma:=Lib.hid fma
   clear fma
   have Hmb:=Lib.hid fmb
   clear fmb
   have Hmc:=Lib.hid fmc
   clear fmc
   have Hl:=Lib.hid fl
   clear fl
   cases hsm:small15B lc D X with
   | false=>
    clear hsm
    go_wp2_with fail
    refine(awake17_any _ (HT.out.on HB.out)).mono ?_
    rintro r w6 ⟨rfl,hb⟩
    have fma:=Hma.out.below hb (Nat.le_refl _)
    have fmb:=Hmb.out.below hb (Nat.le_refl _)
    have fmc:=Hmc.out.below hb (Nat.le_refl _)
    have fl:=Hl.out.below hb
    have HB0:=Lib.hid (bel_on HB.out hb)
    clear hb Hma Hmb Hmc Hl HB
    have HB:=HB0
    clear HB0
    have Hma:=Lib.hid fma
    clear fma
    have Hmb:=Lib.hid fmb
    clear fmb
    have Hmc:=Lib.hid fmc
    clear fmc
    have Hl:=Lib.hid fl
    clear fl
    go_wp2
    go_ret
    exact⟨rfl,HB.out⟩
   | true=>
    obtain⟨hD,hX,hl20,hf⟩:=small15_fits hsm
    have HFc:Hid (∀j,(seg lc j).length≤20000000):=Lib.hid (fun j=>by have:=hf j;omega)
    have H3c:Hid (∀j,(seg lc j).length≤300):=Lib.hid hf
    have hm'c:lc.length≤40:=by omega
    clear hsm hf hl20
    obtain⟨⟨s,e1⟩,hq1⟩:∃q,eqM la la D X=q:=⟨_,rfl⟩
    have HQ1:=Lib.hid hq1
    obtain⟨⟨x,e2⟩,hq2⟩:∃q,eqM la lb D X=q:=⟨_,rfl⟩
    have HQ2:=Lib.hid hq2
    obtain⟨⟨y,e3⟩,hq3⟩:∃q,eqM lb la D X=q:=⟨_,rfl⟩
    have HQ3:=Lib.hid hq3
    obtain⟨⟨z,e4⟩,hq4⟩:∃q,eqM lb lc D X=q:=⟨_,rfl⟩
    have HQ4:=Lib.hid hq4
    obtain⟨⟨v,e5⟩,hq5⟩:∃q,eqM la lc D X=q:=⟨_,rfl⟩
    have HQ5:=Lib.hid hq5
    have hs:=eq_self17 la D X hq1
    obtain⟨hxy,hx0,hfg⟩:=eq_flip17 la lb D X hq2 hq3
    have HCH:Hid (x=true→z=true→e5=0→v=true):=Lib.hid (fun h1 h2 h3=>eq_chain17 (by rw [←hq2]) (by rw [←hq4]) (by rw [hq5,h3]) h1 h2)
    have HX0:=Lib.hid hx0
    have HFG:=Lib.hid hfg
    have HS:=Lib.hid hs
    have HXY:=Lib.hid hxy
    clear hq1 hq2 hq3 hq4 hq5 hs hxy hx0 hfg
    obtain⟨xl,yl,zl⟩:=Hl.out
    go_wp2_with fail
    clear xl yl zl
    refine(EMessages_w Aa ca _ Aa ca _ la la D X O s e1 _ (HT.out.on HB.out) rfl rfl Hma.out Hma.out HWa.out HWa.out hm'a hm'a HFa.out HFa.out (by omega) (by omega) (by omega) (by omega) (by omega) (by omega) HQ1.out).mono ?_
    rintro r w6 ⟨rfl,hb⟩
    have fma:=Hma.out.below hb (Nat.le_refl _)
    have fmb:=Hmb.out.below hb (Nat.le_refl _)
    have fmc:=Hmc.out.below hb (Nat.le_refl _)
    have fl:=Hl.out.below hb
    have HB0:=Lib.hid (bel_on HB.out hb)
    clear hb Hma Hmb Hmc Hl HB
    have HB:=HB0
    clear HB0
    have Hma:=Lib.hid fma
    clear fma
    have Hmb:=Lib.hid fmb
    clear fmb
    have Hmc:=Lib.hid fmc
    clear fmc
    have Hl:=Lib.hid fl
    clear fl
    obtain⟨xl,yl,zl⟩:=Hl.out
    go_wp2_with fail
    clear xl yl zl
    refine(EMessages_w Aa ca _ Ab cb _ la lb D X O x e2 _ (HT.out.on HB.out) rfl rfl Hma.out Hmb.out HWa.out HWb.out hm'a hm'b HFa.out HFb.out (by omega) (by omega) (by omega) (by omega) (by omega) (by omega) HQ2.out).mono ?_
    rintro r w7 ⟨rfl,hb⟩
    have fma:=Hma.out.below hb (Nat.le_refl _)
    have fmb:=Hmb.out.below hb (Nat.le_refl _)
    have fmc:=Hmc.out.below hb (Nat.le_refl _)
    have fl:=Hl.out.below hb
    have HB0:=Lib.hid (bel_on HB.out hb)
    clear hb Hma Hmb Hmc Hl HB
    have HB:=HB0
    clear HB0
    have Hma:=Lib.hid fma
    clear fma
    have Hmb:=Lib.hid fmb
    clear fmb
    have Hmc:=Lib.hid fmc
    clear fmc
    have Hl:=Lib.hid fl
    clear fl
    obtain⟨xl,yl,zl⟩:=Hl.out
    go_wp2_with fail
    clear xl yl zl
    refine(EMessages_w Ab cb _ Aa ca _ lb la D X O y e3 _ (HT.out.on HB.out) rfl rfl Hmb.out Hma.out HWb.out HWa.out hm'b hm'a HFb.out HFa.out (by omega) (by omega) (by omega) (by omega) (by omega) (by omega) HQ3.out).mono ?_
    rintro r w8 ⟨rfl,hb⟩
    have fma:=Hma.out.below hb (Nat.le_refl _)
    have fmb:=Hmb.out.below hb (Nat.le_refl _)
    have fmc:=Hmc.out.below hb (Nat.le_refl _)
    have fl:=Hl.out.below hb
    have HB0:=Lib.hid (bel_on HB.out hb)
    clear hb Hma Hmb Hmc Hl HB
    have HB:=HB0
    clear HB0
    have Hma:=Lib.hid fma
    clear fma
    have Hmb:=Lib.hid fmb
    clear fmb
    have Hmc:=Lib.hid fmc
    clear fmc
    have Hl:=Lib.hid fl
    clear fl
    obtain⟨xl,yl,zl⟩:=Hl.out
    go_wp2_with fail
    clear xl yl zl
    refine(EMessages_w Ab cb _ Ac cc _ lb lc D X O z e4 _ (HT.out.on HB.out) rfl rfl Hmb.out Hmc.out HWb.out HWc.out hm'b hm'c HFb.out HFc.out (by omega) (by omega) (by omega) (by omega) (by omega) (by omega) HQ4.out).mono ?_
    rintro r w9 ⟨rfl,hb⟩
    have fma:=Hma.out.below hb (Nat.le_refl _)
    have fmb:=Hmb.out.below hb (Nat.le_refl _)
    have fmc:=Hmc.out.below hb (Nat.le_refl _)
    have fl:=Hl.out.below hb
    have HB0:=Lib.hid (bel_on HB.out hb)
    clear hb Hma Hmb Hmc Hl HB
    have HB:=HB0
    clear HB0
    have Hma:=Lib.hid fma
    clear fma
    have Hmb:=Lib.hid fmb
    clear fmb
    have Hmc:=Lib.hid fmc
    clear fmc
    have Hl:=Lib.hid fl
    clear fl
    obtain⟨xl,yl,zl⟩:=Hl.out
    go_wp2_with fail
    clear xl yl zl
    refine(EMessages_w Aa ca _ Ac cc _ la lc D X O v e5 _ (HT.out.on HB.out) rfl rfl Hma.out Hmc.out HWa.out HWc.out hm'a hm'c HFa.out HFc.out (by omega) (by omega) (by omega) (by omega) (by omega) (by omega) HQ5.out).mono ?_
    rintro r w10 ⟨rfl,hb⟩
    have fma:=Hma.out.below hb (Nat.le_refl _)
    have fmb:=Hmb.out.below hb (Nat.le_refl _)
    have fmc:=Hmc.out.below hb (Nat.le_refl _)
    have fl:=Hl.out.below hb
    have HB0:=Lib.hid (bel_on HB.out hb)
    clear hb Hma Hmb Hmc Hl HB
    have HB:=HB0
    clear HB0
    have Hma:=Lib.hid fma
    clear fma
    have Hmb:=Lib.hid fmb
    clear fmb
    have Hmc:=Lib.hid fmc
    clear fmc
    have Hl:=Lib.hid fl
    clear fl
    clear Hl
    clear Hma
    clear Hmb
    clear Hmc
    have t1:(s != (e1==0))=false:=by rw [HS.out];simp
    have t3:((e2==0) != (e3==0))=false:=by rw [HFG.out];simp
    have hyx:=HXY.out
    clear HQ1 HQ2 HQ3 HQ4 HQ5
    subst hyx
    have t4:(x != x)=false:=by simp
    cases x with
    | false=>
     by_cases h4:e4=0
     ·have t5:(e4 != 0)=false:=by simpa using h4
      clear h4
      by_cases h5:e5=0
      ·have t6:(e5 != 0)=false:=by simpa using h5
       clear h5
       go_wp2
       go_ret
       exact⟨rfl,HB.out⟩
      ·have t6:(e5 != 0)=true:=by simpa using h5
       clear h5
       go_wp2
       go_ret
       exact⟨rfl,HB.out⟩
     ·have t5:(e4 != 0)=true:=by simpa using h4
      clear h4
      go_wp2
      go_ret
      exact⟨rfl,HB.out⟩
    | true=>
     have h20:=HX0.out rfl
     have t2:(e2 != 0)=false:=by simpa using h20
     have t7:(e3==0)=true:=by rw [←HFG.out,h20];rfl
     have t8:(e2==0)=true:=by rw [h20];rfl
     clear h20
     by_cases h4:e4=0
     ·have t5:(e4 != 0)=false:=by simpa using h4
      clear h4
      by_cases h5:e5=0
      ·have t6:(e5 != 0)=false:=by simpa using h5
       have HV:=Lib.hid (fun h=>HCH.out rfl h h5)
       clear h5
       cases z with
       | false=>
        go_wp2
        go_ret
        exact⟨rfl,HB.out⟩
       | true=>
        obtain rfl:=HV.out rfl
        go_wp2
        go_ret
        exact⟨rfl,HB.out⟩
      ·have t6:(e5 != 0)=true:=by simpa using h5
       clear h5
       go_wp2
       go_ret
       exact⟨rfl,HB.out⟩
     ·have t5:(e4 != 0)=true:=by simpa using h4
      clear h4
      go_wp2
      go_ret
      exact⟨rfl,HB.out⟩
end
end Go.Proofs.YtfaflahfjgnphaaDoor
