/- A law of layer 17: EqualMatchesCanonicalForms. -/
import Derived.Test.YtfaflahfjgnphaaGreatDoorMg40
import Derived.Test.YtfaflahfjgnphaaGreatDoorMg42
import Derived.Test.YtfaflahfjgnphaaGreatDoorAwake17
namespace Go.Proofs.YtfaflahfjgnphaaGreatDoor
open Go.ChangeShapes Go.WideShapes Go.ChangeAt Go.RowKit
set_option linter.unusedVariables false
set_option linter.unusedSimpArgs false
set_option maxRecDepth 100000
section
theorem sg_wrap17 (w:World)(A:Option Addr)(c L q:Nat)(l:List Int)(T:TypeId)(hr:Ri w .u64 A l)(hL:l.length=L)(hn:A=none→c=0)(hl:L≤c)(hc:c≤9223372036854775807)(hq:q=w.heap.size):Sg (w.alloc (.cells #[.slice A L c] T)) (some ⟨q,0,none⟩) [l]:=by
 subst hq hL
 have h:=Sg.lit (w:=w) [.slice A l.length c] [l] T (fun j hj=>by
  obtain rfl:j=0:=by simp at hj;omega
  exact⟨_,rfl,A,c,rfl,hr,hn,hl,hc⟩)
 simpa using h
theorem RefWords17_c (A:Option Addr)(c m:Nat)(ls:List (List Int))(D X O e:Int)(l:List Int)(L:Nat)(w:World)(hl:m=ls.length)(hs:Sg w A ls)(hw:Wd2 ls)(hm:ls.length≤40)(hf:∀j,(seg ls j).length≤20000000)(hD:D≤900)(hX:X≤100000)(he:(msgV ls D X).2=e)(hc:canW ls D X=l)(hL:l.length=L):
  Calls Tryz.prog 11 #[.slice A m c,.agg #[.int .i64 D,.int .i64 X,.int .i64 O]] w fun r w'=>∃A' c',r=.returned (.tuple #[.slice A' L c',.int .i64 e])∧Ri w' .u64 A' l∧(A'=none→c'=0)∧L≤c'∧c'≤9223372036854775807∧Below w.heap.size w w':=by
 subst hl he hc hL
 refine(RefWords15 A c ls D X O w hs hw hm hf hD hX).mono ?_
 rintro r w' ⟨v,rfl,⟨A',c',rfl,h2,h3,h4,h5⟩,hb⟩
 exact⟨A',c',rfl,h2,h3,h4,h5,hb⟩
theorem can17 {ls:List (List Int)}(hw:Wd2 ls)(hm:ls.length≤40)(hf:∀j,(seg ls j).length≤20000000)(D X:Int)(hX:X≤100000):(canW ls D X).length≤100001:=by
 have hXs:startI X≤100000:=by unfold startI;split<;>omega
 unfold canW
 split
 ·next h=>
  obtain⟨h1,h2,h3,h4,h5,h6,h7,h8⟩:=canon_facts hw hm hf D X (by omega) h
  have:=writeF_length h1
  omega
 ·simp
theorem can_wds17 {ls:List (List Int)}(hw:Wd2 ls)(D X:Int):Wds (canW ls D X):=by
 unfold canW
 split
 ·exact writeF_wds (msg_byt ls D X)
 ·intro z hz;cases hz
theorem wd_one17 {l:List Int}(h:Wds l):Wd2 [l]:=by
 intro a ha
 simp at ha
 subst ha
 exact h
theorem fw_one17 {l:List Int}(h:l.length≤20000000)(j:Nat):(seg [l] j).length≤20000000:=by
 by_cases hj:j<[l].length
 ·obtain rfl:j=0:=by simp at hj;omega
  exact h
 ·rw [seg_out (by omega)];simp
theorem forms17 {la lb:List (List Int)}(wa:Wd2 la)(wb:Wd2 lb)(ma:la.length≤40)(mb:lb.length≤40)(fa:∀j,(seg la j).length≤20000000)(fb:∀j,(seg lb j).length≤20000000){D X:Int}(hX:X≤100000){v:Bool}{g:Int}(h:eqM la lb D X=(v,g))(ea:(msgV la D X).2=0)(eb:(msgV lb D X).2=0):
  g=0∧eqM la [canW la D X] D X=(true,0)∧sameS [canW la D X] [canW lb D X]=v:=by
 have hXs:startI X≤100000:=by unfold startI;split<;>omega
 obtain⟨a1,a2,a3,a4,a5,a6,a7,a8⟩:=canon_facts wa ma fa D X (by omega) ea
 obtain⟨b1,b2,b3,b4,b5,b6,b7,b8⟩:=canon_facts wb mb fb D X (by omega) eb
 have ha:bytN (msgV la D X).1:=msg_byt la D X
 have hb:bytN (msgV lb D X).1:=msg_byt lb D X
 obtain⟨c1,-⟩:=canon_idem wa ma fa D X (by omega) ea ha
 have hca:canW la D X=writeF (msgV la D X).1:=by unfold canW;rw [if_pos ea]
 have hcb:canW lb D X=writeF (msgV lb D X).1:=by unfold canW;rw [if_pos eb]
 have h2:eqM la lb D X=(eqN (msgV la D X).1 (msgV lb D X).1,0):=by
  unfold eqM eqQ
  rw [if_neg (fun h=>h ea),if_neg (fun h=>h eb)]
 rw [h2] at h
 injection h with h3 h4
 refine⟨h4.symm,?_,?_⟩
 ·rw [hca]
  unfold eqM eqQ
  rw [c1,if_neg (fun h=>h ea),if_neg (fun h=>h rfl),eqN_yes rfl]
 ·rw [hca,hcb,←h3,Bool.eq_iff_iff,eqN_iff]
  unfold sameS
  rw [decide_eq_true_iff]
  exact⟨fun h=>write_inj a1 b1 a2 b2 ha hb (by omega) (by omega) (by injection h),fun h=>by rw [h]⟩
theorem no17 {la lb:List (List Int)}{D X:Int}{v:Bool}{g:Int}(h:eqM la lb D X=(v,g)):((msgV la D X).2≠0→v=false∧g=(msgV la D X).2)∧((msgV la D X).2=0→(msgV lb D X).2≠0→v=false∧g=(msgV lb D X).2):=by
 unfold eqM eqQ at h
 refine⟨fun h1=>?_,fun h1 h2=>?_⟩
 ·rw [if_pos h1] at h
  injection h with h3 h4
  exact⟨h3.symm,h4.symm⟩
 ·rw [if_neg (fun h=>h h1),if_pos h2] at h
  injection h with h3 h4
  exact⟨h3.symm,h4.symm⟩
theorem Same17_w (A B:Option Addr)(c d n m:Nat)(a b:List (List Int))(v:Bool)(w:World)(hn:a.length=n)(hm:b.length=m)(ha:Sg w A a)(hb:Sg w B b)(h1:n≤9223372036854775807)(h2:m≤9223372036854775807)(hv:sameS a b=v):
  Calls Tryz.prog 12 #[.slice A n c,.slice B m d] w fun e w'=>e=.returned (.bool v)∧Below w.heap.size w w':=by
 subst hn hm hv
 refine(Same4_any A B c d a b w ha hb h1 h2).mono ?_
 rintro e w' ⟨rfl,k,rfl⟩
 exact⟨rfl,bel_drewN (Below.refl _ _) k⟩
attribute [local irreducible] msgV measV small15B fewB canW writeF eqM eqN dataE sameB sizeN
set_option maxHeartbeats 4000000 in
set_option maxRecDepth 100000 in
theorem Forms17_walk (Aa:Option Addr)(ca:Nat)(la:List (List Int))(Ab:Option Addr)(cb:Nat)(lb:List (List Int))(D X O:Int)(w:World)(hT:TabOK w)(hAa:Sg w Aa la)(hwa:Wd2 la)(hna:Aa=none→ca=0)(hma:la.length≤9223372036854775807)(hca:la.length≤ca)(hka:ca≤9223372036854775807)(hAb:Sg w Ab lb)(hwb:Wd2 lb)(hnb:Ab=none→cb=0)(hmb:lb.length≤9223372036854775807)(hcb:lb.length≤cb)(hkb:cb≤9223372036854775807)
  (d0:-9223372036854775808≤D) (d1:D≤9223372036854775807) (x0:-9223372036854775808≤X) (x1:X≤9223372036854775807) :
  Calls Tryz.prog 4 #[.slice Aa la.length ca,.slice Ab lb.length cb,.agg #[.int .i64 D,.int .i64 X,.int .i64 O]] w fun e w'=>e=.returned (.bool true)∧Below w.heap.size w w':=by
 have HT:=Lib.hid hT
 clear hT
 have Hma:=Lib.hid hAa
 have HWa:=Lib.hid hwa
 clear hAa hwa hna
 have Hmb:=Lib.hid hAb
 have HWb:=Lib.hid hwb
 clear hAb hwb hnb
 go_enter Tryz.func4,Tryz.ntmps4
 go_wp2_with fail
 refine abs_world (F:=fun W=>Sg W Aa la∧Sg W Ab lb∧Blk W w.heap.size #[.int .i64 D,.int .i64 X,.int .i64 O]∧Below w.heap.size w W) ⟨?_,?_,?_,?_⟩ ?_
 ·exact(Hma.out.alloc _)
 ·exact(Hmb.out.alloc _)
 ·exact Blk.fresh _ _ _
 ·exact((Below.refl w.heap.size w).alloc (by first|exact Nat.le_refl _|(simp;done)|(simp;omega)) _)
 clear Hma Hmb
 rintro W1 ⟨hma,hmb,hl,hb⟩
 have Hma:=Lib.hid hma
 have Hmb:=Lib.hid hmb
 have Hl:=Lib.hid hl
 have HB:=Lib.hid hb
 clear hb hma hmb hl
 refine(awake17_any _ (HT.out.on HB.out)).mono ?_
 rintro r w2 ⟨rfl,hb⟩
 have fma:=Hma.out.below hb (Nat.le_refl _)
 have fmb:=Hmb.out.below hb (Nat.le_refl _)
 have fl:=Hl.out.below hb
 have HB0:=Lib.hid (bel_on HB.out hb)
 clear hb Hma Hmb Hl HB
 have HB:=HB0
 clear HB0
 have Hma:=Lib.hid fma
 clear fma
 have Hmb:=Lib.hid fmb
 clear fmb
 have Hl:=Lib.hid fl
 clear fl
 obtain⟨xl,yl,zl⟩:=Hl.out
 go_wp2_with fail
 clear xl yl zl
 refine(RefSmall15 Aa ca la D X O _ Hma.out hma).mono ?_
 rintro r w3 ⟨rfl,hb⟩
 have fma:=Hma.out.below hb (Nat.le_refl _)
 have fmb:=Hmb.out.below hb (Nat.le_refl _)
 have fl:=Hl.out.below hb
 have HB0:=Lib.hid (bel_on HB.out hb)
 clear hb Hma Hmb Hl HB
 have HB:=HB0
 clear HB0
 have Hma:=Lib.hid fma
 clear fma
 have Hmb:=Lib.hid fmb
 clear fmb
 have Hl:=Lib.hid fl
 clear fl
 cases hsm:small15B la D X with
 | false=>
  clear hsm
  go_wp2_with fail
  refine(awake17_any _ (HT.out.on HB.out)).mono ?_
  rintro r w4 ⟨rfl,hb⟩
  have fma:=Hma.out.below hb (Nat.le_refl _)
  have fmb:=Hmb.out.below hb (Nat.le_refl _)
  have fl:=Hl.out.below hb
  have HB0:=Lib.hid (bel_on HB.out hb)
  clear hb Hma Hmb Hl HB
  have HB:=HB0
  clear HB0
  have Hma:=Lib.hid fma
  clear fma
  have Hmb:=Lib.hid fmb
  clear fmb
  have Hl:=Lib.hid fl
  clear fl
  go_wp2
  go_ret
  exact⟨rfl,HB.out⟩
 | true=>
  obtain⟨hD,hX,hl20,hf⟩:=small15_fits hsm
  have HFa:Hid (∀j,(seg la j).length≤20000000):=Lib.hid (fun j=>by have:=hf j;omega)
  have H3a:Hid (∀j,(seg la j).length≤300):=Lib.hid hf
  have hm'a:la.length≤40:=by omega
  clear hsm hf hl20
  obtain⟨xl,yl,zl⟩:=Hl.out
  go_wp2_with fail
  clear xl yl zl
  refine(RefSmall15 Ab cb lb D X O _ Hmb.out hmb).mono ?_
  rintro r w4 ⟨rfl,hb⟩
  have fma:=Hma.out.below hb (Nat.le_refl _)
  have fmb:=Hmb.out.below hb (Nat.le_refl _)
  have fl:=Hl.out.below hb
  have HB0:=Lib.hid (bel_on HB.out hb)
  clear hb Hma Hmb Hl HB
  have HB:=HB0
  clear HB0
  have Hma:=Lib.hid fma
  clear fma
  have Hmb:=Lib.hid fmb
  clear fmb
  have Hl:=Lib.hid fl
  clear fl
  cases hsm:small15B lb D X with
  | false=>
   clear hsm
   go_wp2_with fail
   refine(awake17_any _ (HT.out.on HB.out)).mono ?_
   rintro r w5 ⟨rfl,hb⟩
   have fma:=Hma.out.below hb (Nat.le_refl _)
   have fmb:=Hmb.out.below hb (Nat.le_refl _)
   have fl:=Hl.out.below hb
   have HB0:=Lib.hid (bel_on HB.out hb)
   clear hb Hma Hmb Hl HB
   have HB:=HB0
   clear HB0
   have Hma:=Lib.hid fma
   clear fma
   have Hmb:=Lib.hid fmb
   clear fmb
   have Hl:=Lib.hid fl
   clear fl
   go_wp2
   go_ret
   exact⟨rfl,HB.out⟩
  | true=>
   obtain⟨hD,hX,hl20,hf⟩:=small15_fits hsm
   have HFb:Hid (∀j,(seg lb j).length≤20000000):=Lib.hid (fun j=>by have:=hf j;omega)
   have H3b:Hid (∀j,(seg lb j).length≤300):=Lib.hid hf
   have hm'b:lb.length≤40:=by omega
   clear hsm hf hl20
   have hca:=can17 HWa.out hm'a HFa.out D X (by omega)
   have hcb:=can17 HWb.out hm'b HFb.out D X (by omega)
   obtain⟨⟨v,g⟩,hq⟩:∃q,eqM la lb D X=q:=⟨_,rfl⟩
   have hfo:=fun h1 h2=>forms17 HWa.out HWb.out hm'a hm'b HFa.out HFb.out (D:=D) (X:=X) (by omega) hq h1 h2
   have hno:=no17 hq
   obtain⟨e,he⟩:∃e,(msgV la D X).2=e:=⟨_,rfl⟩
   obtain⟨f,hf⟩:∃f,(msgV lb D X).2=f:=⟨_,rfl⟩
   have hwa:=can_wds17 HWa.out D X
   obtain⟨p,hp⟩:∃l,canW la D X=l:=⟨_,rfl⟩
   obtain⟨r,hr⟩:∃l,canW lb D X=l:=⟨_,rfl⟩
   rw [he,hf,hp,hr] at hfo
   rw [he,hf] at hno
   rw [hp] at hca hwa
   rw [hr] at hcb
   obtain⟨L,hL⟩:∃L,p.length=L:=⟨_,rfl⟩
   obtain⟨M,hM⟩:∃M,r.length=M:=⟨_,rfl⟩
   rw [hL] at hca
   rw [hM] at hcb
   have HQ:=Lib.hid hq
   have HFO:=Lib.hid hfo
   have HNO:=Lib.hid hno
   have HE:=Lib.hid he
   have HF2:=Lib.hid hf
   have HP:=Lib.hid hp
   have HR:=Lib.hid hr
   have HL:=Lib.hid hL
   have HM:=Lib.hid hM
   have HWP:=Lib.hid hwa
   clear hq hfo hno he hf hp hr hL hM hwa
   obtain⟨xl,yl,zl⟩:=Hl.out
   go_wp2_with fail
   clear xl yl zl
   refine(RefWords17_c Aa ca _ la D X O e p L _ rfl Hma.out HWa.out hm'a HFa.out (by omega) (by omega) HE.out HP.out HL.out).mono ?_
   rintro r w5 ⟨A1,c1,rfl,hn,hn1,hl1,hk1,hb⟩
   have fma:=Hma.out.below hb (Nat.le_refl _)
   have fmb:=Hmb.out.below hb (Nat.le_refl _)
   have fl:=Hl.out.below hb
   have HB0:=Lib.hid (bel_on HB.out hb)
   clear hb Hma Hmb Hl HB
   have HB:=HB0
   clear HB0
   have Hma:=Lib.hid fma
   clear fma
   have Hmb:=Lib.hid fmb
   clear fmb
   have Hl:=Lib.hid fl
   clear fl
   have Hp:=Lib.hid hn
   clear hn
   have HN1:=Lib.hid hn1
   clear hn1
   obtain⟨xl,yl,zl⟩:=Hl.out
   go_wp2_with fail
   clear xl yl zl
   refine(RefWords17_c Ab cb _ lb D X O f r M _ rfl Hmb.out HWb.out hm'b HFb.out (by omega) (by omega) HF2.out HR.out HM.out).mono ?_
   rintro r w6 ⟨A2,c2,rfl,hn,hn2,hl2,hk2,hb⟩
   have fma:=Hma.out.below hb (Nat.le_refl _)
   have fmb:=Hmb.out.below hb (Nat.le_refl _)
   have fl:=Hl.out.below hb
   have fp:=Hp.out.below hb (Nat.le_refl _)
   have HB0:=Lib.hid (bel_on HB.out hb)
   clear hb Hma Hmb Hl Hp HB
   have HB:=HB0
   clear HB0
   have Hma:=Lib.hid fma
   clear fma
   have Hmb:=Lib.hid fmb
   clear fmb
   have Hl:=Lib.hid fl
   clear fl
   have Hp:=Lib.hid fp
   clear fp
   have Hr:=Lib.hid hn
   clear hn
   have HN2:=Lib.hid hn2
   clear hn2
   obtain⟨xl,yl,zl⟩:=Hl.out
   go_wp2_with fail
   clear xl yl zl
   refine(EMessages_w Aa ca _ Ab cb _ la lb D X O v g _ (HT.out.on HB.out) rfl rfl Hma.out Hmb.out HWa.out HWb.out hm'a hm'b HFa.out HFb.out (by omega) (by omega) (by omega) (by omega) (by omega) (by omega) HQ.out).mono ?_
   rintro r w7 ⟨rfl,hb⟩
   have fma:=Hma.out.below hb (Nat.le_refl _)
   have fmb:=Hmb.out.below hb (Nat.le_refl _)
   have fl:=Hl.out.below hb
   have fp:=Hp.out.below hb (Nat.le_refl _)
   have fr:=Hr.out.below hb (Nat.le_refl _)
   have HB0:=Lib.hid (bel_on HB.out hb)
   clear hb Hma Hmb Hl Hp Hr HB
   have HB:=HB0
   clear HB0
   have Hma:=Lib.hid fma
   clear fma
   have Hmb:=Lib.hid fmb
   clear fmb
   have Hl:=Lib.hid fl
   clear fl
   have Hp:=Lib.hid fp
   clear fp
   have Hr:=Lib.hid fr
   clear fr
   by_cases he:e=0
   rotate_left
   ·skip
    obtain⟨rfl,rfl⟩:=HNO.out.1 he
    have t1:(g != 0)=true:=by simpa using he
    have t2:(g==0)=false:=by simpa using he
    have t3:(g==g)=true:=by simp
    clear he HNO HFO
    go_wp2
    go_ret
    exact⟨rfl,HB.out⟩
   have t1:(e != 0)=false:=by simpa using he
   have t2:(e==0)=true:=by simpa using he
   by_cases hf:f=0
   rotate_left
   ·skip
    obtain⟨rfl,rfl⟩:=HNO.out.2 he hf
    have t4:(g != 0)=true:=by simpa using hf
    have t3:(g==g)=true:=by simp
    clear he hf HNO HFO
    go_wp2
    go_ret
    exact⟨rfl,HB.out⟩
   have t4:(f != 0)=false:=by simpa using hf
   obtain⟨hg,hc1,hs⟩:=HFO.out he hf
   subst hg
   have HC1:=Lib.hid hc1
   have HSS:=Lib.hid hs
   clear he hf HNO HFO hc1 hs
   obtain⟨xl,yl,zl⟩:=(Hl.out.alloc (.cells #[.slice A1 L c1] 25))
   go_wp2_with fail
   refine abs_world (F:=fun W=>Sg W Aa la∧Sg W Ab lb∧Blk W w.heap.size #[.int .i64 D,.int .i64 X,.int .i64 O]∧Ri W .u64 A1 p∧Ri W .u64 A2 r∧Sg W (some ⟨w7.heap.size,0,none⟩) [p]∧Below w.heap.size w W) ⟨?_,?_,?_,?_,?_,?_,?_⟩ ?_
   ·exact(Hma.out.alloc _)
   ·exact(Hmb.out.alloc _)
   ·exact(Hl.out.alloc _)
   ·exact(Ri.below Hp.out ((Below.refl _ _).alloc (Nat.le_refl _) _) (Nat.le_refl _))
   ·exact(Ri.below Hr.out ((Below.refl _ _).alloc (Nat.le_refl _) _) (Nat.le_refl _))
   ·exact sg_wrap17 _ A1 c1 L _ p _ Hp.out HL.out HN1.out hl1 hk1 rfl
   ·exact(HB.out.alloc (by first|exact Nat.le_refl _|(have:=HB.out.size;simp;omega)|(have:=HB.out.size;omega)|(simp;done)|(simp;omega)) _)
   clear Hma Hmb Hl Hp Hr HB xl yl zl
   rintro W8 ⟨hma,hmb,hl,hp,hr,ht,hb⟩
   have Hma:=Lib.hid hma
   have Hmb:=Lib.hid hmb
   have Hl:=Lib.hid hl
   have Hp:=Lib.hid hp
   have Hr:=Lib.hid hr
   have Ht:=Lib.hid ht
   have HB:=Lib.hid hb
   clear hb hma hmb hl hp hr ht
   refine(EMessages_w Aa ca _ (some ⟨w7.heap.size,0,none⟩) 1 1 la [p] D X O true 0 _ (HT.out.on HB.out) rfl rfl Hma.out Ht.out HWa.out (wd_one17 HWP.out) hm'a (by decide) HFa.out (fw_one17 (by rw [HL.out];omega)) (by omega) (by omega) (by omega) (by decide) (by omega) (by decide) HC1.out).mono ?_
   rintro r w9 ⟨rfl,hb⟩
   have fma:=Hma.out.below hb (Nat.le_refl _)
   have fmb:=Hmb.out.below hb (Nat.le_refl _)
   have fl:=Hl.out.below hb
   have fp:=Hp.out.below hb (Nat.le_refl _)
   have fr:=Hr.out.below hb (Nat.le_refl _)
   have ft:=Ht.out.below hb (Nat.le_refl _)
   have HB0:=Lib.hid (bel_on HB.out hb)
   clear hb Hma Hmb Hl Hp Hr Ht HB
   have HB:=HB0
   clear HB0
   have Hma:=Lib.hid fma
   clear fma
   have Hmb:=Lib.hid fmb
   clear fmb
   have Hl:=Lib.hid fl
   clear fl
   have Hp:=Lib.hid fp
   clear fp
   have Hr:=Lib.hid fr
   clear fr
   have Ht:=Lib.hid ft
   clear ft
   clear Hl
   clear Hma
   clear Hmb
   clear Ht
   go_wp2_with fail
   refine abs_world (F:=fun W=>Ri W .u64 A1 p∧Ri W .u64 A2 r∧Sg W (some ⟨w9.heap.size,0,none⟩) [p]∧Sg W (some ⟨w9.heap.size+1,0,none⟩) [r]∧Below w.heap.size w W) ⟨?_,?_,?_,?_,?_⟩ ?_
   ·exact(Ri.below (Ri.below Hp.out ((Below.refl _ _).alloc (Nat.le_refl _) _) (Nat.le_refl _)) ((Below.refl _ _).alloc (Nat.le_refl _) _) (Nat.le_refl _))
   ·exact(Ri.below (Ri.below Hr.out ((Below.refl _ _).alloc (Nat.le_refl _) _) (Nat.le_refl _)) ((Below.refl _ _).alloc (Nat.le_refl _) _) (Nat.le_refl _))
   ·exact(sg_wrap17 _ A1 c1 L _ p _ Hp.out HL.out HN1.out hl1 hk1 rfl).alloc _
   ·exact sg_wrap17 _ A2 c2 M _ r _ (Ri.below Hr.out ((Below.refl _ _).alloc (Nat.le_refl _) _) (Nat.le_refl _)) HM.out HN2.out hl2 hk2 (by simp)
   ·exact((HB.out.alloc (by first|exact Nat.le_refl _|(have:=HB.out.size;simp;omega)|(have:=HB.out.size;omega)|(simp;done)|(simp;omega)) _).alloc (by first|exact Nat.le_refl _|(have:=HB.out.size;simp;omega)|(have:=HB.out.size;omega)|(simp;done)|(simp;omega)) _)
   clear Hp Hr HB
   rintro W10 ⟨hp,hr,ht,hu,hb⟩
   have Hp:=Lib.hid hp
   have Hr:=Lib.hid hr
   have Ht:=Lib.hid ht
   have Hu:=Lib.hid hu
   have HB:=Lib.hid hb
   clear hb hp hr ht hu
   refine(Same17_w (some ⟨w9.heap.size,0,none⟩) (some ⟨w9.heap.size+1,0,none⟩) 1 1 1 1 [p] [r] v _ rfl rfl Ht.out Hu.out (by decide) (by decide) HSS.out).mono ?_
   rintro r w11 ⟨rfl,hb⟩
   have fp:=Hp.out.below hb (Nat.le_refl _)
   have fr:=Hr.out.below hb (Nat.le_refl _)
   have ft:=Ht.out.below hb (Nat.le_refl _)
   have fu:=Hu.out.below hb (Nat.le_refl _)
   have HB0:=Lib.hid (bel_on HB.out hb)
   clear hb Hp Hr Ht Hu HB
   have HB:=HB0
   clear HB0
   have Hp:=Lib.hid fp
   clear fp
   have Hr:=Lib.hid fr
   clear fr
   have Ht:=Lib.hid ft
   clear ft
   have Hu:=Lib.hid fu
   clear fu
   have tv:(v==v)=true:=by simp
   go_wp2
   go_ret
   exact⟨by simp,HB.out⟩
end
end Go.Proofs.YtfaflahfjgnphaaGreatDoor
