/- The texts EqJ, EqP (what is wanted of them), one after the other. -/
import Derived.Test.YtfaflahfjgnphaaDoorMg42
import Derived.Test.YtfaflahfjgnphaaDoorMg44
namespace Go.Proofs.YtfaflahfjgnphaaDoor
open Go.ChangeShapes Go.WideShapes Go.ChangeAt Go.RowKit
set_option linter.unusedVariables false
set_option linter.unusedSimpArgs false
set_option maxRecDepth 100000
section
attribute [local simp] AllK KnowsV look Is
theorem msg_obj {ls:List (List Int)}(hw:Wd2 ls)(hm:ls.length≤40)(hf:∀j,(seg ls j).length≤20000000){D X:Int}(h:(msgV ls D X).2=0):∃N,ObjOk ls D.toNat (objF ls 0 0).1 N∧(msgV ls D X).1=trimN N:=by
 unfold msgV at h ⊢
 by_cases h1:0<ls.length∧(seg ls 0).length=0
 ·rw [if_pos h1]
  refine⟨nd0,.inl ⟨?_,rfl⟩,trim_nd0.symm⟩
  have h2:hasB ls 0 0=false:=by unfold hasB;rw [decide_eq_false_iff_not];intro h;have h5:(0:Int)<((seg ls 0).length:Int):=h.2.2.2;omega
  have h3:(followF ls 0 0).e≠0:=by unfold followF;rw [if_pos h2];simp [folE]
  unfold objF
  rw [if_pos (.inl h3)]
 ·rw [if_neg h1] at h ⊢
  by_cases h2:(valV ls D.toNat (startI X) 0 0).e≠0
  ·rw [if_pos h2] at h;exact absurd h h2
  ·rw [if_neg h2]
   exact⟨_,okV_obj hw hm hf ⟨_,Classical.byContradiction h2,rfl⟩,rfl⟩
theorem Eobject_ob (A:Option Addr)(c n:Nat)(ls:List (List Int))(s a:Int)(o:Ob)(w:World)(E:EnvQ A ls w)(hn:ls.length=n)(h1:0≤s∧s≤40)(h2:0≤a∧a≤1000000000000)(hq:(objF ls s a).1=o):
  Calls Tryd.prog 14 #[.slice A n c,.int .i64 s,.int .i64 a] w fun r w'=>r=.returned (.agg #[.int .i64 o.k,.int .i64 o.sg,.int .i64 o.at',.int .i64 o.d,.int .i64 o.p,.int .i64 o.el,.int .i64 o.n,.int .i64 o.cost])∧Below w.heap.size w w':=by
 obtain⟨k,sg,at',d,p,el,m,cost⟩:=o
 exact Eobject_any A c n ls s a k sg at' d p el m cost (objF ls s a).2 w E hn h1 h2 (Prod.ext hq rfl)
set_option maxHeartbeats 4000000 in
theorem messages_any (A:Option Addr)(c:Nat)(B:Option Addr)(c2:Nat)(ms ns:List (List Int))(D X O:Int)(w:World)(E1:EnvQ A ms w)(E2:EnvQ B ns w)(hD:D≤900)(hX:X≤1000000):
  Calls Tryd.prog 8 #[.slice A ms.length c,.slice B ns.length c2,.agg #[.int .i64 D,.int .i64 X,.int .i64 O]] w fun r w'=>r=.returned (.tuple #[.bool (eqM ms ns D X).1,.int .i64 (eqM ms ns D X).2])∧Below w.heap.size w w':=by
 have HM1:=Lib.hid (fun w2 (a:EnvQ A ms w2)=>DMeasure_any A c ms D X O w2 a.tab a.sg a.wd a.m a.f hD hX)
 have HM2:=Lib.hid (fun w2 (a:EnvQ B ns w2)=>DMeasure_any B c2 ns D X O w2 a.tab a.sg a.wd a.m a.f hD hX)
 have hs1:=msg_same ms D X
 have hs2:=msg_same ns D X
 have HN1:=Lib.hid (fun (h:(measV ms D X).2=0)=>msg_obj E1.wd E1.m E1.f (hs1.trans h))
 have HN2:=Lib.hid (fun (h:(measV ns D X).2=0)=>msg_obj E2.wd E2.m E2.f (hs2.trans h))
 have HQ1:Hid ((measV ms D X).2≠0→eqM ms ns D X=(false,(measV ms D X).2)):=Lib.hid (fun h=>by unfold eqM eqQ;rw [hs1,if_pos h])
 have HQ2:Hid ((measV ms D X).2=0→(measV ns D X).2≠0→eqM ms ns D X=(false,(measV ns D X).2)):=Lib.hid (fun h h2=>by unfold eqM eqQ;rw [hs1,hs2,if_neg (fun g=>g h),if_pos h2])
 have HQ3:Hid ((measV ms D X).2=0→(measV ns D X).2=0→eqM ms ns D X=(eqN (msgV ms D X).1 (msgV ns D X).1,0)):=Lib.hid (fun h h2=>by unfold eqM eqQ;rw [hs1,hs2,if_neg (fun g=>g h),if_neg (fun g=>g h2)])
 have HOO:=Lib.hid (Eobj_any A c B c2 ms ns D.toNat)
 have HOX:=Lib.hid (fun w2 (a:EnvQ A ms w2)=>Eobject_ob A c ms.length ms 0 0 _ w2 a rfl (by omega) (by omega) rfl)
 have HOY:=Lib.hid (fun w2 (a:EnvQ B ns w2)=>Eobject_ob B c2 ns.length ns 0 0 _ w2 a rfl (by omega) (by omega) rfl)
 generalize (measV ms D X).2=e1 at *
 generalize (measV ns D X).2=e2 at *
 generalize (measV ms D X).1=u1 at *
 generalize (measV ns D X).1=u2 at *
 generalize (objF ms 0 0).1=ox at *
 generalize (objF ns 0 0).1=oy at *
 generalize eqM ms ns D X=res at *
 clear hs1 hs2
 have HB1:Hid (Below w.heap.size w ((w.alloc (.cells #[.int .i64 D,.int .i64 X,.int .i64 O] 24)).alloc (.cells #[.slice A ms.length c,.slice B ns.length c2] 22))):=Lib.hid (((Below.refl w.heap.size w).alloc (Nat.le_refl _) _).alloc (by simp) _)
 have HL1:Hid (Blk ((w.alloc (.cells #[.int .i64 D,.int .i64 X,.int .i64 O] 24)).alloc (.cells #[.slice A ms.length c,.slice B ns.length c2] 22)) w.heap.size #[.int .i64 D,.int .i64 X,.int .i64 O]):=Lib.hid ((Blk.fresh _ _ _).alloc _)
 have HR1:Hid (Blk ((w.alloc (.cells #[.int .i64 D,.int .i64 X,.int .i64 O] 24)).alloc (.cells #[.slice A ms.length c,.slice B ns.length c2] 22)) (w.heap.size+1) #[.slice A ms.length c,.slice B ns.length c2]):=Lib.hid (Blk.new (by simp))
 go_enter Tryd.func8,Tryd.ntmps8
 go_wp2_with fail
 refine abs_code10 (F:=fun W=>W=(w.alloc (.cells #[.int .i64 D,.int .i64 X,.int .i64 O] 24)).alloc (.cells #[.slice A ms.length c,.slice B ns.length c2] 22)) rfl ?_
 rintro W1 hW1
 rw [←hW1] at HB1 HL1 HR1
 clear hW1
 have HE1:=Lib.hid (E1.on HB1.out)
 have HE2:=Lib.hid (E2.on HB1.out)
 clear E1 E2
 go_loopw [17] (fun i wr=>∃j:Nat,j≤2∧i=.int .i64 j∧(1≤j→e1=0)∧(2≤j→e2=0)∧Below W1.heap.size W1 wr) (fun i _=>2-(intOf i).toNat)
 case atStart=>exact⟨0,by omega,rfl,fun h=>absurd h (by omega),fun h=>absurd h (by omega),Below.refl _ _⟩
 case round=>
  obtain⟨j,hj,rfl,h1,h2,hbr⟩:=hrel
  have HR:=Lib.hid hbr
  have HL2:=Lib.hid (HL1.out.below hbr)
  have HR2:=Lib.hid (HR1.out.below hbr)
  have HEA:=Lib.hid (HE1.out.on hbr)
  have HEB:=Lib.hid (HE2.out.on hbr)
  have H1:=Lib.hid h1
  have H2:=Lib.hid h2
  clear hbr h1 h2
  rcases(by omega:j=0∨j=1∨j=2) with rfl|rfl|rfl
  ·obtain⟨x1,y1,z1⟩:=HL2.out
   obtain⟨x2,y2,z2⟩:=HR2.out
   go_wp2_with fail
   refine(HM1.out _ HEA.out).mono ?_
   rintro r w3 ⟨rfl,hb3⟩
   have HB3:=Lib.hid (HR.out.trans (hb3.mono HR.out.size))
   clear hb3 x1 y1 z1 x2 y2 z2
   by_cases he:e1=0
   ·have t1:(e1 != 0)=false:=by simpa using he
    have HZ:=Lib.hid he
    clear he
    go_wp2
    go_roundw
    case rel=>exact⟨1,by omega,by go_num,fun _=>HZ.out,fun h=>absurd h (by omega),HB3.out⟩
    case measure=>simp [intOf]
   ·have t1:(e1 != 0)=true:=by simpa using he
    have HV:=Lib.hid (HQ1.out he)
    clear he
    go_wp2
    go_ret2
    exact⟨by rw [HV.out];rfl,bel_on HB1.out HB3.out⟩
  ·obtain⟨x1,y1,z1⟩:=HL2.out
   obtain⟨x2,y2,z2⟩:=HR2.out
   go_wp2_with fail
   refine(HM2.out _ HEB.out).mono ?_
   rintro r w3 ⟨rfl,hb3⟩
   have HB3:=Lib.hid (HR.out.trans (hb3.mono HR.out.size))
   clear hb3 x1 y1 z1 x2 y2 z2
   by_cases he:e2=0
   ·have t1:(e2 != 0)=false:=by simpa using he
    have HZ:=Lib.hid he
    clear he
    go_wp2
    go_roundw
    case rel=>exact⟨2,by omega,by go_num,fun _=>H1.out (by omega),fun _=>HZ.out,HB3.out⟩
    case measure=>simp [intOf]
   ·have t1:(e2 != 0)=true:=by simpa using he
    have HV:=Lib.hid (HQ2.out (H1.out (by omega)) he)
    clear he
    go_wp2
    go_ret2
    exact⟨by rw [HV.out];rfl,bel_on HB1.out HB3.out⟩
  ·have z1:=H1.out (by omega)
   have z2:=H2.out (by omega)
   obtain⟨N,hN,hN1⟩:=HN1.out z1
   obtain⟨M,hM,hM1⟩:=HN2.out z2
   have hV:=HQ3.out z1 z2
   rw [hN1,hM1] at hV
   have HV:Hid (res=(eqT N M,0)):=Lib.hid hV
   have HOC:=Lib.hid (fun w2 (a:EnvQ A ms w2) (b:EnvQ B ns w2)=>HOO.out ox oy N M w2 a b hN hM)
   have HB3:=Lib.hid ((bel_on HB1.out HR.out).alloc (bel_on HB1.out HR.out).size (.cells #[.slice A ms.length c,.slice B ns.length c2] 42))
   have HP3:=Lib.hid (Blk.fresh wr #[.slice A ms.length c,.slice B ns.length c2] 42)
   have HE3:=Lib.hid (HEA.out.on ((Below.refl _ _).alloc (Nat.le_refl _) (.cells #[.slice A ms.length c,.slice B ns.length c2] 42)))
   have HE4:=Lib.hid (HEB.out.on ((Below.refl _ _).alloc (Nat.le_refl _) (.cells #[.slice A ms.length c,.slice B ns.length c2] 42)))
   clear hN hN1 hM hM1 hV z1 z2 HM1 HM2 HQ1 HQ2 HQ3 HN1 HN2 HL1 HR1 HB1 HE1 HE2 HL2 HR2 HEA HEB H1 H2 HOO
   generalize eqT N M=b at *
   go_wp2_with fail
   refine abs_code10 (F:=fun W=>W=wr.alloc (.cells #[.slice A ms.length c,.slice B ns.length c2] 42)) rfl ?_
   rintro W2 hW2
   rw [←hW2] at HB3 HP3 HE3 HE4
   clear hW2
   rename_i KK hKK
   refine wp_region_chain (by kernel_rfl) (by kernel_rfl) ?_
   refine chain_val (u:=?_) [12] rfl (by kernel_rfl) trivial (fun ρ wc hbc hcn hq=>?_) ?_;rotate_left
   ·obtain⟨hcn,hfn⟩:=hcn
    simp at hq
    have x1:=(HP3.out.drew.below hbc).cell
    go_simp
    rfl
   refine chain_val (u:=?_) [0] rfl (by kernel_rfl) trivial (fun ρ wc hbc hcn hq=>?_) ?_;rotate_left
   ·obtain⟨hcn,hfn⟩:=hcn
    simp at hq
    go_simp
    rfl
   refine chain_call (T:=Is ?_) 14 [35] rfl (by kernel_rfl) trivial (stable_is _) (fun ρ wc hbc hcn hq=>?_) ?_;rotate_left
   ·obtain⟨hcn,hfn⟩:=hcn
    simp at hq
    refine⟨_,by go_simp;rfl,?_⟩
    refine(HOX.out _ (HE3.out.on (und hbc))).mono ?_
    rintro e w' ⟨rfl,hbq⟩
    refine⟨_,rfl,?_,hbq⟩
    unfold Is
    rfl
   refine chain_val (u:=?_) [1] rfl (by kernel_rfl) trivial (fun ρ wc hbc hcn hq=>?_) ?_;rotate_left
   ·obtain⟨hcn,hfn⟩:=hcn
    simp at hq
    go_simp
    rfl
   refine chain_call (T:=Is ?_) 14 [37] rfl (by kernel_rfl) trivial (stable_is _) (fun ρ wc hbc hcn hq=>?_) ?_;rotate_left
   ·obtain⟨hcn,hfn⟩:=hcn
    simp at hq
    refine⟨_,by go_simp;rfl,?_⟩
    refine(HOY.out _ (HE4.out.on (und hbc))).mono ?_
    rintro e w' ⟨rfl,hbq⟩
    refine⟨_,rfl,?_,hbq⟩
    unfold Is
    rfl
   refine chain_call (T:=Is ?_) 13 [34,36,38] rfl (by kernel_rfl) trivial (stable_is _) (fun ρ wc hbc hcn hq=>?_) ?_;rotate_left
   ·obtain⟨hcn,hfn⟩:=hcn
    simp at hq
    refine⟨_,by go_simp;rfl,?_⟩
    refine(HOC.out _ (HE3.out.on (und hbc)) (HE4.out.on (und hbc))).mono ?_
    rintro e w' ⟨rfl,hbq⟩
    refine⟨_,rfl,?_,hbq⟩
    unfold Is
    rfl
   refine chain_val (u:=?_) [39] rfl (by kernel_rfl) trivial (fun ρ wc hbc hcn hq=>?_) ?_;rotate_left
   ·obtain⟨hcn,hfn⟩:=hcn
    simp at hq
    go_simp
    rfl
   refine chain_val (u:=?_) [] rfl (by kernel_rfl) trivial (fun ρ wc hbc hcn hq=>?_) ?_;rotate_left
   ·obtain⟨hcn,hfn⟩:=hcn
    go_simp
    rfl
   refine chain_end_lit 40 rfl (fun ff w5 hb5 hk=>?_)
   have HB6:=Lib.hid (bel_on HB3.out (und hb5))
   simp [AllN] at hk
   simp only [frameL,hk]
   refine hKK _ _ ?_
   clear hk hb5
   go_wp2
   go_ret2
   exact⟨by rw [HV.out];rfl,HB6.out⟩
end
section
theorem EData_any (A:Option Addr)(c:Nat)(B:Option Addr)(c2:Nat)(a b:List Int)(w:World)(hT:TabOK w)(ha:Ri w .u64 A a)(hb:Ri w .u64 B b)(la:a.length≤1000000)(lb:b.length≤1000000)(hac:a.length≤c)(hbc:b.length≤c2)(hna:A=none→c=0)(hnb:B=none→c2=0)(hcm:c≤maxLen)(hcm2:c2≤maxLen):
  Calls Tryd.prog 9 #[.slice A a.length c,.slice B b.length c2] w fun r w'=>r=.returned (.bool (dataE a b))∧Below w.heap.size w w':=
 EDataB_any A c B c2 a b w ha hb la lb hac hbc hcm hcm2
theorem EMessages_any (A:Option Addr)(c:Nat)(B:Option Addr)(c2:Nat)(ms ns:List (List Int))(D X O:Int)(w:World)(hT:TabOK w)(ha:Sg w A ms)(hb:Sg w B ns)(wa:Wd2 ms)(wb:Wd2 ns)(ma:ms.length≤40)(mb:ns.length≤40)(fa:∀j,(seg ms j).length≤20000000)(fb:∀j,(seg ns j).length≤20000000)(hD:D≤900)(hX:X≤100000)
  (hac:ms.length≤c) (hbc:ns.length≤c2) (hcm:c≤maxLen) (hcm2:c2≤maxLen) :
  Calls Tryd.prog 8 #[.slice A ms.length c,.slice B ns.length c2,.agg #[.int .i64 D,.int .i64 X,.int .i64 O]] w fun r w'=>r=.returned (.tuple #[.bool (eqM ms ns D X).1,.int .i64 (eqM ms ns D X).2])∧Below w.heap.size w w':=
 messages_any A c B c2 ms ns D X O w ⟨ha,hT,wa,ma,fa⟩ ⟨hb,hT,wb,mb,fb⟩ hD (by omega)
theorem EData_w (A:Option Addr)(c n:Nat)(B:Option Addr)(c2 m:Nat)(a b:List Int)(v:Bool)(w:World)(hT:TabOK w)(hn:a.length=n)(hm:b.length=m)(ha:Ri w .u64 A a)(hb:Ri w .u64 B b)(la:n≤1000000)(lb:m≤1000000)(hac:n≤c)(hbc:m≤c2)(hna:A=none→c=0)(hnb:B=none→c2=0)(hcm:c≤9223372036854775807)(hcm2:c2≤9223372036854775807)(hv:dataE a b=v):
  Calls Tryd.prog 9 #[.slice A n c,.slice B m c2] w fun r w'=>r=.returned (.bool v)∧Below w.heap.size w w':=by
 subst hn hm hv
 exact EData_any A c B c2 a b w hT ha hb la lb hac hbc hna hnb hcm hcm2
theorem EMessages_w (A:Option Addr)(c n:Nat)(B:Option Addr)(c2 m:Nat)(ms ns:List (List Int))(D X O:Int)(v:Bool)(e:Int)(w:World)(hT:TabOK w)(hn:ms.length=n)(hm:ns.length=m)(ha:Sg w A ms)(hb:Sg w B ns)(wa:Wd2 ms)(wb:Wd2 ns)(ma:n≤40)(mb:m≤40)(fa:∀j,(seg ms j).length≤20000000)(fb:∀j,(seg ns j).length≤20000000)(hD:D≤900)(hX:X≤100000)
  (hac:n≤c) (hbc:m≤c2) (hcm:c≤9223372036854775807) (hcm2:c2≤9223372036854775807) (hv:eqM ms ns D X=(v,e)) :
  Calls Tryd.prog 8 #[.slice A n c,.slice B m c2,.agg #[.int .i64 D,.int .i64 X,.int .i64 O]] w fun r w'=>r=.returned (.tuple #[.bool v,.int .i64 e])∧Below w.heap.size w w':=by
 subst hn hm
 have h:=EMessages_any A c B c2 ms ns D X O w hT ha hb wa wb ma mb fa fb hD hX hac hbc hcm hcm2
 rw [hv] at h
 exact h
attribute [local irreducible] msgV eqN sizeN
end
end Go.Proofs.YtfaflahfjgnphaaDoor
