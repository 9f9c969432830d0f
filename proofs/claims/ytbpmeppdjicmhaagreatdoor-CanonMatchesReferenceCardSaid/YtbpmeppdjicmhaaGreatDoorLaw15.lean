/- A law of layer 15: CanonMatchesReference. -/
import Derived.Test.YtbpmeppdjicmhaaGreatDoorMg45
import Derived.Test.YtbpmeppdjicmhaaGreatDoorAwake15
namespace Go.Proofs.YtbpmeppdjicmhaaGreatDoor
open Go.ChangeShapes Go.WideShapes Go.ChangeAt Go.RowKit
set_option linter.unusedVariables false
set_option linter.unusedSimpArgs false
set_option maxRecDepth 100000
section
theorem RefEqual_15 (x y:Nd)(A:Option Addr)(c:Nat)(B:Option Addr)(c2:Nat)(A1:Option Addr)(c3:Nat)(B1:Option Addr)(c4:Nat)(v:Bool)(w:World)(hx:NdR w A c B c2 x)(hy:NdR w A1 c3 B1 c4 y)(hv:eqN x y=v):
  Calls Tryz.prog 16 #[.agg #[.int .i64 x.k,.int .i64 x.e,.int .i64 x.n,.slice A x.d.length c,.slice B x.ks.length c2],.agg #[.int .i64 y.k,.int .i64 y.e,.int .i64 y.n,.slice A1 y.d.length c3,.slice B1 y.ks.length c4]] w fun r w'=>r=.returned (.bool v)∧Below w.heap.size w w':=hv ▸ RefEqual_node x y A c B c2 A1 c3 B1 c4 w hx hy
theorem RefWords15_w (A:Option Addr)(c m:Nat)(ls:List (List Int))(D X O e:Int)(l:List Int)(L:Nat)(w:World)(hl:m=ls.length)(hs:Sg w A ls)(hw:Wd2 ls)(hm:ls.length≤40)(hf:∀j,(seg ls j).length≤20000000)(hD:D≤900)(hX:X≤100000)(he:(msgV ls D X).2=e)(hc:canW ls D X=l)(hL:l.length=L):
  Calls Tryz.prog 11 #[.slice A m c,.agg #[.int .i64 D,.int .i64 X,.int .i64 O]] w fun r w'=>∃A' c',r=.returned (.tuple #[.slice A' L c',.int .i64 e])∧Ri w' .u64 A' l∧Below w.heap.size w w':=by
 subst hl he hc hL
 refine(RefWords15 A c ls D X O w hs hw hm hf hD hX).mono ?_
 rintro r w' ⟨v,rfl,⟨A',c',rfl,h2,-⟩,hb⟩
 exact⟨A',c',rfl,h2,hb⟩
theorem can15 {ls:List (List Int)}(hw:Wd2 ls)(hm:ls.length≤40)(hf:∀j,(seg ls j).length≤20000000)(D X:Int)(hX:X≤100000):(canW ls D X).length≤100001:=by
 have hXs:startI X≤100000:=by unfold startI;split<;>omega
 unfold canW
 split
 ·next h=>
  obtain⟨h1,h2,h3,h4,h5,h6,h7,h8⟩:=canon_facts hw hm hf D X (by omega) h
  have:=writeF_length h1
  omega
 ·simp
theorem sg_wrap15 (w:World)(A:Option Addr)(c L q:Nat)(l:List Int)(T:TypeId)(hr:Ri w .u64 A l)(hL:l.length=L)(hn:A=none→c=0)(hl:L≤c)(hc:c≤maxLen)(hq:q=w.heap.size):Sg (w.alloc (.cells #[.slice A L c] T)) (some ⟨q,0,none⟩) [l]:=by
 subst hq hL
 have h:=Sg.lit (w:=w) [.slice A l.length c] [l] T (fun j hj=>by
  obtain rfl:j=0:=by simp at hj;omega
  exact⟨_,rfl,A,c,rfl,hr,hn,hl,hc⟩)
 simpa using h
theorem fw_one15 {l:List Int}(h:l.length≤20000000)(j:Nat):(seg [l] j).length≤20000000:=by
 by_cases hj:j<[l].length
 ·obtain rfl:j=0:=by simp at hj;omega
  exact h
 ·rw [seg_out (by omega)];simp
theorem wd_one15 {l:List Int}(h:Wds l):Wd2 [l]:=by
 intro a ha
 simp at ha
 subst ha
 exact h
attribute [local irreducible] msgV measV small15B fewB canW writeF costN canN validN eqN
set_option maxHeartbeats 4000000 in
set_option maxRecDepth 100000 in
theorem MR15_walk (A:Option Addr)(c:Nat)(ls:List (List Int))(D X O:Int)(w:World)(hT:TabOK w)(hA:Sg w A ls)(hw:Wd2 ls)(hnil:A=none→c=0)(hlm:ls.length≤9223372036854775807)(hlc:ls.length≤c)(hcm:c≤9223372036854775807)
  (d0:-9223372036854775808≤D) (d1:D≤9223372036854775807) (x0:-9223372036854775808≤X) (x1:X≤9223372036854775807) :
  Calls Tryz.prog 3 #[.slice A ls.length c,.agg #[.int .i64 D,.int .i64 X,.int .i64 O]] w fun e w'=>e=.returned (.bool true)∧Below w.heap.size w w':=by
 have HT:=Lib.hid hT
 have Hm:=Lib.hid hA
 have HW:=Lib.hid hw
 clear hT hA hw hnil
 go_enter Tryz.func3,Tryz.ntmps3
 go_wp2_with fail
 refine abs_world (F:=fun W=>Sg W A ls∧Blk W w.heap.size #[.int .i64 D,.int .i64 X,.int .i64 O]∧Below w.heap.size w W) ⟨?_,?_,?_⟩ ?_
 ·exact(Hm.out.alloc _)
 ·exact Blk.fresh _ _ _
 ·exact((Below.refl w.heap.size w).alloc (by first|exact Nat.le_refl _|(simp;done)|(simp;omega)) _)
 clear Hm
 rintro W1 ⟨hm,hl,hb⟩
 have Hm:=Lib.hid hm
 have Hl:=Lib.hid hl
 have HB:=Lib.hid hb
 clear hb hm hl
 refine(awake15_any _ (HT.out.on HB.out)).mono ?_
 rintro r w2 ⟨rfl,hb⟩
 have fm:=Hm.out.below hb (Nat.le_refl _)
 have fl:=Hl.out.below hb
 have HB0:=Lib.hid (bel_on HB.out hb)
 clear hb Hm Hl HB
 have HB:=HB0
 clear HB0
 have Hm:=Lib.hid fm
 clear fm
 have Hl:=Lib.hid fl
 clear fl
 obtain⟨xl,yl,zl⟩:=Hl.out
 go_wp2_with fail
 clear xl yl zl
 refine(RefSmall15 A c ls D X O _ Hm.out hlm).mono ?_
 rintro r w3 ⟨rfl,hb⟩
 have fm:=Hm.out.below hb (Nat.le_refl _)
 have fl:=Hl.out.below hb
 have HB0:=Lib.hid (bel_on HB.out hb)
 clear hb Hm Hl HB
 have HB:=HB0
 clear HB0
 have Hm:=Lib.hid fm
 clear fm
 have Hl:=Lib.hid fl
 clear fl
 cases hsm:small15B ls D X with
 | false=>
  clear hsm
  go_wp2_with fail
  refine(awake15_any _ (HT.out.on HB.out)).mono ?_
  rintro r w4 ⟨rfl,hb⟩
  have fm:=Hm.out.below hb (Nat.le_refl _)
  have fl:=Hl.out.below hb
  have HB0:=Lib.hid (bel_on HB.out hb)
  clear hb Hm Hl HB
  have HB:=HB0
  clear HB0
  have Hm:=Lib.hid fm
  clear fm
  have Hl:=Lib.hid fl
  clear fl
  go_wp2
  go_ret
  exact⟨rfl,HB.out⟩
 | true=>
  obtain⟨hD,hX,hl20,hf⟩:=small15_fits hsm
  have HF:Hid (∀j,(seg ls j).length≤20000000):=Lib.hid (fun j=>by have:=hf j;omega)
  have hm':ls.length≤40:=by omega
  clear hsm hf
  have hcl:=can15 HW.out hm' HF.out D X (by omega)
  have HCF:=Lib.hid (fun h=>canon_facts HW.out hm' HF.out D X (by omega) h)
  have HCI:=Lib.hid (fun h hb=>canon_idem HW.out hm' HF.out D X (by omega) h hb)
  have hqs:sizeN (msgV ls D X).1≤1048576:=canon_size HW.out hm' HF.out D X (by omega)
  have hcw:canW ls D X=if (msgV ls D X).2=0 then writeF (msgV ls D X).1 else []:=by unfold canW;rfl
  have hso:(if (msgV ls D X).2=0 then [writeF (msgV ls D X).1] else [])=if (msgV ls D X).2=0 then [writeF (msgV ls D X).1] else []:=rfl
  obtain⟨⟨x,e⟩,hq⟩:∃q,msgV ls D X=q:=⟨_,rfl⟩
  obtain⟨⟨y,f⟩,hr⟩:∃q,measV ls D X=q:=⟨_,rfl⟩
  have hfe:=msg_same ls D X
  rw [hq,hr] at hfe
  simp only at hfe
  subst hfe
  have he':(msgV ls D X).2=e:=by rw [hq]
  conv at hso=>rhs;rw [hq]
  rw [hq] at hcw hqs
  rw [hq,hr] at HCF
  rw [hq] at HCI
  simp only at hcw hso hqs HCF HCI
  rw [hcw] at hcl
  by_cases he:e=0
  ·subst he
   rw [if_pos rfl] at hcw hso hcl
   obtain⟨hv,ht,hdp,hc0,hc1,hc2,hc3,hc4⟩:=HCF.out rfl
   have hln:=writeF_length hv
   have HWW:=Lib.hid (fun (h:bytN x)=>writeF_wds h)
   have HII:Hid (bytN x→msgV [writeF x] D X=(x,0)∧measV [writeF x] D X=(costN x,0)∧canW [writeF x] D X=writeF x):=Lib.hid (fun h=>by
    obtain⟨g1,g2⟩:=HCI.out rfl h
    exact⟨g1,g2,by unfold canW;rw [g1];rfl⟩)
   clear HCF HCI
   obtain⟨cw,hcwe⟩:∃c,writeF x=c:=⟨_,rfl⟩
   rw [hcwe] at hcw hso hcl hln HWW HII
   obtain⟨L,hL⟩:∃L,cw.length=L:=⟨_,rfl⟩
   rw [hL] at hcl hln
   obtain⟨z,hz⟩:∃z,costN x=z:=⟨_,rfl⟩
   rw [hz] at HII hc2
   obtain⟨k,hk⟩:∃k,canN x=k:=⟨_,rfl⟩
   rw [hk] at hln hc0 hc1
   have HQ:=Lib.hid hq
   have HR:=Lib.hid hr
   have HE:=Lib.hid he'
   have HC:=Lib.hid hcw
   have HS:=Lib.hid hso
   have HL:=Lib.hid hL
   have HK:=Lib.hid hk
   have HV:=Lib.hid hv
   have HSZ:Hid (sizeN x≤1099511627776):=Lib.hid (by omega)
   clear hq hr he' hcw hso hL hcwe hz hk hv ht hdp hqs
   obtain⟨xl,yl,zl⟩:=Hl.out
   go_wp2_with fail
   clear xl yl zl
   refine(CWords_w A c _ ls D X O 0 cw L _ (HT.out.on HB.out) rfl Hm.out HW.out hm' HF.out (by omega) (by omega) HE.out HC.out HL.out).mono ?_
   rintro r w4 ⟨A1,c1,rfl,-,hn,-,-,-,hb⟩
   have fm:=Hm.out.below hb (Nat.le_refl _)
   have fl:=Hl.out.below hb
   have HB0:=Lib.hid (bel_on HB.out hb)
   clear hb Hm Hl HB
   have HB:=HB0
   clear HB0
   have Hm:=Lib.hid fm
   clear fm
   have Hl:=Lib.hid fl
   clear fl
   have Ha:=Lib.hid hn
   clear hn
   obtain⟨xl,yl,zl⟩:=Hl.out
   go_wp2_with fail
   clear xl yl zl
   refine(RefWords15_w A c _ ls D X O 0 cw L _ rfl Hm.out HW.out hm' HF.out (by omega) (by omega) HE.out HC.out HL.out).mono ?_
   rintro r w5 ⟨A2,c2,rfl,hn,hb⟩
   have fm:=Hm.out.below hb (Nat.le_refl _)
   have fl:=Hl.out.below hb
   have fa:=Ha.out.below hb (Nat.le_refl _)
   have HB0:=Lib.hid (bel_on HB.out hb)
   clear hb Hm Hl Ha HB
   have HB:=HB0
   clear HB0
   have Hm:=Lib.hid fm
   clear fm
   have Hl:=Lib.hid fl
   clear fl
   have Ha:=Lib.hid fa
   clear fa
   have Hd:=Lib.hid hn
   clear hn
   obtain⟨xl,yl,zl⟩:=Hl.out
   go_wp2_with fail
   clear xl yl zl
   refine(CSegs_w A c _ ls D X O 0 [cw] 1 _ (HT.out.on HB.out) rfl Hm.out HW.out hm' HF.out (by omega) (by omega) HE.out HS.out rfl).mono ?_
   rintro r w6 ⟨A3,c3,rfl,-,hn,-,-,hb⟩
   have fm:=Hm.out.below hb (Nat.le_refl _)
   have fl:=Hl.out.below hb
   have fa:=Ha.out.below hb (Nat.le_refl _)
   have fd:=Hd.out.below hb (Nat.le_refl _)
   have HB0:=Lib.hid (bel_on HB.out hb)
   clear hb Hm Hl Ha Hd HB
   have HB:=HB0
   clear HB0
   have Hm:=Lib.hid fm
   clear fm
   have Hl:=Lib.hid fl
   clear fl
   have Ha:=Lib.hid fa
   clear fa
   have Hd:=Lib.hid fd
   clear fd
   have Hs:=Lib.hid hn
   clear hn
   clear Hm
   clear Hl
   go_wp2_with fail
   refine(SameWords_15 A1 A2 c1 c2 cw cw L L true _ Ha.out Hd.out HL.out HL.out (by omega) (by omega) (by simp [sameB])).mono ?_
   rintro r w7 ⟨rfl,hb⟩
   have fa:=Ha.out.below hb (Nat.le_refl _)
   have fd:=Hd.out.below hb (Nat.le_refl _)
   have fs:=Hs.out.below hb (Nat.le_refl _)
   have HB0:=Lib.hid (bel_on HB.out hb)
   clear hb Ha Hd Hs HB
   have HB:=HB0
   clear HB0
   have Ha:=Lib.hid fa
   clear fa
   have Hd:=Lib.hid fd
   clear fd
   have Hs:=Lib.hid fs
   clear fs
   obtain⟨b6,o6,A8,c8,rfl,hc6,hr6,-,-,-⟩:=Hs.out.one (i:=0) (by simp)
   rw [Nat.add_zero] at hc6
   have hsl:seg [cw] 0=cw:=rfl
   rw [hsl] at hc6 hr6
   rw [HL.out] at hc6
   have H8:=Lib.hid hr6
   clear hr6 hsl
   go_wp2_with fail
   clear hc6
   refine(SameWords_15 A8 A2 c8 c2 cw cw L L true _ H8.out Hd.out HL.out HL.out (by omega) (by omega) (by simp [sameB])).mono ?_
   rintro r w8 ⟨rfl,hb⟩
   have fa:=Ha.out.below hb (Nat.le_refl _)
   have fd:=Hd.out.below hb (Nat.le_refl _)
   have fs:=Hs.out.below hb (Nat.le_refl _)
   have f8:=H8.out.below hb (Nat.le_refl _)
   have HB0:=Lib.hid (bel_on HB.out hb)
   clear hb Ha Hd Hs H8 HB
   have HB:=HB0
   clear HB0
   have Ha:=Lib.hid fa
   clear fa
   have Hd:=Lib.hid fd
   clear fd
   have Hs:=Lib.hid fs
   clear fs
   have H8:=Lib.hid f8
   clear f8
   go_wp2
   go_ret
   exact⟨rfl,HB.out⟩
  ·rw [if_neg he] at hcw hso hcl
   have t0:(e != 0)=true:=by simpa using he
   have tt:(e != e)=false:=by simp
   have HQ:=Lib.hid hq
   have HR:=Lib.hid hr
   have HE:=Lib.hid he'
   have HC:=Lib.hid hcw
   have HS:=Lib.hid hso
   clear hq hr he' hcw hso hcl hqs HCF HCI he
   obtain⟨xl,yl,zl⟩:=Hl.out
   go_wp2_with fail
   clear xl yl zl
   refine(CWords_w A c _ ls D X O e [] 0 _ (HT.out.on HB.out) rfl Hm.out HW.out hm' HF.out (by omega) (by omega) HE.out HC.out rfl).mono ?_
   rintro r w4 ⟨A1,c1,rfl,-,hn,-,-,-,hb⟩
   have fm:=Hm.out.below hb (Nat.le_refl _)
   have fl:=Hl.out.below hb
   have HB0:=Lib.hid (bel_on HB.out hb)
   clear hb Hm Hl HB
   have HB:=HB0
   clear HB0
   have Hm:=Lib.hid fm
   clear fm
   have Hl:=Lib.hid fl
   clear fl
   have Ha:=Lib.hid hn
   clear hn
   obtain⟨xl,yl,zl⟩:=Hl.out
   go_wp2_with fail
   clear xl yl zl
   refine(RefWords15_w A c _ ls D X O e [] 0 _ rfl Hm.out HW.out hm' HF.out (by omega) (by omega) HE.out HC.out rfl).mono ?_
   rintro r w5 ⟨A2,c2,rfl,hn,hb⟩
   have fm:=Hm.out.below hb (Nat.le_refl _)
   have fl:=Hl.out.below hb
   have fa:=Ha.out.below hb (Nat.le_refl _)
   have HB0:=Lib.hid (bel_on HB.out hb)
   clear hb Hm Hl Ha HB
   have HB:=HB0
   clear HB0
   have Hm:=Lib.hid fm
   clear fm
   have Hl:=Lib.hid fl
   clear fl
   have Ha:=Lib.hid fa
   clear fa
   have Hd:=Lib.hid hn
   clear hn
   obtain⟨xl,yl,zl⟩:=Hl.out
   go_wp2_with fail
   clear xl yl zl
   refine(CSegs_w A c _ ls D X O e [] 0 _ (HT.out.on HB.out) rfl Hm.out HW.out hm' HF.out (by omega) (by omega) HE.out HS.out rfl).mono ?_
   rintro r w6 ⟨A3,c3,rfl,-,hn,-,-,hb⟩
   have fm:=Hm.out.below hb (Nat.le_refl _)
   have fl:=Hl.out.below hb
   have fa:=Ha.out.below hb (Nat.le_refl _)
   have fd:=Hd.out.below hb (Nat.le_refl _)
   have HB0:=Lib.hid (bel_on HB.out hb)
   clear hb Hm Hl Ha Hd HB
   have HB:=HB0
   clear HB0
   have Hm:=Lib.hid fm
   clear fm
   have Hl:=Lib.hid fl
   clear fl
   have Ha:=Lib.hid fa
   clear fa
   have Hd:=Lib.hid fd
   clear fd
   have Hs:=Lib.hid hn
   clear hn
   clear Hm
   clear Hl
   go_wp2_with fail
   refine(SameWords_15 A1 A2 c1 c2 [] [] 0 0 true _ Ha.out Hd.out rfl rfl (by decide) (by decide) (by simp [sameB])).mono ?_
   rintro r w7 ⟨rfl,hb⟩
   have fa:=Ha.out.below hb (Nat.le_refl _)
   have fd:=Hd.out.below hb (Nat.le_refl _)
   have fs:=Hs.out.below hb (Nat.le_refl _)
   have HB0:=Lib.hid (bel_on HB.out hb)
   clear hb Ha Hd Hs HB
   have HB:=HB0
   clear HB0
   have Ha:=Lib.hid fa
   clear fa
   have Hd:=Lib.hid fd
   clear fd
   have Hs:=Lib.hid fs
   clear fs
   go_wp2
   go_ret
   exact⟨rfl,HB.out⟩
end
end Go.Proofs.YtbpmeppdjicmhaaGreatDoor
