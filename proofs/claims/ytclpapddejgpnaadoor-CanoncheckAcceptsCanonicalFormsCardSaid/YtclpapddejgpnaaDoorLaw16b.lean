/- A law of layer 16: CanoncheckAcceptsExactly. -/
import Derived.Test.YtclpapddejgpnaaDoorMg34
import Derived.Test.YtclpapddejgpnaaDoorMg42
import Derived.Test.YtclpapddejgpnaaDoorMg45
import Derived.Test.YtclpapddejgpnaaDoorLaw16
namespace Go.Proofs.YtclpapddejgpnaaDoor
open Go.ChangeShapes Go.WideShapes Go.ChangeAt Go.RowKit
set_option linter.unusedVariables false
set_option linter.unusedSimpArgs false
set_option maxRecDepth 100000
section
attribute [local simp] AllK KnowsV look Is
theorem can16 {ls:List (List Int)}(hw:Wd2 ls)(hm:ls.length≤40)(hf:∀j,(seg ls j).length≤20000000)(D X:Int)(hX:X≤100000):(canW ls D X).length≤100001:=by
 have hXs:startI X≤100000:=by unfold startI;split<;>omega
 unfold canW
 split
 ·next h=>
  obtain⟨h1,h2,h3,h4,h5,h6,h7,h8⟩:=canon_facts hw hm hf D X (by omega) h
  have:=writeF_length h1
  omega
 ·simp
attribute [local irreducible] msgV measV small15B fewB canW writeF chkB sameB
set_option maxHeartbeats 4000000 in
set_option maxRecDepth 100000 in
theorem Exact16_walk (A:Option Addr)(c n:Nat)(ws:List Int)(D X O:Int)(w:World)(hT:TabOK w)(hA:Ri w .u64 A ws)(hw:Wds ws)(hn:ws.length=n)(hnil:A=none→c=0)(hle:n≤c)(hcm:c≤9223372036854775807)
  (d0:-9223372036854775808≤D) (d1:D≤9223372036854775807) (x0:-9223372036854775808≤X) (x1:X≤9223372036854775807) :
  Calls Tryd.prog 4 #[.slice A n c,.agg #[.int .i64 D,.int .i64 X,.int .i64 O]] w fun e w'=>e=.returned (.bool true)∧Below w.heap.size w w':=by
 have HT:=Lib.hid hT
 have Hr:=Lib.hid hA
 have HW:=Lib.hid hw
 have HN:=Lib.hid hn
 have HNIL:=Lib.hid hnil
 clear hT hA hw hn hnil
 go_enter Tryd.func4,Tryd.ntmps4
 go_wp2_with fail
 refine abs_world (F:=fun W=>Ri W .u64 A ws∧Blk W w.heap.size #[.int .i64 D,.int .i64 X,.int .i64 O]∧Below w.heap.size w W) ⟨?_,?_,?_⟩ ?_
 ·exact(Ri.below Hr.out ((Below.refl _ _).alloc (Nat.le_refl _) _) (Nat.le_refl _))
 ·exact Blk.fresh _ _ _
 ·exact((Below.refl w.heap.size w).alloc (by first|exact Nat.le_refl _|(simp;done)|(simp;omega)) _)
 clear Hr
 rintro W1 ⟨hr,hl,hb⟩
 have Hr:=Lib.hid hr
 have Hl:=Lib.hid hl
 have HB:=Lib.hid hb
 clear hb hr hl
 refine(awake16_any _ (HT.out.on HB.out)).mono ?_
 rintro r w2 ⟨rfl,hb⟩
 have fr:=Hr.out.below hb (Nat.le_refl _)
 have fl:=Hl.out.below hb
 have HB0:=Lib.hid (bel_on HB.out hb)
 clear hb Hr Hl HB
 have HB:=HB0
 clear HB0
 have Hr:=Lib.hid fr
 clear fr
 have Hl:=Lib.hid fl
 clear fl
 obtain⟨xl,yl,zl⟩:=(Hl.out.alloc (.cells #[.slice A n c] 22))
 go_wp2_with fail
 refine abs_world (F:=fun W=>Ri W .u64 A ws∧Blk W w.heap.size #[.int .i64 D,.int .i64 X,.int .i64 O]∧Sg W (some ⟨w2.heap.size,0,none⟩) [ws]∧Below w.heap.size w W) ⟨?_,?_,?_,?_⟩ ?_
 ·exact(Ri.below Hr.out ((Below.refl _ _).alloc (Nat.le_refl _) _) (Nat.le_refl _))
 ·exact(Hl.out.alloc _)
 ·exact sg_wrap16 _ A c n _ ws _ Hr.out HN.out HNIL.out hle hcm rfl
 ·exact(HB.out.alloc (by first|exact Nat.le_refl _|(have:=HB.out.size;simp;omega)|(have:=HB.out.size;omega)|(simp;done)|(simp;omega)) _)
 clear Hr Hl HB xl yl zl
 rintro W3 ⟨hr,hl,ht,hb⟩
 have Hr:=Lib.hid hr
 have Hl:=Lib.hid hl
 have Ht:=Lib.hid ht
 have HB:=Lib.hid hb
 clear hb hr hl ht
 refine(RefSmall16 (some ⟨w2.heap.size,0,none⟩) 1 ws D X O _ Ht.out).mono ?_
 rintro r w4 ⟨rfl,hb⟩
 have fr:=Hr.out.below hb (Nat.le_refl _)
 have fl:=Hl.out.below hb
 have ft:=Ht.out.below hb (Nat.le_refl _)
 have HB0:=Lib.hid (bel_on HB.out hb)
 clear hb Hr Hl Ht HB
 have HB:=HB0
 clear HB0
 have Hr:=Lib.hid fr
 clear fr
 have Hl:=Lib.hid fl
 clear fl
 have Ht:=Lib.hid ft
 clear ft
 clear Ht
 cases hsm:small15B [ws] D X with
 | false=>
  clear hsm
  go_wp2_with fail
  refine(awake16_any _ (HT.out.on HB.out)).mono ?_
  rintro r w5 ⟨rfl,hb⟩
  have fr:=Hr.out.below hb (Nat.le_refl _)
  have fl:=Hl.out.below hb
  have HB0:=Lib.hid (bel_on HB.out hb)
  clear hb Hr Hl HB
  have HB:=HB0
  clear HB0
  have Hr:=Lib.hid fr
  clear fr
  have Hl:=Lib.hid fl
  clear fl
  go_wp2
  go_ret
  exact⟨rfl,HB.out⟩
 | true=>
  obtain⟨hD,hX,hn300⟩:=small16_fits hsm HN.out
  clear hsm
  by_cases h0:n=0
  ·
   have t0:((n:Int)==0)=true:=beq_iff_eq.2 (by omega)
   go_wp2_with fail
   refine(awake16_any _ (HT.out.on HB.out)).mono ?_
   rintro r w5 ⟨rfl,hb⟩
   have fr:=Hr.out.below hb (Nat.le_refl _)
   have fl:=Hl.out.below hb
   have HB0:=Lib.hid (bel_on HB.out hb)
   clear hb Hr Hl HB
   have HB:=HB0
   clear HB0
   have Hr:=Lib.hid fr
   clear fr
   have Hl:=Lib.hid fl
   clear fl
   go_wp2
   go_ret
   exact⟨rfl,HB.out⟩
  have t0:((n:Int)==0)=false:=beq_eq_false_iff_ne.2 (by omega)
  have HLW:Hid (0<ws.length):=Lib.hid (by rw [HN.out];omega)
  have HCS:=Lib.hid (fun h=>chk_same (D:=D) (X:=X) HLW.out h)
  have HCN:=Lib.hid (fun h=>chk_no (W:=ws) (D:=D) (X:=X) h)
  have hcl:(canW [ws] D X).length≤100001:=can16 (wd_one16 HW.out) (by simp) (fw_one16 (by rw [HN.out];omega)) D X (by omega)
  have hcw:(msgV [ws] D X).2=0→writeF (msgV [ws] D X).1=canW [ws] D X:=fun h=>by unfold canW;rw [if_pos h]
  obtain⟨cw,hc⟩:∃l,canW [ws] D X=l:=⟨_,rfl⟩
  obtain⟨e,he⟩:∃e,(msgV [ws] D X).2=e:=⟨_,rfl⟩
  obtain⟨v,hv⟩:∃v,chkB ws D X=v:=⟨_,rfl⟩
  obtain⟨L,hL⟩:∃L,cw.length=L:=⟨_,rfl⟩
  rw [hc] at hcl hcw
  rw [hL] at hcl
  rw [he] at hcw
  rw [he,hv] at HCS HCN
  have HE:=Lib.hid he
  have HC:=Lib.hid hc
  have HV:=Lib.hid hv
  have HL:=Lib.hid hL
  have HCW:=Lib.hid hcw
  clear he hc hv hL hcw h0
  obtain⟨xl,yl,zl⟩:=(Hl.out.alloc (.cells #[.slice A n c] 22))
  go_wp2_with fail
  refine abs_world (F:=fun W=>Ri W .u64 A ws∧Blk W w.heap.size #[.int .i64 D,.int .i64 X,.int .i64 O]∧Sg W (some ⟨w4.heap.size,0,none⟩) [ws]∧Below w.heap.size w W) ⟨?_,?_,?_,?_⟩ ?_
  ·exact(Ri.below Hr.out ((Below.refl _ _).alloc (Nat.le_refl _) _) (Nat.le_refl _))
  ·exact(Hl.out.alloc _)
  ·exact sg_wrap16 _ A c n _ ws _ Hr.out HN.out HNIL.out hle hcm rfl
  ·exact(HB.out.alloc (by first|exact Nat.le_refl _|(have:=HB.out.size;simp;omega)|(have:=HB.out.size;omega)|(simp;done)|(simp;omega)) _)
  clear Hr Hl HB xl yl zl
  rintro W5 ⟨hr,hl,ht,hb⟩
  have Hr:=Lib.hid hr
  have Hl:=Lib.hid hl
  have Ht:=Lib.hid ht
  have HB:=Lib.hid hb
  clear hb hr hl ht
  refine(RefWords16_c (some ⟨w4.heap.size,0,none⟩) 1 1 [ws] D X O e cw L _ rfl Ht.out (wd_one16 HW.out) (by simp) (fw_one16 (by rw [HN.out];omega)) (by omega) (by omega) HE.out HC.out HL.out).mono ?_
  rintro r w6 ⟨A2,c2,rfl,hn,-,-,-,hb⟩
  have fr:=Hr.out.below hb (Nat.le_refl _)
  have fl:=Hl.out.below hb
  have ft:=Ht.out.below hb (Nat.le_refl _)
  have HB0:=Lib.hid (bel_on HB.out hb)
  clear hb Hr Hl Ht HB
  have HB:=HB0
  clear HB0
  have Hr:=Lib.hid fr
  clear fr
  have Hl:=Lib.hid fl
  clear fl
  have Ht:=Lib.hid ft
  clear ft
  have Hd:=Lib.hid hn
  clear hn
  clear Ht
  obtain⟨xl,yl,zl⟩:=Hl.out
  go_wp2_with fail
  clear xl yl zl
  refine(KWords_w A c n ws D X O v _ (HT.out.on HB.out) HN.out Hr.out HW.out (by omega) HNIL.out (by omega) (by omega) (by omega) (by omega) HV.out).mono ?_
  rintro r w7 ⟨rfl,hb⟩
  have fr:=Hr.out.below hb (Nat.le_refl _)
  have fl:=Hl.out.below hb
  have fd:=Hd.out.below hb (Nat.le_refl _)
  have HB0:=Lib.hid (bel_on HB.out hb)
  clear hb Hr Hl Hd HB
  have HB:=HB0
  clear HB0
  have Hr:=Lib.hid fr
  clear fr
  have Hl:=Lib.hid fl
  clear fl
  have Hd:=Lib.hid fd
  clear fd
  by_cases he:e=0
  ·
   have t1:(e==0)=true:=beq_iff_eq.2 he
   have HS:Hid (sameB cw ws=v):=Lib.hid (by rw [HCS.out he,HCW.out he])
   clear he
   go_wp2_with fail
   refine(SameWords_15 A2 A c2 c cw ws L n v _ Hd.out Hr.out HL.out HN.out (by omega) (by omega) HS.out).mono ?_
   rintro r w8 ⟨rfl,hb⟩
   have fr:=Hr.out.below hb (Nat.le_refl _)
   have fl:=Hl.out.below hb
   have fd:=Hd.out.below hb (Nat.le_refl _)
   have HB0:=Lib.hid (bel_on HB.out hb)
   clear hb Hr Hl Hd HB
   have HB:=HB0
   clear HB0
   have Hr:=Lib.hid fr
   clear fr
   have Hl:=Lib.hid fl
   clear fl
   have Hd:=Lib.hid fd
   clear fd
   go_wp2
   go_ret
   exact⟨by simp,HB.out⟩
  ·
   have t1:(e==0)=false:=beq_eq_false_iff_ne.2 he
   obtain rfl:v=false:=HCN.out he
   clear he
   go_wp2
   go_ret
   exact⟨rfl,HB.out⟩
end
end Go.Proofs.YtclpapddejgpnaaDoor
