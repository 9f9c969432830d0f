/- A law of layer 16: CanoncheckLimits. -/
import Derived.Test.YtclpapddejgpnaaDoorMg34
import Derived.Test.YtclpapddejgpnaaDoorMg42
import Derived.Test.YtclpapddejgpnaaDoorMg45
import Derived.Test.YtclpapddejgpnaaDoorLaw16
namespace Go.Proofs.YtclpapddejgpnaaDoor
open Go.ChangeShapes Go.WideShapes Go.ChangeAt Go.RowKit
set_option linter.unusedVariables false
set_option linter.unusedSimpArgs false
set_option maxRecDepth 100000
section
attribute [local simp] AllK KnowsV look Is
theorem right_parts16 {x:Nd}(h:rightN x=true):fewN x=true∧validN x=true∧trimmedN x=true:=by
 unfold rightN at h
 simp only [Bool.and_eq_true] at h
 exact h
theorem few_size16 {x:Nd}(h:fewN x=true):sizeN x≤3000:=by
 unfold fewN at h
 rw [decide_eq_true_iff] at h
 exact h.1
attribute [local irreducible] validN fewN trimmedN canN canO rightN sizeN targN canK objW objK bodyN bytN
attribute [local irreducible] msgV measV small15B fewB canW chkB sameB
set_option maxHeartbeats 4000000 in
set_option maxRecDepth 100000 in
theorem Limits16_walk (x:Nd)(A1:Option Addr)(c1:Nat)(B1:Option Addr)(e1:Nat)(a b:Int)(w:World)(hT:TabOK w)(hx:NdR w A1 c1 B1 e1 x)(hsx:sizeN x≤1048576)(ha0:0≤a)(ha1:a<256)(hb0:0≤b)(hb1:b<65536):
  Calls Tryd.prog 6 #[.agg #[.int .i64 x.k,.int .i64 x.e,.int .i64 x.n,.slice A1 x.d.length c1,.slice B1 x.ks.length e1],.int .u8 a,.int .u16 b] w fun e w'=>e=.returned (.bool true)∧Below w.heap.size w w':=by
 have HT:=Lib.hid hT
 have Hp:=Lib.hid hx
 have HSX:Hid (sizeN x≤1048576):=Lib.hid hsx
 have HSX2:Hid (sizeN x≤1099511627776):=Lib.hid (by omega)
 have HBX:=Lib.hid hx.byt
 clear hT hx hsx
 go_enter Tryd.func6,Tryd.ntmps6
 go_wp2_with fail
 refine abs_world (F:=fun W=>NdR W A1 c1 B1 e1 x∧Blk W w.heap.size #[.int .i64 x.k,.int .i64 x.e,.int .i64 x.n,.slice A1 x.d.length c1,.slice B1 x.ks.length e1]∧Below w.heap.size w W) ⟨?_,?_,?_⟩ ?_
 ·exact(NdR.on Hp.out ((Below.refl _ _).alloc (Nat.le_refl _) _) (Nat.le_refl _))
 ·exact Blk.fresh _ _ _
 ·exact((Below.refl w.heap.size w).alloc (by first|exact Nat.le_refl _|(simp;done)|(simp;omega)) _)
 clear Hp
 rintro W1 ⟨hp,hl,hb⟩
 have Hp:=Lib.hid hp
 have Hl:=Lib.hid hl
 have HB:=Lib.hid hb
 clear hb hp hl
 refine(awake16_any _ (HT.out.on HB.out)).mono ?_
 rintro r w2 ⟨rfl,hb⟩
 have fp:=Hp.out.on hb (Nat.le_refl _)
 have fl:=Hl.out.below hb
 have HB0:=Lib.hid (bel_on HB.out hb)
 clear hb Hp Hl HB
 have HB:=HB0
 clear HB0
 have Hp:=Lib.hid fp
 clear fp
 have Hl:=Lib.hid fl
 clear fl
 obtain⟨xl,yl,zl⟩:=Hl.out
 go_wp2_with fail
 clear xl yl zl
 refine(RefRight13 x A1 c1 B1 e1 _ Hp.out HSX2.out).mono ?_
 rintro r w3 ⟨rfl,hb⟩
 have fp:=Hp.out.on hb (Nat.le_refl _)
 have fl:=Hl.out.below hb
 have HB0:=Lib.hid (bel_on HB.out hb)
 clear hb Hp Hl HB
 have HB:=HB0
 clear HB0
 have Hp:=Lib.hid fp
 clear fp
 have Hl:=Lib.hid fl
 clear fl
 cases hri:rightN x with
 | false=>
  clear hri
  go_wp2_with fail
  refine(awake16_any _ (HT.out.on HB.out)).mono ?_
  rintro r w4 ⟨rfl,hb⟩
  have fp:=Hp.out.on hb (Nat.le_refl _)
  have fl:=Hl.out.below hb
  have HB0:=Lib.hid (bel_on HB.out hb)
  clear hb Hp Hl HB
  have HB:=HB0
  clear HB0
  have Hp:=Lib.hid fp
  clear fp
  have Hl:=Lib.hid fl
  clear fl
  go_wp2
  go_ret
  exact⟨rfl,HB.out⟩
 | true=>
  obtain⟨hfx,hvx,hmx⟩:=right_parts16 hri
  have hqx:=few_size16 hfx
  have hcx:=can_few hvx hqx
  have HVX:=Lib.hid hvx
  have HMX:=Lib.hid hmx
  have HCX:Hid (canN x≤18000000):=Lib.hid hcx.2
  have HCX2:Hid (canN x≤536870910):=Lib.hid (by omega)
  have hwl:(writeF x).length≤18000001:=by have:=writeF_length hvx;omega
  have HWW:Hid (Wds (writeF x)):=Lib.hid (writeF_wds HBX.out)
  have HCL:=Lib.hid (fun D X=>chk_limits hvx hmx HBX.out hcx.2 D X)
  have HRW:=Lib.hid (fun w2 h2=>RefWrite14 x A1 c1 B1 e1 w2 h2 hvx HSX.out HCX2.out)
  generalize writeF x=ws at *
  obtain⟨n,hn⟩:∃n,ws.length=n:=⟨_,rfl⟩
  rw [hn] at hwl
  have HN:=Lib.hid hn
  clear hri hfx hvx hmx hqx hcx hn
  obtain⟨xl,yl,zl⟩:=Hl.out
  go_wp2_with fail
  clear xl yl zl
  refine(HRW.out _ Hp.out).mono ?_
  rintro r w4 ⟨v,rfl,⟨A,c,rfl,hn,hnil,hle,hcm⟩,hb⟩
  have fp:=Hp.out.on hb (Nat.le_refl _)
  have fl:=Hl.out.below hb
  have HB0:=Lib.hid (bel_on HB.out hb)
  clear hb Hp Hl HB
  have HB:=HB0
  clear HB0
  have Hp:=Lib.hid fp
  clear fp
  have Hl:=Lib.hid fl
  clear fl
  have Hr:=Lib.hid hn
  clear hn
  clear Hl
  clear Hp
  have hcm':c≤9223372036854775807:=hcm
  clear hcm
  rw [HN.out] at hle ⊢
  have HNIL:=Lib.hid hnil
  clear hnil
  have xl:=((Blk.fresh w4 #[.int .i64 (a % 40),.int .i64 (b % 2000),.int .i64 0] 24).alloc (.cells #[.slice A n c] 22))
  obtain⟨xl,yl,zl⟩:=xl
  go_wp2_with fail
  refine abs_world (F:=fun W=>Ri W .u64 A ws∧Blk W w4.heap.size #[.int .i64 (a % 40),.int .i64 (b % 2000),.int .i64 0]∧Sg W (some ⟨w4.heap.size+1,0,none⟩) [ws]∧Below w.heap.size w W) ⟨?_,?_,?_,?_⟩ ?_
  ·exact(Ri.below (Ri.below Hr.out ((Below.refl _ _).alloc (Nat.le_refl _) _) (Nat.le_refl _)) ((Below.refl _ _).alloc (Nat.le_refl _) _) (Nat.le_refl _))
  ·exact(Blk.fresh _ _ _).alloc _
  ·exact sg_wrap16 _ A c n _ ws _ (Ri.below Hr.out ((Below.refl _ _).alloc (Nat.le_refl _) _) (Nat.le_refl _)) HN.out HNIL.out hle hcm' (by simp)
  ·exact((HB.out.alloc (by first|exact Nat.le_refl _|(have:=HB.out.size;simp;omega)|(have:=HB.out.size;omega)|(simp;done)|(simp;omega)) _).alloc (by first|exact Nat.le_refl _|(have:=HB.out.size;simp;omega)|(have:=HB.out.size;omega)|(simp;done)|(simp;omega)) _)
  clear Hr HB xl yl zl
  rintro W5 ⟨hr,hm,ht,hb⟩
  have Hr:=Lib.hid hr
  have Hm:=Lib.hid hm
  have Ht:=Lib.hid ht
  have HB:=Lib.hid hb
  clear hb hr hm ht
  obtain⟨⟨y,e⟩,hq⟩:∃q,msgV [ws] (a % 40) (b % 2000)=q:=⟨_,rfl⟩
  have HV:Hid (chkB ws (a % 40) (b % 2000)=decide (e=0)):=Lib.hid (by rw [HCL.out,hq])
  have HQ:=Lib.hid hq
  clear hq HCL HRW
  refine(RefMessage15 (some ⟨w4.heap.size+1,0,none⟩) 1 1 [ws] (a % 40) (b % 2000) 0 y e _ rfl Ht.out (wd_one16 HWW.out) (by simp) (fw_one16 (by rw [HN.out];omega)) (by omega) (by omega) HQ.out).mono ?_
  rintro r w6 ⟨v,rfl,⟨A2,c2,E2,e2,hi2,rfl,-,hno⟩,hb⟩
  have fr:=Hr.out.below hb (Nat.le_refl _)
  have fm:=Hm.out.below hb
  have ft:=Ht.out.below hb (Nat.le_refl _)
  have HB0:=Lib.hid (bel_on HB.out hb)
  clear hb Hr Hm Ht HB
  have HB:=HB0
  clear HB0
  have Hr:=Lib.hid fr
  clear fr
  have Hm:=Lib.hid fm
  clear fm
  have Ht:=Lib.hid ft
  clear ft
  clear hno
  clear Ht
  obtain⟨xm,ym,zm⟩:=(Hm.out.alloc (.cells #[.int .i64 y.k,.int .i64 y.e,.int .i64 y.n,.slice A2 y.d.length c2,.slice E2 y.ks.length e2] 37))
  go_wp2_with fail
  refine abs_world (F:=fun W=>Ri W .u64 A ws∧Blk W w4.heap.size #[.int .i64 (a % 40),.int .i64 (b % 2000),.int .i64 0]∧Below w.heap.size w W) ⟨?_,?_,?_⟩ ?_
  ·exact(Ri.below Hr.out ((Below.refl _ _).alloc (Nat.le_refl _) _) (Nat.le_refl _))
  ·exact(Hm.out.alloc _)
  ·exact(HB.out.alloc (by first|exact Nat.le_refl _|(have:=HB.out.size;simp;omega)|(have:=HB.out.size;omega)|(simp;done)|(simp;omega)) _)
  clear Hr Hm HB xm ym zm
  rintro W7 ⟨hr,hm,hb⟩
  have Hr:=Lib.hid hr
  have Hm:=Lib.hid hm
  have HB:=Lib.hid hb
  clear hb hr hm
  refine(KWords_w A c n ws (a % 40) (b % 2000) 0 (decide (e=0)) _ (HT.out.on HB.out) HN.out Hr.out HWW.out (by omega) HNIL.out hle hcm' (by omega) (by omega) HV.out).mono ?_
  rintro r w8 ⟨rfl,hb⟩
  have fr:=Hr.out.below hb (Nat.le_refl _)
  have fm:=Hm.out.below hb
  have HB0:=Lib.hid (bel_on HB.out hb)
  clear hb Hr Hm HB
  have HB:=HB0
  clear HB0
  have Hr:=Lib.hid fr
  clear fr
  have Hm:=Lib.hid fm
  clear fm
  go_wp2
  go_ret
  exact⟨by rw [show (e==0)=decide (e=0) from rfl];simp,HB.out⟩
end
end Go.Proofs.YtclpapddejgpnaaDoor
