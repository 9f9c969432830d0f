/- The texts KcD, KcE, KcF, Can4 (what is wanted of them), one after the other. -/
import Derived.Test.YtclpapddejgpnaaDoorMg19
import Derived.Test.YtclpapddejgpnaaDoorMg37
import Derived.Test.YtclpapddejgpnaaDoorMg38
namespace Go.Proofs.YtclpapddejgpnaaDoor
open Go.ChangeShapes Go.WideShapes Go.ChangeAt Go.RowKit
set_option linter.unusedVariables false
set_option linter.unusedSimpArgs false
set_option maxRecDepth 100000
section
attribute [local simp] AllK KnowsV look Is
theorem LBits_q (e:Int)(w:World)(hT:TabOK w)(h0:0≤e)(h7:e≤7):Calls Tryd.prog 64 #[.int .i64 e] w fun r w'=>r=.returned (.int .i64 (bitsI e))∧w'=w:=
 (LBits_any e w hT h0 h7).mono fun e w' h=>⟨h.1,h.2.symm⟩
set_option maxHeartbeats 2000000 in
theorem listK (b:Nat)(A:Option Addr)(W:List Int)(D X O:Int)(w0:World)(r:Nat)(E:EnvD b A [W] w0)(a:Nat)(s:Ks)(aI o e c dep:Int)(hV:dep≤900∧VisL b A W D X O w0 r)(w:World)(haI:aI=a)(hb:Below b w0 w)(hk:Blk w b (kcB A D X O s.2 s.1))(hm0:0≤s.2)(hm1:s.2≤4611686018427387904)(hs:s.1≤W.length)
  (hW:Wds W) (ha:a<W.length) (ho0:-536870912≤o) (ho1:o≤536870911) (he0:0≤e) (he7:e<7) (hc0:0≤c) (hc1:c≤536870911) (hdep:1≤dep) (hr:(D-dep).toNat=r) :
  Calls Tryd.prog 36 #[.pointer (some ⟨b,0,none⟩),.int .i64 aI,.agg #[.int .i64 1,.int .i64 o,.int .i64 0,.int .i64 0,.int .i64 e,.int .i64 c,.bool false,.int .i64 0,.int .u32 0,.int .u32 0],.int .i64 dep] w (KOut b A D X O w (kLst (kVis W r) W a o e c s)):=by
 obtain⟨x,m⟩:=s
 simp only at hk hm0 hm1 hs
 have hlen:W.length≤20000000:=E.f 0
 have hlt:=hk.lt
 have HT1:=Lib.hid (hk.alloc (.cells #[.int .i64 1,.int .i64 o,.int .i64 0,.int .i64 0,.int .i64 e,.int .i64 c,.bool false,.int .i64 0,.int .u32 0,.int .u32 0] 65))
 have HO1:Hid (Blk (w.alloc (.cells #[.int .i64 1,.int .i64 o,.int .i64 0,.int .i64 0,.int .i64 e,.int .i64 c,.bool false,.int .i64 0,.int .u32 0,.int .u32 0] 65)) w.heap.size #[.int .i64 1,.int .i64 o,.int .i64 0,.int .i64 0,.int .i64 e,.int .i64 c,.bool false,.int .i64 0,.int .u32 0,.int .u32 0]):=Lib.hid (Blk.fresh _ _ _)
 have HK1:Hid (Keeps (KB b) w (w.alloc (.cells #[.int .i64 1,.int .i64 o,.int .i64 0,.int .i64 0,.int .i64 e,.int .i64 c,.bool false,.int .i64 0,.int .u32 0,.int .u32 0] 65))):=Lib.hid (keeps_alloc (Keeps.refl _ _) _)
 have HNO:Hid (¬KB b w.heap.size):=Lib.hid (by unfold KB;omega)
 have HB:=Lib.hid (fun (wr:World) (h:Keeps (KB b) w wr)=>hb.trans (bel_keeps h (Nat.le_of_lt hlt)))
 have HTAB:=Lib.hid (fun (wr:World) (h:Keeps (KB b) w wr)=>E.tabAt (HB.out wr h))
 obtain⟨x1,y1,z1⟩:=HO1.out
 have hwl:=wordsI_lim e c hc0 hc1
 obtain⟨n,hn⟩:=Int.eq_ofNat_of_zero_le hwl.1
 obtain⟨nI,hnI⟩:∃nI,wordsI e c=nI:=⟨_,rfl⟩
 have hnn:nI=n:=by rw [←hnI];exact hn
 have hnt:(wordsI e c).toNat=n:=by omega
 have HLW:=Lib.hid (fun w2 hT=>LWords_any e c w2 hT he0 (by omega) hc0 hc1)
 have HBI:=Lib.hid (fun w2 hT=>LBits_q e w2 hT he0 (by omega))
 rw [hnI] at HLW
 obtain⟨m0,m1⟩:=bitsI_mul e c hc0
 have hwn:wordsI e c=(bitsI e*c+63) / 64:=by unfold wordsI;rw [if_neg (by omega)]
 have hpos:0<bitsI e*c % 64→0<n:=fun h=>by omega
 have hbt:=bits_bd e
 have HTK:=Lib.hid (fun w2 h1 h2=>takeK b A W D X O m x a n 1 o 0 0 e c 0 0 0 false nI w0 w2 E h1 h2 hm0 hm1 hnn (by omega) (by omega) ho0 ho1 (by omega))
 have HWD:=Lib.hid (fun m' x' (i:Int) (k:Nat) w2 h1 h2 (h3:i=k) (h4:k≤1099511627776)=>wordK b A W D X O m' x' i k w0 w2 E h1 h2 h3 (by omega))
 have HVA:=Lib.hid (fun (P n:Nat) (t:Ks) (PI nI:Int) w2 h1 h2 h3 h4 h5 h6 h7 h8=>visitAllK b A W D X O w0 r E P n t PI nI (dep+1) (fun _=>⟨by omega,hV.2⟩) w2 h1 h2 h3 h4 h5 h6 h7 h8 (by omega) (by omega) (by rw [←hr];congr 1;omega))
 have hdep2:dep≤900:=hV.1
 have HS:Hid (kLst (kVis W r) W a o e c (x,m)=if kTake W.length (x,m) a o n=none∨(0<bitsI e*c % 64∧fld (zat W (x+n-1)) (bitsI e*c % 64) (64-bitsI e*c % 64)≠0) then none
   else if e=6 then kRow (fun i=>kVis W r (x+i)) c.toNat (x+n,m-n) else some (x+n,m-n)):=Lib.hid (by unfold kLst;rw [hnt])
 have HC:Hid (e=6→c=n):=Lib.hid (fun h=>by subst h;rw [show bitsI 6=64 from rfl] at hwn;omega)
 have HN:=Lib.hid hnn
 have HM:=Lib.hid (And.intro hm0 hm1)
 have HLEN:=Lib.hid hlen
 have HWW:=Lib.hid hW
 have HPOS:=Lib.hid hpos
 have hn0:0≤nI∧nI≤1073741824:=by omega
 obtain⟨T,hT⟩:∃T,bitsI e*c=T:=⟨_,rfl⟩
 have hw:IntKind.i64.wrap (bitsI e*c)=T:=by rw [IntKind.wrap_i64];omega
 have hw2:wrap64 (bitsI e*c)=T:=by unfold wrap64;omega
 rw [hT] at HS m0 m1 HPOS
 rw [show (aI:Int)=(a:Int) from haI]
 clear hV E haI hb hk hm0 hm1 hr hwl hn hnt hnI hnn hwn hpos hW
 generalize hBe:bitsI e=bI at *
 obtain⟨u,hu⟩:∃u,T % 64=u:=⟨_,rfl⟩
 have hu0:0≤u∧u<64:=by omega
 have ht:=tmod_64 T m0
 rw [hu] at HS ht HPOS
 clear hT hBe hu
 go_enter Tryd.func36,Tryd.ntmps36
 go_wp2_with fail
 refine(HLW.out _ (HTAB.out _ HK1.out)).mono ?_
 rintro e w' ⟨rfl,rfl⟩
 go_wp2_with fail
 refine(HTK.out _ (HB.out _ HK1.out) HT1.out).mono ?_
 rintro e w3 ⟨hk3,⟨htk,⟨hl,hst,hm⟩,rfl,hb3⟩|⟨htk,rfl⟩⟩
 rotate_left
 ·have HR:Hid (kLst (kVis W r) W a o e c (x,m)=none):=Lib.hid (by rw [HS.out,if_pos (.inl htk)])
  have HK3:=Lib.hid (HK1.out.trans hk3)
  unfold failK
  go_wp2
  exact⟨rfl,HK3.out,.inr ⟨HR.out,rfl⟩⟩
 have HT3:=Lib.hid hb3
 have HO3:=Lib.hid (HO1.out.keeps hk3 HNO.out)
 have HK3:=Lib.hid (HK1.out.trans hk3)
 have HTK3:=Lib.hid htk
 have HL:=Lib.hid hl
 have HM3:=Lib.hid hm
 have HB3:=Lib.hid (HB.out _ HK3.out)
 have HTB3:=Lib.hid (HTAB.out _ HK3.out)
 clear htk hl hst hm hb3 hk3 HT1 HO1 HK1 HTK x1 y1 z1 HLW HTAB
 obtain⟨x3,y3,z3⟩:=HO3.out
 have hx2:(x:Int)≤20000000:=by omega
 go_wp2
 go_quiet ((go_at_call 64;exact Calls.quiet_of_same (HBI.out _ (HTB3.out.drewN _))))
 have HTV:=Lib.hid (HT3.out.drewN nq)
 have HBV:Hid (Below b w0 (w3.drewN nq)):=Lib.hid (bel_drewN HB3.out nq)
 have HKV:Hid (Keeps (KB b) w (w3.drewN nq)):=Lib.hid (keeps_drewN HK3.out nq)
 have HOV:=Lib.hid (HO3.out.drewN nq)
 clear HT3 HB3 HK3 HO3 HTB3 x3 y3 z3 HBI
 generalize w3.drewN nq=V at *
 obtain⟨x3,y3,z3⟩:=HOV.out
 by_cases c2:u=0
 ·have v2:¬0<u:=by omega
  have v3:decide (0<u)=false:=decide_eq_false v2
  have HG:Hid (¬(kTake W.length (x,m) a o n=none∨(0<u∧fld (zat W (x+n-1)) u (64-u)≠0))):=Lib.hid (by rintro(h|⟨h,-⟩);rw [HTK3.out] at h;cases h;exact v2 h)
  clear c2
  by_cases c6:e=6
  ·have v1:(e==6)=true:=beq_iff_eq.2 c6
   obtain hcn:=HC.out c6
   have HR:Hid (kLst (kVis W r) W a o e c (x,m)=kRow (fun i=>kVis W r (x+i)) n (x+n,m-n)):=Lib.hid (by rw [HS.out,if_neg HG.out,if_pos c6,hcn];rfl)
   have HCN:=Lib.hid hcn
   clear c6 hcn
   go_wp2_with fail
   refine(HVA.out x n (x+n,m-n) _ _ V rfl HCN.out HBV.out HTV.out (by have:=HM3.out;show 0≤m-(n:Int);omega) (by have:=HM.out;show m-(n:Int)≤4611686018427387904;omega) HL.out HL.out).mono ?_
   rintro e w5 ⟨hk5,⟨t',ht,rfl,hb5⟩|⟨ht,rfl⟩⟩
   ·have HK5:=Lib.hid (HKV.out.trans hk5)
    go_wp2
    go_end0
    exact⟨HK5.out,.inl ⟨t',HR.out.trans ht,rfl,hb5⟩⟩
   ·have HK5:=Lib.hid (HKV.out.trans hk5)
    unfold failK
    go_wp2
    exact⟨rfl,HK5.out,.inr ⟨HR.out.trans ht,rfl⟩⟩
  ·have v1:(e==6)=false:=beq_eq_false_iff_ne.2 c6
   have HR:Hid (kLst (kVis W r) W a o e c (x,m)=some (x+n,m-n)):=Lib.hid (by rw [HS.out,if_neg HG.out,if_neg c6])
   clear c6
   go_wp2
   go_end0
   exact⟨HKV.out,.inl ⟨_,HR.out,rfl,HTV.out⟩⟩
 have v2:0<u:=by omega
 have v3:decide (0<u)=true:=decide_eq_true v2
 have HPN:=Lib.hid (HPOS.out v2)
 obtain⟨z,hz⟩:∃z,zat W (x+n-1)=z:=⟨_,rfl⟩
 have hzb:0≤z∧z<18446744073709551616:=by rw [←hz];exact zat_bd HWW.out (by have:=HL.out;have:=HPN.out;omega)
 have HZ:=Lib.hid hz
 have HF:=Lib.hid (fun w2=>Field_any z u (64-u) w2 (by omega) (by omega) (by omega) hzb.1 hzb.2)
 obtain⟨f,hf⟩:∃f,fld z u (64-u)=f:=⟨_,rfl⟩
 rw [hf] at HF
 have HFF:=Lib.hid hf
 clear c2 hz hf
 go_wp2_with fail
 refine(HWD.out _ _ ((x:Int)+nI-1) (x+n-1) V HBV.out HTV.out (by have:=HN.out;have:=HPN.out;omega) (by have:=HL.out;have:=HLEN.out;omega)).mono ?_
 rintro e w' ⟨⟨-,rfl⟩|⟨hn,rfl⟩,rfl⟩
 rotate_left
 ·exact absurd (show x+n-1<W.length by have:=HL.out;have:=HPN.out;omega) hn
 rw [HZ.out]
 go_wp2_with fail
 refine(HF.out _).mono ?_
 rintro e w' ⟨rfl,rfl⟩
 by_cases c4:f=0
 ·have u3:(f==0)=true:=beq_iff_eq.2 c4
  have HG:Hid (¬(kTake W.length (x,m) a o n=none∨(0<u∧fld (zat W (x+n-1)) u (64-u)≠0))):=Lib.hid (by rintro(h|⟨-,h⟩);rw [HTK3.out] at h;cases h;rw [HZ.out,HFF.out] at h;exact h c4)
  clear c4
  go_wp2_with fail
  refine(requireK _ _).mono ?_
  rintro e w'' ⟨⟨he,rfl⟩|⟨he,rfl⟩,rfl⟩
  rotate_left
  ·exact absurd he (by decide)
  clear he
  by_cases c6:e=6
  ·have v1:(e==6)=true:=beq_iff_eq.2 c6
   obtain hcn:=HC.out c6
   have HR:Hid (kLst (kVis W r) W a o e c (x,m)=kRow (fun i=>kVis W r (x+i)) n (x+n,m-n)):=Lib.hid (by rw [HS.out,if_neg HG.out,if_pos c6,hcn];rfl)
   have HCN:=Lib.hid hcn
   clear c6 hcn
   go_wp2_with fail
   refine(HVA.out x n (x+n,m-n) _ _ V rfl HCN.out HBV.out HTV.out (by have:=HM3.out;show 0≤m-(n:Int);omega) (by have:=HM.out;show m-(n:Int)≤4611686018427387904;omega) HL.out HL.out).mono ?_
   rintro e w5 ⟨hk5,⟨t',ht,rfl,hb5⟩|⟨ht,rfl⟩⟩
   ·have HK5:=Lib.hid (HKV.out.trans hk5)
    go_wp2
    go_end0
    exact⟨HK5.out,.inl ⟨t',HR.out.trans ht,rfl,hb5⟩⟩
   ·have HK5:=Lib.hid (HKV.out.trans hk5)
    unfold failK
    go_wp2
    exact⟨rfl,HK5.out,.inr ⟨HR.out.trans ht,rfl⟩⟩
  ·have v1:(e==6)=false:=beq_eq_false_iff_ne.2 c6
   have HR:Hid (kLst (kVis W r) W a o e c (x,m)=some (x+n,m-n)):=Lib.hid (by rw [HS.out,if_neg HG.out,if_neg c6])
   clear c6
   go_wp2
   go_end0
   exact⟨HKV.out,.inl ⟨_,HR.out,rfl,HTV.out⟩⟩
 ·have u3:(f==0)=false:=beq_eq_false_iff_ne.2 c4
  have HR:Hid (kLst (kVis W r) W a o e c (x,m)=none):=Lib.hid (by rw [HS.out,if_pos (.inr ⟨v2,by rw [HZ.out,HFF.out];exact c4⟩)])
  clear c4
  go_wp2_with fail
  refine(requireK _ _).mono ?_
  rintro e w'' ⟨⟨he,rfl⟩|⟨he,rfl⟩,rfl⟩
  ·exact absurd he (by decide)
  unfold failK
  go_wp2
  exact⟨rfl,HKV.out,.inr ⟨HR.out,rfl⟩⟩
end
section
attribute [local simp] AllK KnowsV look Is
theorem wp_region_p9 {P:Program}{id:Nat}{o0 o1 o2 o3 o4 o5 o6 o7 o8 t:Oper}(m:Nat)(S:Nat→Prop){Q:Exit→Act→World→Prop}{a:Act}{w:World}(hm:P.follows .mixedOrders=true)(hB:chainAB a.tmps.size [o0,o1,o2,o3,o4,o5,o6,o7,o8] t=true)
  (h:ChainP P #[o0,o1,o2,o3,o4,o5,o6,o7,o8,t] [o0,o1,o2,o3,o4,o5,o6,o7,o8] t m S a w.drew Q [o0,o1,o2,o3,o4,o5,o6,o7,o8] 0 [] []):(Code.region id #[o0,o1,o2,o3,o4,o5,o6,o7,o8,t] true).wp P Q a w:=
 wp_region_p [o0,o1,o2,o3,o4,o5,o6,o7,o8] t m S rfl hm hB h
theorem abs_codeK {P:Program}{C:Code}{Q:Exit→Act→World→Prop}{a:Act}{V:World}(F:World→Prop)(hF:F V)(h:∀W,F W→C.wp P Q a W):C.wp P Q a V:=h V hF
theorem keeps_undrewK {b:Nat}{w wc:World}(h:Keeps (KB b) w.drew wc):Keeps (KB b) w wc:=⟨h.os,h.tape,h.output,h.size,h.block⟩
def TakF (b:Nat)(x:Nat)(cs:Array Value)(P:Prop):Fact:=fun v w=>v=.int .i64 x∧Blk w b cs∧P
theorem stable_takf (b x:Nat)(cs:Array Value)(P:Prop):stable (TakF b x cs P):=fun v w w' ⟨h1,h2,h3⟩ hb=>⟨h1,h2.below hb,h3⟩
theorem vld_bd {T:Ptr}(h:Vld T):(0≤T.k∧T.k≤3)∧(-536870912≤T.o∧T.o≤536870911)∧(0≤T.d∧T.d≤65535)∧(0≤T.p∧T.p≤65535):=by
 unfold Vld at h
 rcases h with ⟨a,b,c,d,e,f,g,-⟩|⟨a,b,c,d,e,-⟩|⟨a,b,c,d,-⟩|⟨a,b,c,d,-⟩<;>omega
theorem mul_bdK {n q:Int}(h0:-536870912≤n)(h1:n≤536870911)(h2:0≤q)(h3:q≤131070):-70368744177664≤n*q∧n*q≤70368744177664:=by
 constructor
 ·have h:=Int.mul_le_mul_of_nonneg_right h0 h2
  have h4:-536870912*q ≥ -536870912*131070:=by omega
  omega
 ·have h:=Int.mul_le_mul_of_nonneg_right h1 h2
  omega
set_option maxHeartbeats 4000000 in
theorem compositeK (b:Nat)(A:Option Addr)(W:List Int)(D X O:Int)(w0:World)(r:Nat)(E:EnvD b A [W] w0)(a:Nat)(s:Ks)(aI o cI dep:Int)(c:Nat)(hV:dep≤900∧VisL b A W D X O w0 r)(w:World)(haI:aI=a)(hcI:cI=c)(hb:Below b w0 w)(hk:Blk w b (kcB A D X O s.2 s.1))(hm0:0≤s.2)(hm1:s.2≤4611686018427387904)(hs:s.1≤W.length)
  (hW:Wds W) (ha:a<W.length) (ho0:-536870912≤o) (ho1:o≤536870911) (hc1:c≤536870911) (hdep:1≤dep) (hr:(D-dep).toNat=r) :
  Calls Tryd.prog 35 #[.pointer (some ⟨b,0,none⟩),.int .i64 aI,.agg #[.int .i64 1,.int .i64 o,.int .i64 0,.int .i64 0,.int .i64 7,.int .i64 cI,.bool false,.int .i64 0,.int .u32 0,.int .u32 0],.int .i64 dep] w (KOut b A D X O w (kCmp (kVis W r) W a o c s)):=by
 obtain⟨x,m⟩:=s
 simp only at hk hm0 hm1 hs
 have hlen:W.length≤20000000:=E.f 0
 have hlt:=hk.lt
 have HT0:=Lib.hid (hk.alloc (.cells #[.int .i64 1,.int .i64 o,.int .i64 0,.int .i64 0,.int .i64 7,.int .i64 cI,.bool false,.int .i64 0,.int .u32 0,.int .u32 0] 65))
 have HO0:Hid (Blk (w.alloc (.cells #[.int .i64 1,.int .i64 o,.int .i64 0,.int .i64 0,.int .i64 7,.int .i64 cI,.bool false,.int .i64 0,.int .u32 0,.int .u32 0] 65)) w.heap.size #[.int .i64 1,.int .i64 o,.int .i64 0,.int .i64 0,.int .i64 7,.int .i64 cI,.bool false,.int .i64 0,.int .u32 0,.int .u32 0]):=Lib.hid (Blk.fresh _ _ _)
 have HK0:Hid (Keeps (KB b) w (w.alloc (.cells #[.int .i64 1,.int .i64 o,.int .i64 0,.int .i64 0,.int .i64 7,.int .i64 cI,.bool false,.int .i64 0,.int .u32 0,.int .u32 0] 65))):=Lib.hid (keeps_alloc (Keeps.refl _ _) _)
 have HNO:Hid (¬KB b w.heap.size):=Lib.hid (by unfold KB;omega)
 have HB:=Lib.hid (fun (wr:World) (h:Keeps (KB b) w wr)=>hb.trans (bel_keeps h (Nat.le_of_lt hlt)))
 have HTAB:=Lib.hid (fun (wr:World) (h:Keeps (KB b) w wr)=>E.tabAt (HB.out wr h))
 obtain⟨nI,hnI⟩:∃nI,wordsI 7 cI=nI:=⟨_,rfl⟩
 have hnn:nI=((c+1:Nat):Int):=by rw [←hnI];unfold wordsI;rw [if_pos rfl];omega
 have HLW:=Lib.hid (fun w2 hT=>LWords_any 7 cI w2 hT (by omega) (by omega) (by omega) (by omega))
 rw [hnI] at HLW
 have HTK:=Lib.hid (fun w2 h1 h2=>takeK b A W D X O m x a (c+1) 1 o 0 0 7 cI 0 0 0 false nI w0 w2 E h1 h2 hm0 hm1 hnn (by omega) (by omega) ho0 ho1 (by omega))
 have HWD:=Lib.hid (fun m' x' (i:Int) (k:Nat) w2 h1 h2 (h3:i=k) (h4:k≤1099511627776)=>wordK b A W D X O m' x' i k w0 w2 E h1 h2 h3 (by omega))
 have HAN:=Lib.hid (fun m' x' (aI nI dI:Int) (a n d:Nat) w2 h1 h2 h3 h4 h5 h6 h7 h8 h9 h10 bb hbb=>anyK b A W D X O m' x' aI nI dI a n d w0 w2 E h1 h2 h3 h4 h5 h6 h7 h8 h9 h10 bb hbb)
 have HCH:=Lib.hid (fun m' x' (cost:Int) w2 h1 h2 h3 h4=>chargeK b A D X O m' x' cost w2 h1 h2 h3 h4)
 have HVA:=Lib.hid (fun (P n:Nat) (t:Ks) (PI nI:Int) w2 h1 h2 h3 h4 h5 h6 h7 h8=>visitAllK b A W D X O w0 r E P n t PI nI (dep+1) (fun _=>⟨by omega,hV.2⟩) w2 h1 h2 h3 h4 h5 h6 h7 h8 (by omega) (by omega) (by rw [←hr];congr 1;omega))
 have hdep2:dep≤900:=hV.1
 have HN:=Lib.hid hnn
 have HCI:=Lib.hid hcI
 have HM:=Lib.hid (And.intro hm0 hm1)
 have HLEN:=Lib.hid hlen
 have HWW:=Lib.hid hW
 have hn0:0≤nI∧nI≤1073741824:=by omega
 have hcb:0≤cI∧cI≤536870911:=by omega
 rw [show (aI:Int)=(a:Int) from haI]
 clear hV E haI hb hk hm0 hm1 hr hnI hnn hW hcI
 go_enter Tryd.func35,Tryd.ntmps35
 go_wp2_with fail
 refine abs_codeK (F:=fun W1=>Blk W1 b (kcB A D X O m x)∧Blk W1 w.heap.size #[.int .i64 1,.int .i64 o,.int .i64 0,.int .i64 0,.int .i64 7,.int .i64 cI,.bool false,.int .i64 0,.int .u32 0,.int .u32 0]∧Keeps (KB b) w W1) ⟨HT0.out,HO0.out,HK0.out⟩ ?_
 rintro W1 ⟨h1,h2,h3⟩
 have HT1:=Lib.hid h1
 have HO1:=Lib.hid h2
 have HK1:=Lib.hid h3
 clear h1 h2 h3 HT0 HO0 HK0
 refine wp_region_p9 8 (KB b) (by kernel_rfl) (by kernel_rfl) ?_
 refine p_val (u:=?_) [0] (by kernel_rfl) rfl rfl (by kernel_rfl) trivial (fun ρ wc hbc hcn hq=>?_) ?_;rotate_left
 ·obtain⟨hcn,hfn⟩:=hcn
  simp at hq
  go_simp
  rfl
 refine p_val (u:=?_) [1] (by kernel_rfl) rfl rfl (by kernel_rfl) trivial (fun ρ wc hbc hcn hq=>?_) ?_;rotate_left
 ·obtain⟨hcn,hfn⟩:=hcn
  simp at hq
  go_simp
  rfl
 refine p_val (u:=?_) [6] (by kernel_rfl) rfl rfl (by kernel_rfl) trivial (fun ρ wc hbc hcn hq=>?_) ?_;rotate_left
 ·obtain⟨hcn,hfn⟩:=hcn
  simp at hq
  have x2:=(HO1.out.drew.below hbc).cell
  go_simp
  rfl
 refine p_val_l (u:=?_) [6] (by kernel_rfl) rfl (by kernel_rfl) trivial (fun ρ wc hkc hcn hq=>?_) ?_;rotate_left
 ·obtain⟨hcn,hfn⟩:=hcn
  simp at hq
  go_simp
  rfl
 refine p_val_l (u:=?_) [17] (by kernel_rfl) rfl (by kernel_rfl) trivial (fun ρ wc hkc hcn hq=>?_) ?_;rotate_left
 ·obtain⟨hcn,hfn⟩:=hcn
  simp at hq
  have x2:=(HO1.out.keeps (keeps_undrewK hkc) HNO.out).cell
  go_simp
  rfl
 refine p_val_l (u:=?_) [6] (by kernel_rfl) rfl (by kernel_rfl) trivial (fun ρ wc hkc hcn hq=>?_) ?_;rotate_left
 ·obtain⟨hcn,hfn⟩:=hcn
  simp at hq
  go_simp
  rfl
 refine p_val_l (u:=?_) [19] (by kernel_rfl) rfl (by kernel_rfl) trivial (fun ρ wc hkc hcn hq=>?_) ?_;rotate_left
 ·obtain⟨hcn,hfn⟩:=hcn
  simp at hq
  have x2:=(HO1.out.keeps (keeps_undrewK hkc) HNO.out).cell
  go_simp
  rfl
 refine p_call (T:=Is (.int .i64 nI)) 61 [18,20] (by kernel_rfl) rfl rfl (by kernel_rfl) trivial (stable_is _) (stableK_is _ _) (fun ρ wc hbc hcn hq=>?_) ?_
 ·obtain⟨hcn,hfn⟩:=hcn
  simp at hq
  refine⟨_,by go_simp;rfl,?_⟩
  refine(HLW.out _ (HTAB.out _ (keeps_on HK1.out (bel_undrew hbc)))).mono ?_
  rintro e w' ⟨rfl,rfl⟩
  exact⟨_,rfl,rfl,Below.refl _ _⟩
 refine p_sp (T:=TakF b x (kcB A D X O (m-(c+1:Nat)) (x+(c+1))) (kTake W.length (x,m) a o (c+1)=some (x+(c+1),m-(c+1:Nat))∧x+(c+1)≤W.length∧((c+1:Nat):Int)≤m)) 59 [14,15,16,21] rfl rfl (by kernel_rfl) trivial (stable_takf _ _ _ _) (fun ρ wc hbc hcn hq=>?_) ?_
 ·obtain⟨hcn,hfn⟩:=hcn
  simp at hq
  refine⟨_,by go_simp;rfl,?_⟩
  refine(HTK.out _ (HB.out _ (keeps_on HK1.out (bel_undrew hbc))) (HT1.out.drew.below hbc)).mono ?_
  rintro e w' ⟨hkk,⟨htk,hh,rfl,hbt⟩|⟨htk,rfl⟩⟩
  ·exact .inl ⟨_,rfl,⟨rfl,hbt,htk,hh.1,hh.2.2⟩,hkk⟩
  ·refine .inr ⟨_,rfl,fun a ha=>⟨ha,(keeps_on HK1.out (bel_undrew hbc)).trans hkk,.inr ⟨?_,rfl⟩⟩⟩
   unfold kCmp
   rw [if_pos (.inl htk)]
 refine p_end_lit 105 rfl (fun ff w3 hk3 hk=>?_)
 have h22:TakF b x (kcB A D X O (m-(c+1:Nat)) (x+(c+1))) (kTake W.length (x,m) a o (c+1)=some (x+(c+1),m-(c+1:Nat))∧x+(c+1)≤W.length∧((c+1:Nat):Int)≤m) (ff 22) w3:=allN_atF hk 22 (by decide) (by decide)
 obtain⟨e22,hbt3,htk3,hl3,hm3⟩:=h22
 have HT3:=Lib.hid hbt3
 have HK3:=Lib.hid (HK1.out.trans (keeps_undrewK hk3))
 have HO3:=Lib.hid (HO1.out.keeps (keeps_undrewK hk3) HNO.out)
 have HTK3:=Lib.hid htk3
 have HL:=Lib.hid hl3
 have HM3:=Lib.hid hm3
 simp [AllN] at hk
 simp only [frameL,hk,e22,Nat.zero_add,Nat.reduceAdd]
 clear hk hbt3 hk3 e22 htk3 hl3 hm3 HT1 HO1 HK1 HTK HLW HTAB
 have hx2:(x:Int)≤20000000:=by omega
 obtain⟨m3,hm3⟩:∃m3,m-((c+1:Nat):Int)=m3:=⟨_,rfl⟩
 obtain⟨x3,hx3⟩:∃x3,x+(c+1)=x3:=⟨_,rfl⟩
 rw [hm3,hx3] at HT3
 have HMX:=Lib.hid (And.intro hm3 hx3)
 clear hm3 hx3
 obtain⟨z,hz⟩:∃z,zat W x=z:=⟨_,rfl⟩
 have hzb:0≤z∧z<18446744073709551616:=by rw [←hz];exact zat_bd HWW.out (by have:=HL.out;omega)
 have hvl:=decP_vld z hzb.1 hzb.2
 have HDE:=Lib.hid (fun w2=>Decode_any z w2 hzb.1 hzb.2)
 obtain⟨T,hT⟩:∃T,decP z=T:=⟨_,rfl⟩
 rw [hT] at HDE hvl
 have HZT:Hid (decP (zat W x)=T):=Lib.hid (by rw [hz];exact hT)
 have HZ:=Lib.hid hz
 obtain⟨tk,to',td,tp⟩:=vld_bd hvl
 clear hT hz hzb hvl
 obtain⟨k,n,d,p,el,c2,db,pa,sg,lo⟩:=T
 simp only at HDE tk to' td tp
 have HC1:=Lib.hid (kCmp_no1 (vis:=kVis W r) (a:=a) (o:=o) (m:=m) (c:=c) HZT.out)
 have HC2:=Lib.hid (fun h1=>kCmp_zero (vis:=kVis W r) (a:=a) (o:=o) (m:=m) (c:=c) HZT.out HTK3.out h1)
 have HC3:=Lib.hid (fun N DN PN h1=>kCmp_no2 (vis:=kVis W r) (a:=a) (o:=o) (m:=m) (c:=c) (n:=N) (d:=DN) (p:=PN) HZT.out HTK3.out h1)
 have HC4:=Lib.hid (fun N DN PN h1=>kCmp_row (vis:=kVis W r) (a:=a) (o:=o) (m:=m) (c:=c) (n:=N) (d:=DN) (p:=PN) HZT.out HTK3.out h1)
 simp only [HMX.out.1,HMX.out.2] at HC2 HC4
 generalize kCmp (kVis W r) W a o c (x,m)=R at *
 go_wp2_with fail
 refine(HWD.out _ _ (x:Int) x w3 (HB.out _ HK3.out) HT3.out rfl (by omega)).mono ?_
 rintro e w' ⟨⟨-,rfl⟩|⟨hn,rfl⟩,rfl⟩
 rotate_left
 ·exact absurd (show x<W.length by have:=HL.out;omega) hn
 rw [HZ.out]
 go_wp2_with fail
 refine(HDE.out _).mono ?_
 rintro e w4 ⟨rfl,hb4⟩
 have HT4:=Lib.hid ((HT3.out.below hb4).alloc (.cells #[.int .i64 k,.int .i64 n,.int .i64 d,.int .i64 p,.int .i64 el,.int .i64 c2,.bool db,.int .i64 pa,.int .u32 sg,.int .u32 lo] 65))
 have HO4:=Lib.hid ((HO3.out.below hb4).alloc (.cells #[.int .i64 k,.int .i64 n,.int .i64 d,.int .i64 p,.int .i64 el,.int .i64 c2,.bool db,.int .i64 pa,.int .u32 sg,.int .u32 lo] 65))
 have HK4:=Lib.hid (keeps_alloc (keeps_on HK3.out hb4) (.cells #[.int .i64 k,.int .i64 n,.int .i64 d,.int .i64 p,.int .i64 el,.int .i64 c2,.bool db,.int .i64 pa,.int .u32 sg,.int .u32 lo] 65))
 have HQ4:Hid (Blk (w4.alloc (.cells #[.int .i64 k,.int .i64 n,.int .i64 d,.int .i64 p,.int .i64 el,.int .i64 c2,.bool db,.int .i64 pa,.int .u32 sg,.int .u32 lo] 65)) w4.heap.size #[.int .i64 k,.int .i64 n,.int .i64 d,.int .i64 p,.int .i64 el,.int .i64 c2,.bool db,.int .i64 pa,.int .u32 sg,.int .u32 lo]):=Lib.hid (Blk.fresh _ _ _)
 have HNQ:Hid (¬KB b w4.heap.size):=Lib.hid (by have:=(HT3.out.below hb4).lt;unfold KB;omega)
 clear hb4 HT3 HO3 HK3 HDE
 obtain⟨g,hg⟩:∃g,d+p=g:=⟨_,rfl⟩
 have hg2:0≤g∧g≤131070:=by omega
 have hdp:IntKind.i64.wrap (d+p)=g:=by rw [IntKind.wrap_i64];omega
 have HG:=Lib.hid hg
 obtain⟨S,hS⟩:∃S,n*g=S:=⟨_,rfl⟩
 have hSb:=mul_bdK to'.1 to'.2 hg2.1 hg2.2
 have hmul:IntKind.i64.wrap (n*g)=S:=by rw [IntKind.wrap_i64];omega
 have HS:=Lib.hid hS
 rw [hg] at HC1 HC2
 clear hg hS hSb
 go_wp2_with fail
 refine abs_codeK (F:=fun W1=>Blk W1 b (kcB A D X O m3 x3)∧Blk W1 w.heap.size #[.int .i64 1,.int .i64 o,.int .i64 0,.int .i64 0,.int .i64 7,.int .i64 cI,.bool false,.int .i64 0,.int .u32 0,.int .u32 0]∧Keeps (KB b) w W1∧Blk W1 w4.heap.size #[.int .i64 k,.int .i64 n,.int .i64 d,.int .i64 p,.int .i64 el,.int .i64 c2,.bool db,.int .i64 pa,.int .u32 sg,.int .u32 lo]) ⟨HT4.out,HO4.out,HK4.out,HQ4.out⟩ ?_
 rintro W5 ⟨h1,h2,h3,h4⟩
 have HT5:=Lib.hid h1
 have HO5:=Lib.hid h2
 have HK5:=Lib.hid h3
 have HQ5:=Lib.hid h4
 obtain⟨y1,y2,y3⟩:=h2
 obtain⟨y4,y5,y6⟩:=h4
 clear h1 h3 HT4 HO4 HK4 HQ4
 generalize w4.heap.size=q at *
 go_quiet (fail)
 have HT:=Lib.hid (HT5.out.drewN nq)
 have HO:=Lib.hid (HO5.out.drewN nq)
 have HQ:=Lib.hid (HQ5.out.drewN nq)
 have HK:=Lib.hid (keeps_drewN HK5.out nq)
 clear HT5 HO5 HQ5 HK5 y1 y2 y3 y4 y5 y6
 generalize W5.drewN nq=V at *
 obtain⟨y1,y2,y3⟩:=HO.out
 obtain⟨y4,y5,y6⟩:=HQ.out
 by_cases c1:k=0
 rotate_left
 ·have t1:(k==0)=false:=beq_eq_false_iff_ne.2 c1
  have HR:=Lib.hid (HC1.out (fun h=>c1 h.1))
  clear c1
  go_wp2_with fail
  refine(requireK _ _).mono ?_
  rintro e w'' ⟨⟨he,rfl⟩|⟨he,rfl⟩,rfl⟩
  ·exact absurd he (by decide)
  unfold failK
  go_wp2
  exact⟨rfl,HK.out,.inr ⟨HR.out,rfl⟩⟩
 have t1:(k==0)=true:=beq_iff_eq.2 c1
 by_cases c2':0≤n
 rotate_left
 ·have t2:decide (n ≥ 0)=false:=decide_eq_false (by omega)
  have t3:decide (0≤n)=false:=decide_eq_false c2'
  have HR:=Lib.hid (HC1.out (fun h=>c2' h.2.1))
  clear c1 c2'
  go_wp2_with fail
  refine(requireK _ _).mono ?_
  rintro e w'' ⟨⟨he,rfl⟩|⟨he,rfl⟩,rfl⟩
  ·exact absurd he (by decide)
  unfold failK
  go_wp2
  exact⟨rfl,HK.out,.inr ⟨HR.out,rfl⟩⟩
 have t2:decide (n ≥ 0)=true:=decide_eq_true (by omega)
 have t3:decide (0≤n)=true:=decide_eq_true c2'
 by_cases c3:S=cI
 rotate_left
 ·have t4:(S==cI)=false:=beq_eq_false_iff_ne.2 c3
  have HR:=Lib.hid (HC1.out (fun h=>c3 (by have h1:n*g=c:=h.2.2;rw [←HS.out,h1,HCI.out])))
  clear c1 c2' c3
  go_wp2_with fail
  refine(requireK _ _).mono ?_
  rintro e w'' ⟨⟨he,rfl⟩|⟨he,rfl⟩,rfl⟩
  ·exact absurd he (by decide)
  unfold failK
  go_wp2
  exact⟨rfl,HK.out,.inr ⟨HR.out,rfl⟩⟩
 have t4:(S==cI)=true:=beq_iff_eq.2 c3
 have hcond:k=0∧0≤n∧n*g=c:=⟨c1,c2',by rw [HS.out,c3,HCI.out]⟩
 have HN0:=Lib.hid c2'
 have HC2:=Lib.hid (HC2.out hcond)
 have HC3:=Lib.hid (fun N DN PN=>HC3.out N DN PN (by show k=0∧0≤n∧n*(d+p)=c;rw [HG.out];exact hcond))
 have HC4:=Lib.hid (fun N DN PN=>HC4.out N DN PN (by show k=0∧0≤n∧n*(d+p)=c;rw [HG.out];exact hcond))
 have HNG:=Lib.hid hcond.2.2
 clear hcond c1 c3 c2' HC1
 go_wp2_with fail
 refine(requireK _ _).mono ?_
 rintro e w'' ⟨⟨he,rfl⟩|⟨he,rfl⟩,rfl⟩
 rotate_left
 ·exact absurd he (by decide)
 clear he
 by_cases c4:g=0
 ·have t5:(g==0)=true:=beq_iff_eq.2 c4
  have HC:=Lib.hid (HC2.out c4)
  clear c4
  go_wp2_with fail
  refine(HCH.out m3 x3 n V HT.out (by have:=HMX.out;have:=HM3.out;omega) (by have:=HMX.out;have:=HM.out;omega) HN0.out).mono ?_
  rintro e w6 ⟨hk6,⟨hm6,rfl,hb6⟩|⟨hm6,rfl⟩⟩
  ·have HR:=Lib.hid (HC.out.trans (if_pos hm6))
   have HK6:=Lib.hid (HK.out.trans hk6)
   clear HC
   go_wp2
   go_end0
   exact⟨HK6.out,.inl ⟨_,HR.out,rfl,hb6⟩⟩
  ·have HR:=Lib.hid (HC.out.trans (if_neg (by show ¬n≤m3;omega)))
   have HK6:=Lib.hid (HK.out.trans hk6)
   unfold failK
   go_wp2
   exact⟨rfl,HK6.out,.inr ⟨HR.out,rfl⟩⟩
 have t5:(g==0)=false:=beq_eq_false_iff_ne.2 c4
 obtain⟨N,hN⟩:=Int.eq_ofNat_of_zero_le HN0.out
 obtain⟨DN,hDN⟩:=Int.eq_ofNat_of_zero_le td.1
 obtain⟨PN,hPN⟩:=Int.eq_ofNat_of_zero_le tp.1
 have HGN:Hid (g=((DN+PN:Nat):Int)):=Lib.hid (by have:=HG.out;omega)
 have hG0:DN+PN≠0:=fun h=>c4 (by have:=HGN.out;omega)
 have HNC:Hid (N*(DN+PN)=c):=Lib.hid (by
  have h1:=HNG.out
  rw [hN,HGN.out,←Int.natCast_mul] at h1
  omega)
 have HC3:=Lib.hid (fun h3=>HC3.out N DN PN hN hDN hPN hG0 h3)
 have HC4:=Lib.hid (fun h3 h4=>HC4.out N DN PN hN hDN hPN hG0 h3 h4)
 have HEL:Hid (∀j,j<N→j*(DN+PN)+(DN+PN)≤c):=Lib.hid (fun j hj=>by
  have h1:(j+1)*(DN+PN)≤N*(DN+PN):=Nat.mul_le_mul_right _ (by omega)
  rw [HNC.out,Nat.succ_mul] at h1
  exact h1)
 have HNN:=Lib.hid hN
 have HDN:=Lib.hid hDN
 have HPN:=Lib.hid hPN
 have HG0:=Lib.hid hG0
 have HJ:=Lib.hid (fun j (hj:j<N)=>show IntKind.i64.wrap ((j:Int)*g)=((j*(DN+PN):Nat):Int) by
  have h1:=HEL.out j hj
  have h2:(j:Int)*g=((j*(DN+PN):Nat):Int):=by rw [HGN.out];simp
  rw [h2,IntKind.wrap_i64]
  omega)
 have hn2:0≤n∧n≤536870911:=⟨HN0.out,to'.2⟩
 have HNle:Hid (N*(DN+PN)≤536870911):=Lib.hid (by rw [HNC.out];omega)
 have hN2:N≤536870911:=by omega
 obtain⟨b1,hb1⟩:∃bb:Bool,bb=true↔AnyP W (x+DN) N (DN+PN):=by
  by_cases h:AnyP W (x+DN) N (DN+PN)
  ·exact⟨true,by simp [h]⟩
  ·exact⟨false,by simp [h]⟩
 obtain⟨b2,hb2⟩:∃bb:Bool,bb=true↔AnyP W (x+(DN+PN)) N (DN+PN):=by
  by_cases h:AnyP W (x+(DN+PN)) N (DN+PN)
  ·exact⟨true,by simp [h]⟩
  ·exact⟨false,by simp [h]⟩
 have HB1:=Lib.hid hb1
 have HB2:=Lib.hid hb2
 have HBV:=Lib.hid (HB.out _ HK.out)
 have HA1:=Lib.hid (fun (h0:0<DN)=>HAN.out m3 x3 ((x:Int)+1+d-1) n g (x+DN) N (DN+PN) V HBV.out HT.out (by have:=HDN.out;omega) HNN.out HGN.out (by omega) (by omega) (fun j hj=>by have:=HEL.out j hj;have:=HL.out;omega) (by have:=HNle.out;omega) (by omega) b1 HB1.out)
 have HA2:=Lib.hid (HAN.out m3 x3 ((x:Int)+1+g-1) n g (x+(DN+PN)) N (DN+PN) V HBV.out HT.out (by have:=HGN.out;omega) HNN.out HGN.out (by omega) (by omega) (fun j hj=>by have:=HEL.out j hj;have:=HL.out;omega) (by have:=HNle.out;omega) (by omega) b2 HB2.out)
 clear hN hDN hPN hG0 c4 hb1 hb2 HAN HCH HC2
 by_cases c5:d=0
 ·have u1:(d==0)=true:=beq_iff_eq.2 c5
  have HX1:Hid (¬(0<DN∧¬AnyP W (x+DN) N (DN+PN))):=Lib.hid (by have:=HDN.out;omega)
  clear c5
  go_wp2_with fail
  refine(requireK _ _).mono ?_
  rintro e w'' ⟨⟨he,rfl⟩|⟨he,rfl⟩,rfl⟩
  rotate_left
  ·exact absurd he (by decide)
  clear he
  by_cases c6:p=0
  ·have u2:(p==0)=true:=beq_iff_eq.2 c6
   have HX2:Hid (¬(0<PN∧¬AnyP W (x+(DN+PN)) N (DN+PN))):=Lib.hid (by have:=HPN.out;omega)
   clear c6
   go_wp2_with fail
   refine(requireK _ _).mono ?_
   rintro e w'' ⟨⟨he,rfl⟩|⟨he,rfl⟩,rfl⟩
   rotate_left
   ·exact absurd he (by decide)
   clear he
   have HR:=Lib.hid (HC4.out HX1.out HX2.out)
   obtain⟨f,hf⟩:∃f:Nat→Ks→Option Ks,f=fun j=>kRow (fun i=>kVis W r (x+1+j*(DN+PN)+DN+i)) PN:=⟨_,rfl⟩
   have HFD:=Lib.hid (fun j=>congrFun hf j)
   rw [←hf] at HR
   have HBD:=Lib.hid (fun i (t:Ks) (h:kRow f i (x3,m3)=some t)=>kRow_bd (L:=W.length) (f:=f) (fun i=>by rw [HFD.out];exact kRow_bd (fun i=>kVis_bd r _) _) i (x3,m3) t (by have:=HMX.out;have:=HL.out;show x3≤W.length;omega) (by have:=HMX.out;have:=HM3.out;show 0≤m3;omega) h)
   have HS0:Hid (kRow f 0 (x3,m3)=some (x3,m3)):=Lib.hid rfl
   clear hf
   go_wp2
   go_loopw [87,13] (fun i g9 wr=>∃(j:Nat) (t:Ks),j≤N∧i=.int .i64 j∧kRow f j (x3,m3)=some t∧Blk wr b (kcB A D X O t.2 t.1)∧Keeps (KB b) w wr∧Blk wr q #[.int .i64 k,.int .i64 n,.int .i64 d,.int .i64 p,.int .i64 el,.int .i64 c2,.bool db,.int .i64 pa,.int .u32 sg,.int .u32 lo]) (fun i _ _=>N-(intOf i).toNat)
   case atStart=>exact⟨0,(x3,m3),by omega,rfl,HS0.out,HT.out,HK.out,HQ.out⟩
   case round=>
    clear HT HS0 HK HQ HO HA2 HA1 HBV y1 y2 y3 y4 y5 y6
    obtain⟨j,t,hj,rfl,hrow,hbt,hkp,hbq⟩:=hrel
    have HW:=Lib.hid hrow
    have HT:=Lib.hid hbt
    have HK:=Lib.hid hkp
    have HQ:=Lib.hid hbq
    obtain⟨y4,y5,y6⟩:=hbq
    clear hrow hbt hkp
    by_cases hlt:j<N
    ·have hj1:(j:Int)<n:=by rw [HNN.out];omega
     have h1:=HJ.out j hlt
     have h2:=HEL.out j hlt
     obtain⟨pj,hpj⟩:∃pj,j*(DN+PN)=pj:=⟨_,rfl⟩
     rw [hpj] at h1 h2
     have HPJ:=Lib.hid hpj
     have hpb:(pj:Int)≤536870911:=by omega
     have HIN:Hid (x+1+pj+DN+PN≤W.length):=Lib.hid (by have:=HL.out;omega)
     clear hpj h2
     obtain⟨g1,g2,g3⟩:=HBD.out j t HW.out
     have HG1:=Lib.hid g1
     have HG2:=Lib.hid g2
     have HG3:=Lib.hid g3
     clear g1 g2 g3
     go_wp2_with fail
     refine(HVA.out (x+1+pj+DN) PN t _ _ wr (by have:=HDN.out;omega) HPN.out (HB.out _ HK.out) HT.out HG2.out (by have h7:=HG3.out;have h8:=HMX.out.1;have h9:=HM.out;have h10:t.2≤m3:=h7;omega) HG1.out HIN.out).mono ?_
     rintro e w4 ⟨hk4,⟨t',ht,rfl,hbt4⟩|⟨ht,rfl⟩⟩
     ·have HT4:=Lib.hid hbt4
      have HK4:=Lib.hid (HK.out.trans hk4)
      have HQ4:=Lib.hid (HQ.out.keeps hk4 HNQ.out)
      have HN4:=Lib.hid ((kRow_some HW.out).trans ((by rw [HFD.out,HPJ.out]:f j t=kRow (fun i=>kVis W r (x+1+pj+DN+i)) PN t).trans ht))
      clear hk4 hbt4 ht HT HK HW HQ y4 y5 y6
      go_wp2
      go_roundw
      case rel=>exact⟨j+1,t',by omega,by go_num,HN4.out,HT4.out,HK4.out,HQ4.out⟩
      case measure=>simp [intOf];omega
     ·have HK4:=Lib.hid (HK.out.trans hk4)
      have HN4:=Lib.hid (kRow_none ((kRow_some HW.out).trans ((by rw [HFD.out,HPJ.out]:f j t=kRow (fun i=>kVis W r (x+1+pj+DN+i)) PN t).trans ht)) N (by omega))
      unfold failK
      go_wp2
      exact⟨rfl,HK4.out,.inr ⟨HR.out.trans HN4.out,rfl⟩⟩
    ·obtain rfl:j=N:=by omega
     have hj1:¬(j:Int)<n:=by rw [HNN.out];omega
     go_wp2
     go_end0
     exact⟨HK.out,.inl ⟨t,HR.out.trans HW.out,rfl,HT.out⟩⟩
  have u2:(p==0)=false:=beq_eq_false_iff_ne.2 c6
  have hp0:0<PN:=by have:=HPN.out;omega
  cases b2
  ·have HR:=Lib.hid (HC3.out (.inr ⟨hp0,fun h=>by have:=HB2.out.2 h;cases this⟩))
   clear c6 hp0
   go_wp2_with fail
   refine HA2.out.mono ?_
   rintro e w' ⟨rfl,rfl⟩
   go_wp2_with fail
   refine(requireK _ _).mono ?_
   rintro e w'' ⟨⟨he,rfl⟩|⟨he,rfl⟩,rfl⟩
   ·exact absurd he (by decide)
   unfold failK
   go_wp2
   exact⟨rfl,HK.out,.inr ⟨HR.out,rfl⟩⟩
  have HX2:Hid (¬(0<PN∧¬AnyP W (x+(DN+PN)) N (DN+PN))):=Lib.hid (fun h=>h.2 (HB2.out.1 rfl))
  clear c6 hp0
  go_wp2_with fail
  refine HA2.out.mono ?_
  rintro e w' ⟨rfl,rfl⟩
  go_wp2_with fail
  refine(requireK _ _).mono ?_
  rintro e w'' ⟨⟨he,rfl⟩|⟨he,rfl⟩,rfl⟩
  rotate_left
  ·exact absurd he (by decide)
  clear he
  have HR:=Lib.hid (HC4.out HX1.out HX2.out)
  obtain⟨f,hf⟩:∃f:Nat→Ks→Option Ks,f=fun j=>kRow (fun i=>kVis W r (x+1+j*(DN+PN)+DN+i)) PN:=⟨_,rfl⟩
  have HFD:=Lib.hid (fun j=>congrFun hf j)
  rw [←hf] at HR
  have HBD:=Lib.hid (fun i (t:Ks) (h:kRow f i (x3,m3)=some t)=>kRow_bd (L:=W.length) (f:=f) (fun i=>by rw [HFD.out];exact kRow_bd (fun i=>kVis_bd r _) _) i (x3,m3) t (by have:=HMX.out;have:=HL.out;show x3≤W.length;omega) (by have:=HMX.out;have:=HM3.out;show 0≤m3;omega) h)
  have HS0:Hid (kRow f 0 (x3,m3)=some (x3,m3)):=Lib.hid rfl
  clear hf
  go_wp2
  go_loopw [87,13] (fun i g9 wr=>∃(j:Nat) (t:Ks),j≤N∧i=.int .i64 j∧kRow f j (x3,m3)=some t∧Blk wr b (kcB A D X O t.2 t.1)∧Keeps (KB b) w wr∧Blk wr q #[.int .i64 k,.int .i64 n,.int .i64 d,.int .i64 p,.int .i64 el,.int .i64 c2,.bool db,.int .i64 pa,.int .u32 sg,.int .u32 lo]) (fun i _ _=>N-(intOf i).toNat)
  case atStart=>exact⟨0,(x3,m3),by omega,rfl,HS0.out,HT.out,HK.out,HQ.out⟩
  case round=>
   clear HT HS0 HK HQ HO HA2 HA1 HBV y1 y2 y3 y4 y5 y6
   obtain⟨j,t,hj,rfl,hrow,hbt,hkp,hbq⟩:=hrel
   have HW:=Lib.hid hrow
   have HT:=Lib.hid hbt
   have HK:=Lib.hid hkp
   have HQ:=Lib.hid hbq
   obtain⟨y4,y5,y6⟩:=hbq
   clear hrow hbt hkp
   by_cases hlt:j<N
   ·have hj1:(j:Int)<n:=by rw [HNN.out];omega
    have h1:=HJ.out j hlt
    have h2:=HEL.out j hlt
    obtain⟨pj,hpj⟩:∃pj,j*(DN+PN)=pj:=⟨_,rfl⟩
    rw [hpj] at h1 h2
    have HPJ:=Lib.hid hpj
    have hpb:(pj:Int)≤536870911:=by omega
    have HIN:Hid (x+1+pj+DN+PN≤W.length):=Lib.hid (by have:=HL.out;omega)
    clear hpj h2
    obtain⟨g1,g2,g3⟩:=HBD.out j t HW.out
    have HG1:=Lib.hid g1
    have HG2:=Lib.hid g2
    have HG3:=Lib.hid g3
    clear g1 g2 g3
    go_wp2_with fail
    refine(HVA.out (x+1+pj+DN) PN t _ _ wr (by have:=HDN.out;omega) HPN.out (HB.out _ HK.out) HT.out HG2.out (by have h7:=HG3.out;have h8:=HMX.out.1;have h9:=HM.out;have h10:t.2≤m3:=h7;omega) HG1.out HIN.out).mono ?_
    rintro e w4 ⟨hk4,⟨t',ht,rfl,hbt4⟩|⟨ht,rfl⟩⟩
    ·have HT4:=Lib.hid hbt4
     have HK4:=Lib.hid (HK.out.trans hk4)
     have HQ4:=Lib.hid (HQ.out.keeps hk4 HNQ.out)
     have HN4:=Lib.hid ((kRow_some HW.out).trans ((by rw [HFD.out,HPJ.out]:f j t=kRow (fun i=>kVis W r (x+1+pj+DN+i)) PN t).trans ht))
     clear hk4 hbt4 ht HT HK HW HQ y4 y5 y6
     go_wp2
     go_roundw
     case rel=>exact⟨j+1,t',by omega,by go_num,HN4.out,HT4.out,HK4.out,HQ4.out⟩
     case measure=>simp [intOf];omega
    ·have HK4:=Lib.hid (HK.out.trans hk4)
     have HN4:=Lib.hid (kRow_none ((kRow_some HW.out).trans ((by rw [HFD.out,HPJ.out]:f j t=kRow (fun i=>kVis W r (x+1+pj+DN+i)) PN t).trans ht)) N (by omega))
     unfold failK
     go_wp2
     exact⟨rfl,HK4.out,.inr ⟨HR.out.trans HN4.out,rfl⟩⟩
   ·obtain rfl:j=N:=by omega
    have hj1:¬(j:Int)<n:=by rw [HNN.out];omega
    go_wp2
    go_end0
    exact⟨HK.out,.inl ⟨t,HR.out.trans HW.out,rfl,HT.out⟩⟩
 have u1:(d==0)=false:=beq_eq_false_iff_ne.2 c5
 have hd0:0<DN:=by have:=HDN.out;omega
 have HA1:=Lib.hid (HA1.out hd0)
 cases b1
 ·have HR:=Lib.hid (HC3.out (.inl ⟨hd0,fun h=>by have:=HB1.out.2 h;cases this⟩))
  clear c5 hd0
  go_wp2_with fail
  refine HA1.out.mono ?_
  rintro e w' ⟨rfl,rfl⟩
  go_wp2_with fail
  refine(requireK _ _).mono ?_
  rintro e w'' ⟨⟨he,rfl⟩|⟨he,rfl⟩,rfl⟩
  ·exact absurd he (by decide)
  unfold failK
  go_wp2
  exact⟨rfl,HK.out,.inr ⟨HR.out,rfl⟩⟩
 have HX1:Hid (¬(0<DN∧¬AnyP W (x+DN) N (DN+PN))):=Lib.hid (fun h=>h.2 (HB1.out.1 rfl))
 clear c5 hd0
 go_wp2_with fail
 refine HA1.out.mono ?_
 rintro e w' ⟨rfl,rfl⟩
 go_wp2_with fail
 refine(requireK _ _).mono ?_
 rintro e w'' ⟨⟨he,rfl⟩|⟨he,rfl⟩,rfl⟩
 rotate_left
 ·exact absurd he (by decide)
 clear he
 by_cases c6:p=0
 ·have u2:(p==0)=true:=beq_iff_eq.2 c6
  have HX2:Hid (¬(0<PN∧¬AnyP W (x+(DN+PN)) N (DN+PN))):=Lib.hid (by have:=HPN.out;omega)
  clear c6
  go_wp2_with fail
  refine(requireK _ _).mono ?_
  rintro e w'' ⟨⟨he,rfl⟩|⟨he,rfl⟩,rfl⟩
  rotate_left
  ·exact absurd he (by decide)
  clear he
  have HR:=Lib.hid (HC4.out HX1.out HX2.out)
  obtain⟨f,hf⟩:∃f:Nat→Ks→Option Ks,f=fun j=>kRow (fun i=>kVis W r (x+1+j*(DN+PN)+DN+i)) PN:=⟨_,rfl⟩
  have HFD:=Lib.hid (fun j=>congrFun hf j)
  rw [←hf] at HR
  have HBD:=Lib.hid (fun i (t:Ks) (h:kRow f i (x3,m3)=some t)=>kRow_bd (L:=W.length) (f:=f) (fun i=>by rw [HFD.out];exact kRow_bd (fun i=>kVis_bd r _) _) i (x3,m3) t (by have:=HMX.out;have:=HL.out;show x3≤W.length;omega) (by have:=HMX.out;have:=HM3.out;show 0≤m3;omega) h)
  have HS0:Hid (kRow f 0 (x3,m3)=some (x3,m3)):=Lib.hid rfl
  clear hf
  go_wp2
  go_loopw [87,13] (fun i g9 wr=>∃(j:Nat) (t:Ks),j≤N∧i=.int .i64 j∧kRow f j (x3,m3)=some t∧Blk wr b (kcB A D X O t.2 t.1)∧Keeps (KB b) w wr∧Blk wr q #[.int .i64 k,.int .i64 n,.int .i64 d,.int .i64 p,.int .i64 el,.int .i64 c2,.bool db,.int .i64 pa,.int .u32 sg,.int .u32 lo]) (fun i _ _=>N-(intOf i).toNat)
  case atStart=>exact⟨0,(x3,m3),by omega,rfl,HS0.out,HT.out,HK.out,HQ.out⟩
  case round=>
   clear HT HS0 HK HQ HO HA2 HA1 HBV y1 y2 y3 y4 y5 y6
   obtain⟨j,t,hj,rfl,hrow,hbt,hkp,hbq⟩:=hrel
   have HW:=Lib.hid hrow
   have HT:=Lib.hid hbt
   have HK:=Lib.hid hkp
   have HQ:=Lib.hid hbq
   obtain⟨y4,y5,y6⟩:=hbq
   clear hrow hbt hkp
   by_cases hlt:j<N
   ·have hj1:(j:Int)<n:=by rw [HNN.out];omega
    have h1:=HJ.out j hlt
    have h2:=HEL.out j hlt
    obtain⟨pj,hpj⟩:∃pj,j*(DN+PN)=pj:=⟨_,rfl⟩
    rw [hpj] at h1 h2
    have HPJ:=Lib.hid hpj
    have hpb:(pj:Int)≤536870911:=by omega
    have HIN:Hid (x+1+pj+DN+PN≤W.length):=Lib.hid (by have:=HL.out;omega)
    clear hpj h2
    obtain⟨g1,g2,g3⟩:=HBD.out j t HW.out
    have HG1:=Lib.hid g1
    have HG2:=Lib.hid g2
    have HG3:=Lib.hid g3
    clear g1 g2 g3
    go_wp2_with fail
    refine(HVA.out (x+1+pj+DN) PN t _ _ wr (by have:=HDN.out;omega) HPN.out (HB.out _ HK.out) HT.out HG2.out (by have h7:=HG3.out;have h8:=HMX.out.1;have h9:=HM.out;have h10:t.2≤m3:=h7;omega) HG1.out HIN.out).mono ?_
    rintro e w4 ⟨hk4,⟨t',ht,rfl,hbt4⟩|⟨ht,rfl⟩⟩
    ·have HT4:=Lib.hid hbt4
     have HK4:=Lib.hid (HK.out.trans hk4)
     have HQ4:=Lib.hid (HQ.out.keeps hk4 HNQ.out)
     have HN4:=Lib.hid ((kRow_some HW.out).trans ((by rw [HFD.out,HPJ.out]:f j t=kRow (fun i=>kVis W r (x+1+pj+DN+i)) PN t).trans ht))
     clear hk4 hbt4 ht HT HK HW HQ y4 y5 y6
     go_wp2
     go_roundw
     case rel=>exact⟨j+1,t',by omega,by go_num,HN4.out,HT4.out,HK4.out,HQ4.out⟩
     case measure=>simp [intOf];omega
    ·have HK4:=Lib.hid (HK.out.trans hk4)
     have HN4:=Lib.hid (kRow_none ((kRow_some HW.out).trans ((by rw [HFD.out,HPJ.out]:f j t=kRow (fun i=>kVis W r (x+1+pj+DN+i)) PN t).trans ht)) N (by omega))
     unfold failK
     go_wp2
     exact⟨rfl,HK4.out,.inr ⟨HR.out.trans HN4.out,rfl⟩⟩
   ·obtain rfl:j=N:=by omega
    have hj1:¬(j:Int)<n:=by rw [HNN.out];omega
    go_wp2
    go_end0
    exact⟨HK.out,.inl ⟨t,HR.out.trans HW.out,rfl,HT.out⟩⟩
 have u2:(p==0)=false:=beq_eq_false_iff_ne.2 c6
 have hp0:0<PN:=by have:=HPN.out;omega
 cases b2
 ·have HR:=Lib.hid (HC3.out (.inr ⟨hp0,fun h=>by have:=HB2.out.2 h;cases this⟩))
  clear c6 hp0
  go_wp2_with fail
  refine HA2.out.mono ?_
  rintro e w' ⟨rfl,rfl⟩
  go_wp2_with fail
  refine(requireK _ _).mono ?_
  rintro e w'' ⟨⟨he,rfl⟩|⟨he,rfl⟩,rfl⟩
  ·exact absurd he (by decide)
  unfold failK
  go_wp2
  exact⟨rfl,HK.out,.inr ⟨HR.out,rfl⟩⟩
 have HX2:Hid (¬(0<PN∧¬AnyP W (x+(DN+PN)) N (DN+PN))):=Lib.hid (fun h=>h.2 (HB2.out.1 rfl))
 clear c6 hp0
 go_wp2_with fail
 refine HA2.out.mono ?_
 rintro e w' ⟨rfl,rfl⟩
 go_wp2_with fail
 refine(requireK _ _).mono ?_
 rintro e w'' ⟨⟨he,rfl⟩|⟨he,rfl⟩,rfl⟩
 rotate_left
 ·exact absurd he (by decide)
 clear he
 have HR:=Lib.hid (HC4.out HX1.out HX2.out)
 obtain⟨f,hf⟩:∃f:Nat→Ks→Option Ks,f=fun j=>kRow (fun i=>kVis W r (x+1+j*(DN+PN)+DN+i)) PN:=⟨_,rfl⟩
 have HFD:=Lib.hid (fun j=>congrFun hf j)
 rw [←hf] at HR
 have HBD:=Lib.hid (fun i (t:Ks) (h:kRow f i (x3,m3)=some t)=>kRow_bd (L:=W.length) (f:=f) (fun i=>by rw [HFD.out];exact kRow_bd (fun i=>kVis_bd r _) _) i (x3,m3) t (by have:=HMX.out;have:=HL.out;show x3≤W.length;omega) (by have:=HMX.out;have:=HM3.out;show 0≤m3;omega) h)
 have HS0:Hid (kRow f 0 (x3,m3)=some (x3,m3)):=Lib.hid rfl
 clear hf
 go_wp2
 go_loopw [87,13] (fun i g9 wr=>∃(j:Nat) (t:Ks),j≤N∧i=.int .i64 j∧kRow f j (x3,m3)=some t∧Blk wr b (kcB A D X O t.2 t.1)∧Keeps (KB b) w wr∧Blk wr q #[.int .i64 k,.int .i64 n,.int .i64 d,.int .i64 p,.int .i64 el,.int .i64 c2,.bool db,.int .i64 pa,.int .u32 sg,.int .u32 lo]) (fun i _ _=>N-(intOf i).toNat)
 case atStart=>exact⟨0,(x3,m3),by omega,rfl,HS0.out,HT.out,HK.out,HQ.out⟩
 case round=>
  clear HT HS0 HK HQ HO HA2 HA1 HBV y1 y2 y3 y4 y5 y6
  obtain⟨j,t,hj,rfl,hrow,hbt,hkp,hbq⟩:=hrel
  have HW:=Lib.hid hrow
  have HT:=Lib.hid hbt
  have HK:=Lib.hid hkp
  have HQ:=Lib.hid hbq
  obtain⟨y4,y5,y6⟩:=hbq
  clear hrow hbt hkp
  by_cases hlt:j<N
  ·have hj1:(j:Int)<n:=by rw [HNN.out];omega
   have h1:=HJ.out j hlt
   have h2:=HEL.out j hlt
   obtain⟨pj,hpj⟩:∃pj,j*(DN+PN)=pj:=⟨_,rfl⟩
   rw [hpj] at h1 h2
   have HPJ:=Lib.hid hpj
   have hpb:(pj:Int)≤536870911:=by omega
   have HIN:Hid (x+1+pj+DN+PN≤W.length):=Lib.hid (by have:=HL.out;omega)
   clear hpj h2
   obtain⟨g1,g2,g3⟩:=HBD.out j t HW.out
   have HG1:=Lib.hid g1
   have HG2:=Lib.hid g2
   have HG3:=Lib.hid g3
   clear g1 g2 g3
   go_wp2_with fail
   refine(HVA.out (x+1+pj+DN) PN t _ _ wr (by have:=HDN.out;omega) HPN.out (HB.out _ HK.out) HT.out HG2.out (by have h7:=HG3.out;have h8:=HMX.out.1;have h9:=HM.out;have h10:t.2≤m3:=h7;omega) HG1.out HIN.out).mono ?_
   rintro e w4 ⟨hk4,⟨t',ht,rfl,hbt4⟩|⟨ht,rfl⟩⟩
   ·have HT4:=Lib.hid hbt4
    have HK4:=Lib.hid (HK.out.trans hk4)
    have HQ4:=Lib.hid (HQ.out.keeps hk4 HNQ.out)
    have HN4:=Lib.hid ((kRow_some HW.out).trans ((by rw [HFD.out,HPJ.out]:f j t=kRow (fun i=>kVis W r (x+1+pj+DN+i)) PN t).trans ht))
    clear hk4 hbt4 ht HT HK HW HQ y4 y5 y6
    go_wp2
    go_roundw
    case rel=>exact⟨j+1,t',by omega,by go_num,HN4.out,HT4.out,HK4.out,HQ4.out⟩
    case measure=>simp [intOf];omega
   ·have HK4:=Lib.hid (HK.out.trans hk4)
    have HN4:=Lib.hid (kRow_none ((kRow_some HW.out).trans ((by rw [HFD.out,HPJ.out]:f j t=kRow (fun i=>kVis W r (x+1+pj+DN+i)) PN t).trans ht)) N (by omega))
    unfold failK
    go_wp2
    exact⟨rfl,HK4.out,.inr ⟨HR.out.trans HN4.out,rfl⟩⟩
  ·obtain rfl:j=N:=by omega
   have hj1:¬(j:Int)<n:=by rw [HNN.out];omega
   go_wp2
   go_end0
   exact⟨HK.out,.inl ⟨t,HR.out.trans HW.out,rfl,HT.out⟩⟩
end
section
attribute [local simp] AllK KnowsV look Is
set_option maxHeartbeats 2000000 in
theorem visit_far (b:Nat)(A:Option Addr)(W:List Int)(D X O:Int)(w0:World)(r:Nat)(E:EnvD b A [W] w0)(hW:Wds W)(hD:D≤900)(a x:Nat)(m aI dep z:Int)(w:World)(haI:aI=a)(hb:Below b w0 w)(hk:Blk w b (kcB A D X O m x))(hm0:0≤m)(hm1:m≤4611686018427387904)(hs:x≤W.length)(ha:a<W.length)(hd0:1≤dep)(hd1:dep≤901)(hz:zat W a=z)(h0:z≠0)(T:Ptr)(hT:decP z=T)(hk1:1<T.k):
  Calls Tryd.prog 20 #[.pointer (some ⟨b,0,none⟩),.int .i64 aI,.int .i64 dep] w (KOut b A D X O w none):=by
 have hlen:W.length≤20000000:=E.f 0
 have hlt:=hk.lt
 obtain⟨hz0,hz1⟩:0≤z∧z<18446744073709551616:=by rw [←hz];exact zat_bd hW ha
 have HWD:=Lib.hid (wordK b A W D X O m x aI a w0 w E hb hk haI (by omega))
 have HDE:=Lib.hid (fun w2=>Decode_any z w2 hz0 hz1)
 have HEN:=Lib.hid (fun w2=>BEnter_any D X O dep w2)
 have HT0:=Lib.hid hk
 have HB:=Lib.hid (fun (wr:World) (h:Keeps (KB b) w wr)=>hb.trans (bel_keeps h (Nat.le_of_lt hlt)))
 have HAL:=Lib.hid ha
 have HZ:=Lib.hid hz
 have HAI:=Lib.hid haI
 have u1:(z==0)=false:=beq_eq_false_iff_ne.2 h0
 have t1:(T.k==0)=false:=beq_eq_false_iff_ne.2 (by omega)
 have t2:(T.k==1)=false:=beq_eq_false_iff_ne.2 (by omega)
 rw [hT] at HDE
 clear hb hk haI ha hz h0 E hs hk1 hT
 obtain⟨x1,y1,z1⟩:=HT0.out
 go_enter Tryd.func20,Tryd.ntmps20
 go_wp2_with fail
 refine HWD.out.mono ?_
 rintro e w' ⟨⟨-,rfl⟩|⟨hn,rfl⟩,rfl⟩
 rotate_left
 ·exact absurd HAL.out hn
 rw [HZ.out]
 go_wp2_with fail
 refine(IsNull_any _ _).mono ?_
 rintro e w' ⟨rfl,rfl⟩
 rw [u1]
 go_wp2_with fail
 refine(HDE.out _).mono ?_
 rintro e w4 ⟨rfl,hb4⟩
 have HT4:=Lib.hid ((HT0.out.below hb4).alloc (.cells #[.int .i64 T.k,.int .i64 T.o,.int .i64 T.d,.int .i64 T.p,.int .i64 T.el,.int .i64 T.c,.bool T.db,.int .i64 T.pa,.int .u32 T.sg,.int .u32 T.lo] 65))
 have HK4:=Lib.hid (keeps_alloc (b:=b) (keeps_of hb4) (.cells #[.int .i64 T.k,.int .i64 T.o,.int .i64 T.d,.int .i64 T.p,.int .i64 T.el,.int .i64 T.c,.bool T.db,.int .i64 T.pa,.int .u32 T.sg,.int .u32 T.lo] 65))
 have HQ4:Hid (Blk (w4.alloc (.cells #[.int .i64 T.k,.int .i64 T.o,.int .i64 T.d,.int .i64 T.p,.int .i64 T.el,.int .i64 T.c,.bool T.db,.int .i64 T.pa,.int .u32 T.sg,.int .u32 T.lo] 65)) w4.heap.size #[.int .i64 T.k,.int .i64 T.o,.int .i64 T.d,.int .i64 T.p,.int .i64 T.el,.int .i64 T.c,.bool T.db,.int .i64 T.pa,.int .u32 T.sg,.int .u32 T.lo]):=Lib.hid (Blk.fresh _ _ _)
 have HNQ:Hid (¬KB b w4.heap.size):=Lib.hid (by have:=(HT0.out.below hb4).lt;unfold KB;omega)
 clear hb4 HT0 x1 y1 z1 HDE HWD
 obtain⟨x2,y2,z2⟩:=HQ4.out
 go_wp2_with fail
 refine(requireK _ _).mono ?_
 rintro e w'' ⟨⟨he,rfl⟩|⟨he,rfl⟩,rfl⟩
 ·exact absurd he (by decide)
 unfold failK
 go_wp2
 exact⟨rfl,HK4.out,.inr ⟨rfl,rfl⟩⟩
set_option maxHeartbeats 2000000 in
theorem visit_deep (b:Nat)(A:Option Addr)(W:List Int)(D X O:Int)(w0:World)(r:Nat)(E:EnvD b A [W] w0)(hW:Wds W)(hD:D≤900)(a x:Nat)(m aI dep z:Int)(w:World)(haI:aI=a)(hb:Below b w0 w)(hk:Blk w b (kcB A D X O m x))(hm0:0≤m)(hm1:m≤4611686018427387904)(hs:x≤W.length)(ha:a<W.length)(hd0:1≤dep)(hd1:dep≤901)(hz:zat W a=z)(h0:z≠0)(T:Ptr)(hT:decP z=T)(hk1:T.k=0∨T.k=1)(hdp:D<dep):
  Calls Tryd.prog 20 #[.pointer (some ⟨b,0,none⟩),.int .i64 aI,.int .i64 dep] w (KOut b A D X O w none):=by
 have hlen:W.length≤20000000:=E.f 0
 have hlt:=hk.lt
 obtain⟨hz0,hz1⟩:0≤z∧z<18446744073709551616:=by rw [←hz];exact zat_bd hW ha
 have HWD:=Lib.hid (wordK b A W D X O m x aI a w0 w E hb hk haI (by omega))
 have HDE:=Lib.hid (fun w2=>Decode_any z w2 hz0 hz1)
 have HEN:=Lib.hid (fun w2=>BEnter_any D X O dep w2)
 have HT0:=Lib.hid hk
 have HB:=Lib.hid (fun (wr:World) (h:Keeps (KB b) w wr)=>hb.trans (bel_keeps h (Nat.le_of_lt hlt)))
 have HAL:=Lib.hid ha
 have HZ:=Lib.hid hz
 have HAI:=Lib.hid haI
 have u1:(z==0)=false:=beq_eq_false_iff_ne.2 h0
 rw [hT] at HDE
 have HE:Hid (enterI D dep=7):=Lib.hid (by unfold enterI;rw [if_neg (by omega)])
 rw [HE.out] at HEN
 obtain⟨k,o,d,p,el,c,db,pa,sg,lo⟩:=T
 simp only at HDE hk1
 clear hb hk haI ha hz h0 E hs hT hdp
 rcases hk1 with rfl|rfl
 ·
  obtain⟨x1,y1,z1⟩:=HT0.out
  go_enter Tryd.func20,Tryd.ntmps20
  go_wp2_with fail
  refine HWD.out.mono ?_
  rintro e w' ⟨⟨-,rfl⟩|⟨hn,rfl⟩,rfl⟩
  rotate_left
  ·exact absurd HAL.out hn
  rw [HZ.out]
  go_wp2_with fail
  refine(IsNull_any _ _).mono ?_
  rintro e w' ⟨rfl,rfl⟩
  rw [u1]
  go_wp2_with fail
  refine(HDE.out _).mono ?_
  rintro e w4 ⟨rfl,hb4⟩
  have HT4:=Lib.hid ((HT0.out.below hb4).alloc (.cells #[.int .i64 0,.int .i64 o,.int .i64 d,.int .i64 p,.int .i64 el,.int .i64 c,.bool db,.int .i64 pa,.int .u32 sg,.int .u32 lo] 65))
  have HK4:=Lib.hid (keeps_alloc (b:=b) (keeps_of hb4) (.cells #[.int .i64 0,.int .i64 o,.int .i64 d,.int .i64 p,.int .i64 el,.int .i64 c,.bool db,.int .i64 pa,.int .u32 sg,.int .u32 lo] 65))
  have HQ4:Hid (Blk (w4.alloc (.cells #[.int .i64 0,.int .i64 o,.int .i64 d,.int .i64 p,.int .i64 el,.int .i64 c,.bool db,.int .i64 pa,.int .u32 sg,.int .u32 lo] 65)) w4.heap.size #[.int .i64 0,.int .i64 o,.int .i64 d,.int .i64 p,.int .i64 el,.int .i64 c,.bool db,.int .i64 pa,.int .u32 sg,.int .u32 lo]):=Lib.hid (Blk.fresh _ _ _)
  have HNQ:Hid (¬KB b w4.heap.size):=Lib.hid (by have:=(HT0.out.below hb4).lt;unfold KB;omega)
  clear hb4 HT0 x1 y1 z1 HDE HWD
  obtain⟨x2,y2,z2⟩:=HQ4.out
  obtain⟨x3,y3,z3⟩:=HT4.out
  go_wp2_with fail
  refine(requireK _ _).mono ?_
  rintro e w'' ⟨⟨he,rfl⟩|⟨he,rfl⟩,rfl⟩
  rotate_left
  ·exact absurd he (by decide)
  clear he
  go_wp2_with fail
  refine(HEN.out _).mono ?_
  rintro e w5 ⟨rfl,hb5⟩
  have HK5:=Lib.hid (keeps_on HK4.out hb5)
  clear hb5
  go_wp2_with fail
  refine(requireK _ _).mono ?_
  rintro e w'' ⟨⟨he,rfl⟩|⟨he,rfl⟩,rfl⟩
  ·exact absurd he (by decide)
  unfold failK
  go_wp2
  exact⟨rfl,HK5.out,.inr ⟨rfl,rfl⟩⟩
 ·
  obtain⟨x1,y1,z1⟩:=HT0.out
  go_enter Tryd.func20,Tryd.ntmps20
  go_wp2_with fail
  refine HWD.out.mono ?_
  rintro e w' ⟨⟨-,rfl⟩|⟨hn,rfl⟩,rfl⟩
  rotate_left
  ·exact absurd HAL.out hn
  rw [HZ.out]
  go_wp2_with fail
  refine(IsNull_any _ _).mono ?_
  rintro e w' ⟨rfl,rfl⟩
  rw [u1]
  go_wp2_with fail
  refine(HDE.out _).mono ?_
  rintro e w4 ⟨rfl,hb4⟩
  have HT4:=Lib.hid ((HT0.out.below hb4).alloc (.cells #[.int .i64 1,.int .i64 o,.int .i64 d,.int .i64 p,.int .i64 el,.int .i64 c,.bool db,.int .i64 pa,.int .u32 sg,.int .u32 lo] 65))
  have HK4:=Lib.hid (keeps_alloc (b:=b) (keeps_of hb4) (.cells #[.int .i64 1,.int .i64 o,.int .i64 d,.int .i64 p,.int .i64 el,.int .i64 c,.bool db,.int .i64 pa,.int .u32 sg,.int .u32 lo] 65))
  have HQ4:Hid (Blk (w4.alloc (.cells #[.int .i64 1,.int .i64 o,.int .i64 d,.int .i64 p,.int .i64 el,.int .i64 c,.bool db,.int .i64 pa,.int .u32 sg,.int .u32 lo] 65)) w4.heap.size #[.int .i64 1,.int .i64 o,.int .i64 d,.int .i64 p,.int .i64 el,.int .i64 c,.bool db,.int .i64 pa,.int .u32 sg,.int .u32 lo]):=Lib.hid (Blk.fresh _ _ _)
  have HNQ:Hid (¬KB b w4.heap.size):=Lib.hid (by have:=(HT0.out.below hb4).lt;unfold KB;omega)
  clear hb4 HT0 x1 y1 z1 HDE HWD
  obtain⟨x2,y2,z2⟩:=HQ4.out
  obtain⟨x3,y3,z3⟩:=HT4.out
  go_wp2_with fail
  refine(requireK _ _).mono ?_
  rintro e w'' ⟨⟨he,rfl⟩|⟨he,rfl⟩,rfl⟩
  rotate_left
  ·exact absurd he (by decide)
  clear he
  go_wp2_with fail
  refine(HEN.out _).mono ?_
  rintro e w5 ⟨rfl,hb5⟩
  have HK5:=Lib.hid (keeps_on HK4.out hb5)
  clear hb5
  go_wp2_with fail
  refine(requireK _ _).mono ?_
  rintro e w'' ⟨⟨he,rfl⟩|⟨he,rfl⟩,rfl⟩
  ·exact absurd he (by decide)
  unfold failK
  go_wp2
  exact⟨rfl,HK5.out,.inr ⟨rfl,rfl⟩⟩
set_option maxHeartbeats 2000000 in
theorem visit_str (b:Nat)(A:Option Addr)(W:List Int)(D X O:Int)(w0:World)(r:Nat)(E:EnvD b A [W] w0)(hW:Wds W)(hD:D≤900)(a x:Nat)(m aI dep z:Int)(w:World)(haI:aI=a)(hb:Below b w0 w)(hk:Blk w b (kcB A D X O m x))(hm0:0≤m)(hm1:m≤4611686018427387904)(hs:x≤W.length)(ha:a<W.length)(hd0:1≤dep)(hd1:dep≤901)(hz:zat W a=z)(h0:z≠0)(o:Int)(d p:Nat)(hT:decP z=⟨0,o,(d:Int),(p:Int),0,0,false,0,0,0⟩)(ho0:-536870912≤o)(ho1:o≤536870911)(hdd:d≤65535)(hpp:p≤65535)(hdp:dep≤D)(hV:VisL b A W D X O w0 r)(hr:(D-dep).toNat=r):
  Calls Tryd.prog 20 #[.pointer (some ⟨b,0,none⟩),.int .i64 aI,.int .i64 dep] w (KOut b A D X O w (kStr (kVis W r) W a o d p (x,m))):=by
 have hlen:W.length≤20000000:=E.f 0
 have hlt:=hk.lt
 obtain⟨hz0,hz1⟩:0≤z∧z<18446744073709551616:=by rw [←hz];exact zat_bd hW ha
 have HWD:=Lib.hid (wordK b A W D X O m x aI a w0 w E hb hk haI (by omega))
 have HDE:=Lib.hid (fun w2=>Decode_any z w2 hz0 hz1)
 have HEN:=Lib.hid (fun w2=>BEnter_any D X O dep w2)
 have HT0:=Lib.hid hk
 have HB:=Lib.hid (fun (wr:World) (h:Keeps (KB b) w wr)=>hb.trans (bel_keeps h (Nat.le_of_lt hlt)))
 have HAL:=Lib.hid ha
 have HZ:=Lib.hid hz
 have HAI:=Lib.hid haI
 have u1:(z==0)=false:=beq_eq_false_iff_ne.2 h0
 obtain⟨dI,hdI⟩:∃dI:Int,dI=d:=⟨_,rfl⟩
 obtain⟨pI,hpI⟩:∃pI:Int,pI=p:=⟨_,rfl⟩
 have HCALL:=Lib.hid (fun w2 h1 h2=>structureK b A W D X O w0 r E a (x,m) aI o dI pI dep d p ⟨by omega,hV⟩ w2 haI hdI hpI h1 h2 hm0 hm1 hs ha ho0 ho1 hdd hpp hd0 hr)
 rw [hT,←hdI,←hpI] at HDE
 clear hdI hpI
 have HE:Hid (enterI D dep=0):=Lib.hid (by unfold enterI;rw [if_pos hdp])
 rw [HE.out] at HEN
 clear hb hk haI ha hz h0 E hs hV hr hT hm0 hm1 hdp HAI
 generalize kStr (kVis W r) W a o d p (x,m)=R at *
 obtain⟨x1,y1,z1⟩:=HT0.out
 go_enter Tryd.func20,Tryd.ntmps20
 go_wp2_with fail
 refine HWD.out.mono ?_
 rintro e w' ⟨⟨-,rfl⟩|⟨hn,rfl⟩,rfl⟩
 rotate_left
 ·exact absurd HAL.out hn
 rw [HZ.out]
 go_wp2_with fail
 refine(IsNull_any _ _).mono ?_
 rintro e w' ⟨rfl,rfl⟩
 rw [u1]
 go_wp2_with fail
 refine(HDE.out _).mono ?_
 rintro e w4 ⟨rfl,hb4⟩
 have HT4:=Lib.hid ((HT0.out.below hb4).alloc (.cells #[.int .i64 0,.int .i64 o,.int .i64 dI,.int .i64 pI,.int .i64 0,.int .i64 0,.bool false,.int .i64 0,.int .u32 0,.int .u32 0] 65))
 have HK4:=Lib.hid (keeps_alloc (b:=b) (keeps_of hb4) (.cells #[.int .i64 0,.int .i64 o,.int .i64 dI,.int .i64 pI,.int .i64 0,.int .i64 0,.bool false,.int .i64 0,.int .u32 0,.int .u32 0] 65))
 have HQ4:Hid (Blk (w4.alloc (.cells #[.int .i64 0,.int .i64 o,.int .i64 dI,.int .i64 pI,.int .i64 0,.int .i64 0,.bool false,.int .i64 0,.int .u32 0,.int .u32 0] 65)) w4.heap.size #[.int .i64 0,.int .i64 o,.int .i64 dI,.int .i64 pI,.int .i64 0,.int .i64 0,.bool false,.int .i64 0,.int .u32 0,.int .u32 0]):=Lib.hid (Blk.fresh _ _ _)
 have HNQ:Hid (¬KB b w4.heap.size):=Lib.hid (by have:=(HT0.out.below hb4).lt;unfold KB;omega)
 clear hb4 HT0 x1 y1 z1 HDE HWD
 obtain⟨x2,y2,z2⟩:=HQ4.out
 obtain⟨x3,y3,z3⟩:=HT4.out
 go_wp2_with fail
 refine(requireK _ _).mono ?_
 rintro e w'' ⟨⟨he,rfl⟩|⟨he,rfl⟩,rfl⟩
 rotate_left
 ·exact absurd he (by decide)
 clear he
 go_wp2_with fail
 refine(HEN.out _).mono ?_
 rintro e w5 ⟨rfl,hb5⟩
 have HT5:=Lib.hid (HT4.out.below hb5)
 have HK5:=Lib.hid (keeps_on HK4.out hb5)
 have HQ5:=Lib.hid (HQ4.out.below hb5)
 clear hb5 HT4 HK4 HQ4 x2 y2 z2 x3 y3 z3
 generalize w4.heap.size=q at *
 go_wp2_with fail
 refine(requireK _ _).mono ?_
 rintro e w'' ⟨⟨he,rfl⟩|⟨he,rfl⟩,rfl⟩
 rotate_left
 ·exact absurd he (by decide)
 clear he
 obtain⟨x2,y2,z2⟩:=HQ5.out
 go_wp2_with fail
 refine(HCALL.out w5 (HB.out _ HK5.out) HT5.out).mono ?_
 rintro e w6 ⟨hk6,⟨t',ht,rfl,hbt6⟩|⟨ht,rfl⟩⟩
 ·have HK6:=Lib.hid (HK5.out.trans hk6)
  have HR:=Lib.hid ht
  clear ht
  go_wp2
  go_end0
  exact⟨HK6.out,.inl ⟨t',HR.out,rfl,hbt6⟩⟩
 ·have HK6:=Lib.hid (HK5.out.trans hk6)
  have HR:=Lib.hid ht
  clear ht
  unfold failK
  go_wp2
  exact⟨rfl,HK6.out,.inr ⟨HR.out,rfl⟩⟩
set_option maxHeartbeats 2000000 in
theorem visit_cmp (b:Nat)(A:Option Addr)(W:List Int)(D X O:Int)(w0:World)(r:Nat)(E:EnvD b A [W] w0)(hW:Wds W)(hD:D≤900)(a x:Nat)(m aI dep z:Int)(w:World)(haI:aI=a)(hb:Below b w0 w)(hk:Blk w b (kcB A D X O m x))(hm0:0≤m)(hm1:m≤4611686018427387904)(hs:x≤W.length)(ha:a<W.length)(hd0:1≤dep)(hd1:dep≤901)(hz:zat W a=z)(h0:z≠0)(o:Int)(c:Nat)(hT:decP z=⟨1,o,0,0,7,(c:Int),false,0,0,0⟩)(ho0:-536870912≤o)(ho1:o≤536870911)(hc1:c≤536870911)(hdp:dep≤D)(hV:VisL b A W D X O w0 r)(hr:(D-dep).toNat=r):
  Calls Tryd.prog 20 #[.pointer (some ⟨b,0,none⟩),.int .i64 aI,.int .i64 dep] w (KOut b A D X O w (kCmp (kVis W r) W a o c (x,m))):=by
 have hlen:W.length≤20000000:=E.f 0
 have hlt:=hk.lt
 obtain⟨hz0,hz1⟩:0≤z∧z<18446744073709551616:=by rw [←hz];exact zat_bd hW ha
 have HWD:=Lib.hid (wordK b A W D X O m x aI a w0 w E hb hk haI (by omega))
 have HDE:=Lib.hid (fun w2=>Decode_any z w2 hz0 hz1)
 have HEN:=Lib.hid (fun w2=>BEnter_any D X O dep w2)
 have HT0:=Lib.hid hk
 have HB:=Lib.hid (fun (wr:World) (h:Keeps (KB b) w wr)=>hb.trans (bel_keeps h (Nat.le_of_lt hlt)))
 have HAL:=Lib.hid ha
 have HZ:=Lib.hid hz
 have HAI:=Lib.hid haI
 have u1:(z==0)=false:=beq_eq_false_iff_ne.2 h0
 obtain⟨cI,hcI⟩:∃cI:Int,cI=c:=⟨_,rfl⟩
 have HCALL:=Lib.hid (fun w2 h1 h2=>compositeK b A W D X O w0 r E a (x,m) aI o cI dep c ⟨by omega,hV⟩ w2 haI hcI h1 h2 hm0 hm1 hs hW ha ho0 ho1 hc1 hd0 hr)
 rw [hT,←hcI] at HDE
 clear hcI
 have HE:Hid (enterI D dep=0):=Lib.hid (by unfold enterI;rw [if_pos hdp])
 rw [HE.out] at HEN
 clear hb hk haI ha hz h0 E hs hV hr hT hm0 hm1 hdp HAI
 generalize kCmp (kVis W r) W a o c (x,m)=R at *
 obtain⟨x1,y1,z1⟩:=HT0.out
 go_enter Tryd.func20,Tryd.ntmps20
 go_wp2_with fail
 refine HWD.out.mono ?_
 rintro e w' ⟨⟨-,rfl⟩|⟨hn,rfl⟩,rfl⟩
 rotate_left
 ·exact absurd HAL.out hn
 rw [HZ.out]
 go_wp2_with fail
 refine(IsNull_any _ _).mono ?_
 rintro e w' ⟨rfl,rfl⟩
 rw [u1]
 go_wp2_with fail
 refine(HDE.out _).mono ?_
 rintro e w4 ⟨rfl,hb4⟩
 have HT4:=Lib.hid ((HT0.out.below hb4).alloc (.cells #[.int .i64 1,.int .i64 o,.int .i64 0,.int .i64 0,.int .i64 7,.int .i64 cI,.bool false,.int .i64 0,.int .u32 0,.int .u32 0] 65))
 have HK4:=Lib.hid (keeps_alloc (b:=b) (keeps_of hb4) (.cells #[.int .i64 1,.int .i64 o,.int .i64 0,.int .i64 0,.int .i64 7,.int .i64 cI,.bool false,.int .i64 0,.int .u32 0,.int .u32 0] 65))
 have HQ4:Hid (Blk (w4.alloc (.cells #[.int .i64 1,.int .i64 o,.int .i64 0,.int .i64 0,.int .i64 7,.int .i64 cI,.bool false,.int .i64 0,.int .u32 0,.int .u32 0] 65)) w4.heap.size #[.int .i64 1,.int .i64 o,.int .i64 0,.int .i64 0,.int .i64 7,.int .i64 cI,.bool false,.int .i64 0,.int .u32 0,.int .u32 0]):=Lib.hid (Blk.fresh _ _ _)
 have HNQ:Hid (¬KB b w4.heap.size):=Lib.hid (by have:=(HT0.out.below hb4).lt;unfold KB;omega)
 clear hb4 HT0 x1 y1 z1 HDE HWD
 obtain⟨x2,y2,z2⟩:=HQ4.out
 obtain⟨x3,y3,z3⟩:=HT4.out
 go_wp2_with fail
 refine(requireK _ _).mono ?_
 rintro e w'' ⟨⟨he,rfl⟩|⟨he,rfl⟩,rfl⟩
 rotate_left
 ·exact absurd he (by decide)
 clear he
 go_wp2_with fail
 refine(HEN.out _).mono ?_
 rintro e w5 ⟨rfl,hb5⟩
 have HT5:=Lib.hid (HT4.out.below hb5)
 have HK5:=Lib.hid (keeps_on HK4.out hb5)
 have HQ5:=Lib.hid (HQ4.out.below hb5)
 clear hb5 HT4 HK4 HQ4 x2 y2 z2 x3 y3 z3
 generalize w4.heap.size=q at *
 go_wp2_with fail
 refine(requireK _ _).mono ?_
 rintro e w'' ⟨⟨he,rfl⟩|⟨he,rfl⟩,rfl⟩
 rotate_left
 ·exact absurd he (by decide)
 clear he
 obtain⟨x2,y2,z2⟩:=HQ5.out
 go_wp2_with fail
 refine(HCALL.out w5 (HB.out _ HK5.out) HT5.out).mono ?_
 rintro e w6 ⟨hk6,⟨t',ht,rfl,hbt6⟩|⟨ht,rfl⟩⟩
 ·have HK6:=Lib.hid (HK5.out.trans hk6)
  have HR:=Lib.hid ht
  clear ht
  go_wp2
  go_end0
  exact⟨HK6.out,.inl ⟨t',HR.out,rfl,hbt6⟩⟩
 ·have HK6:=Lib.hid (HK5.out.trans hk6)
  have HR:=Lib.hid ht
  clear ht
  unfold failK
  go_wp2
  exact⟨rfl,HK6.out,.inr ⟨HR.out,rfl⟩⟩
set_option maxHeartbeats 2000000 in
theorem visit_lst (b:Nat)(A:Option Addr)(W:List Int)(D X O:Int)(w0:World)(r:Nat)(E:EnvD b A [W] w0)(hW:Wds W)(hD:D≤900)(a x:Nat)(m aI dep z:Int)(w:World)(haI:aI=a)(hb:Below b w0 w)(hk:Blk w b (kcB A D X O m x))(hm0:0≤m)(hm1:m≤4611686018427387904)(hs:x≤W.length)(ha:a<W.length)(hd0:1≤dep)(hd1:dep≤901)(hz:zat W a=z)(h0:z≠0)(o e c:Int)(hT:decP z=⟨1,o,0,0,e,c,false,0,0,0⟩)(ho0:-536870912≤o)(ho1:o≤536870911)(he0:0≤e)(he7:e<7)(hc0:0≤c)(hc1:c≤536870911)(hdp:dep≤D)(hV:VisL b A W D X O w0 r)(hr:(D-dep).toNat=r):
  Calls Tryd.prog 20 #[.pointer (some ⟨b,0,none⟩),.int .i64 aI,.int .i64 dep] w (KOut b A D X O w (kLst (kVis W r) W a o e c (x,m))):=by
 have hlen:W.length≤20000000:=E.f 0
 have hlt:=hk.lt
 obtain⟨hz0,hz1⟩:0≤z∧z<18446744073709551616:=by rw [←hz];exact zat_bd hW ha
 have HWD:=Lib.hid (wordK b A W D X O m x aI a w0 w E hb hk haI (by omega))
 have HDE:=Lib.hid (fun w2=>Decode_any z w2 hz0 hz1)
 have HEN:=Lib.hid (fun w2=>BEnter_any D X O dep w2)
 have HT0:=Lib.hid hk
 have HB:=Lib.hid (fun (wr:World) (h:Keeps (KB b) w wr)=>hb.trans (bel_keeps h (Nat.le_of_lt hlt)))
 have HAL:=Lib.hid ha
 have HZ:=Lib.hid hz
 have HAI:=Lib.hid haI
 have u1:(z==0)=false:=beq_eq_false_iff_ne.2 h0
 have HCALL:=Lib.hid (fun w2 h1 h2=>listK b A W D X O w0 r E a (x,m) aI o e c dep ⟨by omega,hV⟩ w2 haI h1 h2 hm0 hm1 hs hW ha ho0 ho1 he0 he7 hc0 hc1 hd0 hr)
 have t7:(e==7)=false:=beq_eq_false_iff_ne.2 (by omega)
 rw [hT] at HDE
 have HE:Hid (enterI D dep=0):=Lib.hid (by unfold enterI;rw [if_pos hdp])
 rw [HE.out] at HEN
 clear hb hk haI ha hz h0 E hs hV hr hT hm0 hm1 hdp HAI
 generalize kLst (kVis W r) W a o e c (x,m)=R at *
 obtain⟨x1,y1,z1⟩:=HT0.out
 go_enter Tryd.func20,Tryd.ntmps20
 go_wp2_with fail
 refine HWD.out.mono ?_
 rintro e w' ⟨⟨-,rfl⟩|⟨hn,rfl⟩,rfl⟩
 rotate_left
 ·exact absurd HAL.out hn
 rw [HZ.out]
 go_wp2_with fail
 refine(IsNull_any _ _).mono ?_
 rintro e w' ⟨rfl,rfl⟩
 rw [u1]
 go_wp2_with fail
 refine(HDE.out _).mono ?_
 rintro e w4 ⟨rfl,hb4⟩
 have HT4:=Lib.hid ((HT0.out.below hb4).alloc (.cells #[.int .i64 1,.int .i64 o,.int .i64 0,.int .i64 0,.int .i64 e,.int .i64 c,.bool false,.int .i64 0,.int .u32 0,.int .u32 0] 65))
 have HK4:=Lib.hid (keeps_alloc (b:=b) (keeps_of hb4) (.cells #[.int .i64 1,.int .i64 o,.int .i64 0,.int .i64 0,.int .i64 e,.int .i64 c,.bool false,.int .i64 0,.int .u32 0,.int .u32 0] 65))
 have HQ4:Hid (Blk (w4.alloc (.cells #[.int .i64 1,.int .i64 o,.int .i64 0,.int .i64 0,.int .i64 e,.int .i64 c,.bool false,.int .i64 0,.int .u32 0,.int .u32 0] 65)) w4.heap.size #[.int .i64 1,.int .i64 o,.int .i64 0,.int .i64 0,.int .i64 e,.int .i64 c,.bool false,.int .i64 0,.int .u32 0,.int .u32 0]):=Lib.hid (Blk.fresh _ _ _)
 have HNQ:Hid (¬KB b w4.heap.size):=Lib.hid (by have:=(HT0.out.below hb4).lt;unfold KB;omega)
 clear hb4 HT0 x1 y1 z1 HDE HWD
 obtain⟨x2,y2,z2⟩:=HQ4.out
 obtain⟨x3,y3,z3⟩:=HT4.out
 go_wp2_with fail
 refine(requireK _ _).mono ?_
 rintro e w'' ⟨⟨he,rfl⟩|⟨he,rfl⟩,rfl⟩
 rotate_left
 ·exact absurd he (by decide)
 clear he
 go_wp2_with fail
 refine(HEN.out _).mono ?_
 rintro e w5 ⟨rfl,hb5⟩
 have HT5:=Lib.hid (HT4.out.below hb5)
 have HK5:=Lib.hid (keeps_on HK4.out hb5)
 have HQ5:=Lib.hid (HQ4.out.below hb5)
 clear hb5 HT4 HK4 HQ4 x2 y2 z2 x3 y3 z3
 generalize w4.heap.size=q at *
 go_wp2_with fail
 refine(requireK _ _).mono ?_
 rintro e w'' ⟨⟨he,rfl⟩|⟨he,rfl⟩,rfl⟩
 rotate_left
 ·exact absurd he (by decide)
 clear he
 obtain⟨x2,y2,z2⟩:=HQ5.out
 go_wp2_with fail
 refine(HCALL.out w5 (HB.out _ HK5.out) HT5.out).mono ?_
 rintro e w6 ⟨hk6,⟨t',ht,rfl,hbt6⟩|⟨ht,rfl⟩⟩
 ·have HK6:=Lib.hid (HK5.out.trans hk6)
  have HR:=Lib.hid ht
  clear ht
  go_wp2
  go_end0
  exact⟨HK6.out,.inl ⟨t',HR.out,rfl,hbt6⟩⟩
 ·have HK6:=Lib.hid (HK5.out.trans hk6)
  have HR:=Lib.hid ht
  clear ht
  unfold failK
  go_wp2
  exact⟨rfl,HK6.out,.inr ⟨HR.out,rfl⟩⟩
set_option maxHeartbeats 1000000 in
theorem visit_null (b:Nat)(A:Option Addr)(W:List Int)(D X O:Int)(w0:World)(E:EnvD b A [W] w0)(a x:Nat)(m aI dep:Int)(w:World)(haI:aI=a)(hb:Below b w0 w)(hk:Blk w b (kcB A D X O m x))(ha:a<W.length)(hz:zat W a=0):
  Calls Tryd.prog 20 #[.pointer (some ⟨b,0,none⟩),.int .i64 aI,.int .i64 dep] w (KOut b A D X O w (some (x,m))):=by
 have hlen:W.length≤20000000:=E.f 0
 have HWD:=Lib.hid (wordK b A W D X O m x aI a w0 w E hb hk haI (by omega))
 have HT0:=Lib.hid hk
 have HAL:=Lib.hid ha
 have HZ:=Lib.hid hz
 clear hz haI hb E hk ha
 go_enter Tryd.func20,Tryd.ntmps20
 go_wp2_with fail
 refine HWD.out.mono ?_
 rintro e w' ⟨⟨-,rfl⟩|⟨hn,rfl⟩,rfl⟩
 rotate_left
 ·exact absurd HAL.out hn
 rw [HZ.out]
 go_wp2_with fail
 refine(IsNull_any _ _).mono ?_
 rintro e w' ⟨rfl,rfl⟩
 go_wp2
 go_end0
 exact⟨Keeps.refl _ _,.inl ⟨_,rfl,rfl,HT0.out⟩⟩
theorem visit_step (b:Nat)(A:Option Addr)(W:List Int)(D X O:Int)(w0:World)(r:Nat)(E:EnvD b A [W] w0)(hW:Wds W)(hD:D≤900)(hV:∀r',r=r'+1→VisL b A W D X O w0 r'):VisL b A W D X O w0 r:=by
 rintro a ⟨x,m⟩ aI dep w haI hb hk hm0 hm1 hs ha hd0 hd1 hr
 simp only at hk hm0 hm1 hs
 by_cases h0:zat W a=0
 ·have hR:kVis W r a (x,m)=some (x,m):=by
   cases r with
   | zero=>unfold kVis;rw [if_pos h0]
   | succ r=>unfold kVis;rw [if_pos h0]
  rw [hR]
  exact visit_null b A W D X O w0 E a x m aI dep w haI hb hk ha h0
 obtain⟨z0,z1⟩:=zat_bd hW ha
 have hvl:=decP_vld _ z0 z1
 by_cases hf:1<(decP (zat W a)).k
 ·have hR:kVis W r a (x,m)=none:=by
   cases r with
   | zero=>unfold kVis;rw [if_neg h0]
   | succ r=>unfold kVis kBody;rw [if_neg h0,if_neg (by omega),if_neg (by omega)]
  rw [hR]
  exact visit_far b A W D X O w0 r E hW hD a x m aI dep _ w haI hb hk hm0 hm1 hs ha hd0 hd1 rfl h0 _ rfl hf
 have hk01:(decP (zat W a)).k=0∨(decP (zat W a)).k=1:=by
  have:=(vld_bd hvl).1
  omega
 by_cases hdp:D<dep
 ·obtain rfl:r=0:=by omega
  have hR:kVis W 0 a (x,m)=none:=by unfold kVis;rw [if_neg h0]
  rw [hR]
  exact visit_deep b A W D X O w0 0 E hW hD a x m aI dep _ w haI hb hk hm0 hm1 hs ha hd0 hd1 rfl h0 _ rfl hk01 hdp
 obtain⟨r',rfl⟩:∃r',r=r'+1:=⟨r-1,by omega⟩
 have hr':(D-dep).toNat=r':=by omega
 have hR:kVis W (r'+1) a (x,m)=kBody (kVis W r') W a (x,m):=by
  rw [kVis,if_neg h0]
 rw [hR]
 unfold kBody
 rcases hk01 with hk0|hk1
 ·obtain⟨o,d,p,hT,o1,o2,hd,hp⟩:=str_dec z0 z1 hk0
  rw [if_pos hk0,hT]
  exact visit_str b A W D X O w0 r' E hW hD a x m aI dep _ w haI hb hk hm0 hm1 hs ha hd0 hd1 rfl h0 o d p hT o1 o2 hd hp (by omega) (hV r' rfl) hr'
 ·obtain⟨o,e,c,hT,o1,o2,he0,he7,hc0,hc1⟩:=lst_dec z0 z1 hk1
  rw [if_neg (by omega),if_pos hk1,hT]
  by_cases h7:e=7
  ·subst h7
   obtain⟨c,rfl⟩:=Int.eq_ofNat_of_zero_le hc0
   rw [if_pos rfl]
   exact visit_cmp b A W D X O w0 r' E hW hD a x m aI dep _ w haI hb hk hm0 hm1 hs ha hd0 hd1 rfl h0 o c hT o1 o2 (by omega) (by omega) (hV r' rfl) hr'
  ·rw [if_neg h7]
   have h8:e<7:=by omega
   exact visit_lst b A W D X O w0 r' E hW hD a x m aI dep _ w haI hb hk hm0 hm1 hs ha hd0 hd1 rfl h0 o e c hT o1 o2 he0 h8 hc0 hc1 (by omega) (hV r' rfl) hr'
theorem visitK (b:Nat)(A:Option Addr)(W:List Int)(D X O:Int)(w0:World)(E:EnvD b A [W] w0)(hW:Wds W)(hD:D≤900):∀r,VisL b A W D X O w0 r
 | 0=>visit_step b A W D X O w0 0 E hW hD (fun r' h=>by omega)
 | r+1=>visit_step b A W D X O w0 (r+1) E hW hD (fun r' h=>by
  obtain rfl:r=r':=by omega
  exact visitK b A W D X O w0 E hW hD r)
end
theorem size_d (x:Nd):x.d.length<sizeN x∧x.ks.length<sizeN x:=by
 obtain⟨k,e,n,d,ks⟩:=x
 have:=sizeK_length ks
 simp only [sizeN,Nd.d,Nd.ks]
 omega
theorem canO_own {x:Nd}(h:validN x=true)(M:Nat)(hM:sizeN x≤M):canO x≤((sizeN x:Int)-sizeK (targN x))*(2*M):=by
 obtain⟨k,e,n,d,ks⟩:=x
 have hk:=valid_k h
 simp only [Nd.k] at hk
 have hs:sizeN (.mk k e n d ks)=1+d.length+sizeK ks:=by simp only [sizeN]
 have hkl:=sizeK_length ks
 have hmul:∀p q:Int,0≤p→1≤q→p≤q*p:=fun p q hp hq=>by
  have:=Int.mul_le_mul_of_nonneg_right hq hp
  rwa [Int.one_mul] at this
 rcases hk with rfl|rfl|rfl
 ·rw [head_nul h]
  have e1:canO nd0=0:=rfl
  have e2:((sizeN nd0:Int)-sizeK (targN nd0))=1:=rfl
  rw [e1,e2]
  omega
 ·have hT:targN (.mk 1 e n d ks)=ks:=by rw [targN_mk,if_neg (by omega)]
  have hO:canO (.mk 1 e n d ks)=((d.length / 8+ks.length:Nat):Int):=rfl
  rw [hT,hO,hs]
  have h1:=hmul (2*M) ((1+d.length+sizeK ks:Nat)-(sizeK ks:Int)) (by omega) (by omega)
  omega
 ·obtain⟨g1,g2,g3,g4,g5,g6⟩:=head_lst h
  by_cases h7:e=7
  ·subst h7
   have hT:targN (.mk 2 7 n d ks)=kk ks:=by rw [targN_mk,if_pos ⟨rfl,rfl⟩]
   have hO:canO (.mk 2 7 n d ks)=1+n*((uniD ks ks.length+uniP ks ks.length:Nat):Int):=by
    show canOf 2 7 n d ks=_
    unfold canOf
    rw [if_neg (show ¬((2:Int)=0) by decide),if_neg (show ¬((2:Int)=1) by decide),if_pos rfl]
   obtain⟨-,g8⟩:=g5 (by decide)
   have hk2:=sizeK_kk2 ks
   have hu:∀y∈ks,y.d.length / 8≤M∧y.ks.length≤M:=fun y hy=>by
    have h1:=sizeN_kid hy
    have h2:=size_d y
    omega
   have hu1:=uniD_le ks M ks.length (Nat.le_refl _) (fun y hy=>(hu y hy).1)
   have hu2:=uniP_le ks M ks.length (Nat.le_refl _) (fun y hy=>(hu y hy).2)
   rw [hT,hO,hs,←g8]
   have h1:(ks.length:Int)*((uniD ks ks.length+uniP ks ks.length:Nat):Int)≤(ks.length:Int)*(2*M):=Int.mul_le_mul_of_nonneg_left (by omega) (by omega)
   have h2:((ks.length:Int)+1)*(2*M)≤(((1+d.length+sizeK ks:Nat):Int)-sizeK (kk ks))*(2*M):=Int.mul_le_mul_of_nonneg_right (by omega) (by omega)
   rw [Int.add_mul,Int.one_mul] at h2
   omega
  ·have hT:targN (.mk 2 e n d ks)=ks:=by rw [targN_mk,if_neg (by omega)]
   have hO:canO (.mk 2 e n d ks)=wordsI e n:=by show canOf 2 e n d ks=_;unfold canOf;rw [if_neg (show ¬((2:Int)=0) by decide),if_neg (show ¬((2:Int)=1) by decide),if_neg h7]
   have hwI:wordsI e n=(bitsI e*n+63) / 64:=by unfold wordsI;rw [if_neg h7]
   have hbi:=bitsI_mul e n g1
   rw [hT,hO,hs]
   have h1:=hmul (2*M) ((1+d.length+sizeK ks:Nat)-(sizeK ks:Int)) (by omega) (by omega)
   rcases(by omega:e<6∨e=6) with h|h
   ·obtain⟨-,g8,-⟩:=g6 h
    have hBI:bytesI e n=(bitsI e*n+7) / 8:=rfl
    omega
   ·obtain⟨-,g8⟩:=g5 (by omega)
    omega
theorem can_own:∀x:Nd,validN x=true→∀M:Nat,sizeN x≤M→canN x≤(sizeN x:Int)*(2*M):=size_ind (by
 intro x ih h M hM
 have h1:=canO_own h M hM
 have h2:∀l:List Nd,(∀y∈l,canN y≤(sizeN y:Int)*(2*M))→canK l≤(sizeK l:Int)*(2*M):=by
  intro l hl
  induction l with
  | nil=>simp [canK,sizeK]
  | cons y ys ih2=>
   have h3:=hl y (List.mem_cons_self ..)
   have h4:=ih2 (fun z hz=>hl z (List.mem_cons_of_mem _ hz))
   simp only [canK,sizeK]
   rw [Int.natCast_add,Int.add_mul]
   omega
 have h3:=h2 (targN x) (fun y hy=>ih y (targ_lt hy) (valid_targ h y hy) M (by have:=targ_lt hy;omega))
 rw [Int.sub_mul] at h1
 rw [canN_eq]
 omega)
theorem can_few {x:Nd}(h:validN x=true)(hs:sizeN x≤3000):0≤canN x∧canN x≤18000000:=by
 have h1:=can_own x h 3000 hs
 refine⟨(can_size x h).1,Int.le_trans h1 ?_⟩
 omega
end Go.Proofs.YtclpapddejgpnaaDoor
