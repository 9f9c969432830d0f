/- The texts Ref09, Ref10c, Ref12v, Budget (what is wanted of them), one after the other. -/
import Derived.Test.YtfaflahfjgnphaaGreatDoorMg22
namespace Go.Proofs.YtfaflahfjgnphaaGreatDoor
open Go.ChangeShapes Go.WideShapes Go.ChangeAt Go.RowKit
set_option linter.unusedVariables false
set_option linter.unusedSimpArgs false
set_option maxRecDepth 100000
def startI (x:Int):Int:=if x<0 then 0 else x
def enterI (dep d:Int):Int:=if d≤dep then 0 else 7
def chargeI (m c:Int):Int:=if m<c then m else m-c
def chargeE (m c:Int):Int:=if m<c then 8 else 0
theorem RefStart_any (d x o:Int)(w:World):Calls Tryz.prog 35 #[.agg #[.int .i64 d,.int .i64 x,.int .i64 o]] w fun e w'=>e=.returned (.agg #[.int .i64 (startI x)])∧Below w.heap.size w w':=by
 by_cases h:x<0
 ·have HS:Hid (startI x=0):=Lib.hid (by simp [startI,h])
  go_enter Tryz.func35,Tryz.ntmps35
  go_wp2
  refine bodyPost_ret (v:=.agg #[.int .i64 0]) (by simp [results,Tryz.results35,go_sem]) rfl ⟨by rw [HS.out],?_⟩
  exact((Below.refl _ _).alloc (Nat.le_refl _) _).alloc (by simp) _
 ·have HS:Hid (startI x=x):=Lib.hid (by simp [startI,h])
  go_enter Tryz.func35,Tryz.ntmps35
  go_wp2
  refine bodyPost_ret (v:=.agg #[.int .i64 x]) (by simp [results,Tryz.results35,go_sem]) rfl ⟨by rw [HS.out],?_⟩
  exact((Below.refl _ _).alloc (Nat.le_refl _) _).alloc (by simp) _
theorem RefCharge_any (m c:Int)(w:World)(hm0:-9223372036854775808≤m)(hm1:m≤9223372036854775807)(hc:0≤c):
  Calls Tryz.prog 58 #[.agg #[.int .i64 m],.int .i64 c] w fun e w'=>e=.returned (.tuple #[.agg #[.int .i64 (chargeI m c)],.int .i64 (chargeE m c)])∧Below w.heap.size w w':=by
 by_cases h:m<c
 ·have HS:Hid (chargeI m c=m):=Lib.hid (by simp [chargeI,h])
  have HE:Hid (chargeE m c=8):=Lib.hid (by simp [chargeE,h])
  go_enter Tryz.func58,Tryz.ntmps58
  go_wp2
  refine bodyPost_ret (v:=.tuple #[.agg #[.int .i64 m],.int .i64 8]) (by simp [results,Tryz.results58,go_sem]) rfl ⟨by rw [HS.out,HE.out],?_⟩
  exact((Below.refl _ _).alloc (Nat.le_refl _) _).alloc (by simp) _
 ·have HS:Hid (chargeI m c=m-c):=Lib.hid (by simp [chargeI,h])
  have HE:Hid (chargeE m c=0):=Lib.hid (by simp [chargeE,h])
  go_enter Tryz.func58,Tryz.ntmps58
  go_wp2
  refine bodyPost_ret (v:=.tuple #[.agg #[.int .i64 (m-c)],.int .i64 0]) (by simp [results,Tryz.results58,go_sem]) rfl ⟨by rw [HS.out,HE.out],?_⟩
  exact((Below.refl _ _).alloc (Nat.le_refl _) _).alloc (by simp) _
section
attribute [local simp] AllK KnowsV look Is
def GotB (base:Nat)(l:List Int):Fact:=fun v w=>Got w base 5 .u8 v l
theorem stable_gotb (base:Nat)(l:List Int):stable (GotB base l):=fun v w w' h hb=>Got.below h hb (Nat.le_refl _)
attribute [local irreducible] headB trimL bytesI
end
section
attribute [local simp] AllK KnowsV look Is
theorem bel_on' {n:Nat}{w W W':World}(h:Below n w W)(hb:Below W.heap.size W W')(hn:n≤W.heap.size):Below n w W':=h.trans (hb.mono hn)
def TupF (lo:Nat)(x:Val):Fact:=fun v w=>∃u,v=.tuple #[u,.agg #[.int .i64 x.m],.int .i64 x.e]∧NodF lo x.n u w
def TupU (x:Val):Fact:=fun v _=>∃u,v=.tuple #[u,.agg #[.int .i64 x.m],.int .i64 x.e]
theorem stable_tup (lo:Nat)(x:Val):stable (TupF lo x):=fun v w w' ⟨u,h1,h2⟩ hb=>⟨u,h1,stable_nod lo x.n u w w' h2 hb⟩
theorem free_tup (x:Val):free (TupU x):=fun _ _ _ h=>h
theorem TupF.u {lo:Nat}{x:Val}{v:Value}{w:World}(h:TupF lo x v w):TupU x v w:=⟨h.choose,h.choose_spec.1⟩
theorem NodF.lower {lo lo':Nat}{x:Nd}{v:Value}{w:World}(h:NodF lo x v w)(hl:lo'≤lo):NodF lo' x v w:=by
 obtain⟨A,c,B,c2,hi,h1,h2,h3⟩:=h
 exact⟨A,c,B,c2,hi,h1,h2,h3.wide hl (Nat.le_refl _)⟩
theorem list_bytes {ls:List (List Int)}(hw:Wd2 ls)(hm:ls.length≤40)(hf:∀j,(seg ls j).length≤20000000)(s a:Int)(q:Ob×Int)(hq:objF ls s a=q)(h1:¬q.2≠0)(h2:¬q.1.k=1)(h3:q.1.el<6):bytesI q.1.el q.1.n≤8*(datW ls q.1.sg q.1.at' q.1.cost).length:=by
 have h:=objF_cases hw (by omega) (fun j=>by have:=hf j;omega) s a
 rw [hq] at h
 obtain⟨⟨k,sg,at',d,p,el,n,cost⟩,e⟩:=q
 simp only [ob0,Ob.mk.injEq] at h h1 h2 h3 ⊢
 rcases h with ⟨⟨rfl,rfl,rfl,rfl,rfl,rfl,rfl,rfl⟩,h4⟩|⟨-,h4,-⟩|⟨-,-,h4,h5,h6,h7,rfl,rfl,rfl,h8⟩|⟨-,-,h4,-⟩
 ·show (0:Int)≤_
  omega
 ·exact absurd h4 h2
 ·have h9:=inB_iff.1 h8
  have hl:(datW ls sg at' (wordsI el n)).length=(wordsI el n).toNat:=by
   unfold datW
   rw [if_pos h8]
   unfold sliceL
   rw [List.length_take,List.length_drop]
   omega
  rw [hl]
  have h10:=bitsI_mul el n h6
  unfold wordsI bytesI at *
  rw [if_neg (by omega)] at *
  omega
 ·omega
set_option maxHeartbeats 8000000 in
set_option maxRecDepth 100000 in
theorem RefValue12_step (A:Option Addr)(c:Nat)(ls:List (List Int))(D X O:Int)(hw:Wd2 ls)(hm:ls.length≤40)(hf:∀j,(seg ls j).length≤20000000)(r:Nat)(hD:D≤900)(hV:∀r',r=r'+1→ValC A c ls D X O r'):ValC A c ls D X O r:=by
 intro m s a dep w hs hm0 hm1 hd0 hd1 hr
 have Hs:=Lib.hid hs
 have HV:=Lib.hid hV
 have HFO:=Lib.hid (fun w' hs'=>RefFollow_any A c ls s a w' hs' hw (by omega) (fun j=>by have:=hf j;omega))
 have HOB:=Lib.hid (fun w' hs'=>RefObject_any A c ls s a w' hs' hw (by omega) (fun j=>by have:=hf j;omega))
 have HST:=Lib.hid (fun r' hr' m' o' dep' w' hs' h0 h1=>RefStruct12 A c ls D X O r' (hV r' hr') hw hm hf m' o' dep' w' hs' h0 h1)
 have HON:=Lib.hid (fun q=>objF_num hw hm hf s a (q:=q))
 have HLI:=Lib.hid (fun q=>list_bytes hw hm hf s a q)
 have HSL:=Lib.hid (fun s a n w' hs'=>sliceW (A:=A) (c:=c) hm hf s a n w' hs')
 have HDW:=Lib.hid (fun s a n=>datW_wds hw s a n)
 have HDL:=Lib.hid (fun s a n=>datW_length hf s a n)
 have HMV:=Lib.hid (fun r'=>valV_m hw hm hf r')
 have HVV:Hid ((followF ls s a).e≠0∨(followF ls s a).w=0→valV ls r m s a=errV m (followF ls s a).e):=Lib.hid (fun h=>by cases r<;>(unfold valV;rw [if_pos h]))
 have HVN:Hid (¬((followF ls s a).e≠0∨(followF ls s a).w=0)→(r=0→valV ls r m s a=errV m 7)∧∀r',r=r'+1→valV ls r m s a=bodyV (valV ls r') ls m (objF ls s a)):=Lib.hid (fun h=>⟨fun h0=>by subst h0;unfold valV;rw [if_neg h],fun r' h0=>by subst h0;unfold valV;rw [if_neg h]⟩)
 clear hs hV hw hf
 generalize hsv:valV ls r m s a=sv at *
 clear hsv
 generalize followF ls s a=fo at *
 go_enter Tryz.func34,Tryz.ntmps34
 go_wp2_with fail
 refine abs_world (F:=fun W=>Blk W w.heap.size #[.int .i64 D,.int .i64 X,.int .i64 O]∧Blk W (w.heap.size+1) #[.int .i64 m]∧Blk W (w.heap.size+1+1) #[.int .i64 0,.int .i64 0,.int .i64 0,.slice none 0 0,.slice none 0 0]∧Blk W (w.heap.size+1+1+1) #[.int .i64 0]∧Blk W (w.heap.size+1+1+1+1) #[.int .i64 0,.int .i64 0,.int .i64 0,.slice none 0 0,.slice none 0 0]∧Below w.heap.size w W) ⟨?_,?_,?_,?_,?_,?_⟩ ?_
 ·exact((((Blk.fresh _ _ _).alloc _).alloc _).alloc _).alloc _
 ·exact(((Blk.new (by simp)).alloc _).alloc _).alloc _
 ·exact((Blk.new (by simp)).alloc _).alloc _
 ·exact(Blk.new (by simp)).alloc _
 ·exact Blk.new (by simp)
 ·exact(((((Below.refl _ _).alloc (Nat.le_refl _) _).alloc (by simp) _).alloc (by simp;omega) _).alloc (by simp;omega) _).alloc (by simp;omega) _
 rintro W ⟨h0,h1,h2,h3,h4,hb⟩
 refine(HFO.out W (Hs.out.below hb (Nat.le_refl _))).mono ?_
 rintro e w1 ⟨rfl,hb1⟩
 have K0:=Lib.hid (h0.below hb1)
 have k1:=h1.below hb1
 have k2:=h2.below hb1
 have k3:=h3.below hb1
 have k4:=h4.below hb1
 have K1:=Lib.hid k1
 have K2:=Lib.hid k2
 have K3:=Lib.hid k3
 have K4:=Lib.hid k4
 have HB:=Lib.hid (bel_on hb hb1)
 clear h0 h1 h2 h3 h4 hb hb1 HFO
 obtain⟨x1,y1,z1⟩:=k1
 obtain⟨x2,y2,z2⟩:=k2
 obtain⟨x3,y3,z3⟩:=k3
 obtain⟨x4,y4,z4⟩:=k4
 by_cases h1:fo.e≠0
 ·have t1:(fo.e != 0)=true:=bne_iff_ne.2 h1
  have HS:Hid (sv=errV m fo.e):=Lib.hid (HVV.out (.inl h1))
  clear h1
  go_wp2
  go_region
  go_wp2
  refine abs_post (F:=fun W=>Blk W (w.heap.size+1+1) #[.int .i64 0,.int .i64 0,.int .i64 0,.slice none 0 0,.slice none 0 0]∧Blk W (w.heap.size+1+1+1) #[.int .i64 m]∧Below w.heap.size w W) ⟨?_,?_,?_⟩ ?_
  ·exact((((((K2.out.set 0 (by simp) _).set 1 (by simp) _).set 2 (by simp) _).set 3 (by simp) _).set 4 (by simp) _).other (by simp) _).drew
  ·exact((((((K3.out.other (by simp) _).other (by simp) _).other (by simp) _).other (by simp) _).other (by simp) _).set 0 (by simp) _).drew
  ·refine bel_drew (Below.setCell (Below.setCell (Below.setCell (Below.setCell (Below.setCell (Below.setCell HB.out ?_ _) ?_ _) ?_ _) ?_ _) ?_ _) ?_ _)<;>(simp;omega)
  rintro W5 ⟨B6,B7,hbw⟩
  exact bodyPost_ret (v:=.tuple #[.agg #[.int .i64 0,.int .i64 0,.int .i64 0,.slice none 0 0,.slice none 0 0],.agg #[.int .i64 m],.int .i64 fo.e]) (by simp [results,Tryz.results34,go_sem,B6.cell,B7.cell]) rfl ⟨_,by rw [HS.out];rfl,by rw [HS.out];exact nod_zero _ _,hbw⟩
 have h1':fo.e=0:=Classical.byContradiction h1
 have t1:(fo.e != 0)=false:=by rw [h1'];rfl
 have H1:=Lib.hid h1'
 clear h1 h1'
 by_cases h2:fo.w=0
 ·have t2:(fo.w==0)=true:=beq_iff_eq.2 h2
  have HS:Hid (sv=errV m fo.e):=Lib.hid (HVV.out (.inr h2))
  clear h2
  go_wp2
  go_region
  go_wp2
  refine abs_post (F:=fun W=>Blk W (w.heap.size+1+1) #[.int .i64 0,.int .i64 0,.int .i64 0,.slice none 0 0,.slice none 0 0]∧Blk W (w.heap.size+1+1+1) #[.int .i64 m]∧Below w.heap.size w W) ⟨?_,?_,?_⟩ ?_
  ·exact((((((K2.out.set 0 (by simp) _).set 1 (by simp) _).set 2 (by simp) _).set 3 (by simp) _).set 4 (by simp) _).other (by simp) _).drew
  ·exact((((((K3.out.other (by simp) _).other (by simp) _).other (by simp) _).other (by simp) _).other (by simp) _).set 0 (by simp) _).drew
  ·refine bel_drew (Below.setCell (Below.setCell (Below.setCell (Below.setCell (Below.setCell (Below.setCell HB.out ?_ _) ?_ _) ?_ _) ?_ _) ?_ _) ?_ _)<;>(simp;omega)
  rintro W5 ⟨B6,B7,hbw⟩
  exact bodyPost_ret (v:=.tuple #[.agg #[.int .i64 0,.int .i64 0,.int .i64 0,.slice none 0 0,.slice none 0 0],.agg #[.int .i64 m],.int .i64 fo.e]) (by simp [results,Tryz.results34,go_sem,B6.cell,B7.cell]) rfl ⟨_,by rw [HS.out];rfl,by rw [HS.out];exact nod_zero _ _,hbw⟩
 have t2:(fo.w==0)=false:=beq_eq_false_iff_ne.2 h2
 have HNW:Hid (¬(fo.e≠0∨fo.w=0)):=Lib.hid (fun h=>by rcases h with h|h;exact h H1.out;exact h2 h)
 clear h2
 obtain⟨x0,y0,z0⟩:=K0.out
 cases r with
 | zero=>
  have hdd:D<dep:=by omega
  have HS:Hid (sv=errV m 7):=Lib.hid ((HVN.out HNW.out).1 rfl)
  go_wp2
  go_region
  go_wp2
  refine abs_post (F:=fun W=>Blk W (w.heap.size+1+1) #[.int .i64 0,.int .i64 0,.int .i64 0,.slice none 0 0,.slice none 0 0]∧Blk W (w.heap.size+1+1+1) #[.int .i64 m]∧Below w.heap.size w W) ⟨?_,?_,?_⟩ ?_
  ·exact((((((K2.out.set 0 (by simp) _).set 1 (by simp) _).set 2 (by simp) _).set 3 (by simp) _).set 4 (by simp) _).other (by simp) _).drew
  ·exact((((((K3.out.other (by simp) _).other (by simp) _).other (by simp) _).other (by simp) _).other (by simp) _).set 0 (by simp) _).drew
  ·refine bel_drew (Below.setCell (Below.setCell (Below.setCell (Below.setCell (Below.setCell (Below.setCell HB.out ?_ _) ?_ _) ?_ _) ?_ _) ?_ _) ?_ _)<;>(simp;omega)
  rintro W5 ⟨B6,B7,hbw⟩
  exact bodyPost_ret (v:=.tuple #[.agg #[.int .i64 0,.int .i64 0,.int .i64 0,.slice none 0 0,.slice none 0 0],.agg #[.int .i64 m],.int .i64 7]) (by simp [results,Tryz.results34,go_sem,B6.cell,B7.cell]) rfl ⟨_,by rw [HS.out];rfl,by rw [HS.out];exact nod_zero _ _,hbw⟩
 | succ r=>
 have hdd:¬D<dep:=by omega
 have HVB:Hid (sv=bodyV (valV ls r) ls m (objF ls s a)):=Lib.hid ((HVN.out HNW.out).2 r rfl)
 have HVr:=Lib.hid (HV.out r rfl)
 have HSr:=Lib.hid (fun m' o' dep' w' hs' h0 h1=>HST.out r rfl m' o' dep' w' hs' h0 h1)
 have hmv:=HMV.out r
 clear HVV HVN HV HST HMV
 go_wp2_with fail
 refine(HOB.out _ (Hs.out.below HB.out (Nat.le_refl _))).mono ?_
 rintro e w2 ⟨rfl,hb2⟩
 obtain⟨q,hq⟩:∃q,objF ls s a=q:=⟨_,rfl⟩
 have hon:=HON.out q hq
 rw [hq] at HVB
 rw [hq]
 have HQ:=Lib.hid hq
 clear hq
 have K0n:=Lib.hid (K0.out.below hb2)
 have K1n:=Lib.hid (K1.out.below hb2)
 have K2n:=Lib.hid (K2.out.below hb2)
 have K3n:=Lib.hid (K3.out.below hb2)
 have K4n:=Lib.hid (K4.out.below hb2)
 have HBn:=Lib.hid (bel_on HB.out hb2)
 clear hb2 K0 K1 K2 K3 K4 HB
 have K0:=K0n
 have K1:=K1n
 have K2:=K2n
 have K3:=K3n
 have K4:=K4n
 have HB:=HBn
 clear K0n K1n K2n K3n K4n HBn
 clear x0 y0 z0
 obtain⟨x0,y0,z0⟩:=K0.out
 clear x1 y1 z1
 obtain⟨x1,y1,z1⟩:=K1.out
 clear x2 y2 z2
 obtain⟨x2,y2,z2⟩:=K2.out
 clear x3 y3 z3
 obtain⟨x3,y3,z3⟩:=K3.out
 clear x4 y4 z4
 obtain⟨x4,y4,z4⟩:=K4.out
 by_cases h3:q.2≠0
 ·have t3:(q.2 != 0)=true:=bne_iff_ne.2 h3
  have HS:Hid (sv=errV m q.2):=Lib.hid (by rw [HVB.out];unfold bodyV;rw [if_pos h3])
  clear h3
  go_wp2
  have k1:=K1.out.alloc (.cells #[.int .i64 q.1.k,.int .i64 q.1.sg,.int .i64 q.1.at',.int .i64 q.1.d,.int .i64 q.1.p,.int .i64 q.1.el,.int .i64 q.1.n,.int .i64 q.1.cost] 48)
  have k2:=K2.out.alloc (.cells #[.int .i64 q.1.k,.int .i64 q.1.sg,.int .i64 q.1.at',.int .i64 q.1.d,.int .i64 q.1.p,.int .i64 q.1.el,.int .i64 q.1.n,.int .i64 q.1.cost] 48)
  have k3:=K3.out.alloc (.cells #[.int .i64 q.1.k,.int .i64 q.1.sg,.int .i64 q.1.at',.int .i64 q.1.d,.int .i64 q.1.p,.int .i64 q.1.el,.int .i64 q.1.n,.int .i64 q.1.cost] 48)
  have k4:=K4.out.alloc (.cells #[.int .i64 q.1.k,.int .i64 q.1.sg,.int .i64 q.1.at',.int .i64 q.1.d,.int .i64 q.1.p,.int .i64 q.1.el,.int .i64 q.1.n,.int .i64 q.1.cost] 48)
  have hbv:=HB.out.alloc HB.out.size (.cells #[.int .i64 q.1.k,.int .i64 q.1.sg,.int .i64 q.1.at',.int .i64 q.1.d,.int .i64 q.1.p,.int .i64 q.1.el,.int .i64 q.1.n,.int .i64 q.1.cost] 48)
  generalize w2.alloc (.cells #[.int .i64 q.1.k,.int .i64 q.1.sg,.int .i64 q.1.at',.int .i64 q.1.d,.int .i64 q.1.p,.int .i64 q.1.el,.int .i64 q.1.n,.int .i64 q.1.cost] 48)=V at k1 k2 k3 k4 hbv ⊢
  clear K1 K2 K3 K4 HB x1 y1 z1 x2 y2 z2 x3 y3 z3 x4 y4 z4
  have K2:=Lib.hid k2
  have K3:=Lib.hid k3
  have HB:=Lib.hid hbv
  clear hbv
  obtain⟨x1,y1,z1⟩:=k1
  obtain⟨x2,y2,z2⟩:=k2
  obtain⟨x3,y3,z3⟩:=k3
  obtain⟨x4,y4,z4⟩:=k4
  go_region
  go_wp2
  refine abs_post (F:=fun W=>Blk W (w.heap.size+1+1) #[.int .i64 0,.int .i64 0,.int .i64 0,.slice none 0 0,.slice none 0 0]∧Blk W (w.heap.size+1+1+1) #[.int .i64 m]∧Below w.heap.size w W) ⟨?_,?_,?_⟩ ?_
  ·exact((((((K2.out.set 0 (by simp) _).set 1 (by simp) _).set 2 (by simp) _).set 3 (by simp) _).set 4 (by simp) _).other (by simp) _).drew
  ·exact((((((K3.out.other (by simp) _).other (by simp) _).other (by simp) _).other (by simp) _).other (by simp) _).set 0 (by simp) _).drew
  ·refine bel_drew (Below.setCell (Below.setCell (Below.setCell (Below.setCell (Below.setCell (Below.setCell HB.out ?_ _) ?_ _) ?_ _) ?_ _) ?_ _) ?_ _)<;>(simp;omega)
  rintro W5 ⟨B6,B7,hbw⟩
  exact bodyPost_ret (v:=.tuple #[.agg #[.int .i64 0,.int .i64 0,.int .i64 0,.slice none 0 0,.slice none 0 0],.agg #[.int .i64 m],.int .i64 q.2]) (by simp [results,Tryz.results34,go_sem,B6.cell,B7.cell]) rfl ⟨_,by rw [HS.out];rfl,by rw [HS.out];exact nod_zero _ _,hbw⟩
 have h3':q.2=0:=Classical.byContradiction h3
 have t3:(q.2 != 0)=false:=by rw [h3'];rfl
 have H3:=Lib.hid h3
 clear h3 h3'
 have xb:=(K1.out.alloc (.cells #[.int .i64 q.1.k,.int .i64 q.1.sg,.int .i64 q.1.at',.int .i64 q.1.d,.int .i64 q.1.p,.int .i64 q.1.el,.int .i64 q.1.n,.int .i64 q.1.cost] 48)).cell
 go_wp2_with fail
 refine abs_world (F:=fun W=>Blk W w.heap.size #[.int .i64 D,.int .i64 X,.int .i64 O]∧Blk W (w.heap.size+1) #[.int .i64 m]∧Blk W (w.heap.size+1+1) #[.int .i64 0,.int .i64 0,.int .i64 0,.slice none 0 0,.slice none 0 0]∧Blk W (w.heap.size+1+1+1) #[.int .i64 0]∧Blk W (w.heap.size+1+1+1+1) #[.int .i64 0,.int .i64 0,.int .i64 0,.slice none 0 0,.slice none 0 0]∧Blk W w2.heap.size #[.int .i64 q.1.k,.int .i64 q.1.sg,.int .i64 q.1.at',.int .i64 q.1.d,.int .i64 q.1.p,.int .i64 q.1.el,.int .i64 q.1.n,.int .i64 q.1.cost]∧Below w.heap.size w W) ⟨?_,?_,?_,?_,?_,?_,?_⟩ ?_
 ·exact K0.out.alloc _
 ·exact K1.out.alloc _
 ·exact K2.out.alloc _
 ·exact K3.out.alloc _
 ·exact K4.out.alloc _
 ·exact Blk.fresh _ _ _
 ·exact HB.out.alloc HB.out.size _
 have hbo:=K4.out.lt
 generalize w2.heap.size=bo at *
 clear K0 K1 K2 K3 K4 HB x0 y0 z0 x1 y1 z1 x2 y2 z2 x3 y3 z3 x4 y4 z4 xb
 rintro W2 ⟨h0,h1,h2,h3,h4,h5,hb⟩
 refine(RefCharge_any m q.1.cost _ (by omega) (by omega) (by omega)).mono ?_
 rintro e w3 ⟨rfl,hb3⟩
 have K0:=Lib.hid (h0.below hb3)
 have K2:=Lib.hid (h2.below hb3)
 have K3:=Lib.hid (h3.below hb3)
 have K4:=Lib.hid (h4.below hb3)
 have K5:=Lib.hid (h5.below hb3)
 have K1:=Lib.hid (h1.below hb3)
 have HB:=Lib.hid (bel_on hb hb3)
 clear h0 h1 h2 h3 h4 h5 hb hb3
 by_cases h4:m<q.1.cost
 ·have HC:Hid (chargeI m q.1.cost=m∧chargeE m q.1.cost=8):=Lib.hid ⟨if_pos h4,if_pos h4⟩
  have HS:Hid (sv=errV m 8):=Lib.hid (by rw [HVB.out];unfold bodyV;rw [if_neg H3.out,if_pos h4])
  rw [HC.out.1,HC.out.2]
  clear h4
  go_wp2
  have k1:=K1.out.alloc (.cells #[.int .i64 m] 65)
  have k2:=K2.out.alloc (.cells #[.int .i64 m] 65)
  have k3:=K3.out.alloc (.cells #[.int .i64 m] 65)
  have k4:=K4.out.alloc (.cells #[.int .i64 m] 65)
  have hbv:=HB.out.alloc HB.out.size (.cells #[.int .i64 m] 65)
  generalize w3.alloc (.cells #[.int .i64 m] 65)=V at k1 k2 k3 k4 hbv ⊢
  clear K1 K2 K3 K4 HB
  have K2:=Lib.hid k2
  have K3:=Lib.hid k3
  have HB:=Lib.hid hbv
  clear hbv
  obtain⟨x1,y1,z1⟩:=k1
  obtain⟨x2,y2,z2⟩:=k2
  obtain⟨x3,y3,z3⟩:=k3
  obtain⟨x4,y4,z4⟩:=k4
  go_region
  go_wp2
  refine abs_post (F:=fun W=>Blk W (w.heap.size+1+1) #[.int .i64 0,.int .i64 0,.int .i64 0,.slice none 0 0,.slice none 0 0]∧Blk W (w.heap.size+1+1+1) #[.int .i64 m]∧Below w.heap.size w W) ⟨?_,?_,?_⟩ ?_
  ·exact((((((K2.out.set 0 (by simp) _).set 1 (by simp) _).set 2 (by simp) _).set 3 (by simp) _).set 4 (by simp) _).other (by simp) _).drew
  ·exact((((((K3.out.other (by simp) _).other (by simp) _).other (by simp) _).other (by simp) _).other (by simp) _).set 0 (by simp) _).drew
  ·refine bel_drew (Below.setCell (Below.setCell (Below.setCell (Below.setCell (Below.setCell (Below.setCell HB.out ?_ _) ?_ _) ?_ _) ?_ _) ?_ _) ?_ _)<;>(simp;omega)
  rintro W5 ⟨B6,B7,hbw⟩
  exact bodyPost_ret (v:=.tuple #[.agg #[.int .i64 0,.int .i64 0,.int .i64 0,.slice none 0 0,.slice none 0 0],.agg #[.int .i64 m],.int .i64 8]) (by simp [results,Tryz.results34,go_sem,B6.cell,B7.cell]) rfl ⟨_,by rw [HS.out];rfl,by rw [HS.out];exact nod_zero _ _,hbw⟩
 have HC:Hid (chargeI m q.1.cost=m-q.1.cost∧chargeE m q.1.cost=0):=Lib.hid ⟨if_neg h4,if_neg h4⟩
 rw [HC.out.1,HC.out.2]
 have H4:=Lib.hid h4
 obtain⟨lf,hlf⟩:∃lf,lf=m-q.1.cost:=⟨_,rfl⟩
 rw [←hlf]
 have hlf0:0≤lf:=by omega
 have hlf1:lf≤m:=by omega
 have HLF:=Lib.hid hlf
 clear h4 hlf HC
 obtain⟨x0,y0,z0⟩:=K0.out
 obtain⟨x5,y5,z5⟩:=K5.out
 have xb:=(K5.out.alloc (.cells #[.int .i64 lf] 65)).cell
 have xc:=(K0.out.alloc (.cells #[.int .i64 lf] 65)).cell
 by_cases h5:q.1.k=1
 ·have t5:(q.1.k==1)=true:=beq_iff_eq.2 h5
  have HS:Hid (sv=structV (valV ls r) ls lf q.1):=Lib.hid (by rw [HVB.out];unfold bodyV;rw [if_neg H3.out,if_neg H4.out,if_pos h5,HLF.out])
  clear h5
  go_wp2_with fail
  refine abs_world (F:=fun W=>Blk W (w.heap.size+1+1) #[.int .i64 0,.int .i64 0,.int .i64 0,.slice none 0 0,.slice none 0 0]∧Blk W (w.heap.size+1+1+1) #[.int .i64 0]∧Below w.heap.size w W∧bo<W.heap.size) ⟨?_,?_,?_,?_⟩ ?_
  ·exact K2.out.alloc _
  ·exact K3.out.alloc _
  ·exact HB.out.alloc HB.out.size _
  ·have:=K5.out.lt;simp;omega
  clear K0 K2 K3 K4 K5 K1 HB x0 y0 z0 x5 y5 z5 xb xc
  rintro W3 ⟨h2,h3,hb,hsz⟩
  refine(HSr.out lf q.1 dep W3 (Hs.out.below hb (Nat.le_refl _)) hlf0 (by omega) hd0 (by omega) (by omega) (by omega) (by omega) (by omega) (by omega) (by omega) (by omega)).mono ?_
  rintro e w4 ⟨v4,rfl,⟨Ak,ck,Bk,ek,hik,rfl,hhk,hok⟩,hb4⟩
  have k2:=h2.below hb4
  have k3:=h3.below hb4
  have K2:=Lib.hid k2
  have K3:=Lib.hid k3
  have HBn:=Lib.hid (bel_on hb hb4)
  have HNK:=Lib.hid hok
  have hsz4:=hb4.size
  clear h2 h3 hb hb4 hok
  obtain⟨x2,y2,z2⟩:=k2
  obtain⟨x3,y3,z3⟩:=k3
  rw [←HS.out]
  rw [←HS.out] at HNK
  go_wp2
  refine abs_post (F:=fun W=>Blk W (w.heap.size+1+1) #[.int .i64 sv.n.k,.int .i64 sv.n.e,.int .i64 sv.n.n,.slice Ak sv.n.d.length ck,.slice Bk sv.n.ks.length ek]∧Blk W (w.heap.size+1+1+1) #[.int .i64 sv.m]∧NdO W3.heap.size hik W Ak ck Bk ek sv.n∧Below w.heap.size w W∧hik≤W.heap.size) ⟨?_,?_,?_,?_,?_⟩ ?_
  ·exact(((((K2.out.set 0 (by simp) _).set 1 (by simp) _).set 2 (by simp) _).set 3 (by simp) _).set 4 (by simp) _).other (by simp) _
  ·exact(((((K3.out.other (by simp) _).other (by simp) _).other (by simp) _).other (by simp) _).other (by simp) _).set 0 (by simp) _
  ·refine HNK.out.to fun g g1 _=>?_
   rw [Below.heap_setCell _ _ _ _ (by simp;omega),Below.heap_setCell _ _ _ _ (by simp;omega),Below.heap_setCell _ _ _ _ (by simp;omega),Below.heap_setCell _ _ _ _ (by simp;omega),Below.heap_setCell _ _ _ _ (by simp;omega),Below.heap_setCell _ _ _ _ (by simp;omega)]
  ·refine Below.setCell (Below.setCell (Below.setCell (Below.setCell (Below.setCell (Below.setCell HBn.out ?_ _) ?_ _) ?_ _) ?_ _) ?_ _) ?_ _<;>(simp;omega)
  ·simp [World.setCell];omega
  rintro W5 ⟨B6,B7,hN,hbw,hhi⟩
  exact bodyPost_ret (v:=.tuple #[.agg #[.int .i64 sv.n.k,.int .i64 sv.n.e,.int .i64 sv.n.n,.slice Ak sv.n.d.length ck,.slice Bk sv.n.ks.length ek],.agg #[.int .i64 sv.m],.int .i64 sv.e]) (by simp [results,Tryz.results34,go_sem,B6.cell,B7.cell]) rfl ⟨_,rfl,⟨Ak,ck,Bk,ek,hik,rfl,hhi,hN.wide (by omega) (Nat.le_refl _)⟩,hbw⟩
 have t5:(q.1.k==1)=false:=beq_eq_false_iff_ne.2 h5
 have H5:=Lib.hid h5
 clear h5
 have hne:bo≠(w.heap.size+1+1+1+1):=by omega
 have hne':¬(w.heap.size+1+1+1+1)=bo:=by omega
 have hkz:=K5.out.lt
 by_cases h6:q.1.el<6
 ·have t6:decide (q.1.el<6)=true:=decide_eq_true h6
  have HS:Hid (sv=⟨.mk 2 q.1.el q.1.n (trimL (bytesOf (datW ls q.1.sg q.1.at' q.1.cost)) q.1.el q.1.n) [],lf,0⟩):=Lib.hid (by rw [HVB.out];unfold bodyV;rw [if_neg H3.out,if_neg H4.out,if_neg H5.out,if_pos h6,HLF.out])
  have HLB:=Lib.hid (HLI.out q HQ.out H3.out H5.out h6)
  have HDW:=Lib.hid (HDW.out q.1.sg q.1.at' q.1.cost)
  have HDL:=Lib.hid (HDL.out q.1.sg q.1.at' q.1.cost)
  clear h6 xb xc
  have k4a:=K4.out.alloc (.cells #[.int .i64 lf] 65)
  have k5a:=K5.out.alloc (.cells #[.int .i64 lf] 65)
  obtain⟨x4a,y4a,z4a⟩:=k4a
  obtain⟨x5a,y5a,z5a⟩:=k5a
  go_wp2_with fail
  refine abs_world (F:=fun W=>Blk W (w.heap.size+1+1) #[.int .i64 0,.int .i64 0,.int .i64 0,.slice none 0 0,.slice none 0 0]∧Blk W (w.heap.size+1+1+1) #[.int .i64 0]∧Blk W (w.heap.size+1+1+1+1) #[.int .i64 2,.int .i64 q.1.el,.int .i64 q.1.n,.slice none 0 0,.slice none 0 0]∧Blk W w3.heap.size #[.int .i64 lf]∧Blk W bo #[.int .i64 q.1.k,.int .i64 q.1.sg,.int .i64 q.1.at',.int .i64 q.1.d,.int .i64 q.1.p,.int .i64 q.1.el,.int .i64 q.1.n,.int .i64 q.1.cost]∧Below w.heap.size w W) ⟨?_,?_,?_,?_,?_,?_⟩ ?_
  ·exact(((K2.out.alloc _).other (by simp;omega) _).other (by simp;omega) _).other (by simp;omega) _
  ·exact(((K3.out.alloc _).other (by simp) _).other (by simp) _).other (by simp) _
  ·exact(((K4.out.alloc _).set 0 (by simp) _).set 1 (by simp) _).set 2 (by simp) _
  ·exact(((Blk.fresh _ _ _).other (by simp;omega) _).other (by simp;omega) _).other (by simp;omega) _
  ·exact(((K5.out.alloc _).other (by simp;omega) _).other (by simp;omega) _).other (by simp;omega) _
  ·refine Below.setCell (Below.setCell (Below.setCell (HB.out.alloc HB.out.size _) ?_ _) ?_ _) ?_ _<;>(simp;omega)
  clear K0 K2 K3 K4 K5 K1 HB x0 y0 z0 x5 y5 z5 x4a y4a z4a x5a y5a z5a
  generalize w3.heap.size=bm at *
  rintro W3 ⟨h2,h3,h4,hm,h5,hb⟩
  refine(HSL.out q.1.sg q.1.at' q.1.cost W3 (Hs.out.below hb (Nat.le_refl _))).mono ?_
  rintro e w4 ⟨v4,b4,rfl,hg4,hb4⟩
  generalize datW ls q.1.sg q.1.at' q.1.cost=dw at *
  obtain⟨A4,c4,rfl,hcl4,hcm4,hri4,hcn4⟩:=hg4.full
  have K2:=Lib.hid (h2.below hb4)
  have K3:=Lib.hid (h3.below hb4)
  have K4:=Lib.hid (h4.below hb4)
  have km:=hm.below hb4
  have KM:=Lib.hid km
  have k5:=h5.below hb4
  have K5:=Lib.hid k5
  have HB:=Lib.hid (bel_on hb hb4)
  have HR4:Hid (Ri w4.drew .u64 A4 dw):=Lib.hid hri4
  clear h2 h3 h4 hm h5 hb hb4 hg4 hcl4 hcm4 hri4 hcn4
  have hzb:(w.heap.size+1+1+1+1)<w4.heap.size:=K4.out.lt
  obtain⟨xm,ym,zm⟩:=km
  obtain⟨x5,y5,z5⟩:=k5
  go_wp2_with fail
  refine wp_region_n8 (by kernel_rfl) (by kernel_rfl) ?_
  refine n_val (u:=?_) [20] (by kernel_rfl) rfl (by kernel_rfl) trivial (fun ρ wc hbc hcn hk=>?_) ?_;rotate_left
  ·obtain⟨hcn,-⟩:=hcn
   simp at hk
   obtain⟨hcc,-⟩:=bcell hbc
   simp at hcc
   go_simp
   rfl
  refine n_val (u:=?_) [110] (by kernel_rfl) rfl (by kernel_rfl) trivial (fun ρ wc hbc hcn hk=>?_) ?_;rotate_left
  ·obtain⟨hcn,-⟩:=hcn
   simp at hk
   obtain⟨hcc,-⟩:=bcell hbc
   simp at hcc
   go_simp
   rfl
  refine n_val (u:=?_) [20] (by kernel_rfl) rfl (by kernel_rfl) trivial (fun ρ wc hbc hcn hk=>?_) ?_;rotate_left
  ·obtain⟨hcn,-⟩:=hcn
   simp at hk
   obtain⟨hcc,-⟩:=bcell hbc
   simp at hcc
   go_simp
   rfl
  refine n_val (u:=?_) [112] (by kernel_rfl) rfl (by kernel_rfl) trivial (fun ρ wc hbc hcn hk=>?_) ?_;rotate_left
  ·obtain⟨hcn,-⟩:=hcn
   simp at hk
   obtain⟨hcc,-⟩:=bcell hbc
   simp at hcc
   go_simp
   rfl
  refine n_val (u:=?_) [24] (by kernel_rfl) rfl (by kernel_rfl) trivial (fun ρ wc hbc hcn hk=>?_) ?_;rotate_left
  ·obtain⟨hcn,-⟩:=hcn
   simp at hk
   obtain⟨hcc,-⟩:=bcell hbc
   simp at hcc
   go_simp
   rfl
  refine n_call (T:=GotB w4.heap.size (bytesOf dw)) 62 [114] (by kernel_rfl) rfl (by kernel_rfl) trivial (stable_gotb _ _) (fun ρ wc hbc hcn hk=>?_) ?_
  ·obtain⟨hcn,hfn⟩:=hcn
   simp at hk
   refine⟨_,by go_simp;rfl,?_⟩
   refine(RefBytes_any A4 c4 dw _ (HR4.out.below hbc (Nat.le_refl _)) HDW.out (by have:=HDL.out;omega)).mono ?_
   rintro r w' ⟨v,rfl,hg,hb⟩
   exact⟨_,rfl,hg.mono hbc.size,hb⟩
  refine n_call (T:=GotB w4.heap.size (trimL (bytesOf dw) q.1.el q.1.n)) 61 [111,113,115] (by kernel_rfl) rfl (by kernel_rfl) trivial (stable_gotb _ _) (fun ρ wc hbc hcn hk=>?_) ?_
  ·obtain⟨hcn,hfn⟩:=hcn
   simp at hk
   obtain⟨hk1,hk2,hk3⟩:=hk
   obtain⟨Av,cv,hv,hv1,hv2,hvr⟩:=Got.slice hk3
   refine⟨_,by go_simp;rfl,?_⟩
   refine(RefTrim_any Av cv (bytesOf dw) q.1.el q.1.n _ hvr (bytesOf_bts dw) (by rw [bytesOf_length];have:=HDL.out;omega) (by omega) (by omega) (by rw [bytesOf_length];have:=HLB.out;omega)).mono ?_
   rintro r w' ⟨v,rfl,hg,hb⟩
   exact⟨_,rfl,hg.mono hbc.size,hb⟩
  refine n_val (u:=?_) [15] (by kernel_rfl) rfl (by kernel_rfl) trivial (fun ρ wc hbc hcn hk=>?_) ?_;rotate_left
  ·obtain⟨hcn,-⟩:=hcn
   simp at hk
   obtain⟨hcc,-⟩:=bcell hbc
   simp at hcc
   go_simp
   rfl
  refine a_end_lit 170 rfl (fun ff w7 hb7 hk=>?_)
  have h116:GotB w4.heap.size (trimL (bytesOf dw) q.1.el q.1.n) (ff 116) w7:=allN_atF hk 116 (by decide) (by decide)
  have h115:GotB w4.heap.size (bytesOf dw) (ff 115) w7:=allN_atF hk 115 (by decide) (by decide)
  simp [AllN] at hk
  simp only [frameL,hk,Nat.zero_add,Nat.reduceAdd]
  have hb7:Below w4.heap.size w4 w7:=by
   have:=keeps_none hb7
   exact⟨this.os,this.tape,this.output,this.size,this.block⟩
  clear hk
  generalize ff 115=u115 at *
  obtain⟨A7,c7,e7,hl7,hm7,hr7,hn7⟩:=Got.full h116
  generalize ff 116=u116 at *
  subst e7
  have K2n:=Lib.hid (K2.out.below hb7)
  have K3n:=Lib.hid (K3.out.below hb7)
  have k4:=K4.out.below hb7
  have kmn:=KM.out.below hb7
  have HBn:=Lib.hid (bel_on HB.out hb7)
  have hsz7:=hb7.size
  have HG7:=Lib.hid h116
  clear K2 K3 K4 K5 KM HB h115 h116 hb7 xm ym zm x5 y5 z5 hl7 hm7 hr7 hn7
  have K2:=K2n
  have K3:=K3n
  have K4:=Lib.hid k4
  have KM:=Lib.hid kmn
  have HB:=HBn
  clear K2n K3n HBn
  obtain⟨x4,y4,z4⟩:=k4
  go_wp2
  refine abs_code10 (F:=fun W=>Blk W (w.heap.size+1+1) #[.int .i64 0,.int .i64 0,.int .i64 0,.slice none 0 0,.slice none 0 0]∧Blk W (w.heap.size+1+1+1) #[.int .i64 0]∧Blk W (w.heap.size+1+1+1+1) #[.int .i64 2,.int .i64 q.1.el,.int .i64 q.1.n,.slice A7 (trimL (bytesOf dw) q.1.el q.1.n).length c7,.slice none 0 0]∧Blk W bm #[.int .i64 lf]∧Got W w4.heap.size 5 .u8 (.slice A7 (trimL (bytesOf dw) q.1.el q.1.n).length c7) (trimL (bytesOf dw) q.1.el q.1.n)∧Below w.heap.size w W∧w4.heap.size≤W.heap.size) ⟨?_,?_,?_,?_,?_,?_,?_⟩ ?_
  ·exact K2.out.other (by simp;omega) _
  ·exact K3.out.other (by simp) _
  ·exact K4.out.set 3 (by simp) _
  ·exact KM.out.other (by simp;omega) _
  ·exact Got.far HG7.out (by show (w.heap.size+1+1+1+1)<w4.heap.size;omega) _
  ·exact HB.out.setCell (by simp;omega) _
  ·simp [World.setCell];omega
  clear K2 K3 K4 KM HB HG7 x4 y4 z4
  rintro W8 ⟨h2,h3,h4,hm,hg,hb,hsz8⟩
  have K2:=Lib.hid h2
  have K3:=Lib.hid h3
  have HB:=Lib.hid hb
  have HND:=Lib.hid ((OwnN.empty w4.heap.size W8).node (k:=2) (e:=q.1.el) (n:=q.1.n) (by omega) (by omega) (by omega) hg (trimL_bts (bytesOf_bts dw) _ _))
  clear hb hg
  obtain⟨x2,y2,z2⟩:=h2
  obtain⟨x3,y3,z3⟩:=h3
  obtain⟨x4,y4,z4⟩:=h4
  obtain⟨xm,ym,zm⟩:=hm
  go_region
  go_wp2
  refine abs_post (F:=fun W=>Blk W (w.heap.size+1+1) #[.int .i64 2,.int .i64 q.1.el,.int .i64 q.1.n,.slice A7 (trimL (bytesOf dw) q.1.el q.1.n).length c7,.slice none 0 0]∧Blk W (w.heap.size+1+1+1) #[.int .i64 lf]∧NdO w4.heap.size W.heap.size W A7 c7 none 0 (.mk 2 q.1.el q.1.n (trimL (bytesOf dw) q.1.el q.1.n) [])∧Below w.heap.size w W) ⟨?_,?_,?_,?_⟩ ?_
  ·exact((((((K2.out.set 0 (by simp) _).set 1 (by simp) _).set 2 (by simp) _).set 3 (by simp) _).set 4 (by simp) _).other (by simp) _).drew
  ·exact((((((K3.out.other (by simp) _).other (by simp) _).other (by simp) _).other (by simp) _).other (by simp) _).set 0 (by simp) _).drew
  ·refine(HND.out.to fun g q1 _=>?_).wide (Nat.le_refl _) (by simp [World.setCell,World.drew])
   show (((((((W8.setCell _ _).setCell _ _).setCell _ _).setCell _ _).setCell _ _).setCell _ _).drew).heap[g]?=W8.heap[g]?
   rw [show ∀W:World,W.drew.heap=W.heap from fun _=>rfl,Below.heap_setCell _ _ _ _ (by simp;omega),Below.heap_setCell _ _ _ _ (by simp;omega),Below.heap_setCell _ _ _ _ (by simp;omega),Below.heap_setCell _ _ _ _ (by simp;omega),Below.heap_setCell _ _ _ _ (by simp;omega),Below.heap_setCell _ _ _ _ (by simp;omega)]
  ·refine bel_drew (Below.setCell (Below.setCell (Below.setCell (Below.setCell (Below.setCell (Below.setCell HB.out ?_ _) ?_ _) ?_ _) ?_ _) ?_ _) ?_ _)<;>(simp;omega)
  rintro W9 ⟨B6,B7,hN,hbw⟩
  exact bodyPost_ret (v:=.tuple #[.agg #[.int .i64 2,.int .i64 q.1.el,.int .i64 q.1.n,.slice A7 (trimL (bytesOf dw) q.1.el q.1.n).length c7,.slice none 0 0],.agg #[.int .i64 lf],.int .i64 0]) (by simp [results,Tryz.results34,go_sem,B6.cell,B7.cell]) rfl ⟨_,by rw [HS.out],by rw [HS.out];exact⟨A7,c7,none,0,_,rfl,Nat.le_refl _,hN.wide (by omega) (Nat.le_refl _)⟩,hbw⟩
 have t6:decide (q.1.el<6)=false:=decide_eq_false h6
 obtain⟨N,hN⟩:=Int.eq_ofNat_of_zero_le (show 0≤q.1.n by omega)
 have HNE:=Lib.hid hN
 have hNl:N≤536870911:=by omega
 obtain⟨f,hfe⟩:∃f:Int→Nat→Val,f=elemV (valV ls r) ls q.1:=⟨_,rfl⟩
 have HFE:=Lib.hid hfe
 have HMB:=Lib.hid (fun (i:Nat)=>runK_ind (f:=f) (m:=lf) (fun x=>0≤x∧x≤lf) ⟨hlf0,Int.le_refl _⟩ i (fun m' i _ hh=>by
  rw [hfe]
  unfold elemV
  split
  ·have:=hmv m' q.1.sg (q.1.at'+i) hh.1;omega
  ·have:=structV_m hmv ls m' (eleO q.1 i) hh.1;omega))
 have HSV:Hid (sv=if (runK f lf N).e≠0 then errV (runK f lf N).m (runK f lf N).e else ⟨.mk 2 q.1.el q.1.n [] (runK f lf N).ks,(runK f lf N).m,0⟩):=Lib.hid (by rw [HVB.out];unfold bodyV;rw [if_neg H3.out,if_neg H4.out,if_neg H5.out,if_neg h6,←HLF.out];unfold listV;rw [show q.1.n.toNat=N by omega,hfe])
 clear hfe hN hmv HVB xb xc
 have k4a:=K4.out.alloc (.cells #[.int .i64 lf] 65)
 have k5a:=K5.out.alloc (.cells #[.int .i64 lf] 65)
 obtain⟨x4a,y4a,z4a⟩:=k4a
 obtain⟨x5a,y5a,z5a⟩:=k5a
 go_wp2
 go_loopw [26] (fun i wr=>∃(j:Nat) (v:Value),j≤N∧i=.int .i64 j∧(runK f lf j).e=0∧Blk wr w.heap.size #[.int .i64 D,.int .i64 X,.int .i64 O]∧Blk wr (w.heap.size+1+1) #[.int .i64 0,.int .i64 0,.int .i64 0,.slice none 0 0,.slice none 0 0]∧Blk wr (w.heap.size+1+1+1) #[.int .i64 0]∧Blk wr (w.heap.size+1+1+1+1) #[.int .i64 2,.int .i64 q.1.el,.int .i64 q.1.n,.slice none 0 0,v]∧Blk wr bo #[.int .i64 q.1.k,.int .i64 q.1.sg,.int .i64 q.1.at',.int .i64 q.1.d,.int .i64 q.1.p,.int .i64 q.1.el,.int .i64 q.1.n,.int .i64 q.1.cost]∧Blk wr w3.heap.size #[.int .i64 (runK f lf j).m]∧OwnN (w3.heap.size+1) wr v (runK f lf j).ks∧w3.heap.size+1≤wr.heap.size∧Below w.heap.size w wr) (fun i _=>N-(intOf i).toNat)
 case atStart=>
  refine⟨0,.slice none 0 0,Nat.zero_le _,rfl,rfl,?_,?_,?_,?_,?_,?_,OwnN.empty _ _,?_,?_⟩
  ·exact(((K0.out.alloc _).other (by simp;omega) _).other (by simp;omega) _).other (by simp;omega) _
  ·exact(((K2.out.alloc _).other (by simp;omega) _).other (by simp;omega) _).other (by simp;omega) _
  ·exact(((K3.out.alloc _).other (by simp) _).other (by simp) _).other (by simp) _
  ·exact(((K4.out.alloc _).set 0 (by simp) _).set 1 (by simp) _).set 2 (by simp) _
  ·exact(((K5.out.alloc _).other (by simp;omega) _).other (by simp;omega) _).other (by simp;omega) _
  ·exact(((Blk.fresh _ _ _).other (by simp;omega) _).other (by simp;omega) _).other (by simp;omega) _
  ·simp [World.setCell]
  ·refine Below.setCell (Below.setCell (Below.setCell (HB.out.alloc HB.out.size _) ?_ _) ?_ _) ?_ _<;>(simp;omega)
 case round=>
  obtain⟨j,v,hj,rfl,hej,h0,h2,h3,h4,h5,hm,hown,hszr,hbr⟩:=hrel
  clear K0 K1 K2 K3 K4 K5 HB x0 y0 z0 x5 y5 z5 x4a y4a z4a x5a y5a z5a
  have K0:=Lib.hid h0
  have K2:=Lib.hid h2
  have K3:=Lib.hid h3
  have K4:=Lib.hid h4
  have K5:=Lib.hid h5
  have KM:=Lib.hid hm
  have HOW:=Lib.hid hown
  have HB:=Lib.hid hbr
  have HEJ:=Lib.hid hej
  have hmb:=HMB.out j
  clear hown hbr hej
  obtain⟨x5,y5,z5⟩:=h5
  by_cases hlt:j<N
  ·have hpi:(j:Int)<q.1.n:=by rw [HNE.out];omega
   generalize hrj:runK f lf j=rj at *
   have HRJ:=Lib.hid hrj
   clear hrj
   have hwz:Blk (wr.alloc (.cells #[.int .i64 0,.int .i64 0,.int .i64 0,.slice none 0 0,.slice none 0 0] 53)) w.heap.size #[.int .i64 D,.int .i64 X,.int .i64 O]:=h0.alloc _
   obtain⟨x0a,y0a,z0a⟩:=hwz
   have k5a:=K5.out.alloc (.cells #[.int .i64 0,.int .i64 0,.int .i64 0,.slice none 0 0,.slice none 0 0] 53)
   obtain⟨x5a,y5a,z5a⟩:=k5a
   have kma:=KM.out.alloc (.cells #[.int .i64 0,.int .i64 0,.int .i64 0,.slice none 0 0,.slice none 0 0] 53)
   obtain⟨xma,yma,zma⟩:=kma
   clear h0 h2 h3 h4 hm
   by_cases h66:q.1.el=6
   ·have t66:(q.1.el==6)=true:=beq_iff_eq.2 h66
    have HFJ:Hid (valV ls r rj.m q.1.sg (q.1.at'+j)=f rj.m j):=Lib.hid (by rw [HFE.out];unfold elemV;rw [if_pos h66])
    clear h66
    go_wp2_with fail
    refine abs_world (F:=fun W=>Blk W w.heap.size #[.int .i64 D,.int .i64 X,.int .i64 O]∧Blk W (w.heap.size+1+1) #[.int .i64 0,.int .i64 0,.int .i64 0,.slice none 0 0,.slice none 0 0]∧Blk W (w.heap.size+1+1+1) #[.int .i64 0]∧Blk W (w.heap.size+1+1+1+1) #[.int .i64 2,.int .i64 q.1.el,.int .i64 q.1.n,.slice none 0 0,v]∧Blk W bo #[.int .i64 q.1.k,.int .i64 q.1.sg,.int .i64 q.1.at',.int .i64 q.1.d,.int .i64 q.1.p,.int .i64 q.1.el,.int .i64 q.1.n,.int .i64 q.1.cost]∧Blk W w3.heap.size #[.int .i64 rj.m]∧Blk W wr.heap.size #[.int .i64 0,.int .i64 0,.int .i64 0,.slice none 0 0,.slice none 0 0]∧Below wr.heap.size wr W∧Below w.heap.size w W∧wr.heap.size<W.heap.size) ⟨?_,?_,?_,?_,?_,?_,?_,?_,?_,?_⟩ ?_
    ·exact K0.out.alloc _
    ·exact K2.out.alloc _
    ·exact K3.out.alloc _
    ·exact K4.out.alloc _
    ·exact K5.out.alloc _
    ·exact KM.out.alloc _
    ·exact Blk.fresh _ _ _
    ·exact(Below.refl _ _).alloc (Nat.le_refl _) _
    ·exact HB.out.alloc HB.out.size _
    ·simp
    clear K0 K2 K3 K4 K5 KM HB x5 y5 z5 x0a y0a z0a x5a y5a z5a xma yma zma
    have hvb:=OwnN.blk HOW.out
    generalize hbk:wr.heap.size=bk at *
    rintro W ⟨h0,h2,h3,h4,h5,hm,hk,hwr,hb,hszW⟩
    refine(HVr.out rj.m q.1.sg (q.1.at'+j) (dep+1) W (Hs.out.below hb (Nat.le_refl _)) hmb.1 (by omega) (by omega) (by omega) (by omega)).mono ?_
    rw [HFJ.out]
    generalize hfj:f rj.m j=fj at *
    have HFQ:=Lib.hid hfj
    clear HFJ hfj
    rintro e w4 ⟨v4,rfl,⟨Ak,ck,Bk,ek,hik,rfl,hhk,hok⟩,hb4⟩
    have K0:=Lib.hid (h0.below hb4)
    have K2:=Lib.hid (h2.below hb4)
    have k3:=h3.below hb4
    have k4:=h4.below hb4
    have K5:=Lib.hid (h5.below hb4)
    have km:=hm.below hb4
    have kk:=hk.below hb4
    have HWR:=Lib.hid (bel_on' hwr hb4 (by omega))
    have HB:=Lib.hid (bel_on hb hb4)
    have hsz4:=hb4.size
    have HNK:=Lib.hid hok
    have K3:=Lib.hid k3
    have K4:=Lib.hid k4
    have KM:=Lib.hid km
    have KK:=Lib.hid kk
    clear h0 h2 h3 h4 h5 hm hk hwr hb hb4 hok
    obtain⟨x4,y4,z4⟩:=k4
    obtain⟨xm,ym,zm⟩:=km
    obtain⟨xk,yk,zk⟩:=kk
    have n1:bk≠(w.heap.size+1+1+1+1):=by omega
    have n2:¬(w.heap.size+1+1+1+1)=bk:=by omega
    have n3:w3.heap.size≠(w.heap.size+1+1+1+1):=by omega
    have n4:¬(w.heap.size+1+1+1+1)=w3.heap.size:=by omega
    have n5:bk≠w3.heap.size:=by omega
    have n6:¬w3.heap.size=bk:=by omega
    by_cases hfe:fj.e=0
    ·have HFE0:=Lib.hid hfe
     have t20:(fj.e != 0)=false:=by rw [hfe];rfl
     clear hfe
     go_wp2_with (at_builtin;refine hold_it ?_)
     refine Lib.hid ?_
     refine abs_list (F:=fun V4=>Blk V4 w.heap.size #[.int .i64 D,.int .i64 X,.int .i64 O]∧Blk V4 (w.heap.size+1+1) #[.int .i64 0,.int .i64 0,.int .i64 0,.slice none 0 0,.slice none 0 0]∧Blk V4 (w.heap.size+1+1+1) #[.int .i64 0]∧Blk V4 (w.heap.size+1+1+1+1) #[.int .i64 2,.int .i64 q.1.el,.int .i64 q.1.n,.slice none 0 0,v]∧Blk V4 bo #[.int .i64 q.1.k,.int .i64 q.1.sg,.int .i64 q.1.at',.int .i64 q.1.d,.int .i64 q.1.p,.int .i64 q.1.el,.int .i64 q.1.n,.int .i64 q.1.cost]∧Blk V4 w3.heap.size #[.int .i64 fj.m]∧OwnN (w3.heap.size+1) V4 v rj.ks∧Blk V4 w4.heap.size #[.int .i64 fj.n.k,.int .i64 fj.n.e,.int .i64 fj.n.n,.slice Ak fj.n.d.length ck,.slice Bk fj.n.ks.length ek]∧NdO W.heap.size hik V4 Ak ck Bk ek fj.n∧Below w.heap.size w V4∧V4.heap.size=w4.heap.size+1) ⟨?_,?_,?_,?_,?_,?_,?_,?_,?_,?_,?_⟩ ?_
     ·exact((((((K0.out.other (by simp;omega) _).other (by simp;omega) _).other (by simp;omega) _).other (by simp;omega) _).other (by simp;omega) _).other (by simp;omega) _).alloc _
     ·exact((((((K2.out.other (by simp;omega) _).other (by simp;omega) _).other (by simp;omega) _).other (by simp;omega) _).other (by simp;omega) _).other (by simp;omega) _).alloc _
     ·exact((((((K3.out.other (by simp;omega) _).other (by simp;omega) _).other (by simp;omega) _).other (by simp;omega) _).other (by simp;omega) _).other (by simp;omega) _).alloc _
     ·exact((((((K4.out.other (by simp;omega) _).other (by simp;omega) _).other (by simp;omega) _).other (by simp;omega) _).other (by simp;omega) _).other (by simp;omega) _).alloc _
     ·exact((((((K5.out.other (by simp;omega) _).other (by simp;omega) _).other (by simp;omega) _).other (by simp;omega) _).other (by simp;omega) _).other (by simp;omega) _).alloc _
     ·exact((((((KM.out.other (by simp;omega) _).other (by simp;omega) _).other (by simp;omega) _).other (by simp;omega) _).other (by simp;omega) _).set 0 (by simp) _).alloc _
     ·exact OwnN.below (OwnN.far (p:=⟨w3.heap.size,0,none⟩) (OwnN.below HOW.out (Below.setCell (Below.setCell (Below.setCell (Below.setCell (Below.setCell HWR.out (by simp) _) (by simp) _) (by simp) _) (by simp) _) (by simp) _) (Nat.le_of_eq hbk)) (by show w3.heap.size<w3.heap.size+1;omega) _) ((Below.refl _ _).alloc (Nat.le_refl _) _) (Nat.le_refl _)
     ·exact Blk.new (by simp [World.setCell])
     ·refine HNK.out.to fun g h1 h2=>?_
      rw [Below.heap_alloc _ _ _ (by simp [World.setCell];omega),Below.heap_setCell _ _ _ _ (by simp;omega),Below.heap_setCell _ _ _ _ (by simp;omega),Below.heap_setCell _ _ _ _ (by simp;omega),Below.heap_setCell _ _ _ _ (by simp;omega),Below.heap_setCell _ _ _ _ (by simp;omega),Below.heap_setCell _ _ _ _ (by simp;omega)]
     ·have:=HB.out.size
      refine Below.alloc (Below.setCell (Below.setCell (Below.setCell (Below.setCell (Below.setCell (Below.setCell HB.out ?_ _) ?_ _) ?_ _) ?_ _) ?_ _) ?_ _) ?_ _<;>(simp [World.setCell];omega)
     ·simp [World.setCell]
     clear K0 K2 K3 K4 K5 KM KK HWR HOW HB HNK x4 y4 z4 xm ym zm xk yk zk k3
     rintro W5 ⟨h0,h2,h3,h4,h5,hm,hown,h9,hnk,hbw,hsW⟩
     have hjl:rj.ks.length=j:=by rw [←HRJ.out];exact runK_length (by rw [HRJ.out];exact HEJ.out)
     refine wpList_appO rfl (.tmp 163) (.tmp 165) 51 rfl Tryz.underlying51 rfl hown rfl (fun o ho=>by rw [h9.cell];simp [fiveC]) (lo:=W.heap.size) (hi:=hik) (by omega) (by omega) (fun g hg=>by have:=(hvb g hg).2;omega) hnk (by omega) (by omega) ?_
     intro v' w' hown' hgr
     obtain⟨B9,c9,rfl,-⟩:=hown'.slice
     have hl9:(rj.ks++[fj.n]).length=j+1:=by rw [List.length_append,hjl];rfl
     rw [hl9] at hown'
     rw [hl9]
     have hb':Below (w3.heap.size+1) W5 w':=(Below.refl _ _).grown hgr (by omega) (fun g hg=>(OwnN.blk hown g hg).1)
     have hszb:=hb'.size
     have K0:=Lib.hid (h0.belowN hb' (by omega))
     have K2:=Lib.hid (h2.belowN hb' (by omega))
     have K3:=Lib.hid (h3.belowN hb' (by omega))
     have k4:=h4.belowN hb' (by omega)
     have K4:=Lib.hid k4
     have K5:=Lib.hid (h5.belowN hb' (by omega))
     have KM:=Lib.hid (hm.belowN hb' (by omega))
     have HOW:=Lib.hid hown'
     have HB:=Lib.hid (hbw.trans (hb'.mono (by omega)))
     clear h0 h2 h3 h4 h5 hm hown h9 hnk hbw hgr hb' hown'
     obtain⟨x4,y4,z4⟩:=k4
     have HRS:Hid (runK f lf (j+1)=⟨rj.ks++[fj.n],fj.m,0⟩):=Lib.hid (by
      rw [runK_ok (by rw [HRJ.out];exact HEJ.out) (by rw [HRJ.out,HFQ.out];exact HFE0.out),HRJ.out,HFQ.out])
     go_wp2
     go_roundw
     case rel=>
      refine⟨j+1,.slice B9 (j+1) c9,by omega,by go_num,by rw [HRS.out],?_,?_,?_,?_,?_,?_,?_,?_,?_⟩
      ·exact K0.out.other (by simp;omega) _
      ·exact K2.out.other (by simp;omega) _
      ·exact K3.out.other (by simp) _
      ·exact K4.out.set 4 (by simp) _
      ·exact K5.out.other (by simp;omega) _
      ·rw [HRS.out];exact KM.out.other (by simp;omega) _
      ·rw [HRS.out];exact OwnN.far HOW.out (by show (w.heap.size+1+1+1+1)<w3.heap.size+1;omega) _
      ·simp [World.setCell];omega
      ·exact HB.out.setCell (by show w.heap.size≤(w.heap.size+1+1+1+1);omega) _
     case measure=>simp [intOf];omega
    ·have HFE0:=Lib.hid hfe
     have t20:(fj.e != 0)=true:=bne_iff_ne.2 hfe
     clear hfe
     go_wp2
     refine abs_code10 (F:=fun V=>Blk V (w.heap.size+1+1) #[.int .i64 0,.int .i64 0,.int .i64 0,.slice none 0 0,.slice none 0 0]∧Blk V (w.heap.size+1+1+1) #[.int .i64 0]∧Blk V w3.heap.size #[.int .i64 fj.m]∧Below w.heap.size w V) ⟨?_,?_,?_,?_⟩ ?_
     ·exact(((((K2.out.other (by simp;omega) _).other (by simp;omega) _).other (by simp;omega) _).other (by simp;omega) _).other (by simp;omega) _).other (by simp;omega) _
     ·exact(((((K3.out.other (by simp;omega) _).other (by simp;omega) _).other (by simp;omega) _).other (by simp;omega) _).other (by simp;omega) _).other (by simp;omega) _
     ·exact(((((KM.out.other (by simp;omega) _).other (by simp;omega) _).other (by simp;omega) _).other (by simp;omega) _).other (by simp;omega) _).set 0 (by simp) _
     ·refine Below.setCell (Below.setCell (Below.setCell (Below.setCell (Below.setCell (Below.setCell HB.out ?_ _) ?_ _) ?_ _) ?_ _) ?_ _) ?_ _<;>(simp;omega)
     clear K0 K2 K3 K4 K5 KM KK HWR HOW HB HNK x4 y4 z4 xm ym zm xk yk zk k3
     rintro V ⟨h2,h3,hm,hb⟩
     have K2:=Lib.hid h2
     have K3:=Lib.hid h3
     have HB:=Lib.hid hb
     clear hb
     obtain⟨x2,y2,z2⟩:=h2
     obtain⟨x3,y3,z3⟩:=h3
     obtain⟨xm,ym,zm⟩:=hm
     go_region
     go_wp2
     have HS:Hid (sv=errV fj.m fj.e):=Lib.hid (by
      have h1:runK f lf (j+1)=⟨[],fj.m,fj.e⟩:=by
       rw [runK_no (by rw [HRJ.out];exact HEJ.out) (by rw [HRJ.out,HFQ.out];exact HFE0.out),HRJ.out,HFQ.out]
      have h2:runK f lf N=⟨[],fj.m,fj.e⟩:=by
       rw [runK_keep (i:=j+1) (by rw [h1];exact HFE0.out) (by omega),h1]
      rw [HSV.out,h2,if_pos HFE0.out])
     refine abs_post (F:=fun W=>Blk W (w.heap.size+1+1) #[.int .i64 0,.int .i64 0,.int .i64 0,.slice none 0 0,.slice none 0 0]∧Blk W (w.heap.size+1+1+1) #[.int .i64 fj.m]∧Below w.heap.size w W) ⟨?_,?_,?_⟩ ?_
     ·exact((((((K2.out.set 0 (by simp) _).set 1 (by simp) _).set 2 (by simp) _).set 3 (by simp) _).set 4 (by simp) _).other (by simp) _).drew
     ·exact((((((K3.out.other (by simp) _).other (by simp) _).other (by simp) _).other (by simp) _).other (by simp) _).set 0 (by simp) _).drew
     ·refine bel_drew (Below.setCell (Below.setCell (Below.setCell (Below.setCell (Below.setCell (Below.setCell HB.out ?_ _) ?_ _) ?_ _) ?_ _) ?_ _) ?_ _)<;>(simp;omega)
     rintro W5 ⟨B6,B7,hbw⟩
     exact bodyPost_ret (v:=.tuple #[.agg #[.int .i64 0,.int .i64 0,.int .i64 0,.slice none 0 0,.slice none 0 0],.agg #[.int .i64 fj.m],.int .i64 fj.e]) (by simp [results,Tryz.results34,go_sem,B6.cell,B7.cell]) rfl ⟨_,by rw [HS.out];rfl,by rw [HS.out];exact nod_zero _ _,hbw⟩
   ·have t66:(q.1.el==6)=false:=beq_eq_false_iff_ne.2 h66
    have HFJ:Hid (structV (valV ls r) ls rj.m (eleO q.1 j)=f rj.m j):=Lib.hid (by rw [HFE.out];unfold elemV;rw [if_neg h66])
    have hjd:(j:Int)*(q.1.d+q.1.p)≤q.1.n*(q.1.d+q.1.p):=Int.mul_le_mul_of_nonneg_right (by omega) (by omega)
    have hj0:0≤(j:Int)*(q.1.d+q.1.p):=Int.mul_nonneg (by omega) (by omega)
    clear h66
    go_wp2_with fail
    refine abs_code10 (F:=fun W=>Blk W w.heap.size #[.int .i64 D,.int .i64 X,.int .i64 O]∧Blk W (w.heap.size+1+1) #[.int .i64 0,.int .i64 0,.int .i64 0,.slice none 0 0,.slice none 0 0]∧Blk W (w.heap.size+1+1+1) #[.int .i64 0]∧Blk W (w.heap.size+1+1+1+1) #[.int .i64 2,.int .i64 q.1.el,.int .i64 q.1.n,.slice none 0 0,v]∧Blk W bo #[.int .i64 q.1.k,.int .i64 q.1.sg,.int .i64 q.1.at',.int .i64 q.1.d,.int .i64 q.1.p,.int .i64 q.1.el,.int .i64 q.1.n,.int .i64 q.1.cost]∧Blk W w3.heap.size #[.int .i64 rj.m]∧Blk W wr.heap.size #[.int .i64 0,.int .i64 0,.int .i64 0,.slice none 0 0,.slice none 0 0]∧Below wr.heap.size wr W∧Below w.heap.size w W∧wr.heap.size<W.heap.size) ⟨?_,?_,?_,?_,?_,?_,?_,?_,?_,?_⟩ ?_
    ·exact K0.out.alloc _
    ·exact K2.out.alloc _
    ·exact K3.out.alloc _
    ·exact K4.out.alloc _
    ·exact K5.out.alloc _
    ·exact KM.out.alloc _
    ·exact Blk.fresh _ _ _
    ·exact(Below.refl _ _).alloc (Nat.le_refl _) _
    ·exact HB.out.alloc HB.out.size _
    ·simp
    clear K0 K2 K3 K4 K5 KM HB x5 y5 z5 x0a y0a z0a x5a y5a z5a xma yma zma
    have hvb:=OwnN.blk HOW.out
    generalize hbk:wr.heap.size=bk at *
    rintro W ⟨h0,h2,h3,h4,h5,hm,hk,hwr,hb,hszW⟩
    have HST7:=Lib.hid (fun w' hs'=>HSr.out rj.m (eleO q.1 j) dep w' hs' hmb.1 (by omega) hd0 (by omega) (by omega) (by show 0≤q.1.at'+(j:Int)*(q.1.d+q.1.p);omega) (by show q.1.at'+(j:Int)*(q.1.d+q.1.p)≤100000000000;omega) (by show 0≤q.1.d;omega) (by show q.1.d≤65535;omega) (by show 0≤q.1.p;omega) (by show q.1.p≤65535;omega))
    rw [HFJ.out] at HST7
    generalize hfj:f rj.m j=fj at *
    have HFQ:=Lib.hid hfj
    clear HFJ hfj
    obtain⟨x0,y0,z0⟩:=h0
    obtain⟨x5,y5,z5⟩:=h5
    obtain⟨xm,ym,zm⟩:=hm
    have K0h:=Lib.hid (show Blk W w.heap.size #[.int .i64 D,.int .i64 X,.int .i64 O] from ⟨x0,y0,z0⟩)
    have K5h:=Lib.hid (show Blk W bo #[.int .i64 q.1.k,.int .i64 q.1.sg,.int .i64 q.1.at',.int .i64 q.1.d,.int .i64 q.1.p,.int .i64 q.1.el,.int .i64 q.1.n,.int .i64 q.1.cost] from ⟨x5,y5,z5⟩)
    have KMh:=Lib.hid (show Blk W w3.heap.size #[.int .i64 rj.m] from ⟨xm,ym,zm⟩)
    refine wp_region_t12_3 [10,11] (by kernel_rfl) (by kernel_rfl) ?_
    refine t_val (u:=?_) [0] (by kernel_rfl) rfl (by kernel_rfl) trivial (fun ρ wc hbc hcn hq=>?_) ?_;rotate_left
    ·obtain⟨hcn,-⟩:=hcn
     simp at hq
     obtain⟨hcc,-⟩:=bcell hbc
     simp at hcc
     go_simp
     rfl
    refine t_val (u:=?_) [7] (by kernel_rfl) rfl (by kernel_rfl) trivial (fun ρ wc hbc hcn hq=>?_) ?_;rotate_left
    ·obtain⟨hcn,-⟩:=hcn
     simp at hq
     obtain⟨hcc,-⟩:=bcell hbc
     simp at hcc
     go_simp
     rfl
    refine t_val (u:=?_) [22] (by kernel_rfl) rfl (by kernel_rfl) trivial (fun ρ wc hbc hcn hq=>?_) ?_;rotate_left
    ·obtain⟨hcn,-⟩:=hcn
     simp at hq
     obtain⟨hcc,-⟩:=bcell hbc
     simp at hcc
     go_simp
     rfl
    refine t_val (u:=?_) [20] (by kernel_rfl) rfl (by kernel_rfl) trivial (fun ρ wc hbc hcn hq=>?_) ?_;rotate_left
    ·obtain⟨hcn,-⟩:=hcn
     simp at hq
     obtain⟨hcc,-⟩:=bcell hbc
     simp at hcc
     go_simp
     rfl
    refine t_val (u:=?_) [26] (by kernel_rfl) rfl (by kernel_rfl) trivial (fun ρ wc hbc hcn hq=>?_) ?_;rotate_left
    ·obtain⟨hcn,-⟩:=hcn
     simp at hq
     obtain⟨hcc,-⟩:=bcell hbc
     simp at hcc
     go_simp
     rfl
    refine t_call (T:=Is (.agg #[.int .i64 (eleO q.1 j).k,.int .i64 (eleO q.1 j).sg,.int .i64 (eleO q.1 j).at',.int .i64 (eleO q.1 j).d,.int .i64 (eleO q.1 j).p,.int .i64 (eleO q.1 j).el,.int .i64 (eleO q.1 j).n,.int .i64 (eleO q.1 j).cost])) (Is (.agg #[.int .i64 (eleO q.1 j).k,.int .i64 (eleO q.1 j).sg,.int .i64 (eleO q.1 j).at',.int .i64 (eleO q.1 j).d,.int .i64 (eleO q.1 j).p,.int .i64 (eleO q.1 j).el,.int .i64 (eleO q.1 j).n,.int .i64 (eleO q.1 j).cost])) 63 [149,150] (by kernel_rfl) rfl (by kernel_rfl) trivial (stable_is _) (free_is _) (fun _ _ h=>h) (fun ρ wc hbc hcn hq=>?_) ?_
    ·obtain⟨hcn,hfn⟩:=hcn
     simp at hq
     refine⟨_,by go_simp;rfl,?_⟩
     refine(RefElement_any q.1 j _ (by omega) (by omega) (by omega) (by omega) (by omega) (by omega)).mono ?_
     rintro e w' ⟨rfl,hbq⟩
     exact⟨_,rfl,rfl,hbq⟩
    refine t_val (u:=?_) [5] (by kernel_rfl) rfl (by kernel_rfl) trivial (fun ρ wc hbc hcn hq=>?_) ?_;rotate_left
    ·obtain⟨hcn,-⟩:=hcn
     simp at hq
     obtain⟨hcc,-⟩:=bcell hbc
     simp at hcc
     go_simp
     rfl
    refine t_call (T:=TupF W.heap.size fj) (TupU fj) 59 [146,147,148,151,152] (by kernel_rfl) rfl (by kernel_rfl) trivial (stable_tup _ _) (free_tup _) (fun _ _ h=>h.u) (fun ρ wc hbc hcn hq=>?_) ?_
    ·obtain⟨hcn,hfn⟩:=hcn
     simp at hq
     refine⟨_,by go_simp;rfl,?_⟩
     refine(HST7.out wc (Hs.out.below (bel_on (bel_drew hb) hbc) (Nat.le_refl _))).mono ?_
     rintro e w' ⟨v,rfl,hn,hbq⟩
     exact⟨_,rfl,⟨v,rfl,hn.lower hbc.size⟩,hbq⟩
    refine t_new (T:=TupF W.heap.size fj) (TupU fj) [153] (by kernel_rfl) rfl (by kernel_rfl) trivial (stable_tup _ _) (free_tup _) (fun _ _ h=>h.u) (fun ρ wc hbc hcn hq=>?_) ?_
    ·obtain⟨hcn,hfn⟩:=hcn
     simp at hq
     exact⟨ρ (.tmp 153),wc,by go_simp,hq,Below.refl _ _⟩
    refine t_new (T:=NodF W.heap.size fj.n) Any [145] (by kernel_rfl) rfl (by kernel_rfl) trivial (stable_nod _ _) free_any (fun _ _ _=>trivial) (fun ρ wc hbc hcn hq=>?_) ?_
    ·obtain⟨hcn,hfn⟩:=hcn
     simp at hq
     obtain⟨x,hx,hn⟩:=hq
     exact⟨x,wc,by go_simp,hn,Below.refl _ _⟩
    refine t_pure (u:=.agg #[.int .i64 fj.m]) [145] (by kernel_rfl) rfl (by kernel_rfl) rfl (fun ρ wc hcn hq=>?_) ?_
    ·obtain⟨hcn,hfn⟩:=hcn
     simp at hq
     obtain⟨x,hx⟩:=hq
     go_simp
    refine t_pure (u:=.int .i64 fj.e) [145] (by kernel_rfl) rfl (by kernel_rfl) rfl (fun ρ wc hcn hq=>?_) ?_
    ·obtain⟨hcn,hfn⟩:=hcn
     simp at hq
     obtain⟨x,hx⟩:=hq
     go_simp
    refine t_end_lit 170 rfl (fun ff w4 hb7 hq=>?_)
    have h154:NodF W.heap.size fj.n (ff 154) w4:=allN_atF hq 154 (by decide) (by decide)
    have h0:=K0h.out
    have h5:=K5h.out
    have hm:=KMh.out
    have hb4:Below W.heap.size W w4:=⟨hb7.os,hb7.tape,hb7.output,hb7.size,hb7.block⟩
    clear hb7 K0h K5h KMh HST7 x0 y0 z0 x5 y5 z5 xm ym zm
    simp [AllN] at hq
    simp only [frameL,hq,Nat.zero_add,Nat.reduceAdd]
    clear hq
    obtain⟨Ak,ck,Bk,ek,hik,e154,hhk,hok⟩:=h154
    generalize ff 145=u145
    generalize ff 153=u153
    generalize ff 154=u154 at *
    subst e154
    have K0:=Lib.hid (h0.below hb4)
    have K2:=Lib.hid (h2.below hb4)
    have k3:=h3.below hb4
    have k4:=h4.below hb4
    have K5:=Lib.hid (h5.below hb4)
    have km:=hm.below hb4
    have kk:=hk.below hb4
    have HWR:=Lib.hid (bel_on' hwr hb4 (by omega))
    have HB:=Lib.hid (bel_on hb hb4)
    have hsz4:=hb4.size
    have HNK:=Lib.hid hok
    have K3:=Lib.hid k3
    have K4:=Lib.hid k4
    have KM:=Lib.hid km
    have KK:=Lib.hid kk
    clear h0 h2 h3 h4 h5 hm hk hwr hb hb4 hok
    obtain⟨x4,y4,z4⟩:=k4
    obtain⟨xm,ym,zm⟩:=km
    obtain⟨xk,yk,zk⟩:=kk
    have n1:bk≠(w.heap.size+1+1+1+1):=by omega
    have n2:¬(w.heap.size+1+1+1+1)=bk:=by omega
    have n3:w3.heap.size≠(w.heap.size+1+1+1+1):=by omega
    have n4:¬(w.heap.size+1+1+1+1)=w3.heap.size:=by omega
    have n5:bk≠w3.heap.size:=by omega
    have n6:¬w3.heap.size=bk:=by omega
    go_wp2
    refine⟨rfl,?_⟩
    by_cases hfe:fj.e=0
    ·have HFE0:=Lib.hid hfe
     have t20:(fj.e != 0)=false:=by rw [hfe];rfl
     clear hfe
     go_wp2_with (at_builtin;refine hold_it ?_)
     refine Lib.hid ?_
     refine abs_list (F:=fun V4=>Blk V4 w.heap.size #[.int .i64 D,.int .i64 X,.int .i64 O]∧Blk V4 (w.heap.size+1+1) #[.int .i64 0,.int .i64 0,.int .i64 0,.slice none 0 0,.slice none 0 0]∧Blk V4 (w.heap.size+1+1+1) #[.int .i64 0]∧Blk V4 (w.heap.size+1+1+1+1) #[.int .i64 2,.int .i64 q.1.el,.int .i64 q.1.n,.slice none 0 0,v]∧Blk V4 bo #[.int .i64 q.1.k,.int .i64 q.1.sg,.int .i64 q.1.at',.int .i64 q.1.d,.int .i64 q.1.p,.int .i64 q.1.el,.int .i64 q.1.n,.int .i64 q.1.cost]∧Blk V4 w3.heap.size #[.int .i64 fj.m]∧OwnN (w3.heap.size+1) V4 v rj.ks∧Blk V4 w4.heap.size #[.int .i64 fj.n.k,.int .i64 fj.n.e,.int .i64 fj.n.n,.slice Ak fj.n.d.length ck,.slice Bk fj.n.ks.length ek]∧NdO W.heap.size hik V4 Ak ck Bk ek fj.n∧Below w.heap.size w V4∧V4.heap.size=w4.heap.size+1) ⟨?_,?_,?_,?_,?_,?_,?_,?_,?_,?_,?_⟩ ?_
     ·exact((((((K0.out.other (by simp;omega) _).other (by simp;omega) _).other (by simp;omega) _).other (by simp;omega) _).other (by simp;omega) _).other (by simp;omega) _).alloc _
     ·exact((((((K2.out.other (by simp;omega) _).other (by simp;omega) _).other (by simp;omega) _).other (by simp;omega) _).other (by simp;omega) _).other (by simp;omega) _).alloc _
     ·exact((((((K3.out.other (by simp;omega) _).other (by simp;omega) _).other (by simp;omega) _).other (by simp;omega) _).other (by simp;omega) _).other (by simp;omega) _).alloc _
     ·exact((((((K4.out.other (by simp;omega) _).other (by simp;omega) _).other (by simp;omega) _).other (by simp;omega) _).other (by simp;omega) _).other (by simp;omega) _).alloc _
     ·exact((((((K5.out.other (by simp;omega) _).other (by simp;omega) _).other (by simp;omega) _).other (by simp;omega) _).other (by simp;omega) _).other (by simp;omega) _).alloc _
     ·exact((((((KM.out.other (by simp;omega) _).other (by simp;omega) _).other (by simp;omega) _).other (by simp;omega) _).other (by simp;omega) _).set 0 (by simp) _).alloc _
     ·exact OwnN.below (OwnN.far (p:=⟨w3.heap.size,0,none⟩) (OwnN.below HOW.out (Below.setCell (Below.setCell (Below.setCell (Below.setCell (Below.setCell HWR.out (by simp) _) (by simp) _) (by simp) _) (by simp) _) (by simp) _) (Nat.le_of_eq hbk)) (by show w3.heap.size<w3.heap.size+1;omega) _) ((Below.refl _ _).alloc (Nat.le_refl _) _) (Nat.le_refl _)
     ·exact Blk.new (by simp [World.setCell])
     ·refine HNK.out.to fun g h1 h2=>?_
      rw [Below.heap_alloc _ _ _ (by simp [World.setCell];omega),Below.heap_setCell _ _ _ _ (by simp;omega),Below.heap_setCell _ _ _ _ (by simp;omega),Below.heap_setCell _ _ _ _ (by simp;omega),Below.heap_setCell _ _ _ _ (by simp;omega),Below.heap_setCell _ _ _ _ (by simp;omega),Below.heap_setCell _ _ _ _ (by simp;omega)]
     ·have:=HB.out.size
      refine Below.alloc (Below.setCell (Below.setCell (Below.setCell (Below.setCell (Below.setCell (Below.setCell HB.out ?_ _) ?_ _) ?_ _) ?_ _) ?_ _) ?_ _) ?_ _<;>(simp [World.setCell];omega)
     ·simp [World.setCell]
     clear K0 K2 K3 K4 K5 KM KK HWR HOW HB HNK x4 y4 z4 xm ym zm xk yk zk k3
     rintro W5 ⟨h0,h2,h3,h4,h5,hm,hown,h9,hnk,hbw,hsW⟩
     have hjl:rj.ks.length=j:=by rw [←HRJ.out];exact runK_length (by rw [HRJ.out];exact HEJ.out)
     refine wpList_appO rfl (.tmp 163) (.tmp 165) 51 rfl Tryz.underlying51 rfl hown rfl (fun o ho=>by rw [h9.cell];simp [fiveC]) (lo:=W.heap.size) (hi:=hik) (by omega) (by omega) (fun g hg=>by have:=(hvb g hg).2;omega) hnk (by omega) (by omega) ?_
     intro v' w' hown' hgr
     obtain⟨B9,c9,rfl,-⟩:=hown'.slice
     have hl9:(rj.ks++[fj.n]).length=j+1:=by rw [List.length_append,hjl];rfl
     rw [hl9] at hown'
     rw [hl9]
     have hb':Below (w3.heap.size+1) W5 w':=(Below.refl _ _).grown hgr (by omega) (fun g hg=>(OwnN.blk hown g hg).1)
     have hszb:=hb'.size
     have K0:=Lib.hid (h0.belowN hb' (by omega))
     have K2:=Lib.hid (h2.belowN hb' (by omega))
     have K3:=Lib.hid (h3.belowN hb' (by omega))
     have k4:=h4.belowN hb' (by omega)
     have K4:=Lib.hid k4
     have K5:=Lib.hid (h5.belowN hb' (by omega))
     have KM:=Lib.hid (hm.belowN hb' (by omega))
     have HOW:=Lib.hid hown'
     have HB:=Lib.hid (hbw.trans (hb'.mono (by omega)))
     clear h0 h2 h3 h4 h5 hm hown h9 hnk hbw hgr hb' hown'
     obtain⟨x4,y4,z4⟩:=k4
     have HRS:Hid (runK f lf (j+1)=⟨rj.ks++[fj.n],fj.m,0⟩):=Lib.hid (by
      rw [runK_ok (by rw [HRJ.out];exact HEJ.out) (by rw [HRJ.out,HFQ.out];exact HFE0.out),HRJ.out,HFQ.out])
     go_wp2
     go_roundw
     case rel=>
      refine⟨j+1,.slice B9 (j+1) c9,by omega,by go_num,by rw [HRS.out],?_,?_,?_,?_,?_,?_,?_,?_,?_⟩
      ·exact K0.out.other (by simp;omega) _
      ·exact K2.out.other (by simp;omega) _
      ·exact K3.out.other (by simp) _
      ·exact K4.out.set 4 (by simp) _
      ·exact K5.out.other (by simp;omega) _
      ·rw [HRS.out];exact KM.out.other (by simp;omega) _
      ·rw [HRS.out];exact OwnN.far HOW.out (by show (w.heap.size+1+1+1+1)<w3.heap.size+1;omega) _
      ·simp [World.setCell];omega
      ·exact HB.out.setCell (by show w.heap.size≤(w.heap.size+1+1+1+1);omega) _
     case measure=>simp [intOf];omega
    ·have HFE0:=Lib.hid hfe
     have t20:(fj.e != 0)=true:=bne_iff_ne.2 hfe
     clear hfe
     go_wp2
     refine abs_code10 (F:=fun V=>Blk V (w.heap.size+1+1) #[.int .i64 0,.int .i64 0,.int .i64 0,.slice none 0 0,.slice none 0 0]∧Blk V (w.heap.size+1+1+1) #[.int .i64 0]∧Blk V w3.heap.size #[.int .i64 fj.m]∧Below w.heap.size w V) ⟨?_,?_,?_,?_⟩ ?_
     ·exact(((((K2.out.other (by simp;omega) _).other (by simp;omega) _).other (by simp;omega) _).other (by simp;omega) _).other (by simp;omega) _).other (by simp;omega) _
     ·exact(((((K3.out.other (by simp;omega) _).other (by simp;omega) _).other (by simp;omega) _).other (by simp;omega) _).other (by simp;omega) _).other (by simp;omega) _
     ·exact(((((KM.out.other (by simp;omega) _).other (by simp;omega) _).other (by simp;omega) _).other (by simp;omega) _).other (by simp;omega) _).set 0 (by simp) _
     ·refine Below.setCell (Below.setCell (Below.setCell (Below.setCell (Below.setCell (Below.setCell HB.out ?_ _) ?_ _) ?_ _) ?_ _) ?_ _) ?_ _<;>(simp;omega)
     clear K0 K2 K3 K4 K5 KM KK HWR HOW HB HNK x4 y4 z4 xm ym zm xk yk zk k3
     rintro V ⟨h2,h3,hm,hb⟩
     have K2:=Lib.hid h2
     have K3:=Lib.hid h3
     have HB:=Lib.hid hb
     clear hb
     obtain⟨x2,y2,z2⟩:=h2
     obtain⟨x3,y3,z3⟩:=h3
     obtain⟨xm,ym,zm⟩:=hm
     go_region
     go_wp2
     have HS:Hid (sv=errV fj.m fj.e):=Lib.hid (by
      have h1:runK f lf (j+1)=⟨[],fj.m,fj.e⟩:=by
       rw [runK_no (by rw [HRJ.out];exact HEJ.out) (by rw [HRJ.out,HFQ.out];exact HFE0.out),HRJ.out,HFQ.out]
      have h2:runK f lf N=⟨[],fj.m,fj.e⟩:=by
       rw [runK_keep (i:=j+1) (by rw [h1];exact HFE0.out) (by omega),h1]
      rw [HSV.out,h2,if_pos HFE0.out])
     refine abs_post (F:=fun W=>Blk W (w.heap.size+1+1) #[.int .i64 0,.int .i64 0,.int .i64 0,.slice none 0 0,.slice none 0 0]∧Blk W (w.heap.size+1+1+1) #[.int .i64 fj.m]∧Below w.heap.size w W) ⟨?_,?_,?_⟩ ?_
     ·exact((((((K2.out.set 0 (by simp) _).set 1 (by simp) _).set 2 (by simp) _).set 3 (by simp) _).set 4 (by simp) _).other (by simp) _).drew
     ·exact((((((K3.out.other (by simp) _).other (by simp) _).other (by simp) _).other (by simp) _).other (by simp) _).set 0 (by simp) _).drew
     ·refine bel_drew (Below.setCell (Below.setCell (Below.setCell (Below.setCell (Below.setCell (Below.setCell HB.out ?_ _) ?_ _) ?_ _) ?_ _) ?_ _) ?_ _)<;>(simp;omega)
     rintro W5 ⟨B6,B7,hbw⟩
     exact bodyPost_ret (v:=.tuple #[.agg #[.int .i64 0,.int .i64 0,.int .i64 0,.slice none 0 0,.slice none 0 0],.agg #[.int .i64 fj.m],.int .i64 fj.e]) (by simp [results,Tryz.results34,go_sem,B6.cell,B7.cell]) rfl ⟨_,by rw [HS.out];rfl,by rw [HS.out];exact nod_zero _ _,hbw⟩
  ·
   have hNj:N=j:=by omega
   have hpi:¬(j:Int)<q.1.n:=by rw [HNE.out];omega
   have HNJ:=Lib.hid hNj
   clear hNj
   have hjl:=runK_length HEJ.out
   obtain⟨B9,c9,rfl,hl9,hm9,hn9⟩:=HOW.out.slice
   have HND:=Lib.hid (HOW.out.node (k:=2) (e:=q.1.el) (n:=q.1.n) (by omega) (by omega) (by omega) (Got.empty _ _ _ _) (fun z hz=>by cases hz))
   have HS:Hid (sv=⟨.mk 2 q.1.el q.1.n [] (runK f lf j).ks,(runK f lf j).m,0⟩):=Lib.hid (by
    rw [HSV.out,HNJ.out,if_neg (by rw [HEJ.out];simp)])
   obtain⟨x2,y2,z2⟩:=K2.out
   obtain⟨x3,y3,z3⟩:=K3.out
   obtain⟨x4,y4,z4⟩:=h4
   obtain⟨xm,ym,zm⟩:=hm
   rw [hjl] at x4
   go_wp2
   go_region
   go_wp2
   refine abs_post (F:=fun W=>Blk W (w.heap.size+1+1) #[.int .i64 2,.int .i64 q.1.el,.int .i64 q.1.n,.slice none 0 0,.slice B9 j c9]∧Blk W (w.heap.size+1+1+1) #[.int .i64 (runK f lf j).m]∧NdO (w3.heap.size+1) W.heap.size W none 0 B9 c9 (.mk 2 q.1.el q.1.n [] (runK f lf j).ks)∧Below w.heap.size w W) ⟨?_,?_,?_,?_⟩ ?_
   ·exact((((((K2.out.set 0 (by simp) _).set 1 (by simp) _).set 2 (by simp) _).set 3 (by simp) _).set 4 (by simp) _).other (by simp) _).drew
   ·exact((((((K3.out.other (by simp) _).other (by simp) _).other (by simp) _).other (by simp) _).other (by simp) _).set 0 (by simp) _).drew
   ·refine(HND.out.to fun g q1 _=>?_).wide (Nat.le_refl _) (by simp [World.setCell,World.drew])
    show (((((((wr.setCell _ _).setCell _ _).setCell _ _).setCell _ _).setCell _ _).setCell _ _).drew).heap[g]?=wr.heap[g]?
    rw [show ∀W:World,W.drew.heap=W.heap from fun _=>rfl,Below.heap_setCell _ _ _ _ (by simp;omega),Below.heap_setCell _ _ _ _ (by simp;omega),Below.heap_setCell _ _ _ _ (by simp;omega),Below.heap_setCell _ _ _ _ (by simp;omega),Below.heap_setCell _ _ _ _ (by simp;omega),Below.heap_setCell _ _ _ _ (by simp;omega)]
   ·refine bel_drew (Below.setCell (Below.setCell (Below.setCell (Below.setCell (Below.setCell (Below.setCell HB.out ?_ _) ?_ _) ?_ _) ?_ _) ?_ _) ?_ _)<;>(simp;omega)
   rintro W5 ⟨B6,B7,hN,hbw⟩
   have hve:Value.agg #[.int .i64 2,.int .i64 q.1.el,.int .i64 q.1.n,.slice none 0 0,.slice B9 j c9]=.agg #[.int .i64 (Nd.mk 2 q.1.el q.1.n [] (runK f lf j).ks).k,.int .i64 (Nd.mk 2 q.1.el q.1.n [] (runK f lf j).ks).e,.int .i64 (Nd.mk 2 q.1.el q.1.n [] (runK f lf j).ks).n,.slice none (Nd.mk 2 q.1.el q.1.n [] (runK f lf j).ks).d.length 0,.slice B9 (Nd.mk 2 q.1.el q.1.n [] (runK f lf j).ks).ks.length c9]:=by
    simp only [Nd.k,Nd.e,Nd.n,Nd.d,Nd.ks,List.length_nil,hjl]
   exact bodyPost_ret (v:=.tuple #[.agg #[.int .i64 2,.int .i64 q.1.el,.int .i64 q.1.n,.slice none 0 0,.slice B9 j c9],.agg #[.int .i64 (runK f lf j).m],.int .i64 0]) (by simp [results,Tryz.results34,go_sem,B6.cell,B7.cell]) rfl ⟨_,by rw [HS.out],by rw [HS.out];exact⟨none,0,B9,c9,_,hve,Nat.le_refl _,hN.wide (by omega) (Nat.le_refl _)⟩,hbw⟩
theorem RefValue12 (A:Option Addr)(c:Nat)(ls:List (List Int))(D X O:Int)(hw:Wd2 ls)(hm:ls.length≤40)(hf:∀j,(seg ls j).length≤20000000)(hD:D≤900):∀r,ValC A c ls D X O r
 | 0=>RefValue12_step A c ls D X O hw hm hf 0 hD (fun r' h=>by omega)
 | r+1=>RefValue12_step A c ls D X O hw hm hf (r+1) hD (fun r' h=>by
  obtain rfl:r'=r:=by omega
  exact RefValue12 A c ls D X O hw hm hf hD r')
end
section
attribute [local simp] AllK KnowsV look Is
set_option maxRecDepth 100000 in
theorem BStart_any (d x o:Int)(w:World):Calls Tryz.prog 42 #[.agg #[.int .i64 d,.int .i64 x,.int .i64 o]] w fun e w'=>e=.returned (.agg #[.int .i64 (startI x)])∧Below w.heap.size w w':=by
  by_cases h:x<0
  · have HS:Hid (startI x=0):=Lib.hid (by simp [startI,h])
    go_enter Tryz.func42,Tryz.ntmps42
    go_wp2
    all_goals first
      | (exfalso;omega)
      | (refine bodyPost_ret (v:=.agg #[.int .i64 0]) (by simp [results,Tryz.results42,go_sem]) rfl ⟨by rw [HS.out],?_⟩
         exact((Below.refl _ _).alloc (Nat.le_refl _) _).alloc (by simp) _)
  · have HS:Hid (startI x=x):=Lib.hid (by simp [startI,h])
    go_enter Tryz.func42,Tryz.ntmps42
    go_wp2
    all_goals first
      | (exfalso;omega)
      | (have h0:x=0:=by omega
         subst h0
         refine bodyPost_ret (v:=.agg #[.int .i64 0]) (by simp [results,Tryz.results42,go_sem]) rfl ⟨by rw [HS.out],?_⟩
         exact((Below.refl _ _).alloc (Nat.le_refl _) _).alloc (by simp) _)
      | (refine bodyPost_ret (v:=.agg #[.int .i64 x]) (by simp [results,Tryz.results42,go_sem]) rfl ⟨by rw [HS.out],?_⟩
         exact((Below.refl _ _).alloc (Nat.le_refl _) _).alloc (by simp) _)
set_option maxRecDepth 100000 in
theorem BEnter_any (dep x o d:Int)(w:World):Calls Tryz.prog 71 #[.agg #[.int .i64 dep,.int .i64 x,.int .i64 o],.int .i64 d] w fun e w'=>e=.returned (.int .i64 (enterI dep d))∧Below w.heap.size w w':=by
 by_cases h:d≤dep
 ·have HS:Hid (enterI dep d=0):=Lib.hid (by simp [enterI,h])
  go_enter Tryz.func71,Tryz.ntmps71
  go_wp2
  go_ret
  exact⟨by rw [HS.out];rfl,(Below.refl _ _).alloc (Nat.le_refl _) _⟩
 ·have HS:Hid (enterI dep d=7):=Lib.hid (by simp [enterI,h])
  go_enter Tryz.func71,Tryz.ntmps71
  go_wp2
  go_ret
  exact⟨by rw [HS.out];rfl,(Below.refl _ _).alloc (Nat.le_refl _) _⟩
set_option maxRecDepth 100000 in
theorem BTake_no (b:Nat)(m c:Int)(w:World)(hb:Blk w b #[.int .i64 m])(h:m<c):
  Calls Tryz.prog 97 #[.pointer (some ⟨b,0,none⟩),.int .i64 c] w fun e w'=>e=.returned (.bool false)∧w=w':=by
 have hc:=hb.cell
 have hf:=hb.free
 go_enter Tryz.func97,Tryz.ntmps97
 go_wp2
 go_ret
 exact⟨rfl,rfl⟩
set_option maxRecDepth 100000 in
theorem BTake_yes (b:Nat)(m c:Int)(w:World)(hb:Blk w b #[.int .i64 m])(h:¬m<c)(hm1:m≤9223372036854775807)(hc0:0≤c)(hm0:-9223372036854775808≤m):
  Calls Tryz.prog 97 #[.pointer (some ⟨b,0,none⟩),.int .i64 c] w fun e w'=>e=.returned (.bool true)∧w'=w.setCell ⟨b,0,none⟩ (.int .i64 (m-c)):=by
 have hc:=hb.cell
 have hf:=hb.free
 go_enter Tryz.func97,Tryz.ntmps97
 go_wp2
 go_ret
 exact⟨rfl,rfl⟩
set_option maxRecDepth 100000 in
theorem BCharge_any (m c:Int)(w:World)(hm0:-9223372036854775808≤m)(hm1:m≤9223372036854775807)(hc:0≤c):
  Calls Tryz.prog 72 #[.agg #[.int .i64 m],.int .i64 c] w fun e w'=>e=.returned (.tuple #[.agg #[.int .i64 (chargeI m c)],.int .i64 (chargeE m c)])∧Below w.heap.size w w':=by
 by_cases h:m<c
 ·have HS:Hid (chargeI m c=m):=Lib.hid (by simp [chargeI,h])
  have HE:Hid (chargeE m c=8):=Lib.hid (by simp [chargeE,h])
  go_enter Tryz.func72,Tryz.ntmps72
  go_wp2_with fail
  refine(BTake_no _ m c _ (Blk.new (by simp)) h).mono ?_
  rintro e w' ⟨rfl,rfl⟩
  go_wp2
  refine bodyPost_ret (v:=.tuple #[.agg #[.int .i64 m],.int .i64 8]) (by simp [results,Tryz.results72,go_sem]) rfl ⟨by rw [HS.out,HE.out],?_⟩
  exact(((Below.refl _ _).alloc (Nat.le_refl _) _).alloc (by simp) _).alloc (by simp;omega) _
 ·have HS:Hid (chargeI m c=m-c):=Lib.hid (by simp [chargeI,h])
  have HE:Hid (chargeE m c=0):=Lib.hid (by simp [chargeE,h])
  go_enter Tryz.func72,Tryz.ntmps72
  go_wp2_with fail
  refine(BTake_yes _ m c _ (Blk.new (by simp)) (by omega) hm1 hc hm0).mono ?_
  rintro e w' ⟨rfl,rfl⟩
  go_wp2
  refine bodyPost_ret (v:=.tuple #[.agg #[.int .i64 (m-c)],.int .i64 0]) (by simp [results,Tryz.results72,go_sem]) rfl ⟨by rw [HS.out,HE.out],?_⟩
  exact(((Below.refl _ _).alloc (Nat.le_refl _) _).alloc (by simp) _).alloc (by simp;omega) _
end
end Go.Proofs.YtfaflahfjgnphaaGreatDoor
