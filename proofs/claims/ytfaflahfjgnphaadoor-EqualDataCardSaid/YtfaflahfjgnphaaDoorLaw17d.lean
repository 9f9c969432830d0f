/- A law of layer 17: EqualData. -/
import Derived.Test.YtfaflahfjgnphaaDoorMg45
import Derived.Test.YtfaflahfjgnphaaDoorAwake17
namespace Go.Proofs.YtfaflahfjgnphaaDoor
open Go.ChangeShapes Go.WideShapes Go.ChangeAt Go.RowKit
set_option linter.unusedVariables false
set_option linter.unusedSimpArgs false
set_option maxRecDepth 100000
section
attribute [local irreducible] msgV measV small15B fewB canW writeF eqM eqN dataE sameB sizeN
set_option maxHeartbeats 4000000 in
set_option maxRecDepth 100000 in
theorem Data17_walk (P:Option Addr)(cp np:Nat)(ps:List Int)(Q:Option Addr)(cq nq:Nat)(qs:List Int)(z y:Int)(w:World)(hT:TabOK w)(hp:Ri w .u64 P ps)(hnp:ps.length=np)(hip:P=none→cp=0)(hcp:np≤cp)(hkp:cp≤9223372036854775807)(hq:Ri w .u64 Q qs)(hnq:qs.length=nq)(hiq:Q=none→cq=0)(hcq:nq≤cq)(hkq:cq≤9223372036854775807)
  (z0:0≤z) (z1:z<256) (y0:0≤y) (y1:y<18446744073709551616) :
  Calls Tryd.prog 4 #[.slice P np cp,.slice Q nq cq,.int .u8 z,.int .u64 y] w fun e w'=>e=.returned (.bool true)∧Below w.heap.size w w':=by
 obtain⟨i0,hi,hy0,hy1,hy2⟩:=info_parts int64_info
 have HT:=Lib.hid hT
 have Hp:=Lib.hid hp
 have Hq:=Lib.hid hq
 have HWP:=Lib.hid hnp
 have HWQ:=Lib.hid hnq
 have HNP:=Lib.hid hip
 have HNQ:=Lib.hid hiq
 clear hT hp hq hnp hnq hip hiq
 go_enter Tryd.func4,Tryd.ntmps4
 go_wp2_with fail
 refine(awake17_any _ (HT.out)).mono ?_
 rintro r w1 ⟨rfl,hb⟩
 have fp:=Hp.out.below hb (Nat.le_refl _)
 have fq:=Hq.out.below hb (Nat.le_refl _)
 have HB0:=Lib.hid (hb)
 clear hb Hp Hq
 have HB:=HB0
 clear HB0
 have Hp:=Lib.hid fp
 clear fp
 have Hq:=Lib.hid fq
 clear fq
 by_cases hp2:200<np
 ·skip
  have t1:decide ((200:Int)<(np:Int))=true:=decide_eq_true (by omega)
  have t2:decide (200<np)=true:=decide_eq_true hp2
  go_wp2_with fail
  refine(awake17_any _ (HT.out.on HB.out)).mono ?_
  rintro r w2 ⟨rfl,hb⟩
  have fp:=Hp.out.below hb (Nat.le_refl _)
  have fq:=Hq.out.below hb (Nat.le_refl _)
  have HB0:=Lib.hid (bel_on HB.out hb)
  clear hb Hp Hq HB
  have HB:=HB0
  clear HB0
  have Hp:=Lib.hid fp
  clear fp
  have Hq:=Lib.hid fq
  clear fq
  go_wp2
  go_ret
  exact⟨rfl,HB.out⟩
 have tp1:decide ((200:Int)<(np:Int))=false:=decide_eq_false (by omega)
 have tp2:decide (200<np)=false:=decide_eq_false hp2
 by_cases hq2:200<nq
 ·skip
  have t1:decide ((200:Int)<(nq:Int))=true:=decide_eq_true (by omega)
  have t2:decide (200<nq)=true:=decide_eq_true hq2
  go_wp2_with fail
  refine(awake17_any _ (HT.out.on HB.out)).mono ?_
  rintro r w2 ⟨rfl,hb⟩
  have fp:=Hp.out.below hb (Nat.le_refl _)
  have fq:=Hq.out.below hb (Nat.le_refl _)
  have HB0:=Lib.hid (bel_on HB.out hb)
  clear hb Hp Hq HB
  have HB:=HB0
  clear HB0
  have Hp:=Lib.hid fp
  clear fp
  have Hq:=Lib.hid fq
  clear fq
  go_wp2
  go_ret
  exact⟨rfl,HB.out⟩
 have tq1:decide ((200:Int)<(nq:Int))=false:=decide_eq_false (by omega)
 have tq2:decide (200<nq)=false:=decide_eq_false hq2
 obtain⟨kz,hkz⟩:=Int.eq_ofNat_of_zero_le (show 0≤z % 9 by omega)
 have hkz9:kz≤8:=by omega
 have hzt:z.tmod 9=(kz:Int):=by rw [Int.tmod_eq_emod_of_nonneg z0];exact hkz
 have hkb:(kz:Int)≤8:=by omega
 obtain⟨u,hu⟩:∃u,dataE ps qs=u:=⟨_,rfl⟩
 obtain⟨xs,hxs⟩:∃xs,ps++List.replicate kz 0=xs:=⟨_,rfl⟩
 have hu2:dataE qs ps=u:=by rw [dataE_comm,hu]
 have hu3:dataE xs qs=u:=by rw [←hxs,dataE_zeros,hu]
 have hu4:dataE ps xs=true:=by rw [←hxs];exact dataE_self ps kz
 have hu5:dataE (xs++[y]) ps=(y==0):=by rw [←hxs];exact dataE_more ps kz y
 have hxl:xs.length≤208:=by rw [←hxs,List.length_append,List.length_replicate,HWP.out];omega
 have HX:=Lib.hid hxs
 have HU:=Lib.hid hu
 have HU2:=Lib.hid hu2
 have HU3:=Lib.hid hu3
 have HU4:=Lib.hid hu4
 have HU5:=Lib.hid hu5
 have HXL:=Lib.hid hxl
 clear hxs hu hu2 hu3 hu4 hu5 hxl
 have HEM:=Lib.hid (Got.empty_made w1 (base:=w1.heap.size) 32 .u64 (Nat.le_refl _))
 have HRP:=Lib.hid (Hp.out.alloc (.cells #[] 32))
 go_wp2_with (first
  | (at_builtin;refine wpList_appNn np rfl (.tmp 24) (.tmp 25) 31 rfl Tryd.underlying31 hi hy0 hy1 hy2 HWP.out.symm rfl HEM.out rfl HRP.out HNP.out (by unfold maxLen;simp;omega) (by simp;omega) (by simp) ?_;intro v1 u1 hg1 hb1;have HG1:=Lib.hid (hg1.cast rfl (List.nil_append ps));have HB1:=Lib.hid hb1;have hz1:=hb1.size;simp at hz1;clear hg1 hb1)
  | (at_builtin;refine wpList_appZ rfl (.tmp 26) (.tmp 29) 31 3 rfl Tryd.underlying31 Tryd.underlying3 hi hy0 hy1 hy2 rfl HG1.out rfl (by rw [HWP.out];unfold maxLen;omega) (by rw [HWP.out];omega) (by omega) ?_;intro v2 u2 hg2 hb2;have hg2':=hg2.cast rfl HX.out;obtain⟨A2,c2,rfl,hl2,hm2,hr2,hn2⟩:=hg2'.full;have HR2:=Lib.hid hr2;have HN2:=Lib.hid hn2;have HB2:=Lib.hid hb2;have hz2:=hb2.size;have HEM2:=Lib.hid (Got.empty_made u2 (base:=u2.heap.size) 32 .u64 (Nat.le_refl _));have HR3:=Lib.hid (hr2.alloc (.cells #[] 32));clear hg2 hg2' hr2 hn2 hb2)
  | (at_builtin;refine wpList_appN rfl (.tmp 31) (.tmp 32) 31 rfl Tryd.underlying31 hi hy0 hy1 hy2 rfl HEM2.out rfl HR3.out HN2.out (by have:=HXL.out;unfold maxLen;simp;omega) (by have:=HXL.out;simp;omega) (by simp) ?_;intro v3 u3 hg3 hb3;have hg3':=hg3.cast rfl (List.nil_append xs);have HB3:=Lib.hid hb3;have hz3:=hb3.size;simp at hz3;have HG3:=Lib.hid (hg3'.below ((Below.refl u3.heap.size u3).alloc (Nat.le_refl _) (.cells #[.int .u64 y] 32)) (Nat.le_refl _));have HRY:=Lib.hid (Ri.lit u3 .u64 [y] 32);clear hg3 hg3' hb3)
  | (at_builtin;refine wpList_appN (ys:=[y]) rfl (.tmp 33) (.tmp 35) 31 rfl Tryd.underlying31 hi hy0 hy1 hy2 rfl HG3.out rfl HRY.out (fun h=>by cases h) (by have:=HXL.out;unfold maxLen;simp;omega) (by have:=HXL.out;simp;omega) (by simp;omega) ?_;intro v4 u4 hg4 hb4;obtain⟨A4,c4,rfl,hl4,hm4,hr4,hn4⟩:=hg4.full;have HR4:=Lib.hid hr4;have HN4:=Lib.hid hn4;have HB4:=Lib.hid hb4;clear hg4 hr4 hn4 hb4))
 have b13:Below w1.heap.size w1 u2:=((((Below.refl w1.heap.size w1).alloc (Nat.le_refl _) (.cells #[] 32)).trans HB1.out).trans HB2.out)
 have b24:Below u2.heap.size u2 u4:=(((((Below.refl u2.heap.size u2).alloc (Nat.le_refl _) (.cells #[] 32)).trans HB3.out).alloc (by omega) (.cells #[.int .u64 y] 32)).trans HB4.out)
 have b14:Below w1.heap.size w1 u4:=b13.trans (b24.mono b13.size)
 have HBW:=Lib.hid (bel_on HB.out b14)
 have HP4:=Lib.hid (Hp.out.below b14 (Nat.le_refl _))
 have HQ4:=Lib.hid (Hq.out.below b14 (Nat.le_refl _))
 have HX4:=Lib.hid (HR2.out.below b24 (Nat.le_refl _))
 clear b13 b24 b14 HB1 HB2 HB3 HB4 Hp Hq HB HEM HRP HG1 HEM2 HR3 HG3 HRY HR2
 unfold maxLen at hm2 hm4
 have hl4':xs.length+1≤c4:=by simpa using hl4
 have Hx:=HX4
 have Hp:=HP4
 have Hq:=HQ4
 have Hm:=HR4
 have HB:=HBW
 clear HX4 HP4 HQ4 HR4 HBW
 refine(EData_w P cp np Q cq nq ps qs u _ (HT.out.on HB.out) HWP.out HWQ.out Hp.out Hq.out (by omega) (by omega) hcp hcq HNP.out HNQ.out hkp hkq HU.out).mono ?_
 rintro r w1 ⟨rfl,hb⟩
 have fx:=Hx.out.below hb (Nat.le_refl _)
 have fp:=Hp.out.below hb (Nat.le_refl _)
 have fq:=Hq.out.below hb (Nat.le_refl _)
 have fm:=Hm.out.below hb (Nat.le_refl _)
 have HB0:=Lib.hid (bel_on HB.out hb)
 clear hb Hx Hp Hq Hm HB
 have HB:=HB0
 clear HB0
 have Hx:=Lib.hid fx
 clear fx
 have Hp:=Lib.hid fp
 clear fp
 have Hq:=Lib.hid fq
 clear fq
 have Hm:=Lib.hid fm
 clear fm
 go_wp2_with fail
 refine(EData_w Q cq nq P cp np qs ps u _ (HT.out.on HB.out) HWQ.out HWP.out Hq.out Hp.out (by omega) (by omega) hcq hcp HNQ.out HNP.out hkq hkp HU2.out).mono ?_
 rintro r w2 ⟨rfl,hb⟩
 have fx:=Hx.out.below hb (Nat.le_refl _)
 have fp:=Hp.out.below hb (Nat.le_refl _)
 have fq:=Hq.out.below hb (Nat.le_refl _)
 have fm:=Hm.out.below hb (Nat.le_refl _)
 have HB0:=Lib.hid (bel_on HB.out hb)
 clear hb Hx Hp Hq Hm HB
 have HB:=HB0
 clear HB0
 have Hx:=Lib.hid fx
 clear fx
 have Hp:=Lib.hid fp
 clear fp
 have Hq:=Lib.hid fq
 clear fq
 have Hm:=Lib.hid fm
 clear fm
 have tu:(u != u)=false:=by simp
 go_wp2_with fail
 refine(EData_w A2 c2 xs.length Q cq nq xs qs u _ (HT.out.on HB.out) rfl HWQ.out Hx.out Hq.out (by have:=HXL.out;omega) (by omega) hl2 hcq HN2.out HNQ.out hm2 hkq HU3.out).mono ?_
 rintro r w3 ⟨rfl,hb⟩
 have fx:=Hx.out.below hb (Nat.le_refl _)
 have fp:=Hp.out.below hb (Nat.le_refl _)
 have fq:=Hq.out.below hb (Nat.le_refl _)
 have fm:=Hm.out.below hb (Nat.le_refl _)
 have HB0:=Lib.hid (bel_on HB.out hb)
 clear hb Hx Hp Hq Hm HB
 have HB:=HB0
 clear HB0
 have Hx:=Lib.hid fx
 clear fx
 have Hp:=Lib.hid fp
 clear fp
 have Hq:=Lib.hid fq
 clear fq
 have Hm:=Lib.hid fm
 clear fm
 go_wp2_with fail
 refine(EData_w P cp np Q cq nq ps qs u _ (HT.out.on HB.out) HWP.out HWQ.out Hp.out Hq.out (by omega) (by omega) hcp hcq HNP.out HNQ.out hkp hkq HU.out).mono ?_
 rintro r w4 ⟨rfl,hb⟩
 have fx:=Hx.out.below hb (Nat.le_refl _)
 have fp:=Hp.out.below hb (Nat.le_refl _)
 have fq:=Hq.out.below hb (Nat.le_refl _)
 have fm:=Hm.out.below hb (Nat.le_refl _)
 have HB0:=Lib.hid (bel_on HB.out hb)
 clear hb Hx Hp Hq Hm HB
 have HB:=HB0
 clear HB0
 have Hx:=Lib.hid fx
 clear fx
 have Hp:=Lib.hid fp
 clear fp
 have Hq:=Lib.hid fq
 clear fq
 have Hm:=Lib.hid fm
 clear fm
 go_wp2_with fail
 refine(EData_w P cp np A2 c2 xs.length ps xs true _ (HT.out.on HB.out) HWP.out rfl Hp.out Hx.out (by omega) (by have:=HXL.out;omega) hcp hl2 HNP.out HN2.out hkp hm2 HU4.out).mono ?_
 rintro r w5 ⟨rfl,hb⟩
 have fx:=Hx.out.below hb (Nat.le_refl _)
 have fp:=Hp.out.below hb (Nat.le_refl _)
 have fq:=Hq.out.below hb (Nat.le_refl _)
 have fm:=Hm.out.below hb (Nat.le_refl _)
 have HB0:=Lib.hid (bel_on HB.out hb)
 clear hb Hx Hp Hq Hm HB
 have HB:=HB0
 clear HB0
 have Hx:=Lib.hid fx
 clear fx
 have Hp:=Lib.hid fp
 clear fp
 have Hq:=Lib.hid fq
 clear fq
 have Hm:=Lib.hid fm
 clear fm
 go_wp2_with fail
 refine(EData_w A4 c4 (xs.length+1) P cp np (xs++[y]) ps (y==0) _ (HT.out.on HB.out) (by simp) HWP.out Hm.out Hp.out (by have:=HXL.out;omega) (by omega) hl4' hcp HN4.out HNP.out hm4 hkp HU5.out).mono ?_
 rintro r w6 ⟨rfl,hb⟩
 have fx:=Hx.out.below hb (Nat.le_refl _)
 have fp:=Hp.out.below hb (Nat.le_refl _)
 have fq:=Hq.out.below hb (Nat.le_refl _)
 have fm:=Hm.out.below hb (Nat.le_refl _)
 have HB0:=Lib.hid (bel_on HB.out hb)
 clear hb Hx Hp Hq Hm HB
 have HB:=HB0
 clear HB0
 have Hx:=Lib.hid fx
 clear fx
 have Hp:=Lib.hid fp
 clear fp
 have Hq:=Lib.hid fq
 clear fq
 have Hm:=Lib.hid fm
 clear fm
 have ty:((y==0)==(y==0))=true:=by simp
 go_wp2
 go_ret
 exact⟨by simp,HB.out⟩
end
end Go.Proofs.YtfaflahfjgnphaaDoor
