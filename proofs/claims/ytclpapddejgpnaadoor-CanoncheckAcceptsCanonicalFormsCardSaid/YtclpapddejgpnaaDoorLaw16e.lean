/- A law of layer 16: CanoncheckAcceptsCanonicalForms. -/
import Derived.Test.YtclpapddejgpnaaDoorMg34
import Derived.Test.YtclpapddejgpnaaDoorMg42
import Derived.Test.YtclpapddejgpnaaDoorMg45
import Derived.Test.YtclpapddejgpnaaDoorMg46
import Derived.Test.YtclpapddejgpnaaDoorLaw16b
namespace Go.Proofs.YtclpapddejgpnaaDoor
open Go.ChangeShapes Go.WideShapes Go.ChangeAt Go.RowKit
set_option linter.unusedVariables false
set_option linter.unusedSimpArgs false
set_option maxRecDepth 100000
section
attribute [local simp] AllK KnowsV look Is
theorem hold_it16 {p:Prop}(h:Hid p):p:=h.out
attribute [local irreducible] msgV measV small15B fewB canW writeF chkB sameB
set_option maxHeartbeats 4000000 in
set_option maxRecDepth 100000 in
theorem Forms16_walk (A:Option Addr)(c:Nat)(ls:List (List Int))(D X O q y:Int)(w:World)(hT:TabOK w)(hA:Sg w A ls)(hw:Wd2 ls)(hnil:A=none→c=0)(hlm:ls.length≤9223372036854775807)(hlc:ls.length≤c)(hcm:c≤9223372036854775807)
  (d0:-9223372036854775808≤D) (d1:D≤9223372036854775807) (x0:-9223372036854775808≤X) (x1:X≤9223372036854775807) (q0:0≤q) (q1:q<256) (y0:0≤y) (y1:y<18446744073709551616) :
  Calls Tryd.prog 5 #[.slice A ls.length c,.agg #[.int .i64 D,.int .i64 X,.int .i64 O],.int .u8 q,.int .u64 y] w fun e w'=>e=.returned (.bool true)∧Below w.heap.size w w':=by
 obtain⟨i0,hi0,hz0,hz1,hz2⟩:=info_parts int64_info
 have HT:=Lib.hid hT
 have Hm:=Lib.hid hA
 have HW:=Lib.hid hw
 clear hT hA hw hnil
 go_enter Tryd.func5,Tryd.ntmps5
 go_wp2_with fail
 refine abs_world (F:=fun W=>Sg W A ls∧Blk W w.heap.size #[.int .i64 D,.int .i64 X,.int .i64 O]∧Below w.heap.size w W) ⟨?_,?_,?_⟩ ?_
 ·exact(Hm.out.alloc _)
 ·exact Blk.fresh _ _ _
 ·exact((Below.refl w.heap.size w).alloc (by first|exact Nat.le_refl _|(simp;done)|(simp;omega)) _)
 clear Hm
 rintro W1 ⟨hm,hl,hb⟩
 have Hm:=Lib.hid hm
 have Hl:=Lib.hid hl
 have HB:=Lib.hid hb
 clear hb hm hl
 refine(awake16_any _ (HT.out.on HB.out)).mono ?_
 rintro r w2 ⟨rfl,hb⟩
 have fm:=Hm.out.below hb (Nat.le_refl _)
 have fl:=Hl.out.below hb
 have HB0:=Lib.hid (bel_on HB.out hb)
 clear hb Hm Hl HB
 have HB:=HB0
 clear HB0
 have Hm:=Lib.hid fm
 clear fm
 have Hl:=Lib.hid fl
 clear fl
 obtain⟨xl,yl,zl⟩:=Hl.out
 go_wp2_with fail
 clear xl yl zl
 refine(RefSmall15 A c ls D X O _ Hm.out hlm).mono ?_
 rintro r w3 ⟨rfl,hb⟩
 have fm:=Hm.out.below hb (Nat.le_refl _)
 have fl:=Hl.out.below hb
 have HB0:=Lib.hid (bel_on HB.out hb)
 clear hb Hm Hl HB
 have HB:=HB0
 clear HB0
 have Hm:=Lib.hid fm
 clear fm
 have Hl:=Lib.hid fl
 clear fl
 cases hsm:small15B ls D X with
 | false=>
  clear hsm
  go_wp2_with fail
  refine(awake16_any _ (HT.out.on HB.out)).mono ?_
  rintro r w4 ⟨rfl,hb⟩
  have fm:=Hm.out.below hb (Nat.le_refl _)
  have fl:=Hl.out.below hb
  have HB0:=Lib.hid (bel_on HB.out hb)
  clear hb Hm Hl HB
  have HB:=HB0
  clear HB0
  have Hm:=Lib.hid fm
  clear fm
  have Hl:=Lib.hid fl
  clear fl
  go_wp2
  go_ret
  exact⟨rfl,HB.out⟩
 | true=>
  obtain⟨hD,hX,hl20,hf⟩:=small15_fits hsm
  have HF:Hid (∀j,(seg ls j).length≤20000000):=Lib.hid (fun j=>by have:=hf j;omega)
  have hm':ls.length≤40:=by omega
  clear hsm hf
  have hcl:=can16 HW.out hm' HF.out D X (by omega)
  have hcw:(msgV ls D X).2=0→writeF (msgV ls D X).1=canW ls D X:=fun h=>by unfold canW;rw [if_pos h]
  have hck:(msgV ls D X).2=0→chkB (writeF (msgV ls D X).1) D X=true:=fun h=>chk_canon HW.out hm' HF.out (by omega) h (msg_byt ls D X)
  have hwd:Wds (writeF (msgV ls D X).1):=writeF_wds (msg_byt ls D X)
  obtain⟨cw,hc⟩:∃l,canW ls D X=l:=⟨_,rfl⟩
  obtain⟨e,he⟩:∃e,(msgV ls D X).2=e:=⟨_,rfl⟩
  obtain⟨L,hL⟩:∃L,cw.length=L:=⟨_,rfl⟩
  rw [hc,he] at hcw
  rw [he] at hck
  rw [hc,hL] at hcl
  have HCK:Hid (e=0→chkB cw D X=true∧Wds cw):=Lib.hid (fun h=>by rw [←hcw h];exact⟨hck h,hwd⟩)
  have HE:=Lib.hid he
  have HC:=Lib.hid hc
  have HL:=Lib.hid hL
  clear hcw hck hwd he hc hL
  obtain⟨xl,yl,zl⟩:=Hl.out
  go_wp2_with fail
  clear xl yl zl
  refine(RefWords16_c A c _ ls D X O e cw L _ rfl Hm.out HW.out hm' HF.out (by omega) (by omega) HE.out HC.out HL.out).mono ?_
  rintro r w4 ⟨A1,c1,rfl,hn,hn1,hl1,hm1,hb⟩
  have fm:=Hm.out.below hb (Nat.le_refl _)
  have fl:=Hl.out.below hb
  have HB0:=Lib.hid (bel_on HB.out hb)
  clear hb Hm Hl HB
  have HB:=HB0
  clear HB0
  have Hm:=Lib.hid fm
  clear fm
  have Hl:=Lib.hid fl
  clear fl
  have Hr:=Lib.hid hn
  clear hn
  clear hn1
  clear Hm
  by_cases he:e=0
  rotate_left
  ·
   have t0:(e != 0)=true:=bne_iff_ne.2 he
   go_wp2
   go_ret
   exact⟨rfl,HB.out⟩
  have t0:(e != 0)=false:=by rw [he];rfl
  obtain⟨hv,hwc⟩:=HCK.out he
  have HWC:=Lib.hid hwc
  have HV:=Lib.hid hv
  have hn0:0<L:=by have:=(chkB_iff.1 hv).1;rw [HL.out] at this;exact this
  have HMO:=Lib.hid (chk_more (V:=[y]) HWC.out (by rw [HL.out];omega) (by simp) hv)
  have hs0:0≤q % L:=Int.emod_nonneg _ (by omega)
  have hs1:q % L<L:=Int.emod_lt_of_pos _ (by omega)
  obtain⟨k,hS⟩:=Int.eq_ofNat_of_zero_le hs0
  have hkn:k<L:=by omega
  have htm:q.tmod L=k:=by rw [Int.tmod_eq_emod_of_nonneg q0];exact hS
  have hkl:(k:Int)<(L:Int):=by omega
  have hnz:¬((L:Int)=0):=by omega
  obtain⟨b0,o0,hA⟩:∃b o,A1=some ⟨b,o,none⟩:=by
   rcases Hr.out with h|⟨b,o,h,-⟩
   ·have h2:=HL.out
    rw [h] at h2
    simp at h2
    omega
   ·exact⟨b,o,h⟩
  subst hA
  clear hv hwc hs0 hs1 hS he HCK
  obtain⟨xl,yl,zl⟩:=Hl.out
  go_wp2_with fail
  clear xl yl zl
  rename_i KK hKK
  have HKC:Hid (∀wc,Keeps (fun q=>w4.heap.size≤q) w4.drew wc→Below w4.heap.size w4 wc):=Lib.hid (fun wc hbc=>by
   have h:=hbc.below (B:=w4.heap.size) (Nat.le_refl _) (fun q hq=>hq)
   exact⟨h.os,h.tape,h.output,h.size,h.block⟩)
  refine wp_region_a13 10 (fun q=>w4.heap.size≤q) (by kernel_rfl) (by kernel_rfl) ?_
  refine a_val_l (u:=?_) [9] (by kernel_rfl) rfl (by kernel_rfl) trivial (fun ρ wc hbc hcn hk=>?_) ?_;rotate_left
  ·obtain⟨hcn,-⟩:=hcn
   simp at hk
   go_simp
   rfl
  refine a_val_l (u:=?_) [5] (by kernel_rfl) rfl (by kernel_rfl) trivial (fun ρ wc hbc hcn hk=>?_) ?_;rotate_left
  ·obtain⟨hcn,-⟩:=hcn
   simp at hk
   obtain⟨xl,yl,zl⟩:=Hl.out.below (HKC.out wc hbc)
   go_simp
   rfl
  refine a_call_l (u:=.bool true) 10 [32,33] (by kernel_rfl) rfl (by kernel_rfl) trivial (fun ρ wc hbc hcn hk=>?_) ?_
  ·obtain⟨hcn,hfn⟩:=hcn
   simp at hk
   refine⟨_,by go_simp;rfl,?_⟩
   exact KWords_w (some ⟨b0,o0,none⟩) c1 L cw D X O true wc (HT.out.on (bel_on HB.out (HKC.out wc hbc))) HL.out (Hr.out.below (HKC.out wc hbc) (Nat.le_refl _)) HWC.out (by omega) (fun h=>by cases h) hl1 hm1 (by omega) (by omega) HV.out
  refine a_val_l (u:=?_) [34] (by kernel_rfl) rfl (by kernel_rfl) trivial (fun ρ wc hbc hcn hk=>?_) ?_;rotate_left
  ·obtain⟨hcn,-⟩:=hcn
   simp at hk
   go_simp
   rfl
  refine a_val (u:=?_) [35] (by kernel_rfl) rfl rfl (by kernel_rfl) trivial (fun ρ wc hbc hcn hk=>?_) ?_;rotate_left
  ·obtain⟨hcn,-⟩:=hcn
   simp at hk
   go_simp
   rfl
  refine a_new_l (T:=EmpW 32 w4.heap.size) [] (by kernel_rfl) rfl (by kernel_rfl) ⟨36,by decide +kernel,rfl,fun w x hx=>by simpa using hx⟩ (stable_empW _ _) (fun ρ wc hbc hcn hk=>?_) ?_
  ·obtain⟨hcn,hfn⟩:=hcn
   exact⟨.slice (some ⟨wc.heap.size,0,none⟩) 0 0,wc.alloc (.cells #[] 32),by go_simp,⟨_,rfl,(HKC.out wc hbc).size,heap_alloc_new wc _⟩,(Below.refl _ _).alloc (Nat.le_refl _) _⟩
  refine a_val_l (u:=?_) [9] (by kernel_rfl) rfl (by kernel_rfl) ⟨36,by decide +kernel,rfl,fun w x hx=>by simpa using hx⟩ (fun ρ wc hbc hcn hk=>?_) ?_;rotate_left
  ·obtain⟨hcn,-⟩:=hcn
   simp at hk
   go_simp
   rfl
  refine a_new (T:=GotW 32 w4.heap.size cw) [37,38] (by kernel_rfl) rfl rfl (by kernel_rfl) ⟨36,by decide +kernel,rfl,fun w x hx=>by simpa using hx⟩ (stable_gotW _ _ _) (fun ρ wc hbc hcn hk=>?_) ?_
  ·obtain⟨⟨q0,h38,hq0,hqc⟩,h39,-⟩:=hk
   exact exec_app0 (.tmp 37) (.tmp 38) 22 rfl Tryd.underlying22 hi0 hz0 hz1 hz2 h38 hqc hq0 (by rw [HL.out];exact h39) (Hr.out.below (B:=w4.heap.size) ⟨hbc.os,hbc.tape,hbc.output,hbc.size,hbc.block⟩ (Nat.le_refl _)) (fun h=>by cases h) (by rw [HL.out];exact hl1) (by rw [HL.out];omega)
  refine a_val_l (u:=?_) [3] (by kernel_rfl) rfl (by kernel_rfl) ⟨36,by decide +kernel,rfl,fun w x hx=>by simpa using hx⟩ (fun ρ wc hbc hcn hk=>?_) ?_;rotate_left
  ·obtain⟨hcn,-⟩:=hcn
   simp at hk
   go_simp
   rfl
  refine a_new (T:=HoldW [y]) [40] (by kernel_rfl) rfl rfl (by kernel_rfl) ⟨36,by decide +kernel,rfl,fun w x hx=>by simpa using hx⟩ (stable_holdW _) (fun ρ wc hbc hcn hk=>?_) ?_
  ·obtain⟨hcn,-⟩:=hcn
   simp at hk
   exact⟨.slice (some ⟨wc.heap.size,0,none⟩) 1 1,wc.alloc (.cells #[.int .u64 y] 32),by go_simp,⟨_,_,rfl,Ri.lit wc .u64 [y] _,(fun h=>by cases h),by simp,by unfold maxLen;simp⟩,(Below.refl _ _).alloc (Nat.le_refl _) _⟩
  refine a_sp_g (T:=GotW 32 w4.heap.size (cw++[y])) [39,41] rfl rfl (by kernel_rfl) ⟨36,by decide +kernel,rfl,fun w x hx=>by simpa using hx⟩ (stable_gotW _ _ _) (fun a wc hbc hcn hwt hk=>?_) ?_
  ·obtain⟨h40,⟨A5,c5,h42,hr5,hn5,hl5,hm5⟩,-⟩:=hk
   refine wpList_unguard hwt ?_
   refine wpList_appN rfl (.tmp 39) (.tmp 41) 22 rfl Tryd.underlying22 hi0 hz0 hz1 hz2 rfl h40 h42 hr5 hn5 (by rw [HL.out];unfold maxLen;simp;omega) (by rw [HL.out];simp;omega) hbc.size ?_
   intro v' w' hg' hb'
   refine⟨rfl,v',rfl,hg',?_⟩
   rw [if_pos rfl]
   exact⟨hb'.os,hb'.tape,hb'.output,hb'.size,fun q1 h1 h2=>hb'.block q1 (Nat.lt_of_not_le h2)⟩
  refine a_val_l (u:=?_) [5] (by kernel_rfl) rfl (by kernel_rfl) ⟨36,by decide +kernel,rfl,fun w x hx=>by simpa using hx⟩ (fun ρ wc hbc hcn hk=>?_) ?_;rotate_left
  ·obtain⟨hcn,-⟩:=hcn
   simp at hk
   obtain⟨xl,yl,zl⟩:=Hl.out.below (HKC.out wc hbc)
   go_simp
   rfl
  refine a_call_l (u:=.bool false) 10 [42,43] (by kernel_rfl) rfl (by kernel_rfl) ⟨36,by decide +kernel,rfl,fun w x hx=>by simpa using hx⟩ (fun ρ wc hbc hcn hk=>?_) ?_
  ·obtain⟨hcn,hfn⟩:=hcn
   obtain⟨h43,h44,-⟩:=hk
   obtain⟨A6,c6,h43',hl6,hm6,hr6,hn6⟩:=Got.full h43
   refine⟨#[ρ (.tmp 42),ρ (.tmp 43)],by go_simp,?_⟩
   rw [h43',show ρ (.tmp 43)=_ from h44]
   exact KWords_w A6 c6 _ (cw++[y]) D X O false wc (HT.out.on (bel_on HB.out (HKC.out wc hbc))) rfl hr6 (fun z hz=>by
    rcases List.mem_append.1 hz with h|h
    ·exact HWC.out z h
    ·simp at h
     subst h
     exact⟨y0,y1⟩) (by rw [List.length_append,HL.out];simp;omega) hn6 hl6 hm6 (by omega) (by omega) HMO.out
  refine a_end_lit 88 rfl (fun ff w99 hb9 hk=>?_)
  simp [AllN] at hk
  simp only [frameL,hk,Nat.zero_add,Nat.reduceAdd]
  have HBk:=Lib.hid (HKC.out w99 hb9)
  clear hb9 hk
  generalize ff 37=v37
  generalize ff 39=v39
  generalize ff 41=v41
  generalize ff 42=v42
  have Hr9:=Lib.hid (Hr.out.below HBk.out (Nat.le_refl _))
  have Hl9:=Lib.hid (Hl.out.below HBk.out)
  have HB9:=Lib.hid (bel_on HB.out HBk.out)
  clear Hr Hl HB HBk HKC HMO
  go_wp2_with (at_builtin;refine hold_it ?_)
  refine Lib.hid ?_
  refine wpList_appNn L rfl (.tmp 46) (.tmp 47) 22 rfl Tryd.underlying22 hi0 hz0 hz1 hz2 HL.out.symm rfl (Got.empty_made w99 32 .u64 (base:=w99.heap.size) (Nat.le_refl _)) rfl (Hr9.out.alloc _) (fun h=>by cases h) (by unfold maxLen;simp only [List.length_nil];omega) (by simp only [List.length_nil];omega) (by simp) ?_
  intro v6 w6 hg6 hb6
  rw [List.nil_append] at hg6
  have hbb:Below w99.heap.size w99 w6:=((Below.refl _ _).alloc (Nat.le_refl _) _).trans hb6
  have HB6:=Lib.hid (bel_on HB9.out hbb)
  have HB96:=Lib.hid hbb
  have Hl6:=Lib.hid (Hl9.out.below hbb)
  have hlw:w.heap.size<w99.heap.size:=Hl9.out.lt
  clear hbb hb6 Hl9 HB9
  obtain⟨A6,c6,he6,hl6,hm6,-,-⟩:=hg6.full
  rw [HL.out] at he6 hl6
  subst he6
  obtain⟨g,rfl,hg1,hg2,hnz6⟩:=hg6.addr hn0
  have hgy:=hg6.cast (congrArg (fun n=>Value.slice (some ⟨g,0,none⟩) n c6) hnz6) rfl
  have hcell:=hgy.cell k (by rw [HL.out];exact hkn)
  have hfree:=hgy.free k
  have HG6:=Lib.hid hgy
  clear hg6 hgy hnz6
  obtain⟨u,hu⟩:∃u,IntKind.u64.wrap (zat cw k+y)=u:=⟨_,rfl⟩
  have hu2:u=(zat cw k+y) % 18446744073709551616:=by rw [←hu,IntKind.wrap_u64]
  have hzk:0≤zat cw k∧zat cw k<18446744073709551616:=HWC.out _ (zat_mem (by rw [HL.out];exact hkn))
  obtain⟨vs,hvs⟩:∃vs,cw.set k u=vs:=⟨_,rfl⟩
  have HLv:Hid (vs.length=L):=Lib.hid (by rw [←hvs,List.length_set,HL.out])
  have HWv:Hid (Wds vs):=Lib.hid (by
   rw [←hvs]
   intro z hz
   rcases List.mem_or_eq_of_mem_set hz with h|h
   ·exact HWC.out z h
   ·rw [h,hu2];omega)
  have HNE:Hid (y≠0→vs≠cw):=Lib.hid (by
   intro hy h
   have h2:zat vs k=zat cw k:=by rw [h]
   rw [←hvs] at h2
   have h3:zat (cw.set k u) k=u:=by
    unfold zat
    rw [List.getD_eq_getElem?_getD,List.getElem?_set_self (by rw [HL.out];exact hkn)]
    rfl
   rw [h3,hu2] at h2
   omega)
  clear hu2
  have hr8:=(HG6.out.put k u).ri.1
  rw [hvs] at hr8
  have Hx8:=Lib.hid hr8
  have hsc:Below w.heap.size w (w6.setCell ⟨g,k,none⟩ (.int .u64 u)):=Below.setCell HB6.out (by show w.heap.size≤g;omega) _
  have Hl8:=Lib.hid (Hl6.out.other (p:=⟨g,k,none⟩) (by show g≠w.heap.size;omega) (.int .u64 u))
  have HB8:=Lib.hid hsc
  have hsb:Below w99.heap.size w99 (w6.setCell ⟨g,k,none⟩ (.int .u64 u)):=Below.setCell HB96.out (by show w99.heap.size≤g;exact hg1) _
  have Hr8:=Lib.hid (Hr9.out.below hsb (Nat.le_refl _))
  have hsz:(w6.setCell ⟨g,k,none⟩ (.int .u64 u)).heap.size=w6.heap.size:=by simp
  obtain⟨xl,yl,zl⟩:=(Hl8.out.alloc (.cells #[.slice (some ⟨g,0,none⟩) L c6] 22))
  go_wp2_with fail
  clear xl yl zl hcell hfree hu hvs hsc hsb Hr9 HB96 HG6 Hl6 HB6
  rw [←hsz]
  generalize w6.setCell ⟨g,k,none⟩ (.int .u64 u)=W8 at *
  clear hsz
  have Hr:=Hr8
  have Hx:=Hx8
  have Hl:=Hl8
  have HB:=HB8
  clear Hr8 Hx8 Hl8 HB8
  refine abs_world (F:=fun W=>Ri W .u64 (some ⟨b0,o0,none⟩) cw∧Ri W .u64 (some ⟨g,0,none⟩) vs∧Blk W w.heap.size #[.int .i64 D,.int .i64 X,.int .i64 O]∧Sg W (some ⟨W8.heap.size,0,none⟩) [vs]∧Below w.heap.size w W) ⟨?_,?_,?_,?_,?_⟩ ?_
  ·exact(Ri.below Hr.out ((Below.refl _ _).alloc (Nat.le_refl _) _) (Nat.le_refl _))
  ·exact(Ri.below Hx.out ((Below.refl _ _).alloc (Nat.le_refl _) _) (Nat.le_refl _))
  ·exact(Hl.out.alloc _)
  ·exact sg_wrap16 _ (some ⟨g,0,none⟩) c6 L _ vs _ Hx.out HLv.out (fun h=>by cases h) hl6 hm6 rfl
  ·exact(HB.out.alloc (by first|exact Nat.le_refl _|(have:=HB.out.size;simp;omega)|(have:=HB.out.size;omega)|(simp;done)|(simp;omega)) _)
  clear Hr Hx Hl HB
  rintro W9 ⟨hr,hx,hl,ht,hb⟩
  have Hr:=Lib.hid hr
  have Hx:=Lib.hid hx
  have Hl:=Lib.hid hl
  have Ht:=Lib.hid ht
  have HB:=Lib.hid hb
  clear hb hr hx hl ht
  obtain⟨vw,hc⟩:∃l,canW [vs] D X=l:=⟨_,rfl⟩
  obtain⟨f,he⟩:∃e,(msgV [vs] D X).2=e:=⟨_,rfl⟩
  obtain⟨Lw,hL⟩:∃L,vw.length=L:=⟨_,rfl⟩
  have hcl2:(canW [vs] D X).length≤100001:=can16 (wd_one16 HWv.out) (by simp) (fw_one16 (by rw [HLv.out];omega)) D X (by omega)
  rw [hc,hL] at hcl2
  have HCH:Hid (f=0→vw=cw→y≠0→chkB vs D X=false):=Lib.hid (fun h1 h2 h3=>chk_change (W:=cw) (by rw [HLv.out];exact hn0) (by rw [he];exact h1) (by rw [←h2,←hc];unfold canW;rw [if_pos (by rw [he];exact h1)]) (HNE.out h3))
  have HE2:=Lib.hid he
  have HC2:=Lib.hid hc
  have HL2:=Lib.hid hL
  clear he hc hL HE HC
  refine(RefWords16_c (some ⟨W8.heap.size,0,none⟩) 1 1 [vs] D X O f vw Lw _ rfl Ht.out (wd_one16 HWv.out) (by simp) (fw_one16 (by rw [HLv.out];omega)) (by omega) (by omega) HE2.out HC2.out HL2.out).mono ?_
  rintro r w10 ⟨A2,c2,rfl,hn,-,-,-,hb⟩
  have fr:=Hr.out.below hb (Nat.le_refl _)
  have fx:=Hx.out.below hb (Nat.le_refl _)
  have fl:=Hl.out.below hb
  have ft:=Ht.out.below hb (Nat.le_refl _)
  have HB0:=Lib.hid (bel_on HB.out hb)
  clear hb Hr Hx Hl Ht HB
  have HB:=HB0
  clear HB0
  have Hr:=Lib.hid fr
  clear fr
  have Hx:=Lib.hid fx
  clear fx
  have Hl:=Lib.hid fl
  clear fl
  have Ht:=Lib.hid ft
  clear ft
  have Hd:=Lib.hid hn
  clear hn
  clear Ht
  by_cases hy:y=0
  ·
   have t1:(y==0)=true:=beq_iff_eq.2 hy
   go_wp2
   go_ret
   exact⟨rfl,HB.out⟩
  have t1:(y==0)=false:=beq_eq_false_iff_ne.2 hy
  by_cases hf0:f=0
  rotate_left
  ·
   have t2:(f != 0)=true:=bne_iff_ne.2 hf0
   go_wp2
   go_ret
   exact⟨rfl,HB.out⟩
  have t2:(f != 0)=false:=by rw [hf0];rfl
  have HCK:=Lib.hid (fun h=>HCH.out hf0 h hy)
  clear HCH hy hf0
  go_wp2_with fail
  cases hsb:sameB vw cw with
  | false=>
   have HS:=Lib.hid hsb
   clear hsb
   refine(SameWords_15 A2 (some ⟨b0,o0,none⟩) c2 c1 vw cw Lw L false _ Hd.out Hr.out HL2.out HL.out (by omega) (by omega) HS.out).mono ?_
   rintro r w11 ⟨rfl,hb⟩
   have fr:=Hr.out.below hb (Nat.le_refl _)
   have fx:=Hx.out.below hb (Nat.le_refl _)
   have fl:=Hl.out.below hb
   have fd:=Hd.out.below hb (Nat.le_refl _)
   have HB0:=Lib.hid (bel_on HB.out hb)
   clear hb Hr Hx Hl Hd HB
   have HB:=HB0
   clear HB0
   have Hr:=Lib.hid fr
   clear fr
   have Hx:=Lib.hid fx
   clear fx
   have Hl:=Lib.hid fl
   clear fl
   have Hd:=Lib.hid fd
   clear fd
   go_wp2
   go_ret
   exact⟨rfl,HB.out⟩
  | true=>
   have heq:vw=cw:=by unfold sameB at hsb;exact of_decide_eq_true hsb
   have HV2:=Lib.hid (HCK.out heq)
   clear heq HCK
   have HS:=Lib.hid hsb
   clear hsb
   refine(SameWords_15 A2 (some ⟨b0,o0,none⟩) c2 c1 vw cw Lw L true _ Hd.out Hr.out HL2.out HL.out (by omega) (by omega) HS.out).mono ?_
   rintro r w11 ⟨rfl,hb⟩
   have fr:=Hr.out.below hb (Nat.le_refl _)
   have fx:=Hx.out.below hb (Nat.le_refl _)
   have fl:=Hl.out.below hb
   have fd:=Hd.out.below hb (Nat.le_refl _)
   have HB0:=Lib.hid (bel_on HB.out hb)
   clear hb Hr Hx Hl Hd HB
   have HB:=HB0
   clear HB0
   have Hr:=Lib.hid fr
   clear fr
   have Hx:=Lib.hid fx
   clear fx
   have Hl:=Lib.hid fl
   clear fl
   have Hd:=Lib.hid fd
   clear fd
   obtain⟨xl,yl,zl⟩:=Hl.out
   go_wp2_with fail
   clear xl yl zl
   refine(KWords_w (some ⟨g,0,none⟩) c6 L vs D X O false _ (HT.out.on HB.out) HLv.out Hx.out HWv.out (by omega) (fun h=>by cases h) hl6 hm6 (by omega) (by omega) HV2.out).mono ?_
   rintro r w12 ⟨rfl,hb⟩
   have fr:=Hr.out.below hb (Nat.le_refl _)
   have fx:=Hx.out.below hb (Nat.le_refl _)
   have fl:=Hl.out.below hb
   have fd:=Hd.out.below hb (Nat.le_refl _)
   have HB0:=Lib.hid (bel_on HB.out hb)
   clear hb Hr Hx Hl Hd HB
   have HB:=HB0
   clear HB0
   have Hr:=Lib.hid fr
   clear fr
   have Hx:=Lib.hid fx
   clear fx
   have Hl:=Lib.hid fl
   clear fl
   have Hd:=Lib.hid fd
   clear fd
   go_wp2
   go_ret
   exact⟨rfl,HB.out⟩
end
end Go.Proofs.YtclpapddejgpnaaDoor
