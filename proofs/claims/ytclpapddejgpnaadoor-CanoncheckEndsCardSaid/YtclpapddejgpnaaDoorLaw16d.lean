/- A law of layer 16: CanoncheckEnds. -/
import Derived.Test.YtclpapddejgpnaaDoorMg34
import Derived.Test.YtclpapddejgpnaaDoorMg42
import Derived.Test.YtclpapddejgpnaaDoorMg45
import Derived.Test.YtclpapddejgpnaaDoorLaw16
namespace Go.Proofs.YtclpapddejgpnaaDoor
open Go.ChangeShapes Go.WideShapes Go.ChangeAt Go.RowKit
set_option linter.unusedVariables false
set_option linter.unusedSimpArgs false
set_option maxRecDepth 100000
section
attribute [local simp] AllK KnowsV look Is
attribute [local irreducible] msgV measV small15B fewB canW writeF chkB sameB
set_option maxHeartbeats 4000000 in
set_option maxRecDepth 100000 in
theorem Ends16_walk (A:Option Addr)(c n:Nat)(ws:List Int)(D X O q y:Int)(w:World)(hT:TabOK w)(hA:Ri w .u64 A ws)(hw:Wds ws)(hn:ws.length=n)(hnil:A=none→c=0)(hle:n≤c)(hcm:c≤9223372036854775807)
  (d0:-9223372036854775808≤D) (d1:D≤9223372036854775807) (x0:-9223372036854775808≤X) (x1:X≤9223372036854775807) (q0:0≤q) (q1:q<256) (y0:0≤y) (y1:y<18446744073709551616) :
  Calls Tryd.prog 7 #[.slice A n c,.agg #[.int .i64 D,.int .i64 X,.int .i64 O],.int .u8 q,.int .u64 y] w fun e w'=>e=.returned (.bool true)∧Below w.heap.size w w':=by
 obtain⟨i0,hi0,hz0,hz1,hz2⟩:=info_parts int64_info
 have HT:=Lib.hid hT
 have Hr:=Lib.hid hA
 have HW:=Lib.hid hw
 have HN:=Lib.hid hn
 have HNIL:=Lib.hid hnil
 clear hT hA hw hn hnil
 go_enter Tryd.func7,Tryd.ntmps7
 go_wp2_with fail
 refine abs_world (F:=fun W=>Ri W .u64 A ws∧Blk W w.heap.size #[.int .i64 D,.int .i64 X,.int .i64 O]∧Below w.heap.size w W) ⟨?_,?_,?_⟩ ?_
 ·exact(Ri.below Hr.out ((Below.refl _ _).alloc (Nat.le_refl _) _) (Nat.le_refl _))
 ·exact Blk.fresh _ _ _
 ·exact((Below.refl w.heap.size w).alloc (by first|exact Nat.le_refl _|(simp;done)|(simp;omega)) _)
 clear Hr
 rintro W1 ⟨hr,hl,hb⟩
 have Hr:=Lib.hid hr
 have Hl:=Lib.hid hl
 have HB:=Lib.hid hb
 clear hb hr hl
 refine(awake16_any _ (HT.out.on HB.out)).mono ?_
 rintro r w2 ⟨rfl,hb⟩
 have fr:=Hr.out.below hb (Nat.le_refl _)
 have fl:=Hl.out.below hb
 have HB0:=Lib.hid (bel_on HB.out hb)
 clear hb Hr Hl HB
 have HB:=HB0
 clear HB0
 have Hr:=Lib.hid fr
 clear fr
 have Hl:=Lib.hid fl
 clear fl
 obtain⟨xl,yl,zl⟩:=(Hl.out.alloc (.cells #[.slice A n c] 22))
 go_wp2_with fail
 refine abs_world (F:=fun W=>Ri W .u64 A ws∧Blk W w.heap.size #[.int .i64 D,.int .i64 X,.int .i64 O]∧Sg W (some ⟨w2.heap.size,0,none⟩) [ws]∧Below w.heap.size w W) ⟨?_,?_,?_,?_⟩ ?_
 ·exact(Ri.below Hr.out ((Below.refl _ _).alloc (Nat.le_refl _) _) (Nat.le_refl _))
 ·exact(Hl.out.alloc _)
 ·exact sg_wrap16 _ A c n _ ws _ Hr.out HN.out HNIL.out hle hcm rfl
 ·exact(HB.out.alloc (by first|exact Nat.le_refl _|(have:=HB.out.size;simp;omega)|(have:=HB.out.size;omega)|(simp;done)|(simp;omega)) _)
 clear Hr Hl HB xl yl zl
 rintro W3 ⟨hr,hl,ht,hb⟩
 have Hr:=Lib.hid hr
 have Hl:=Lib.hid hl
 have Ht:=Lib.hid ht
 have HB:=Lib.hid hb
 clear hb hr hl ht
 refine(RefSmall16 (some ⟨w2.heap.size,0,none⟩) 1 ws D X O _ Ht.out).mono ?_
 rintro r w4 ⟨rfl,hb⟩
 have fr:=Hr.out.below hb (Nat.le_refl _)
 have fl:=Hl.out.below hb
 have ft:=Ht.out.below hb (Nat.le_refl _)
 have HB0:=Lib.hid (bel_on HB.out hb)
 clear hb Hr Hl Ht HB
 have HB:=HB0
 clear HB0
 have Hr:=Lib.hid fr
 clear fr
 have Hl:=Lib.hid fl
 clear fl
 have Ht:=Lib.hid ft
 clear ft
 clear Ht
 cases hsm:small15B [ws] D X with
 | false=>
  clear hsm
  go_wp2_with fail
  refine(awake16_any _ (HT.out.on HB.out)).mono ?_
  rintro r w5 ⟨rfl,hb⟩
  have fr:=Hr.out.below hb (Nat.le_refl _)
  have fl:=Hl.out.below hb
  have HB0:=Lib.hid (bel_on HB.out hb)
  clear hb Hr Hl HB
  have HB:=HB0
  clear HB0
  have Hr:=Lib.hid fr
  clear fr
  have Hl:=Lib.hid fl
  clear fl
  go_wp2
  go_ret
  exact⟨rfl,HB.out⟩
 | true=>
  obtain⟨hD,hX,hn300⟩:=small16_fits hsm HN.out
  clear hsm
  cases hv:chkB ws D X with
  | false=>
   have HV:=Lib.hid hv
   clear hv
   obtain⟨xl,yl,zl⟩:=Hl.out
   go_wp2_with fail
   clear xl yl zl
   refine(KWords_w A c n ws D X O false _ (HT.out.on HB.out) HN.out Hr.out HW.out (by omega) HNIL.out hle hcm (by omega) (by omega) HV.out).mono ?_
   rintro r w5 ⟨rfl,hb⟩
   have fr:=Hr.out.below hb (Nat.le_refl _)
   have fl:=Hl.out.below hb
   have HB0:=Lib.hid (bel_on HB.out hb)
   clear hb Hr Hl HB
   have HB:=HB0
   clear HB0
   have Hr:=Lib.hid fr
   clear fr
   have Hl:=Lib.hid fl
   clear fl
   go_wp2_with fail
   refine(awake16_any _ (HT.out.on HB.out)).mono ?_
   rintro r w6 ⟨rfl,hb⟩
   have fr:=Hr.out.below hb (Nat.le_refl _)
   have fl:=Hl.out.below hb
   have HB0:=Lib.hid (bel_on HB.out hb)
   clear hb Hr Hl HB
   have HB:=HB0
   clear HB0
   have Hr:=Lib.hid fr
   clear fr
   have Hl:=Lib.hid fl
   clear fl
   go_wp2
   go_ret
   exact⟨rfl,HB.out⟩
  | true=>
   have hn0:0<n:=by have:=(chkB_iff.1 hv).1;rw [HN.out] at this;exact this
   have HV:=Lib.hid hv
   have HLS:=Lib.hid (fun k (hk:k<n)=>chk_less (k:=k) HW.out (by rw [HN.out];omega) (by rw [HN.out];exact hk) hv)
   have HMO:=Lib.hid (chk_more (V:=[y]) HW.out (by rw [HN.out];omega) (by simp) hv)
   have hs0:0≤q % n:=Int.emod_nonneg _ (by omega)
   have hs1:q % n<n:=Int.emod_lt_of_pos _ (by omega)
   obtain⟨k,hS⟩:=Int.eq_ofNat_of_zero_le hs0
   have hkn:k<n:=by omega
   have htm:q.tmod n=k:=by rw [Int.tmod_eq_emod_of_nonneg q0];exact hS
   have hkc:(k:Int)≤(c:Int):=by omega
   have hnz:¬((n:Int)=0):=by omega
   obtain⟨b0,o0,hA⟩:∃b o,A=some ⟨b,o,none⟩:=by
    rcases Hr.out with h|⟨b,o,h,-⟩
    ·have h2:=HN.out
     rw [h] at h2
     simp at h2
     omega
    ·exact⟨b,o,h⟩
   subst hA
   clear hv hs0 hs1 hS
   obtain⟨xl,yl,zl⟩:=Hl.out
   go_wp2_with fail
   clear xl yl zl
   refine(KWords_w (some ⟨b0,o0,none⟩) c n ws D X O true _ (HT.out.on HB.out) HN.out Hr.out HW.out (by omega) HNIL.out hle hcm (by omega) (by omega) HV.out).mono ?_
   rintro r w5 ⟨rfl,hb⟩
   have fr:=Hr.out.below hb (Nat.le_refl _)
   have fl:=Hl.out.below hb
   have HB0:=Lib.hid (bel_on HB.out hb)
   clear hb Hr Hl HB
   have HB:=HB0
   clear HB0
   have Hr:=Lib.hid fr
   clear fr
   have Hl:=Lib.hid fl
   clear fl
   obtain⟨xl,yl,zl⟩:=Hl.out
   go_wp2_with fail
   clear xl yl zl
   rename_i KK hKK
   have HKC:Hid (∀wc,Keeps (fun q=>w5.heap.size≤q) w5.drew wc→Below w5.heap.size w5 wc):=Lib.hid (fun wc hbc=>by
    have h:=hbc.below (B:=w5.heap.size) (Nat.le_refl _) (fun q hq=>hq)
    exact⟨h.os,h.tape,h.output,h.size,h.block⟩)
   refine wp_region_a17 12 (fun q=>w5.heap.size≤q) (by kernel_rfl) (by kernel_rfl) ?_
   refine a_val_l (u:=?_) [0] (by kernel_rfl) rfl (by kernel_rfl) trivial (fun ρ wc hbc hcn hk=>?_) ?_;rotate_left
   ·obtain⟨hcn,-⟩:=hcn
    simp at hk
    go_simp
    rfl
   refine a_val_l (u:=?_) [9] (by kernel_rfl) rfl (by kernel_rfl) trivial (fun ρ wc hbc hcn hk=>?_) ?_;rotate_left
   ·obtain⟨hcn,-⟩:=hcn
    simp at hk
    go_simp
    rfl
   refine a_val_l (u:=.slice (some ⟨b0,o0,none⟩) k c) [31,32] (by kernel_rfl) rfl (by kernel_rfl) trivial (fun ρ wc hbc hcn hk=>?_) ?_
   ·obtain⟨hcn,-⟩:=hcn
    simp at hk
    go_simp
   refine a_val_l (u:=?_) [5] (by kernel_rfl) rfl (by kernel_rfl) trivial (fun ρ wc hbc hcn hk=>?_) ?_;rotate_left
   ·obtain⟨hcn,-⟩:=hcn
    simp at hk
    obtain⟨xl,yl,zl⟩:=Hl.out.below (HKC.out wc hbc)
    go_simp
    rfl
   refine a_call_l (u:=.bool false) 10 [33,34] (by kernel_rfl) rfl (by kernel_rfl) trivial (fun ρ wc hbc hcn hk=>?_) ?_
   ·obtain⟨hcn,hfn⟩:=hcn
    simp at hk
    refine⟨_,by go_simp;rfl,?_⟩
    exact KWords_w (some ⟨b0,o0,none⟩) c k (ws.take k) D X O false wc (HT.out.on (bel_on HB.out (HKC.out wc hbc))) (by rw [List.length_take,HN.out];omega) ((Hr.out.below (HKC.out wc hbc) (Nat.le_refl _)).take k) (fun z hz=>HW.out z (List.mem_of_mem_take hz)) (by omega) (fun h=>by cases h) (by omega) hcm (by omega) (by omega) (HLS.out k hkn)
   refine a_val_l (u:=?_) [35] (by kernel_rfl) rfl (by kernel_rfl) trivial (fun ρ wc hbc hcn hk=>?_) ?_;rotate_left
   ·obtain⟨hcn,-⟩:=hcn
    simp at hk
    go_simp
    rfl
   refine a_val (u:=?_) [36] (by kernel_rfl) rfl rfl (by kernel_rfl) trivial (fun ρ wc hbc hcn hk=>?_) ?_;rotate_left
   ·obtain⟨hcn,-⟩:=hcn
    simp at hk
    go_simp
    rfl
   refine a_new_l (T:=EmpW 32 w5.heap.size) [] (by kernel_rfl) rfl (by kernel_rfl) ⟨37,by decide +kernel,rfl,fun w x hx=>by simpa using hx⟩ (stable_empW _ _) (fun ρ wc hbc hcn hk=>?_) ?_
   ·obtain⟨hcn,hfn⟩:=hcn
    exact⟨.slice (some ⟨wc.heap.size,0,none⟩) 0 0,wc.alloc (.cells #[] 32),by go_simp,⟨_,rfl,(HKC.out wc hbc).size,heap_alloc_new wc _⟩,(Below.refl _ _).alloc (Nat.le_refl _) _⟩
   refine a_val_l (u:=?_) [0] (by kernel_rfl) rfl (by kernel_rfl) ⟨37,by decide +kernel,rfl,fun w x hx=>by simpa using hx⟩ (fun ρ wc hbc hcn hk=>?_) ?_;rotate_left
   ·obtain⟨hcn,-⟩:=hcn
    simp at hk
    go_simp
    rfl
   refine a_new (T:=GotW 32 w5.heap.size ws) [38,39] (by kernel_rfl) rfl rfl (by kernel_rfl) ⟨37,by decide +kernel,rfl,fun w x hx=>by simpa using hx⟩ (stable_gotW _ _ _) (fun ρ wc hbc hcn hk=>?_) ?_
   ·obtain⟨⟨q0,h38,hq0,hqc⟩,h39,-⟩:=hk
    exact exec_app0 (.tmp 38) (.tmp 39) 22 rfl Tryd.underlying22 hi0 hz0 hz1 hz2 h38 hqc hq0 (by rw [HN.out];exact h39) (Hr.out.below (B:=w5.heap.size) ⟨hbc.os,hbc.tape,hbc.output,hbc.size,hbc.block⟩ (Nat.le_refl _)) (fun h=>by cases h) (by rw [HN.out];exact hle) (by rw [HN.out];omega)
   refine a_val_l (u:=?_) [3] (by kernel_rfl) rfl (by kernel_rfl) ⟨37,by decide +kernel,rfl,fun w x hx=>by simpa using hx⟩ (fun ρ wc hbc hcn hk=>?_) ?_;rotate_left
   ·obtain⟨hcn,-⟩:=hcn
    simp at hk
    go_simp
    rfl
   refine a_new (T:=HoldW [y]) [41] (by kernel_rfl) rfl rfl (by kernel_rfl) ⟨37,by decide +kernel,rfl,fun w x hx=>by simpa using hx⟩ (stable_holdW _) (fun ρ wc hbc hcn hk=>?_) ?_
   ·obtain⟨hcn,-⟩:=hcn
    simp at hk
    exact⟨.slice (some ⟨wc.heap.size,0,none⟩) 1 1,wc.alloc (.cells #[.int .u64 y] 32),by go_simp,⟨_,_,rfl,Ri.lit wc .u64 [y] _,(fun h=>by cases h),by simp,by unfold maxLen;simp⟩,(Below.refl _ _).alloc (Nat.le_refl _) _⟩
   refine a_sp_g (T:=GotW 32 w5.heap.size (ws++[y])) [40,42] rfl rfl (by kernel_rfl) ⟨37,by decide +kernel,rfl,fun w x hx=>by simpa using hx⟩ (stable_gotW _ _ _) (fun a wc hbc hcn hwt hk=>?_) ?_
   ·obtain⟨h40,⟨A5,c5,h42,hr5,hn5,hl5,hm5⟩,-⟩:=hk
    refine wpList_unguard hwt ?_
    refine wpList_appN rfl (.tmp 40) (.tmp 42) 22 rfl Tryd.underlying22 hi0 hz0 hz1 hz2 rfl h40 h42 hr5 hn5 (by rw [HN.out];unfold maxLen;simp;omega) (by rw [HN.out];simp;omega) hbc.size ?_
    intro v' w' hg' hb'
    refine⟨rfl,v',rfl,hg',?_⟩
    rw [if_pos rfl]
    exact⟨hb'.os,hb'.tape,hb'.output,hb'.size,fun q1 h1 h2=>hb'.block q1 (Nat.lt_of_not_le h2)⟩
   refine a_val_l (u:=?_) [5] (by kernel_rfl) rfl (by kernel_rfl) ⟨37,by decide +kernel,rfl,fun w x hx=>by simpa using hx⟩ (fun ρ wc hbc hcn hk=>?_) ?_;rotate_left
   ·obtain⟨hcn,-⟩:=hcn
    simp at hk
    obtain⟨xl,yl,zl⟩:=Hl.out.below (HKC.out wc hbc)
    go_simp
    rfl
   refine a_call_l (u:=.bool false) 10 [43,44] (by kernel_rfl) rfl (by kernel_rfl) ⟨37,by decide +kernel,rfl,fun w x hx=>by simpa using hx⟩ (fun ρ wc hbc hcn hk=>?_) ?_
   ·obtain⟨hcn,hfn⟩:=hcn
    obtain⟨h43,h44,-⟩:=hk
    obtain⟨A6,c6,h43',hl6,hm6,hr6,hn6⟩:=Got.full h43
    refine⟨#[ρ (.tmp 43),ρ (.tmp 44)],by go_simp,?_⟩
    rw [h43',show ρ (.tmp 44)=_ from h44]
    exact KWords_w A6 c6 _ (ws++[y]) D X O false wc (HT.out.on (bel_on HB.out (HKC.out wc hbc))) rfl hr6 (fun z hz=>by
     rcases List.mem_append.1 hz with h|h
     ·exact HW.out z h
     ·simp at h
      subst h
      exact⟨y0,y1⟩) (by rw [List.length_append,HN.out];simp;omega) hn6 hl6 hm6 (by omega) (by omega) HMO.out
   refine a_val_l (u:=?_) [45] (by kernel_rfl) rfl (by kernel_rfl) ⟨37,by decide +kernel,rfl,fun w x hx=>by simpa using hx⟩ (fun ρ wc hbc hcn hk=>?_) ?_;rotate_left
   ·obtain⟨hcn,-⟩:=hcn
    simp at hk
    go_simp
    rfl
   refine a_val_l (u:=?_) [37,46] (by kernel_rfl) rfl (by kernel_rfl) trivial (fun ρ wc hbc hcn hk=>?_) ?_;rotate_left
   ·obtain⟨hcn,-⟩:=hcn
    simp at hk
    go_simp
    rfl
   refine a_end_lit 48 rfl (fun ff w99 hb9 hk=>?_)
   simp [AllN] at hk
   simp only [frameL,hk,Nat.zero_add,Nat.reduceAdd]
   have HB9:=Lib.hid (bel_on HB.out (HKC.out w99 hb9))
   clear hb9 hk
   generalize ff 38=v38
   generalize ff 40=v40
   generalize ff 42=v42
   generalize ff 43=v43
   go_wp2
   go_ret
   exact⟨rfl,HB9.out⟩
end
end Go.Proofs.YtclpapddejgpnaaDoor
