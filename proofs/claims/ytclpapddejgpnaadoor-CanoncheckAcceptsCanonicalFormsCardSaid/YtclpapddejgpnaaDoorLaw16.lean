/- A law of layer 16: CanoncheckMatchesReference. -/
import Derived.Test.YtclpapddejgpnaaDoorMg34
import Derived.Test.YtclpapddejgpnaaDoorMg42
import Derived.Test.YtclpapddejgpnaaDoorMg45
import Derived.Test.YtclpapddejgpnaaDoorAwake16
namespace Go.Proofs.YtclpapddejgpnaaDoor
open Go.ChangeShapes Go.WideShapes Go.ChangeAt Go.RowKit
set_option linter.unusedVariables false
set_option linter.unusedSimpArgs false
set_option maxRecDepth 100000
section
attribute [local simp] AllK KnowsV look Is
theorem sg_wrap16 (w:World)(A:Option Addr)(c L q:Nat)(l:List Int)(T:TypeId)(hr:Ri w .u64 A l)(hL:l.length=L)(hn:A=none→c=0)(hl:L≤c)(hc:c≤9223372036854775807)(hq:q=w.heap.size):Sg (w.alloc (.cells #[.slice A L c] T)) (some ⟨q,0,none⟩) [l]:=by
 subst hq hL
 have h:=Sg.lit (w:=w) [.slice A l.length c] [l] T (fun j hj=>by
  obtain rfl:j=0:=by simp at hj;omega
  exact⟨_,rfl,A,c,rfl,hr,hn,hl,hc⟩)
 simpa using h
theorem RefSmall16 (A:Option Addr)(c:Nat)(l:List Int)(D X O:Int)(w:World)(hs:Sg w A [l]):
  Calls Tryd.prog 9 #[.slice A 1 c,.agg #[.int .i64 D,.int .i64 X,.int .i64 O]] w fun e w'=>e=.returned (.bool (small15B [l] D X))∧Below w.heap.size w w':=
 RefSmall15 A c [l] D X O w hs (by simp)
theorem small16_fits {l:List Int}{n:Nat}{D X:Int}(h:small15B [l] D X=true)(hn:l.length=n):D≤40∧X≤2000∧n≤300:=by
 obtain⟨h1,h2,-,h4⟩:=small15_fits h
 have h5:l.length≤300:=h4 0
 exact⟨h1,h2,by omega⟩
theorem RefWords16_c (A:Option Addr)(c m:Nat)(ls:List (List Int))(D X O e:Int)(l:List Int)(L:Nat)(w:World)(hl:m=ls.length)(hs:Sg w A ls)(hw:Wd2 ls)(hm:ls.length≤40)(hf:∀j,(seg ls j).length≤20000000)(hD:D≤900)(hX:X≤100000)(he:(msgV ls D X).2=e)(hc:canW ls D X=l)(hL:l.length=L):
  Calls Tryd.prog 12 #[.slice A m c,.agg #[.int .i64 D,.int .i64 X,.int .i64 O]] w fun r w'=>∃A' c',r=.returned (.tuple #[.slice A' L c',.int .i64 e])∧Ri w' .u64 A' l∧(A'=none→c'=0)∧L≤c'∧c'≤9223372036854775807∧Below w.heap.size w w':=by
 subst hl he hc hL
 refine(RefWords15 A c ls D X O w hs hw hm hf hD hX).mono ?_
 rintro r w' ⟨v,rfl,⟨A',c',rfl,h2,h3,h4,h5⟩,hb⟩
 exact⟨A',c',rfl,h2,h3,h4,h5,hb⟩
attribute [local irreducible] msgV measV small15B fewB canW writeF chkB sameB
set_option maxHeartbeats 4000000 in
set_option maxRecDepth 100000 in
theorem MR16_walk (A:Option Addr)(c n:Nat)(ws:List Int)(D X O:Int)(w:World)(hT:TabOK w)(hA:Ri w .u64 A ws)(hw:Wds ws)(hn:ws.length=n)(hnil:A=none→c=0)(hle:n≤c)(hcm:c≤9223372036854775807)
  (d0:-9223372036854775808≤D) (d1:D≤9223372036854775807) (x0:-9223372036854775808≤X) (x1:X≤9223372036854775807) :
  Calls Tryd.prog 3 #[.slice A n c,.agg #[.int .i64 D,.int .i64 X,.int .i64 O]] w fun e w'=>e=.returned (.bool true)∧Below w.heap.size w w':=by
 have HT:=Lib.hid hT
 have Hr:=Lib.hid hA
 have HW:=Lib.hid hw
 have HN:=Lib.hid hn
 have HNIL:=Lib.hid hnil
 clear hT hA hw hn hnil
 go_enter Tryd.func3,Tryd.ntmps3
 go_wp2_with fail
 refine abs_world (F:=fun W=>Ri W .u64 A ws∧Blk W w.heap.size #[.int .i64 D,.int .i64 X,.int .i64 O]∧Below w.heap.size w W) ⟨?_,?_,?_⟩ ?_
 ·exact(Ri.below Hr.out ((Below.refl _ _).alloc (Nat.le_refl _) _) (Nat.le_refl _))
 ·exact Blk.fresh _ _ _
 ·exact((Below.refl w.heap.size w).alloc (by first|exact Nat.le_refl _|(simp;done)|(simp;omega)) _)
 clear Hr
 rintro W1 ⟨hr,hl,hb⟩
 have Hr:=Lib.hid hr
 have Hl:=Lib.hid hl
 have HB:=Lib.hid hb
 clear hb hr hl
 refine(awake16_any _ (HT.out.on HB.out)).mono ?_
 rintro r w2 ⟨rfl,hb⟩
 have fr:=Hr.out.below hb (Nat.le_refl _)
 have fl:=Hl.out.below hb
 have HB0:=Lib.hid (bel_on HB.out hb)
 clear hb Hr Hl HB
 have HB:=HB0
 clear HB0
 have Hr:=Lib.hid fr
 clear fr
 have Hl:=Lib.hid fl
 clear fl
 obtain⟨xl,yl,zl⟩:=(Hl.out.alloc (.cells #[.slice A n c] 22))
 go_wp2_with fail
 refine abs_world (F:=fun W=>Ri W .u64 A ws∧Blk W w.heap.size #[.int .i64 D,.int .i64 X,.int .i64 O]∧Sg W (some ⟨w2.heap.size,0,none⟩) [ws]∧Below w.heap.size w W) ⟨?_,?_,?_,?_⟩ ?_
 ·exact(Ri.below Hr.out ((Below.refl _ _).alloc (Nat.le_refl _) _) (Nat.le_refl _))
 ·exact(Hl.out.alloc _)
 ·exact sg_wrap16 _ A c n _ ws _ Hr.out HN.out HNIL.out hle hcm rfl
 ·exact(HB.out.alloc (by first|exact Nat.le_refl _|(have:=HB.out.size;simp;omega)|(have:=HB.out.size;omega)|(simp;done)|(simp;omega)) _)
 clear Hr Hl HB xl yl zl
 rintro W3 ⟨hr,hl,ht,hb⟩
 have Hr:=Lib.hid hr
 have Hl:=Lib.hid hl
 have Ht:=Lib.hid ht
 have HB:=Lib.hid hb
 clear hb hr hl ht
 refine(RefSmall16 (some ⟨w2.heap.size,0,none⟩) 1 ws D X O _ Ht.out).mono ?_
 rintro r w4 ⟨rfl,hb⟩
 have fr:=Hr.out.below hb (Nat.le_refl _)
 have fl:=Hl.out.below hb
 have ft:=Ht.out.below hb (Nat.le_refl _)
 have HB0:=Lib.hid (bel_on HB.out hb)
 clear hb Hr Hl Ht HB
 have HB:=HB0
 clear HB0
 have Hr:=Lib.hid fr
 clear fr
 have Hl:=Lib.hid fl
 clear fl
 have Ht:=Lib.hid ft
 clear ft
 clear Ht
 cases hsm:small15B [ws] D X with
 | false=>
  clear hsm
  go_wp2_with fail
  refine(awake16_any _ (HT.out.on HB.out)).mono ?_
  rintro r w5 ⟨rfl,hb⟩
  have fr:=Hr.out.below hb (Nat.le_refl _)
  have fl:=Hl.out.below hb
  have HB0:=Lib.hid (bel_on HB.out hb)
  clear hb Hr Hl HB
  have HB:=HB0
  clear HB0
  have Hr:=Lib.hid fr
  clear fr
  have Hl:=Lib.hid fl
  clear fl
  go_wp2
  go_ret
  exact⟨rfl,HB.out⟩
 | true=>
  obtain⟨hD,hX,hn300⟩:=small16_fits hsm HN.out
  clear hsm
  obtain⟨v,hv⟩:∃v,chkB ws D X=v:=⟨_,rfl⟩
  have HV:=Lib.hid hv
  clear hv
  obtain⟨xl,yl,zl⟩:=Hl.out
  go_wp2_with fail
  clear xl yl zl
  rename_i KK hKK
  refine wp_region_chain (by kernel_rfl) (by kernel_rfl) ?_
  refine chain_val (u:=?_) [0] rfl (by kernel_rfl) trivial (fun ρ wc hbc hcn hk=>?_) ?_;rotate_left
  ·obtain⟨hcn,-⟩:=hcn
   simp at hk
   go_simp
   rfl
  refine chain_val (u:=?_) [3] rfl (by kernel_rfl) trivial (fun ρ wc hbc hcn hk=>?_) ?_;rotate_left
  ·obtain⟨hcn,-⟩:=hcn
   simp at hk
   obtain⟨xl,yl,zl⟩:=Hl.out.drew.below hbc
   go_simp
   rfl
  refine chain_call (T:=Is ?_) 10 [15,16] rfl (by kernel_rfl) trivial (stable_is _) (fun ρ wc hbc hcn hk=>?_) ?_;rotate_left
  ·obtain⟨hcn,hfn⟩:=hcn
   simp at hk
   refine⟨_,by go_simp;rfl,?_⟩
   refine(KWords_w A c n ws D X O v wc (HT.out.on (bel_on (bel_drew HB.out) hbc)) HN.out (Hr.out.below (w':=wc) (B:=w4.heap.size) ⟨hbc.os,hbc.tape,hbc.output,hbc.size,hbc.block⟩ (Nat.le_refl _)) HW.out (by omega) HNIL.out (by omega) (by omega) (by omega) (by omega) HV.out).mono ?_
   rintro e w' ⟨rfl,hbq⟩
   refine⟨_,rfl,?_,hbq⟩
   unfold Is
   rfl
  refine chain_val (u:=?_) [0] rfl (by kernel_rfl) trivial (fun ρ wc hbc hcn hk=>?_) ?_;rotate_left
  ·obtain⟨hcn,-⟩:=hcn
   simp at hk
   go_simp
   rfl
  refine chain_val (u:=?_) [3] rfl (by kernel_rfl) trivial (fun ρ wc hbc hcn hk=>?_) ?_;rotate_left
  ·obtain⟨hcn,-⟩:=hcn
   simp at hk
   obtain⟨xl,yl,zl⟩:=Hl.out.drew.below hbc
   go_simp
   rfl
  refine chain_call (T:=Is ?_) 11 [18,19] rfl (by kernel_rfl) trivial (stable_is _) (fun ρ wc hbc hcn hk=>?_) ?_;rotate_left
  ·obtain⟨hcn,hfn⟩:=hcn
   simp at hk
   refine⟨_,by go_simp;rfl,?_⟩
   refine(RefWords16_w A c n ws D X O v wc HN.out (Hr.out.below (w':=wc) (B:=w4.heap.size) ⟨hbc.os,hbc.tape,hbc.output,hbc.size,hbc.block⟩ (Nat.le_refl _)) HW.out (by omega) HNIL.out (by omega) (by omega) (by omega) (by omega) HV.out).mono ?_
   rintro e w' ⟨rfl,hbq⟩
   refine⟨_,rfl,?_,hbq⟩
   unfold Is
   rfl
  refine chain_val (u:=?_) [17,20] rfl (by kernel_rfl) trivial (fun ρ wc hbc hcn hk=>?_) ?_;rotate_left
  ·obtain⟨hcn,-⟩:=hcn
   simp at hk
   go_simp
   rfl
  refine chain_val (u:=?_) [21] rfl (by kernel_rfl) trivial (fun ρ wc hbc hcn hk=>?_) ?_;rotate_left
  ·obtain⟨hcn,-⟩:=hcn
   simp at hk
   go_simp
   rfl
  refine chain_end_lit 22 rfl (fun ff w7 hb7 hk=>?_)
  refine hKK _ _ ?_
  simp [AllN] at hk
  simp only [frameL,hk,Nat.zero_add,Nat.reduceAdd]
  have hb7':Below w4.heap.size w4 w7:=⟨hb7.os,hb7.tape,hb7.output,hb7.size,hb7.block⟩
  have HB7:=Lib.hid (bel_on HB.out hb7')
  clear hb7 hk hb7'
  go_wp2
  go_ret
  exact⟨by simp,HB7.out⟩
end
end Go.Proofs.YtclpapddejgpnaaDoor
