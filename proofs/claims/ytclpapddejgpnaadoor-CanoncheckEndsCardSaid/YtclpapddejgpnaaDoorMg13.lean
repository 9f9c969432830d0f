/- The texts Ref11, Ref11c (what is wanted of them), one after the other. -/
import Derived.Test.YtclpapddejgpnaaDoorMg11
namespace Go.Proofs.YtclpapddejgpnaaDoor
open Go.ChangeShapes Go.WideShapes Go.ChangeAt Go.RowKit
set_option linter.unusedVariables false
set_option linter.unusedSimpArgs false
set_option maxRecDepth 100000
set_option maxRecDepth 100000 in
theorem RefWords11_any (A:Option Addr)(c:Nat)(d:List Int)(w:World)(hr:Ri w .u8 A d)(hb:Bts d)(hm:d.length≤1099511627776):
  Calls Tryd.prog 48 #[.slice A d.length c] w fun r w'=>r=.returned (.int .i64 (wordsT d))∧w=w':=by
 have Hr:=Lib.hid hr
 have Hb:=Lib.hid hb
 have HW:Hid (wordsT d=wordsF d d.length):=Lib.hid rfl
 clear hr hb
 go_enter Tryd.func48,Tryd.ntmps48
 go_wp2
 go_loop [3,4] (fun n i=>∃k:Nat,k≤d.length∧i=.int .i64 k∧n=.int .i64 (wordsF d k)) (fun _ i=>d.length-(intOf i).toNat)
 case atStart=>exact⟨0,by omega,rfl,rfl⟩
 case round=>
  obtain⟨k,hk,rfl,rfl⟩:=hrel
  by_cases hlt:k<d.length
  ·obtain⟨g,off,rfl,hc⟩:=Hr.out.at hlt
   have hcell:=hc k hlt
   have hz:=Hb.out.at k
   have hlt2:(k:Int)<(d.length:Int):=by omega
   have HS:Hid (wordsF d (k+1)=if zat d k=0 then wordsF d k else k / 8+1):=Lib.hid rfl
   clear hc
   generalize zat d k=z at *
   by_cases h0:z=0
   ·subst h0
    go_wp2
    go_round
    case rel=>exact⟨k+1,by omega,by go_num,by rw [HS.out,if_pos rfl]⟩
    case measure=>simp [intOf];omega
   ·have hne:(z != 0)=true:=by simpa using h0
    have HZ:=Lib.hid h0
    clear h0
    go_wp2
    go_round
    case rel=>exact⟨k+1,by omega,by go_num,by rw [HS.out,if_neg HZ.out];go_num⟩
    case measure=>simp [intOf];omega
  ·obtain rfl:k=d.length:=by omega
   go_wp2
   go_ret
   exact⟨by rw [HW.out];rfl,rfl⟩
set_option maxRecDepth 100000 in
theorem RefPointers11_any (B:Option Addr)(c:Nat)(ks:List Nd)(w:World)(hr:KsR w B ks)(hm:ks.length≤1099511627776):
  Calls Tryd.prog 49 #[.slice B ks.length c] w fun r w'=>r=.returned (.int .i64 (ptrsT ks))∧w=w':=by
 have Hr:=Lib.hid hr
 have HW:Hid (ptrsT ks=ptrsF ks ks.length):=Lib.hid rfl
 clear hr
 go_enter Tryd.func49,Tryd.ntmps49
 go_wp2
 go_loop [3,4] (fun n i=>∃k:Nat,k≤ks.length∧i=.int .i64 k∧n=.int .i64 (ptrsF ks k)) (fun _ i=>ks.length-(intOf i).toNat)
 case atStart=>exact⟨0,by omega,rfl,rfl⟩
 case round=>
  obtain⟨k,hk,rfl,rfl⟩:=hrel
  by_cases hlt:k<ks.length
  ·obtain⟨b,off,Aa,ca,Ba,cb,rfl,hcell,-⟩:=Hr.out.at hlt
   have hlt2:(k:Int)<(ks.length:Int):=by omega
   have HS:Hid (ptrsF ks (k+1)=if ks[k].k=0 then ptrsF ks k else k+1):=Lib.hid (by rw [←kAt_get hlt];rfl)
   generalize ks[k].k=z at *
   by_cases h0:z=0
   ·subst h0
    go_wp2
    go_round
    case rel=>exact⟨k+1,by omega,by go_num,by rw [HS.out,if_pos rfl]⟩
    case measure=>simp [intOf];omega
   ·have hne:(z != 0)=true:=by simpa using h0
    have HZ:=Lib.hid h0
    clear h0
    go_wp2
    go_round
    case rel=>exact⟨k+1,by omega,by go_num,by rw [HS.out,if_neg HZ.out];go_num⟩
    case measure=>simp [intOf];omega
  ·obtain rfl:k=ks.length:=by omega
   go_wp2
   go_ret
   exact⟨by rw [HW.out];rfl,rfl⟩
theorem dec1 (u v:Nat):(decide ((u:Int)<(v:Int))=true∧decide (u<v)=true∧(u:Int)<(v:Int)∧u<v∧max u v=v)∨(decide ((u:Int)<(v:Int))=false∧decide (u<v)=false∧¬(u:Int)<(v:Int)∧¬u<v∧max u v=u):=by
 by_cases h:u<v
 ·exact .inl ⟨decide_eq_true (by omega),decide_eq_true h,by omega,h,by omega⟩
 ·exact .inr ⟨decide_eq_false (by omega),decide_eq_false h,by omega,h,by omega⟩
theorem dec8 (u v:Nat):(decide ((u:Int)<(v:Int) / 8)=true∧(u:Int)<(v:Int) / 8∧max u (v / 8)=v / 8)∨(decide ((u:Int)<(v:Int) / 8)=false∧¬(u:Int)<(v:Int) / 8∧max u (v / 8)=u):=by
 by_cases h:u<v / 8
 ·exact .inl ⟨decide_eq_true (by omega),by omega,by omega⟩
 ·exact .inr ⟨decide_eq_false (by omega),by omega,by omega⟩
set_option maxHeartbeats 2000000 in
set_option maxRecDepth 100000 in
theorem RefUniform11_any (x:Nd)(A:Option Addr)(c:Nat)(B:Option Addr)(c2:Nat)(w:World)(hx:NdR w A c B c2 x)(hs:sizeN x≤1099511627776):
  Calls Tryd.prog 73 #[.agg #[.int .i64 x.k,.int .i64 x.e,.int .i64 x.n,.slice A x.d.length c,.slice B x.ks.length c2]] w fun r w'=>r=.returned (.tuple #[.int .i64 (uniD x.ks x.ks.length),.int .i64 (uniP x.ks x.ks.length)])∧Below w.heap.size w w':=by
 obtain⟨k,e,n,d,ks⟩:=x
 simp only [Nd.k,Nd.e,Nd.n,Nd.d,Nd.ks]
 have HX:=Lib.hid hx
 have hso:sizeN (.mk k e n d ks)=1+d.length+sizeK ks:=by simp only [sizeN]
 rw [hso] at hs
 have hkl:=sizeK_length ks
 have HKID:Hid (∀j (h:j<ks.length),ks[j].d.length≤1099511627776∧ks[j].ks.length≤1099511627776):=Lib.hid (fun j h=>by
  have hz:=sizeN_kid (List.getElem_mem h)
  generalize ks[j]=y at *
  obtain⟨_,_,_,dd,kk'⟩:=y
  have:=sizeK_length kk'
  simp only [sizeN,Nd.d,Nd.ks] at *
  omega)
 clear hx hso
 go_enter Tryd.func73,Tryd.ntmps73
 have B1:=Blk.fresh w #[.int .i64 k,.int .i64 e,.int .i64 n,.slice A d.length c,.slice B ks.length c2] 37
 have HB1:=Lib.hid B1
 go_wp2
 clear B1
 go_loop [4,5,6] (fun a b i=>∃j:Nat,j≤ks.length∧i=.int .i64 j∧a=.int .i64 (uniD ks j)∧b=.int .i64 (uniP ks j)) (fun _ _ i=>ks.length-(intOf i).toNat)
 case atStart=>exact⟨0,by omega,rfl,rfl,rfl⟩
 case round=>
  obtain⟨j,hj,rfl,rfl,rfl⟩:=hrel
  obtain⟨x1,y1,z1⟩:=HB1.out
  by_cases hlt:j<ks.length
  ·obtain⟨b,off,Aa,ca,Ba,cb,rfl,k0,k1,k2,k3,k4,hsub⟩:=HX.out.kids.atIn ((Below.refl _ _).alloc (Nat.le_refl _) (.cells #[.int .i64 k,.int .i64 e,.int .i64 n,.slice A d.length c,.slice B ks.length c2] 37)) (Nat.le_refl _) hlt
   have HD:=Lib.hid (uniD_succ hlt)
   have HP:=Lib.hid (uniP_succ hlt)
   obtain⟨bd1,bd2⟩:=HKID.out j hlt
   clear hsub k0 k1 k2
   generalize uniD ks j=u at *
   generalize uniP ks j=v at *
   generalize ks[j]=kx at *
   have HM1:=Lib.hid (dec8 u kx.d.length)
   have HM2:=Lib.hid (dec1 v kx.ks.length)
   rcases HM1.out with ⟨t1,t1',m1⟩|⟨t1,t1',m1⟩<;>rcases HM2.out with ⟨t2,t2',t3,t4,m2⟩|⟨t2,t2',t3,t4,m2⟩ <;>
   (rw [m1] at HD
    rw [m2] at HP
    clear m1 m2
    go_wp2
    go_round
    case rel=>exact⟨j+1,by omega,by go_num,by rw [HD.out];try (first|rfl|go_num),by rw [HP.out];try (first|rfl|go_num)⟩
    case measure=>simp [intOf];omega)
  ·obtain rfl:j=ks.length:=by omega
   go_wp2
   go_ret2
   exact⟨rfl,(Below.refl _ _).alloc (Nat.le_refl _) _⟩
section
attribute [local simp] AllK KnowsV look Is
theorem wrap64_small {x:Int}(h0:-9223372036854775808≤x)(h1:x≤9223372036854775807):IntKind.i64.wrap x=x:=by rw [IntKind.wrap_i64];omega
set_option maxHeartbeats 8000000 in
set_option maxRecDepth 100000 in
theorem RefTrimmed11_node:∀(x:Nd) (A:Option Addr) (c:Nat) (B:Option Addr) (c2:Nat) (w:World),NdR w A c B c2 x→sizeN x≤1099511627776 →
  Calls Tryd.prog 24 #[.agg #[.int .i64 x.k,.int .i64 x.e,.int .i64 x.n,.slice A x.d.length c,.slice B x.ks.length c2]] w fun r w'=>r=.returned (.bool (trimmedN x))∧Below w.heap.size w w':=by
 refine Nd.ind ?_
 intro k e n d ks ih A c B c2 w hx hs
 simp only [Nd.k,Nd.e,Nd.n,Nd.d,Nd.ks]
 have HX:=Lib.hid hx
 have HI:=Lib.hid ih
 have hso:sizeN (.mk k e n d ks)=1+d.length+sizeK ks:=by simp only [sizeN]
 rw [hso] at hs
 have hkl:=sizeK_length ks
 have hdl:d.length≤1099511627776:=by omega
 have HD:=Lib.hid hx.open.2.2.2.1
 have HBT:=Lib.hid hx.open.2.2.2.2.1
 have HWD:=Lib.hid (fun w' (hb:Below w.heap.size w w')=>RefWords11_any A c d w' (HD.out.below hb (Nat.le_refl _)) HBT.out hdl)
 have HPT:=Lib.hid (fun w' (hb:Below w.heap.size w w')=>RefPointers11_any B c2 ks w' (HX.out.kids.on hb (Nat.le_refl _)) (by omega))
 have HTD:Hid (trimmedN (.mk k e n d ks)=(decide (k=1→8*wordsT d=d.length∧ptrsT ks=ks.length)&&trimmedK ks)):=Lib.hid (by simp only [trimmedN])
 have hwb:wordsT d≤1099511627776:=by have:=wordsF_le d d.length;unfold wordsT;omega
 have hpb:=ptrsT_le ks
 clear hx ih hso
 generalize trimmedN (.mk k e n d ks)=T at *
 go_enter Tryd.func24,Tryd.ntmps24
 have hcase:(k≠1)∨(k=1∧8*wordsT d≠d.length)∨(k=1∧8*wordsT d=d.length∧ptrsT ks≠ks.length)∨(k=1∧8*wordsT d=d.length∧ptrsT ks=ks.length):=by
  by_cases h1:k=1<;>by_cases h2:8*wordsT d=d.length<;>by_cases h3:ptrsT ks=ks.length<;>simp [h1,h2,h3]
 rcases hcase with h1|⟨h1,h2⟩|⟨h1,h2,h3⟩|⟨h1,h2,h3⟩
 ·have HYES:Hid (T=trimmedK ks):=Lib.hid (by rw [HTD.out,decide_eq_true (fun h=>absurd h h1),Bool.true_and])
  have t1:(k==1)=false:=by simpa using h1
  have H1:=Lib.hid h1
  clear h1
  go_wp2_with fail
  refine abs_code10 (F:=fun W=>Blk W w.heap.size #[.int .i64 k,.int .i64 e,.int .i64 n,.slice A d.length c,.slice B ks.length c2]∧Below w.heap.size w W) ⟨Blk.fresh _ _ _,(Below.refl _ _).alloc (Nat.le_refl _) _⟩ ?_
  rintro w1 ⟨h2,hb⟩
  have H2:=Lib.hid h2
  have HB:=Lib.hid hb
  clear h2 hb
  rename_i KK hKK
  refine wp_region_chain (by kernel_rfl) (by kernel_rfl) ?_
  refine chain_val (u:=?_) [1] rfl (by kernel_rfl) trivial (fun ρ wc hbc hcn hk=>?_) ?_;rotate_left
  ·obtain⟨hcn,-⟩:=hcn
   simp at hk
   go_simp
   rfl
  refine chain_val (u:=?_) [4] rfl (by kernel_rfl) trivial (fun ρ wc hbc hcn hk=>?_) ?_;rotate_left
  ·obtain⟨hcn,-⟩:=hcn
   simp at hk
   obtain⟨x2,y2,z2⟩:=H2.out.drew.below hbc
   go_simp
   rfl
  refine chain_val (u:=?_) [5] rfl (by kernel_rfl) trivial (fun ρ wc hbc hcn hk=>?_) ?_;rotate_left
  ·obtain⟨hcn,-⟩:=hcn
   simp at hk
   go_simp
   rfl
  refine chain_val (u:=?_) [6] rfl (by kernel_rfl) trivial (fun ρ wc hbc hcn hk=>?_) ?_;rotate_left
  ·obtain⟨hcn,-⟩:=hcn
   simp at hk
   go_simp
   rfl
  refine chain_skip (s:=7) (c:=false) rfl rfl (by decide +kernel) rfl rfl (fun w x hx=>by simpa using hx) ?_
  refine chain_skip (s:=7) (c:=false) rfl rfl (by decide +kernel) rfl rfl (fun w x hx=>by simpa using hx) ?_
  refine chain_skip (s:=7) (c:=false) rfl rfl (by decide +kernel) rfl rfl (fun w x hx=>by simpa using hx) ?_
  refine chain_skip (s:=7) (c:=false) rfl rfl (by decide +kernel) rfl rfl (fun w x hx=>by simpa using hx) ?_
  refine chain_skip (s:=7) (c:=false) rfl rfl (by decide +kernel) rfl rfl (fun w x hx=>by simpa using hx) ?_
  refine chain_skip (s:=7) (c:=false) rfl rfl (by decide +kernel) rfl rfl (fun w x hx=>by simpa using hx) ?_
  refine chain_skip (s:=7) (c:=false) rfl rfl (by decide +kernel) rfl rfl (fun w x hx=>by simpa using hx) ?_
  refine chain_skip (s:=7) (c:=false) rfl rfl (by decide +kernel) rfl rfl (fun w x hx=>by simpa using hx) ?_
  refine chain_skip (s:=7) (c:=false) rfl rfl (by decide +kernel) rfl rfl (fun w x hx=>by simpa using hx) ?_
  refine chain_skipU (s:=16) rfl rfl (by decide +kernel) rfl (fun w x hx=>by simpa using hx) ?_
  refine chain_skipU (s:=16) rfl rfl (by decide +kernel) rfl (fun w x hx=>by simpa using hx) ?_
  refine chain_skipU (s:=16) rfl rfl (by decide +kernel) rfl (fun w x hx=>by simpa using hx) ?_
  refine chain_skipU (s:=16) rfl rfl (by decide +kernel) rfl (fun w x hx=>by simpa using hx) ?_
  refine chain_skipU (s:=16) rfl rfl (by decide +kernel) rfl (fun w x hx=>by simpa using hx) ?_
  refine chain_skipU (s:=16) rfl rfl (by decide +kernel) rfl (fun w x hx=>by simpa using hx) ?_
  refine chain_skipU (s:=16) rfl rfl (by decide +kernel) rfl (fun w x hx=>by simpa using hx) ?_
  refine chain_skip (s:=7) (c:=false) rfl rfl (by decide +kernel) rfl rfl (fun w x hx=>by simpa using hx) ?_
  refine chain_val (u:=?_) [7,24] rfl (by kernel_rfl) trivial (fun ρ wc hbc hcn hk=>?_) ?_;rotate_left
  ·obtain⟨hcn,-⟩:=hcn
   simp at hk
   go_simp
   rfl
  refine chain_end_lit 40 rfl (fun ff w7 hb7 hk=>?_)
  refine hKK _ _ ?_
  simp [AllN] at hk
  simp only [frameL,hk]
  have hb7':Below w1.heap.size w1 w7:=⟨hb7.os,hb7.tape,hb7.output,hb7.size,hb7.block⟩
  have G2:=Lib.hid (H2.out.below hb7')
  have GB:=Lib.hid (bel_on HB.out hb7')
  clear hb7 hb7' hk H2 HB
  obtain⟨x2,y2,z2⟩:=G2.out
  go_wp2
  go_loopw [3] (fun i wr=>∃j:Nat,j≤ks.length∧i=.int .i64 j∧trimmedK (ks.take j)=true∧Blk wr w.heap.size #[.int .i64 k,.int .i64 e,.int .i64 n,.slice A d.length c,.slice B ks.length c2]∧Below w.heap.size w wr) (fun i _=>ks.length-(intOf i).toNat)
  case atStart=>exact⟨0,by omega,rfl,by simp [trimmedK],G2.out,GB.out⟩
  case round=>
   obtain⟨j,hj,rfl,htk,hB,hbr⟩:=hrel
   have HB:=Lib.hid hB
   have HR:=Lib.hid hbr
   have HTK:=Lib.hid htk
   clear hbr htk x2 y2 z2
   obtain⟨x1,y1,z1⟩:=hB
   by_cases hlt:j<ks.length
   ·obtain⟨b,off,Aa,ca,Ba,cb,rfl,k0,k1,k2,k3,k4,hsub⟩:=HX.out.kids.atIn HR.out (Nat.le_refl _) hlt
    have hz:=sizeN_kid (List.getElem_mem hlt)
    have HC:=Lib.hid (HI.out ks[j] (List.getElem_mem hlt) Aa ca Ba cb wr (hsub.on HR.out (Nat.le_refl _)) (by omega))
    have HT:=Lib.hid (trimmedK_take ks j hlt)
    have HN:=Lib.hid (trimmedK_no ks j hlt)
    clear hsub
    generalize ks[j]=kx at *
    go_wp2_with fail
    refine HC.out.mono ?_
    rintro r w9 ⟨rfl,hb9⟩
    have HB9:Hid (Below w.heap.size w w9):=Lib.hid (bel_on HR.out hb9)
    have B9:=Lib.hid (HB.out.below hb9)
    clear hb9 x1 y1 z1 k0 k1 k2 k3 k4 HB HR
    obtain⟨x1,y1,z1⟩:=B9.out
    cases hvx:trimmedN kx with
    | false=>
     have HRR:Hid (T=false):=Lib.hid (by rw [HTD.out,HN.out hvx,Bool.and_false])
     clear hvx
     go_wp2
     go_ret
     exact⟨by rw [HRR.out];rfl,HB9.out⟩
    | true=>
     have HT2:Hid (trimmedK (ks.take (j+1))=true):=Lib.hid (by rw [HT.out,HTK.out,hvx];rfl)
     clear hvx
     go_wp2
     go_roundw
     case rel=>exact⟨j+1,by omega,by go_num,HT2.out,B9.out,HB9.out⟩
     case measure=>simp [intOf];omega
   ·obtain rfl:j=ks.length:=by omega
    go_wp2
    go_ret
    exact⟨by rw [HYES.out,←HTK.out,List.take_length];rfl,HR.out⟩
 ·have HNO:Hid (T=false):=Lib.hid (by rw [HTD.out,decide_eq_false (fun h=>h2 (h h1).1),Bool.false_and])
  have t1:(k==1)=true:=by simpa using h1
  have t2:((8*(wordsT d:Int)) != (d.length:Int))=true:=bne_iff_ne.2 (by omega)
  have H1:=Lib.hid h1
  have HH2:=Lib.hid h2
  clear h1 h2
  go_wp2_with fail
  refine abs_code10 (F:=fun W=>Blk W w.heap.size #[.int .i64 k,.int .i64 e,.int .i64 n,.slice A d.length c,.slice B ks.length c2]∧Below w.heap.size w W) ⟨Blk.fresh _ _ _,(Below.refl _ _).alloc (Nat.le_refl _) _⟩ ?_
  rintro w1 ⟨h2,hb⟩
  have H2:=Lib.hid h2
  have HB:=Lib.hid hb
  clear h2 hb
  rename_i KK hKK
  refine wp_region_chain (by kernel_rfl) (by kernel_rfl) ?_
  refine chain_val (u:=?_) [1] rfl (by kernel_rfl) trivial (fun ρ wc hbc hcn hk=>?_) ?_;rotate_left
  ·obtain⟨hcn,-⟩:=hcn
   simp at hk
   go_simp
   rfl
  refine chain_val (u:=?_) [4] rfl (by kernel_rfl) trivial (fun ρ wc hbc hcn hk=>?_) ?_;rotate_left
  ·obtain⟨hcn,-⟩:=hcn
   simp at hk
   obtain⟨x2,y2,z2⟩:=H2.out.drew.below hbc
   go_simp
   rfl
  refine chain_val (u:=?_) [5] rfl (by kernel_rfl) trivial (fun ρ wc hbc hcn hk=>?_) ?_;rotate_left
  ·obtain⟨hcn,-⟩:=hcn
   simp at hk
   go_simp
   rfl
  refine chain_val (u:=?_) [6] rfl (by kernel_rfl) trivial (fun ρ wc hbc hcn hk=>?_) ?_;rotate_left
  ·obtain⟨hcn,-⟩:=hcn
   simp at hk
   go_simp
   rfl
  refine chain_val (u:=?_) [1] rfl (by kernel_rfl) ⟨7,by decide +kernel,rfl,fun w x hx=>by simpa using hx⟩ (fun ρ wc hbc hcn hk=>?_) ?_;rotate_left
  ·obtain⟨hcn,-⟩:=hcn
   simp at hk
   go_simp
   rfl
  refine chain_val (u:=?_) [8] rfl (by kernel_rfl) ⟨7,by decide +kernel,rfl,fun w x hx=>by simpa using hx⟩ (fun ρ wc hbc hcn hk=>?_) ?_;rotate_left
  ·obtain⟨hcn,-⟩:=hcn
   simp at hk
   obtain⟨x2,y2,z2⟩:=H2.out.drew.below hbc
   go_simp
   rfl
  refine chain_call (T:=Is ?_) 48 [9] rfl (by kernel_rfl) ⟨7,by decide +kernel,rfl,fun w x hx=>by simpa using hx⟩ (stable_is _) (fun ρ wc hbc hcn hk=>?_) ?_;rotate_left
  ·obtain⟨hcn,hfn⟩:=hcn
   simp at hk
   refine⟨_,by go_simp;rfl,?_⟩
   refine(HWD.out wc (bel_on (bel_drew HB.out) hbc)).mono ?_
   rintro e w' ⟨rfl,rfl⟩
   refine⟨_,rfl,?_,Below.refl _ _⟩
   unfold Is
   rfl
  refine chain_val (u:=.int .i64 (8*(wordsT d:Int))) [10] rfl (by kernel_rfl) ⟨7,by decide +kernel,rfl,fun w x hx=>by simpa using hx⟩ (fun ρ wc hbc hcn hk=>?_) ?_
  ·obtain⟨hcn,-⟩:=hcn
   simp at hk
   go_simp
   first|rfl|(rw [wrap64_small (by omega) (by omega)])|(congr 3;rw [IntKind.wrap_i64];omega)
  refine chain_val (u:=?_) [1] rfl (by kernel_rfl) ⟨7,by decide +kernel,rfl,fun w x hx=>by simpa using hx⟩ (fun ρ wc hbc hcn hk=>?_) ?_;rotate_left
  ·obtain⟨hcn,-⟩:=hcn
   simp at hk
   go_simp
   rfl
  refine chain_val (u:=?_) [12] rfl (by kernel_rfl) ⟨7,by decide +kernel,rfl,fun w x hx=>by simpa using hx⟩ (fun ρ wc hbc hcn hk=>?_) ?_;rotate_left
  ·obtain⟨hcn,-⟩:=hcn
   simp at hk
   obtain⟨x2,y2,z2⟩:=H2.out.drew.below hbc
   go_simp
   rfl
  refine chain_val (u:=?_) [13] rfl (by kernel_rfl) ⟨7,by decide +kernel,rfl,fun w x hx=>by simpa using hx⟩ (fun ρ wc hbc hcn hk=>?_) ?_;rotate_left
  ·obtain⟨hcn,-⟩:=hcn
   simp at hk
   go_simp
   rfl
  refine chain_val (u:=?_) [11,14] rfl (by kernel_rfl) ⟨7,by decide +kernel,rfl,fun w x hx=>by simpa using hx⟩ (fun ρ wc hbc hcn hk=>?_) ?_;rotate_left
  ·obtain⟨hcn,-⟩:=hcn
   simp at hk
   go_simp
   rfl
  refine chain_val (u:=?_) [15] rfl (by kernel_rfl) ⟨7,by decide +kernel,rfl,fun w x hx=>by simpa using hx⟩ (fun ρ wc hbc hcn hk=>?_) ?_;rotate_left
  ·obtain⟨hcn,-⟩:=hcn
   simp at hk
   go_simp
   rfl
  refine chain_skip (s:=16) (c:=true) rfl rfl (by decide +kernel) rfl rfl (fun w x hx=>by simpa using hx) ?_
  refine chain_skip (s:=16) (c:=true) rfl rfl (by decide +kernel) rfl rfl (fun w x hx=>by simpa using hx) ?_
  refine chain_skip (s:=16) (c:=true) rfl rfl (by decide +kernel) rfl rfl (fun w x hx=>by simpa using hx) ?_
  refine chain_skip (s:=16) (c:=true) rfl rfl (by decide +kernel) rfl rfl (fun w x hx=>by simpa using hx) ?_
  refine chain_skip (s:=16) (c:=true) rfl rfl (by decide +kernel) rfl rfl (fun w x hx=>by simpa using hx) ?_
  refine chain_skip (s:=16) (c:=true) rfl rfl (by decide +kernel) rfl rfl (fun w x hx=>by simpa using hx) ?_
  refine chain_skip (s:=16) (c:=true) rfl rfl (by decide +kernel) rfl rfl (fun w x hx=>by simpa using hx) ?_
  refine chain_val (u:=?_) [16,23] rfl (by kernel_rfl) ⟨7,by decide +kernel,rfl,fun w x hx=>by simpa using hx⟩ (fun ρ wc hbc hcn hk=>?_) ?_;rotate_left
  ·obtain⟨hcn,-⟩:=hcn
   simp at hk
   go_simp
   rfl
  refine chain_val (u:=?_) [7,24] rfl (by kernel_rfl) trivial (fun ρ wc hbc hcn hk=>?_) ?_;rotate_left
  ·obtain⟨hcn,-⟩:=hcn
   simp at hk
   go_simp
   rfl
  refine chain_end_lit 40 rfl (fun ff w7 hb7 hk=>?_)
  refine hKK _ _ ?_
  simp [AllN] at hk
  simp only [frameL,hk]
  have hb7':Below w1.heap.size w1 w7:=⟨hb7.os,hb7.tape,hb7.output,hb7.size,hb7.block⟩
  have G2:=Lib.hid (H2.out.below hb7')
  have GB:=Lib.hid (bel_on HB.out hb7')
  clear hb7 hb7' hk H2 HB
  obtain⟨x2,y2,z2⟩:=G2.out
  go_wp2
  go_ret
  exact⟨by rw [HNO.out];rfl,GB.out⟩
 ·have HNO:Hid (T=false):=Lib.hid (by rw [HTD.out,decide_eq_false (fun h=>h3 (h h1).2),Bool.false_and])
  have t1:(k==1)=true:=by simpa using h1
  have t2:((8*(wordsT d:Int)) != (d.length:Int))=false:=bne_eq_false_iff_eq.2 (by omega)
  have t3:((ptrsT ks:Int) != (ks.length:Int))=true:=bne_iff_ne.2 (by omega)
  have t3':(ptrsT ks != ks.length)=true:=bne_iff_ne.2 h3
  have H1:=Lib.hid h1
  have HH2:=Lib.hid h2
  have HH3:=Lib.hid h3
  clear h1 h2 h3
  go_wp2_with fail
  refine abs_code10 (F:=fun W=>Blk W w.heap.size #[.int .i64 k,.int .i64 e,.int .i64 n,.slice A d.length c,.slice B ks.length c2]∧Below w.heap.size w W) ⟨Blk.fresh _ _ _,(Below.refl _ _).alloc (Nat.le_refl _) _⟩ ?_
  rintro w1 ⟨h2,hb⟩
  have H2:=Lib.hid h2
  have HB:=Lib.hid hb
  clear h2 hb
  rename_i KK hKK
  refine wp_region_chain (by kernel_rfl) (by kernel_rfl) ?_
  refine chain_val (u:=?_) [1] rfl (by kernel_rfl) trivial (fun ρ wc hbc hcn hk=>?_) ?_;rotate_left
  ·obtain⟨hcn,-⟩:=hcn
   simp at hk
   go_simp
   rfl
  refine chain_val (u:=?_) [4] rfl (by kernel_rfl) trivial (fun ρ wc hbc hcn hk=>?_) ?_;rotate_left
  ·obtain⟨hcn,-⟩:=hcn
   simp at hk
   obtain⟨x2,y2,z2⟩:=H2.out.drew.below hbc
   go_simp
   rfl
  refine chain_val (u:=?_) [5] rfl (by kernel_rfl) trivial (fun ρ wc hbc hcn hk=>?_) ?_;rotate_left
  ·obtain⟨hcn,-⟩:=hcn
   simp at hk
   go_simp
   rfl
  refine chain_val (u:=?_) [6] rfl (by kernel_rfl) trivial (fun ρ wc hbc hcn hk=>?_) ?_;rotate_left
  ·obtain⟨hcn,-⟩:=hcn
   simp at hk
   go_simp
   rfl
  refine chain_val (u:=?_) [1] rfl (by kernel_rfl) ⟨7,by decide +kernel,rfl,fun w x hx=>by simpa using hx⟩ (fun ρ wc hbc hcn hk=>?_) ?_;rotate_left
  ·obtain⟨hcn,-⟩:=hcn
   simp at hk
   go_simp
   rfl
  refine chain_val (u:=?_) [8] rfl (by kernel_rfl) ⟨7,by decide +kernel,rfl,fun w x hx=>by simpa using hx⟩ (fun ρ wc hbc hcn hk=>?_) ?_;rotate_left
  ·obtain⟨hcn,-⟩:=hcn
   simp at hk
   obtain⟨x2,y2,z2⟩:=H2.out.drew.below hbc
   go_simp
   rfl
  refine chain_call (T:=Is ?_) 48 [9] rfl (by kernel_rfl) ⟨7,by decide +kernel,rfl,fun w x hx=>by simpa using hx⟩ (stable_is _) (fun ρ wc hbc hcn hk=>?_) ?_;rotate_left
  ·obtain⟨hcn,hfn⟩:=hcn
   simp at hk
   refine⟨_,by go_simp;rfl,?_⟩
   refine(HWD.out wc (bel_on (bel_drew HB.out) hbc)).mono ?_
   rintro e w' ⟨rfl,rfl⟩
   refine⟨_,rfl,?_,Below.refl _ _⟩
   unfold Is
   rfl
  refine chain_val (u:=.int .i64 (8*(wordsT d:Int))) [10] rfl (by kernel_rfl) ⟨7,by decide +kernel,rfl,fun w x hx=>by simpa using hx⟩ (fun ρ wc hbc hcn hk=>?_) ?_
  ·obtain⟨hcn,-⟩:=hcn
   simp at hk
   go_simp
   first|rfl|(rw [wrap64_small (by omega) (by omega)])|(congr 3;rw [IntKind.wrap_i64];omega)
  refine chain_val (u:=?_) [1] rfl (by kernel_rfl) ⟨7,by decide +kernel,rfl,fun w x hx=>by simpa using hx⟩ (fun ρ wc hbc hcn hk=>?_) ?_;rotate_left
  ·obtain⟨hcn,-⟩:=hcn
   simp at hk
   go_simp
   rfl
  refine chain_val (u:=?_) [12] rfl (by kernel_rfl) ⟨7,by decide +kernel,rfl,fun w x hx=>by simpa using hx⟩ (fun ρ wc hbc hcn hk=>?_) ?_;rotate_left
  ·obtain⟨hcn,-⟩:=hcn
   simp at hk
   obtain⟨x2,y2,z2⟩:=H2.out.drew.below hbc
   go_simp
   rfl
  refine chain_val (u:=?_) [13] rfl (by kernel_rfl) ⟨7,by decide +kernel,rfl,fun w x hx=>by simpa using hx⟩ (fun ρ wc hbc hcn hk=>?_) ?_;rotate_left
  ·obtain⟨hcn,-⟩:=hcn
   simp at hk
   go_simp
   rfl
  refine chain_val (u:=?_) [11,14] rfl (by kernel_rfl) ⟨7,by decide +kernel,rfl,fun w x hx=>by simpa using hx⟩ (fun ρ wc hbc hcn hk=>?_) ?_;rotate_left
  ·obtain⟨hcn,-⟩:=hcn
   simp at hk
   go_simp
   rfl
  refine chain_val (u:=?_) [15] rfl (by kernel_rfl) ⟨7,by decide +kernel,rfl,fun w x hx=>by simpa using hx⟩ (fun ρ wc hbc hcn hk=>?_) ?_;rotate_left
  ·obtain⟨hcn,-⟩:=hcn
   simp at hk
   go_simp
   rfl
  refine chain_val (u:=?_) [1] rfl (by kernel_rfl) ⟨16,by decide +kernel,rfl,fun w x hx=>by simpa using hx⟩ (fun ρ wc hbc hcn hk=>?_) ?_;rotate_left
  ·obtain⟨hcn,-⟩:=hcn
   simp at hk
   go_simp
   rfl
  refine chain_val (u:=?_) [17] rfl (by kernel_rfl) ⟨16,by decide +kernel,rfl,fun w x hx=>by simpa using hx⟩ (fun ρ wc hbc hcn hk=>?_) ?_;rotate_left
  ·obtain⟨hcn,-⟩:=hcn
   simp at hk
   obtain⟨x2,y2,z2⟩:=H2.out.drew.below hbc
   go_simp
   rfl
  refine chain_call (T:=Is ?_) 49 [18] rfl (by kernel_rfl) ⟨16,by decide +kernel,rfl,fun w x hx=>by simpa using hx⟩ (stable_is _) (fun ρ wc hbc hcn hk=>?_) ?_;rotate_left
  ·obtain⟨hcn,hfn⟩:=hcn
   simp at hk
   refine⟨_,by go_simp;rfl,?_⟩
   refine(HPT.out wc (bel_on (bel_drew HB.out) hbc)).mono ?_
   rintro e w' ⟨rfl,rfl⟩
   refine⟨_,rfl,?_,Below.refl _ _⟩
   unfold Is
   rfl
  refine chain_val (u:=?_) [1] rfl (by kernel_rfl) ⟨16,by decide +kernel,rfl,fun w x hx=>by simpa using hx⟩ (fun ρ wc hbc hcn hk=>?_) ?_;rotate_left
  ·obtain⟨hcn,-⟩:=hcn
   simp at hk
   go_simp
   rfl
  refine chain_val (u:=?_) [20] rfl (by kernel_rfl) ⟨16,by decide +kernel,rfl,fun w x hx=>by simpa using hx⟩ (fun ρ wc hbc hcn hk=>?_) ?_;rotate_left
  ·obtain⟨hcn,-⟩:=hcn
   simp at hk
   obtain⟨x2,y2,z2⟩:=H2.out.drew.below hbc
   go_simp
   rfl
  refine chain_val (u:=?_) [21] rfl (by kernel_rfl) ⟨16,by decide +kernel,rfl,fun w x hx=>by simpa using hx⟩ (fun ρ wc hbc hcn hk=>?_) ?_;rotate_left
  ·obtain⟨hcn,-⟩:=hcn
   simp at hk
   go_simp
   rfl
  refine chain_val (u:=?_) [19,22] rfl (by kernel_rfl) ⟨16,by decide +kernel,rfl,fun w x hx=>by simpa using hx⟩ (fun ρ wc hbc hcn hk=>?_) ?_;rotate_left
  ·obtain⟨hcn,-⟩:=hcn
   simp at hk
   go_simp
   rfl
  refine chain_val (u:=?_) [16,23] rfl (by kernel_rfl) ⟨7,by decide +kernel,rfl,fun w x hx=>by simpa using hx⟩ (fun ρ wc hbc hcn hk=>?_) ?_;rotate_left
  ·obtain⟨hcn,-⟩:=hcn
   simp at hk
   go_simp
   rfl
  refine chain_val (u:=?_) [7,24] rfl (by kernel_rfl) trivial (fun ρ wc hbc hcn hk=>?_) ?_;rotate_left
  ·obtain⟨hcn,-⟩:=hcn
   simp at hk
   go_simp
   rfl
  refine chain_end_lit 40 rfl (fun ff w7 hb7 hk=>?_)
  refine hKK _ _ ?_
  simp [AllN] at hk
  simp only [frameL,hk]
  have hb7':Below w1.heap.size w1 w7:=⟨hb7.os,hb7.tape,hb7.output,hb7.size,hb7.block⟩
  have G2:=Lib.hid (H2.out.below hb7')
  have GB:=Lib.hid (bel_on HB.out hb7')
  clear hb7 hb7' hk H2 HB
  obtain⟨x2,y2,z2⟩:=G2.out
  go_wp2
  go_ret
  exact⟨by rw [HNO.out];rfl,GB.out⟩
 ·have HYES:Hid (T=trimmedK ks):=Lib.hid (by rw [HTD.out,decide_eq_true (fun _=>⟨h2,h3⟩),Bool.true_and])
  have t1:(k==1)=true:=by simpa using h1
  have t2:((8*(wordsT d:Int)) != (d.length:Int))=false:=bne_eq_false_iff_eq.2 (by omega)
  have t3:((ptrsT ks:Int) != (ks.length:Int))=false:=bne_eq_false_iff_eq.2 (by omega)
  have t3':(ptrsT ks != ks.length)=false:=by simpa using h3
  have H1:=Lib.hid h1
  have HH2:=Lib.hid h2
  have HH3:=Lib.hid h3
  clear h1 h2 h3
  go_wp2_with fail
  refine abs_code10 (F:=fun W=>Blk W w.heap.size #[.int .i64 k,.int .i64 e,.int .i64 n,.slice A d.length c,.slice B ks.length c2]∧Below w.heap.size w W) ⟨Blk.fresh _ _ _,(Below.refl _ _).alloc (Nat.le_refl _) _⟩ ?_
  rintro w1 ⟨h2,hb⟩
  have H2:=Lib.hid h2
  have HB:=Lib.hid hb
  clear h2 hb
  rename_i KK hKK
  refine wp_region_chain (by kernel_rfl) (by kernel_rfl) ?_
  refine chain_val (u:=?_) [1] rfl (by kernel_rfl) trivial (fun ρ wc hbc hcn hk=>?_) ?_;rotate_left
  ·obtain⟨hcn,-⟩:=hcn
   simp at hk
   go_simp
   rfl
  refine chain_val (u:=?_) [4] rfl (by kernel_rfl) trivial (fun ρ wc hbc hcn hk=>?_) ?_;rotate_left
  ·obtain⟨hcn,-⟩:=hcn
   simp at hk
   obtain⟨x2,y2,z2⟩:=H2.out.drew.below hbc
   go_simp
   rfl
  refine chain_val (u:=?_) [5] rfl (by kernel_rfl) trivial (fun ρ wc hbc hcn hk=>?_) ?_;rotate_left
  ·obtain⟨hcn,-⟩:=hcn
   simp at hk
   go_simp
   rfl
  refine chain_val (u:=?_) [6] rfl (by kernel_rfl) trivial (fun ρ wc hbc hcn hk=>?_) ?_;rotate_left
  ·obtain⟨hcn,-⟩:=hcn
   simp at hk
   go_simp
   rfl
  refine chain_val (u:=?_) [1] rfl (by kernel_rfl) ⟨7,by decide +kernel,rfl,fun w x hx=>by simpa using hx⟩ (fun ρ wc hbc hcn hk=>?_) ?_;rotate_left
  ·obtain⟨hcn,-⟩:=hcn
   simp at hk
   go_simp
   rfl
  refine chain_val (u:=?_) [8] rfl (by kernel_rfl) ⟨7,by decide +kernel,rfl,fun w x hx=>by simpa using hx⟩ (fun ρ wc hbc hcn hk=>?_) ?_;rotate_left
  ·obtain⟨hcn,-⟩:=hcn
   simp at hk
   obtain⟨x2,y2,z2⟩:=H2.out.drew.below hbc
   go_simp
   rfl
  refine chain_call (T:=Is ?_) 48 [9] rfl (by kernel_rfl) ⟨7,by decide +kernel,rfl,fun w x hx=>by simpa using hx⟩ (stable_is _) (fun ρ wc hbc hcn hk=>?_) ?_;rotate_left
  ·obtain⟨hcn,hfn⟩:=hcn
   simp at hk
   refine⟨_,by go_simp;rfl,?_⟩
   refine(HWD.out wc (bel_on (bel_drew HB.out) hbc)).mono ?_
   rintro e w' ⟨rfl,rfl⟩
   refine⟨_,rfl,?_,Below.refl _ _⟩
   unfold Is
   rfl
  refine chain_val (u:=.int .i64 (8*(wordsT d:Int))) [10] rfl (by kernel_rfl) ⟨7,by decide +kernel,rfl,fun w x hx=>by simpa using hx⟩ (fun ρ wc hbc hcn hk=>?_) ?_
  ·obtain⟨hcn,-⟩:=hcn
   simp at hk
   go_simp
   first|rfl|(rw [wrap64_small (by omega) (by omega)])|(congr 3;rw [IntKind.wrap_i64];omega)
  refine chain_val (u:=?_) [1] rfl (by kernel_rfl) ⟨7,by decide +kernel,rfl,fun w x hx=>by simpa using hx⟩ (fun ρ wc hbc hcn hk=>?_) ?_;rotate_left
  ·obtain⟨hcn,-⟩:=hcn
   simp at hk
   go_simp
   rfl
  refine chain_val (u:=?_) [12] rfl (by kernel_rfl) ⟨7,by decide +kernel,rfl,fun w x hx=>by simpa using hx⟩ (fun ρ wc hbc hcn hk=>?_) ?_;rotate_left
  ·obtain⟨hcn,-⟩:=hcn
   simp at hk
   obtain⟨x2,y2,z2⟩:=H2.out.drew.below hbc
   go_simp
   rfl
  refine chain_val (u:=?_) [13] rfl (by kernel_rfl) ⟨7,by decide +kernel,rfl,fun w x hx=>by simpa using hx⟩ (fun ρ wc hbc hcn hk=>?_) ?_;rotate_left
  ·obtain⟨hcn,-⟩:=hcn
   simp at hk
   go_simp
   rfl
  refine chain_val (u:=?_) [11,14] rfl (by kernel_rfl) ⟨7,by decide +kernel,rfl,fun w x hx=>by simpa using hx⟩ (fun ρ wc hbc hcn hk=>?_) ?_;rotate_left
  ·obtain⟨hcn,-⟩:=hcn
   simp at hk
   go_simp
   rfl
  refine chain_val (u:=?_) [15] rfl (by kernel_rfl) ⟨7,by decide +kernel,rfl,fun w x hx=>by simpa using hx⟩ (fun ρ wc hbc hcn hk=>?_) ?_;rotate_left
  ·obtain⟨hcn,-⟩:=hcn
   simp at hk
   go_simp
   rfl
  refine chain_val (u:=?_) [1] rfl (by kernel_rfl) ⟨16,by decide +kernel,rfl,fun w x hx=>by simpa using hx⟩ (fun ρ wc hbc hcn hk=>?_) ?_;rotate_left
  ·obtain⟨hcn,-⟩:=hcn
   simp at hk
   go_simp
   rfl
  refine chain_val (u:=?_) [17] rfl (by kernel_rfl) ⟨16,by decide +kernel,rfl,fun w x hx=>by simpa using hx⟩ (fun ρ wc hbc hcn hk=>?_) ?_;rotate_left
  ·obtain⟨hcn,-⟩:=hcn
   simp at hk
   obtain⟨x2,y2,z2⟩:=H2.out.drew.below hbc
   go_simp
   rfl
  refine chain_call (T:=Is ?_) 49 [18] rfl (by kernel_rfl) ⟨16,by decide +kernel,rfl,fun w x hx=>by simpa using hx⟩ (stable_is _) (fun ρ wc hbc hcn hk=>?_) ?_;rotate_left
  ·obtain⟨hcn,hfn⟩:=hcn
   simp at hk
   refine⟨_,by go_simp;rfl,?_⟩
   refine(HPT.out wc (bel_on (bel_drew HB.out) hbc)).mono ?_
   rintro e w' ⟨rfl,rfl⟩
   refine⟨_,rfl,?_,Below.refl _ _⟩
   unfold Is
   rfl
  refine chain_val (u:=?_) [1] rfl (by kernel_rfl) ⟨16,by decide +kernel,rfl,fun w x hx=>by simpa using hx⟩ (fun ρ wc hbc hcn hk=>?_) ?_;rotate_left
  ·obtain⟨hcn,-⟩:=hcn
   simp at hk
   go_simp
   rfl
  refine chain_val (u:=?_) [20] rfl (by kernel_rfl) ⟨16,by decide +kernel,rfl,fun w x hx=>by simpa using hx⟩ (fun ρ wc hbc hcn hk=>?_) ?_;rotate_left
  ·obtain⟨hcn,-⟩:=hcn
   simp at hk
   obtain⟨x2,y2,z2⟩:=H2.out.drew.below hbc
   go_simp
   rfl
  refine chain_val (u:=?_) [21] rfl (by kernel_rfl) ⟨16,by decide +kernel,rfl,fun w x hx=>by simpa using hx⟩ (fun ρ wc hbc hcn hk=>?_) ?_;rotate_left
  ·obtain⟨hcn,-⟩:=hcn
   simp at hk
   go_simp
   rfl
  refine chain_val (u:=?_) [19,22] rfl (by kernel_rfl) ⟨16,by decide +kernel,rfl,fun w x hx=>by simpa using hx⟩ (fun ρ wc hbc hcn hk=>?_) ?_;rotate_left
  ·obtain⟨hcn,-⟩:=hcn
   simp at hk
   go_simp
   rfl
  refine chain_val (u:=?_) [16,23] rfl (by kernel_rfl) ⟨7,by decide +kernel,rfl,fun w x hx=>by simpa using hx⟩ (fun ρ wc hbc hcn hk=>?_) ?_;rotate_left
  ·obtain⟨hcn,-⟩:=hcn
   simp at hk
   go_simp
   rfl
  refine chain_val (u:=?_) [7,24] rfl (by kernel_rfl) trivial (fun ρ wc hbc hcn hk=>?_) ?_;rotate_left
  ·obtain⟨hcn,-⟩:=hcn
   simp at hk
   go_simp
   rfl
  refine chain_end_lit 40 rfl (fun ff w7 hb7 hk=>?_)
  refine hKK _ _ ?_
  simp [AllN] at hk
  simp only [frameL,hk]
  have hb7':Below w1.heap.size w1 w7:=⟨hb7.os,hb7.tape,hb7.output,hb7.size,hb7.block⟩
  have G2:=Lib.hid (H2.out.below hb7')
  have GB:=Lib.hid (bel_on HB.out hb7')
  clear hb7 hb7' hk H2 HB
  obtain⟨x2,y2,z2⟩:=G2.out
  go_wp2
  go_loopw [3] (fun i wr=>∃j:Nat,j≤ks.length∧i=.int .i64 j∧trimmedK (ks.take j)=true∧Blk wr w.heap.size #[.int .i64 k,.int .i64 e,.int .i64 n,.slice A d.length c,.slice B ks.length c2]∧Below w.heap.size w wr) (fun i _=>ks.length-(intOf i).toNat)
  case atStart=>exact⟨0,by omega,rfl,by simp [trimmedK],G2.out,GB.out⟩
  case round=>
   obtain⟨j,hj,rfl,htk,hB,hbr⟩:=hrel
   have HB:=Lib.hid hB
   have HR:=Lib.hid hbr
   have HTK:=Lib.hid htk
   clear hbr htk x2 y2 z2
   obtain⟨x1,y1,z1⟩:=hB
   by_cases hlt:j<ks.length
   ·obtain⟨b,off,Aa,ca,Ba,cb,rfl,k0,k1,k2,k3,k4,hsub⟩:=HX.out.kids.atIn HR.out (Nat.le_refl _) hlt
    have hz:=sizeN_kid (List.getElem_mem hlt)
    have HC:=Lib.hid (HI.out ks[j] (List.getElem_mem hlt) Aa ca Ba cb wr (hsub.on HR.out (Nat.le_refl _)) (by omega))
    have HT:=Lib.hid (trimmedK_take ks j hlt)
    have HN:=Lib.hid (trimmedK_no ks j hlt)
    clear hsub
    generalize ks[j]=kx at *
    go_wp2_with fail
    refine HC.out.mono ?_
    rintro r w9 ⟨rfl,hb9⟩
    have HB9:Hid (Below w.heap.size w w9):=Lib.hid (bel_on HR.out hb9)
    have B9:=Lib.hid (HB.out.below hb9)
    clear hb9 x1 y1 z1 k0 k1 k2 k3 k4 HB HR
    obtain⟨x1,y1,z1⟩:=B9.out
    cases hvx:trimmedN kx with
    | false=>
     have HRR:Hid (T=false):=Lib.hid (by rw [HTD.out,HN.out hvx,Bool.and_false])
     clear hvx
     go_wp2
     go_ret
     exact⟨by rw [HRR.out];rfl,HB9.out⟩
    | true=>
     have HT2:Hid (trimmedK (ks.take (j+1))=true):=Lib.hid (by rw [HT.out,HTK.out,hvx];rfl)
     clear hvx
     go_wp2
     go_roundw
     case rel=>exact⟨j+1,by omega,by go_num,HT2.out,B9.out,HB9.out⟩
     case measure=>simp [intOf];omega
   ·obtain rfl:j=ks.length:=by omega
    go_wp2
    go_ret
    exact⟨by rw [HYES.out,←HTK.out,List.take_length];rfl,HR.out⟩
end
end Go.Proofs.YtclpapddejgpnaaDoor
