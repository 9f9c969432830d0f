/- The texts Ref06, Node, List (what is wanted of them), one after the other. -/
import Derived.Test.YtfaflahfjgnphaaGreatDoorMg3
import Derived.Test.YtfaflahfjgnphaaGreatDoorMg10
import Derived.Laws.OwnMore
import Derived.Lib.SliceRun
namespace Go.Proofs.YtfaflahfjgnphaaGreatDoor
open Go.ChangeShapes Go.WideShapes Go.ChangeAt Go.RowKit
set_option linter.unusedVariables false
set_option linter.unusedSimpArgs false
set_option maxRecDepth 100000
section
def bitsI (e:Int):Int:=if e=1 then 1 else if e=2 then 8 else if e=3 then 16 else if e=4 then 32 else if e=5∨e=6 then 64 else 0
def wordsI (e c:Int):Int:=if e=7 then c+1 else (bitsI e*c+63) / 64
def bytesI (e c:Int):Int:=(bitsI e*c+7) / 8
theorem bitsI_cases (e:Int):bitsI e=0∨bitsI e=1∨bitsI e=8∨bitsI e=16∨bitsI e=32∨bitsI e=64:=by
 unfold bitsI
 repeat' split
 all_goals simp
theorem bitsI_mul (e c:Int)(h0:0≤c):0≤bitsI e*c∧bitsI e*c≤64*c:=by
 rcases bitsI_cases e with h|h|h|h|h|h<;>rw [h]<;>omega
theorem RefBits_any (e:Int)(w:World):Calls Tryz.prog 109 #[.int .i64 e] w fun r w'=>r=.returned (.int .i64 (bitsI e))∧w=w':=by
 have HB:Hid (bitsI e=bitsI e):=Lib.hid rfl
 by_cases h1:e=1
 ·subst h1;go_enter Tryz.func109,Tryz.ntmps109;go_wp2;go_ret;exact⟨rfl,rfl⟩
 by_cases h2:e=2
 ·subst h2;go_enter Tryz.func109,Tryz.ntmps109;go_wp2;go_ret;exact⟨rfl,rfl⟩
 by_cases h3:e=3
 ·subst h3;go_enter Tryz.func109,Tryz.ntmps109;go_wp2;go_ret;exact⟨rfl,rfl⟩
 by_cases h4:e=4
 ·subst h4;go_enter Tryz.func109,Tryz.ntmps109;go_wp2;go_ret;exact⟨rfl,rfl⟩
 by_cases h5:e=5
 ·subst h5;go_enter Tryz.func109,Tryz.ntmps109;go_wp2;go_ret;exact⟨rfl,rfl⟩
 by_cases h6:e=6
 ·subst h6;go_enter Tryz.func109,Tryz.ntmps109;go_wp2;go_ret;exact⟨rfl,rfl⟩
 have HZ:Hid (bitsI e=0):=Lib.hid (by simp [bitsI,h1,h2,h3,h4,h5,h6])
 have k1:(e==1)=false:=by rw [beq_eq_false_iff_ne];exact h1
 have k2:(e==2)=false:=by rw [beq_eq_false_iff_ne];exact h2
 have k3:(e==3)=false:=by rw [beq_eq_false_iff_ne];exact h3
 have k4:(e==4)=false:=by rw [beq_eq_false_iff_ne];exact h4
 have k5:(e==5)=false:=by rw [beq_eq_false_iff_ne];exact h5
 have k6:(e==6)=false:=by rw [beq_eq_false_iff_ne];exact h6
 clear h1 h2 h3 h4 h5 h6
 go_enter Tryz.func109,Tryz.ntmps109
 go_wp2
 go_ret
 exact⟨by rw [HZ.out];rfl,rfl⟩
theorem RefWords6_any (e c:Int)(w:World)(h0:0≤c)(h1:c≤536870911):Calls Tryz.prog 91 #[.int .i64 e,.int .i64 c] w fun r w'=>r=.returned (.int .i64 (wordsI e c))∧w=w':=by
 by_cases h7:e=7
 ·subst h7
  go_enter Tryz.func91,Tryz.ntmps91
  go_wp2
  go_ret
  exact⟨rfl,rfl⟩
 ·have k7:(e==7)=false:=by rw [beq_eq_false_iff_ne];exact h7
  have HW:Hid (wordsI e c=(bitsI e*c+63) / 64):=Lib.hid (by simp [wordsI,h7])
  have hm:=bitsI_mul e c h0
  clear h7
  by_cases hr:bitsI e*c / 64*64<bitsI e*c
  ·have HE:Hid ((bitsI e*c+63) / 64=bitsI e*c / 64+1):=Lib.hid (by omega)
   go_enter Tryz.func91,Tryz.ntmps91
   go_wp2_with (go_at_call 109;refine(RefBits_any _ _).mono ?_;rintro r w' ⟨rfl,rfl⟩)
   go_ret
   exact⟨by rw [HW.out,HE.out];rfl,rfl⟩
  ·have HE:Hid ((bitsI e*c+63) / 64=bitsI e*c / 64):=Lib.hid (by omega)
   go_enter Tryz.func91,Tryz.ntmps91
   go_wp2_with (go_at_call 109;refine(RefBits_any _ _).mono ?_;rintro r w' ⟨rfl,rfl⟩)
   go_ret
   exact⟨by rw [HW.out,HE.out];rfl,rfl⟩
theorem RefBytes6_any (e c:Int)(w:World)(h0:0≤c)(h1:c≤536870911):Calls Tryz.prog 92 #[.int .i64 e,.int .i64 c] w fun r w'=>r=.returned (.int .i64 (bytesI e c))∧w=w':=by
 have hm:=bitsI_mul e c h0
 have HW:Hid (bytesI e c=(bitsI e*c+7) / 8):=Lib.hid rfl
 by_cases hr:bitsI e*c / 8*8<bitsI e*c
 ·have HE:Hid ((bitsI e*c+7) / 8=bitsI e*c / 8+1):=Lib.hid (by omega)
  go_enter Tryz.func92,Tryz.ntmps92
  go_wp2_with (go_at_call 109;refine(RefBits_any _ _).mono ?_;rintro r w' ⟨rfl,rfl⟩)
  go_ret
  exact⟨by rw [HW.out,HE.out];rfl,rfl⟩
 ·have HE:Hid ((bitsI e*c+7) / 8=bitsI e*c / 8):=Lib.hid (by omega)
  go_enter Tryz.func92,Tryz.ntmps92
  go_wp2_with (go_at_call 109;refine(RefBits_any _ _).mono ?_;rintro r w' ⟨rfl,rfl⟩)
  go_ret
  exact⟨by rw [HW.out,HE.out];rfl,rfl⟩
def trimAt (b:List Int)(e c:Int)(i:Nat):Int:=if e=1∧c<8*(i:Int)+8 then zat b i % p2 (c-8*i) else zat b i
def trimL (b:List Int)(e c:Int):List Int:=(List.range (bytesI e c).toNat).map (trimAt b e c)
theorem trimL_length (b:List Int)(e c:Int):(trimL b e c).length=(bytesI e c).toNat:=by simp [trimL]
theorem trimL_zat (b:List Int)(e c:Int)(i:Nat)(h:i<(bytesI e c).toNat):zat (trimL b e c) i=trimAt b e c i:=by
 simp [trimL,zat,List.getD_eq_getElem?_getD,h]
theorem trimAt_bd {b:List Int}(hb:Bts b)(e c:Int)(i:Nat):0≤trimAt b e c i∧trimAt b e c i<256:=by
 have hz:=hb.at i
 unfold trimAt
 split
 ·have hp:=p2_pos (c-8*i)
  have h1:=Int.emod_nonneg (zat b i) (show p2 (c-8*(i:Int))≠0 by omega)
  have h2:zat b i % p2 (c-8*(i:Int))≤zat b i:=by
   rw [Int.emod_def]
   have:=Int.mul_nonneg (show 0≤p2 (c-8*(i:Int)) by omega) (Int.ediv_nonneg hz.1 (show 0≤p2 (c-8*(i:Int)) by omega))
   omega
  omega
 ·exact hz
theorem trimL_bts {b:List Int}(hb:Bts b)(e c:Int):Bts (trimL b e c):=by
 intro z hz
 simp only [trimL,List.mem_map] at hz
 obtain⟨i,_,rfl⟩:=hz
 exact trimAt_bd hb e c i
theorem p2_7 (q:Nat)(h:q≤7):p2 q≤128:=by
 have h2:=Nat.pow_le_pow_right (n:=2) (by decide) h
 unfold p2
 rw [Int.toNat_natCast]
 have e:(2:Int) ^ q=((2 ^ q:Nat):Int):=by simp
 rw [e];omega
attribute [local irreducible] p2
set_option maxHeartbeats 4000000 in
set_option maxRecDepth 100000 in
theorem RefTrim_any (A:Option Addr)(cp:Nat)(b:List Int)(e c:Int)(w:World)(hr:Ri w .u8 A b)(hb:Bts b)(hm:b.length≤140737488355327)(h0:0≤c)(h1:c≤536870911)(hl:bytesI e c≤b.length):
  Calls Tryz.prog 61 #[.int .i64 e,.int .i64 c,.slice A b.length cp] w fun r w'=>∃v,r=.returned v∧Got w' w.heap.size 5 .u8 v (trimL b e c)∧Below w.heap.size w w':=by
 obtain⟨i0,hi,hz0,hz1,hz2⟩:=info_parts int8_info
 have hm2:=bitsI_mul e c h0
 have hB:0≤bytesI e c:=by unfold bytesI;omega
 have HBI:Hid (bytesI e c=(bitsI e*c+7) / 8):=Lib.hid rfl
 have HLEN:=Lib.hid (trimL_length b e c)
 have HZ:=Lib.hid (trimL_zat b e c)
 have HTB:=Lib.hid (fun i=>trimAt_bd hb e c i)
 have Hr:=Lib.hid hr
 have Hb:=Lib.hid hb
 obtain⟨n,hn⟩:=Int.eq_ofNat_of_zero_le hB
 have HN:=Lib.hid hn
 have hnl:n≤b.length:=by omega
 clear hr hb hl hn hB
 go_enter Tryz.func61,Tryz.ntmps61
 go_wp2
 go_loopw [7,8] (fun v j wr=>∃k:Nat,k≤n∧j=.int .i64 k∧Got wr w.heap.size 5 .u8 v ((trimL b e c).take k)∧Below w.heap.size w wr) (fun _ j _=>n-(intOf j).toNat)
 case atStart=>exact⟨0,by omega,rfl,Got.empty _ _ _ _,Below.refl _ _⟩
 case round=>
  obtain⟨k,hk,rfl,hgk,hbk⟩:=hrel
  by_cases hlt:k<n
  ·have hr:=Hr.out.below hbk (Nat.le_refl _)
   obtain⟨g,off,rfl,hc3⟩:=hr.at (i:=k) (by omega)
   have hcell:=hc3 k (by omega)
   have hz:=Hb.out.at k
   have hk2:(k:Int)<(b.length:Int):=by omega
   have hkn:(k:Int)<(n:Int):=by omega
   have hlen:((trimL b e c).take k).length=k:=by rw [List.length_take,HLEN.out,HN.out];omega
   have hnb:n≤140737488355327:=by omega
   have HL:=Lib.hid hlen
   have HT:Hid ((trimL b e c).take (k+1)=(trimL b e c).take k++[trimAt b e c k]):=Lib.hid (by
    rw [take_succ_zat _ _ (by rw [HLEN.out,HN.out];omega),HZ.out k (by rw [HN.out];omega)])
   have hsz:=hbk.size
   have HB:=Lib.hid hbk
   have ht:=HTB.out k
   clear hc3 hr hbk hlen
   by_cases hc:e=1∧c<8*(k:Int)+8
   ·obtain⟨rfl,hc2⟩:=hc
    have hkeep:0≤c-8*(k:Int):=by
     have h3:=HN.out
     rw [HBI.out] at h3
     have h4:bitsI 1=1:=rfl
     rw [h4] at h3
     omega
    obtain⟨K,hK⟩:=Int.eq_ofNat_of_zero_le hkeep
    have hK7:K≤7:=by omega
    have HK:=Lib.hid hK
    have HA:Hid (trimAt b 1 c k=zat b k % p2 K):=Lib.hid (by unfold trimAt;rw [if_pos ⟨rfl,hc2⟩,hK])
    rw [HA.out] at HT ht
    have hcK:c=8*(k:Int)+K:=by omega
    clear hK hkeep
    subst hcK
    go_wp2_with fail
    refine(RefBytes6_any _ _ _ h0 h1).mono ?_
    rintro r w' ⟨rfl,rfl⟩
    rw [HN.out]
    go_wp2
    have HGK:=Lib.hid hgk
    clear hgk
    go_loop [11,12] (fun m j=>∃q:Nat,q≤K∧j=.int .i64 q∧m=.int .i64 (p2 q)) (fun _ j=>K-(intOf j).toNat)
    case atStart=>exact⟨0,by omega,rfl,by unfold p2;rfl⟩
    case round=>
     obtain⟨q,hq,rfl,rfl⟩:=hrel
     have hp1:=p2_pos q
     by_cases hqk:q<K
     ·have hq2:(q:Int)<8*(k:Int)+K-8*k:=by omega
      have hp2:=p2_7 q (by omega)
      have HS:=Lib.hid (p2_succ q)
      go_wp2
      go_round
      case rel=>exact⟨q+1,by omega,by go_num,by rw [←HS.out];go_num⟩
      case measure=>simp [intOf];omega
     ·have hq2:¬(q:Int)<8*(k:Int)+K-8*k:=by omega
      obtain rfl:q=K:=by omega
      have hp2:=p2_7 q (by omega)
      go_wp2_with (at_builtin;refine wpList_app1 rfl (.tmp 49) (.tmp 51) 50 rfl Tryz.underlying50 hi hz0 hz1 hz2 rfl HGK.out rfl (by rw [HL.out];unfold maxLen;omega) (by rw [HL.out];omega) hsz ?_;intro v1 w1 hg1 hb1)
      go_roundw
      case rel=>exact⟨k+1,by omega,by go_num,by rw [HT.out];exact hg1,HB.out.trans hb1⟩
      case measure=>simp [intOf];omega
   ·have HA:Hid (trimAt b e c k=zat b k):=Lib.hid (by unfold trimAt;rw [if_neg hc])
    rw [HA.out] at HT ht
    by_cases he:e=1
    ·have hc2:¬c<8*(k:Int)+8:=fun h=>hc ⟨he,h⟩
     subst he
     clear hc
     go_wp2_with fail
     refine(RefBytes6_any _ _ _ h0 h1).mono ?_
     rintro r w' ⟨rfl,rfl⟩
     rw [HN.out]
     go_wp2_with (at_builtin;refine wpList_app1 rfl (.tmp 49) (.tmp 51) 50 rfl Tryz.underlying50 hi hz0 hz1 hz2 rfl hgk rfl (by rw [HL.out];unfold maxLen;omega) (by rw [HL.out];omega) hsz ?_;intro v1 w1 hg1 hb1)
     go_roundw
     case rel=>exact⟨k+1,by omega,by go_num,by rw [HT.out];exact hg1,HB.out.trans hb1⟩
     case measure=>simp [intOf];omega
    ·have he2:(e==1)=false:=by rw [beq_eq_false_iff_ne];exact he
     clear hc he
     go_wp2_with fail
     refine(RefBytes6_any _ _ _ h0 h1).mono ?_
     rintro r w' ⟨rfl,rfl⟩
     rw [HN.out]
     go_wp2_with (at_builtin;refine wpList_app1 rfl (.tmp 49) (.tmp 51) 50 rfl Tryz.underlying50 hi hz0 hz1 hz2 rfl hgk rfl (by rw [HL.out];unfold maxLen;omega) (by rw [HL.out];omega) hsz ?_;intro v1 w1 hg1 hb1)
     go_roundw
     case rel=>exact⟨k+1,by omega,by go_num,by rw [HT.out];exact hg1,HB.out.trans hb1⟩
     case measure=>simp [intOf];omega
  ·obtain rfl:k=n:=by omega
   go_wp2_with fail
   refine(RefBytes6_any _ _ _ h0 h1).mono ?_
   rintro r w' ⟨rfl,rfl⟩
   rw [HN.out]
   go_wp2
   go_ret
   exact⟨_,rfl,hgk.cast rfl (by rw [List.take_of_length_le (by rw [HLEN.out,HN.out];omega)]),hbk⟩
end
section
inductive Nd where
 | mk (k e n:Int) (d:List Int) (ks:List Nd)
namespace Nd
def k:Nd→Int|.mk k _ _ _ _=>k
def e:Nd→Int|.mk _ e _ _ _=>e
def n:Nd→Int|.mk _ _ n _ _=>n
def d:Nd→List Int|.mk _ _ _ d _=>d
def ks:Nd→List Nd|.mk _ _ _ _ ks=>ks
end Nd
theorem Nd.ind {P:Nd→Prop}(h:∀k e n d ks,(∀x∈ks,P x)→P (.mk k e n d ks)):∀x,P x:=
 Nd.rec (motive_1:=P) (motive_2:=fun l=>∀x∈l,P x) (fun k e n d ks ih=>h k e n d ks ih) (fun x hx=>by cases hx) (fun a l ha hl x hx=>by
  rcases List.mem_cons.1 hx with rfl|hx
  ·exact ha
  ·exact hl x hx)
def nd0:Nd:=.mk 0 0 0 [] []
inductive NdR (w:World):Option Addr→Nat→Option Addr→Nat→Nd→Prop
 | mk (k e n:Int) (d:List Int) (ks:List Nd) (A:Option Addr) (c:Nat) (B:Option Addr) (c2:Nat) (FA:Nat→Option Addr) (Fc:Nat→Nat) (FB:Nat→Option Addr) (Fc2:Nat→Nat)
  (hk:-9223372036854775808≤k∧k≤9223372036854775807) (he:-9223372036854775808≤e∧e≤9223372036854775807) (hn:-9223372036854775808≤n∧n≤9223372036854775807)
  (hd:Ri w .u8 A d) (hb:Bts d) (hdl:d.length≤c) (hc:c≤maxLen) (hA:A=none→c=0) (hkl:ks.length≤c2) (hc2:c2≤maxLen) (hB:B=none→c2=0)
  (hcell:ks=[]∨∃b off,B=some ⟨b,off,none⟩∧∀j x,ks[j]?=some x→w.cell? ⟨b,off+j*5,none⟩=some (.int .i64 x.k)∧w.cell? ⟨b,off+j*5+1,none⟩=some (.int .i64 x.e)∧w.cell? ⟨b,off+j*5+2,none⟩=some (.int .i64 x.n) ∧
   w.cell? ⟨b,off+j*5+3,none⟩=some (.slice (FA j) x.d.length (Fc j))∧w.cell? ⟨b,off+j*5+4,none⟩=some (.slice (FB j) x.ks.length (Fc2 j)))
  (hsub:∀j x,ks[j]?=some x→NdR w (FA j) (Fc j) (FB j) (Fc2 j) x):NdR w A c B c2 (.mk k e n d ks)
theorem NdR.on {w w':World}{A:Option Addr}{c:Nat}{B:Option Addr}{c2:Nat}{x:Nd}(h:NdR w A c B c2 x){N:Nat}(hb:Below N w w')(hN:w.heap.size≤N):NdR w' A c B c2 x:=by
 induction h with
 | mk k e n d ks A c B c2 FA Fc FB Fc2 hk he hn hd hby hdl hc hA hkl hc2 hB hcell hsub ih=>
  refine .mk k e n d ks A c B c2 FA Fc FB Fc2 hk he hn (hd.below hb hN) hby hdl hc hA hkl hc2 hB ?_ ih
  rcases hcell with h|⟨b,off,hBe,hcs⟩
  ·exact .inl h
  ·refine .inr ⟨b,off,hBe,fun j x hj=>?_⟩
   obtain⟨h0,h1,h2,h3,h4⟩:=hcs j x hj
   have hlt:b<w.heap.size:=World.block_lt_of_cell? w ⟨b,off+j*5,none⟩ h0
   have hc:=fun o=>hb.cell (p:=⟨b,o,none⟩) (by show b<N;omega)
   exact⟨(hc _).trans h0,(hc _).trans h1,(hc _).trans h2,(hc _).trans h3,(hc _).trans h4⟩
theorem NdR.open {w:World}{A:Option Addr}{c:Nat}{B:Option Addr}{c2:Nat}{k e n:Int}{d:List Int}{ks:List Nd}(h:NdR w A c B c2 (.mk k e n d ks)):
  (-9223372036854775808≤k∧k≤9223372036854775807)∧(-9223372036854775808≤e∧e≤9223372036854775807)∧(-9223372036854775808≤n∧n≤9223372036854775807) ∧
  Ri w .u8 A d∧Bts d∧d.length≤c∧c≤9223372036854775807∧(A=none→c=0)∧ks.length≤c2∧c2≤9223372036854775807∧(B=none→c2=0):=by
 cases h with
 | mk _ _ _ _ _ _ _ _ _ FA Fc FB Fc2 hk he hn hd hby hdl hc hA hkl hc2 hB hcell hsub=>
  unfold maxLen at hc hc2
  exact⟨hk,he,hn,hd,hby,hdl,by omega,hA,hkl,by omega,hB⟩
theorem NdR.kid {w:World}{A:Option Addr}{c:Nat}{B:Option Addr}{c2:Nat}{k e n:Int}{d:List Int}{ks:List Nd}(h:NdR w A c B c2 (.mk k e n d ks)){j:Nat}(hj:j<ks.length):
  ∃b off A' c' B' c2',B=some ⟨b,off,none⟩∧w.cell? ⟨b,off+j*5,none⟩=some (.int .i64 (ks[j]).k)∧w.cell? ⟨b,off+j*5+1,none⟩=some (.int .i64 (ks[j]).e)∧w.cell? ⟨b,off+j*5+2,none⟩=some (.int .i64 (ks[j]).n) ∧
   w.cell? ⟨b,off+j*5+3,none⟩=some (.slice A' (ks[j]).d.length c')∧w.cell? ⟨b,off+j*5+4,none⟩=some (.slice B' (ks[j]).ks.length c2')∧NdR w A' c' B' c2' (ks[j]):=by
 cases h with
 | mk _ _ _ _ _ _ _ _ _ FA Fc FB Fc2 hk he hn hd hby hdl hc hA hkl hc2 hB hcell hsub=>
  rcases hcell with h|⟨b,off,hBe,hcs⟩
  ·subst h;simp at hj
  ·have hx:ks[j]?=some ks[j]:=List.getElem?_eq_getElem hj
   obtain⟨h0,h1,h2,h3,h4⟩:=hcs j _ hx
   exact⟨b,off,_,_,_,_,hBe,h0,h1,h2,h3,h4,hsub j _ hx⟩
mutual
def sizeN:Nd→Nat
 | .mk _ _ _ d ks=>1+d.length+sizeK ks
def sizeK:List Nd→Nat
 | []=>0
 | x::xs=>sizeN x+sizeK xs
end
theorem sizeK_append (a b:List Nd):sizeK (a++b)=sizeK a+sizeK b:=by
 induction a with
 | nil=>simp [sizeK]
 | cons x xs ih=>simp only [List.cons_append,sizeK,ih];omega
theorem sizeK_take_le (l:List Nd)(j:Nat):sizeK (l.take j)≤sizeK l:=by
 have:=sizeK_append (l.take j) (l.drop j)
 rw [List.take_append_drop] at this
 omega
theorem sizeN_kid {l:List Nd}{x:Nd}(h:x∈l):sizeN x≤sizeK l:=by
 induction l with
 | nil=>cases h
 | cons y ys ih=>
  simp only [sizeK]
  rcases List.mem_cons.1 h with rfl|h
  ·omega
  ·have:=ih h;omega
theorem sizeK_length (l:List Nd):l.length≤sizeK l:=by
 induction l with
 | nil=>simp [sizeK]
 | cons x xs ih=>
  have:1≤sizeN x:=by cases x;simp only [sizeN];omega
  simp only [List.length_cons,sizeK];omega
def KsR (w:World)(B:Option Addr)(ts:List Nd):Prop:=ts=[]∨∃b off,B=some ⟨b,off,none⟩∧∀j (hj:j<ts.length),∃A' c' B' c2',
 w.cell? ⟨b,off+j*5,none⟩=some (.int .i64 (ts[j]).k)∧w.cell? ⟨b,off+j*5+1,none⟩=some (.int .i64 (ts[j]).e)∧w.cell? ⟨b,off+j*5+2,none⟩=some (.int .i64 (ts[j]).n) ∧
   w.cell? ⟨b,off+j*5+3,none⟩=some (.slice A' (ts[j]).d.length c')∧w.cell? ⟨b,off+j*5+4,none⟩=some (.slice B' (ts[j]).ks.length c2')∧NdR w A' c' B' c2' (ts[j])
theorem KsR.on {w w':World}{B:Option Addr}{ts:List Nd}(h:KsR w B ts){N:Nat}(hb:Below N w w')(hN:w.heap.size≤N):KsR w' B ts:=by
 rcases h with h|⟨b,off,hB,h⟩
 ·exact .inl h
 ·refine .inr ⟨b,off,hB,fun j hj=>?_⟩
  obtain⟨A',c',B',c2',h0,h1,h2,h3,h4,h5⟩:=h j hj
  have hlt:b<w.heap.size:=World.block_lt_of_cell? w ⟨b,off+j*5,none⟩ h0
  have hc:=fun o=>hb.cell (p:=⟨b,o,none⟩) (by show b<N;omega)
  exact⟨A',c',B',c2',(hc _).trans h0,(hc _).trans h1,(hc _).trans h2,(hc _).trans h3,(hc _).trans h4,h5.on hb hN⟩
theorem KsR.at {w:World}{B:Option Addr}{ts:List Nd}(h:KsR w B ts){j:Nat}(hj:j<ts.length):
  ∃b off A' c' B' c2',B=some ⟨b,off,none⟩∧w.cell? ⟨b,off+j*5,none⟩=some (.int .i64 (ts[j]).k)∧w.cell? ⟨b,off+j*5+1,none⟩=some (.int .i64 (ts[j]).e)∧w.cell? ⟨b,off+j*5+2,none⟩=some (.int .i64 (ts[j]).n) ∧
   w.cell? ⟨b,off+j*5+3,none⟩=some (.slice A' (ts[j]).d.length c')∧w.cell? ⟨b,off+j*5+4,none⟩=some (.slice B' (ts[j]).ks.length c2')∧NdR w A' c' B' c2' (ts[j]):=by
 rcases h with h|⟨b,off,hB,h⟩
 ·subst h;simp at hj
 ·obtain⟨A',c',B',c2',h⟩:=h j hj
  exact⟨b,off,A',c',B',c2',hB,h⟩
theorem NdR.kids {w:World}{A:Option Addr}{c:Nat}{B:Option Addr}{c2:Nat}{k e n:Int}{d:List Int}{ks:List Nd}(h:NdR w A c B c2 (.mk k e n d ks)):KsR w B ks:=by
 cases ks with
 | nil=>exact .inl rfl
 | cons x xs=>
  have h0:=h.kid (j:=0) (by simp)
  obtain⟨b,off,_,_,_,_,hB,_⟩:=h0
  refine .inr ⟨b,off,hB,fun j hj=>?_⟩
  obtain⟨b',off',A',c',B',c2',hB',r⟩:=h.kid hj
  rw [hB] at hB'
  injection hB' with e
  injection e with e1 e2
  subst e1
  subst e2
  exact⟨A',c',B',c2',r⟩
def kk (ks:List Nd):List Nd:=ks.flatMap Nd.ks
def targN:Nd→List Nd|.mk k e _ _ ks=>if k=2∧e=7 then kk ks else ks
theorem kk_append (a b:List Nd):kk (a++b)=kk a++kk b:=by unfold kk;exact List.flatMap_append
theorem kk_take (l:List Nd)(j:Nat)(h:j<l.length):kk (l.take (j+1))=kk (l.take j)++(l[j]).ks:=by
 rw [List.take_succ_eq_append_getElem h,kk_append]
 simp [kk]
theorem sizeK_ks (x:Nd):sizeK x.ks+1≤sizeN x:=by
 cases x;simp only [Nd.ks,sizeN];omega
theorem sizeK_kk (l:List Nd):sizeK (kk l)≤sizeK l:=by
 induction l with
 | nil=>simp [kk,sizeK]
 | cons x xs ih=>
  have h:kk (x::xs)=x.ks++kk xs:=by simp [kk]
  have:=sizeK_ks x
  rw [h,sizeK_append]
  simp only [sizeK]
  omega
theorem kk_size (l:List Nd):(kk l).length≤sizeK l:=Nat.le_trans (sizeK_length _) (sizeK_kk l)
theorem sizeK_targ (x:Nd):sizeK (targN x)+1≤sizeN x:=by
 obtain⟨k,e,n,d,ks⟩:=x
 unfold targN
 have:=sizeK_kk ks
 simp only [sizeN]
 split<;>omega
def fiveC (x:Nd)(A:Option Addr)(c:Nat)(B:Option Addr)(c2:Nat):List Value:=[.int .i64 x.k,.int .i64 x.e,.int .i64 x.n,.slice A x.d.length c,.slice B x.ks.length c2]
def OwnK (W0 w:World)(base:Nat)(v:Value)(ts:List Nd):Prop:=
 ∃vs,w.ownsRow base 53 5 v ts.length vs∧∀j (hj:j<ts.length),∃A' c' B' c2',NdR W0 A' c' B' c2' (ts[j])∧∀o,o<5→vs[j*5+o]?=(fiveC (ts[j]) A' c' B' c2')[o]?
theorem OwnK.empty (W0 w:World)(base:Nat):OwnK W0 w base (.slice none 0 0) []:=⟨[],World.ownsRow_nil w base _ 5,fun j hj=>by simp at hj⟩
theorem node_info:(Tryz.prog.info? 53).map (fun i=>(i.zero,i.size,i.bytes))=some (some (.agg #[.int .i64 0,.int .i64 0,.int .i64 0,.slice none 0 0,.slice none 0 0]),5,72):=by kernel_rfl
theorem fiveC_one (x:Nd)(A:Option Addr)(c:Nat)(B:Option Addr)(c2:Nat):∀u∈fiveC x A c B c2,u.oneCell'=true:=by
 intro u hu
 unfold fiveC at hu
 simp at hu
 rcases hu with rfl|rfl|rfl|rfl|rfl<;>rfl
theorem KsR.cells {w:World}{b off:Nat}{ts:List Nd}(h:KsR w (some ⟨b,off,none⟩) ts){j o:Nat}(hj:j<ts.length)(ho:o<5):
  ∃A' c' B' c2',NdR w A' c' B' c2' (ts[j])∧∀o,o<5→w.cell? ⟨b,off+(j*5+o),none⟩=(fiveC (ts[j]) A' c' B' c2')[o]?:=by
 obtain⟨b',off',A',c',B',c2',hB,h0,h1,h2,h3,h4,h5⟩:=h.at hj
 injection hB with e
 injection e with e1 e2
 subst e1
 subst e2
 refine⟨A',c',B',c2',h5,fun o ho=>?_⟩
 match o,ho with
 | 0,_=>exact h0
 | 1,_=>exact h1
 | 2,_=>exact h2
 | 3,_=>exact h3
 | 4,_=>exact h4
 | o+5,h=>omega
theorem wpList_appK {ops:Array Oper}{rest:List Oper}{o:Oper}{a:Act}{Q:Exit→Act→World→Prop}{w W0:World}(hgd:o.guard=none)(s x:Operand)(t:TypeId)
  (ho:o.op=.call { callee:=.builtin .append,args:=#[s,x],argTypes:=#[t,t] }) (ht:Tryz.prog.underlying t=some (.slice 53))
  {base:Nat} {v:Value} {ts ys:List Nd} {B':Option Addr} {c':Nat} (hs:a.eval s=v) (hown:OwnK W0 w base v ts) (hx:a.eval x=.slice B' ys.length c') (hk:KsR W0 B' ys) (hnil:B'=none→c'=0) (hle:ys.length≤c')
  {N0:Nat} (hW:W0.heap.size≤N0) (hbW:Below N0 W0 w) (hn:ts.length+ys.length≤1099511627776) (hbase:base≤w.heap.size)
  (h:∀v' w',OwnK W0 w' base v' (ts++ys)→Below base w w'→wpList Tryz.prog ops Q rest (a.put o.dst v') w'):wpList Tryz.prog ops Q (o::rest) a w:=by
 obtain⟨i,hi,hz0,hz1,hz2⟩:=info_parts node_info
 obtain⟨vs,h1,h2⟩:=hown
 have hlv:vs.length=ts.length*5:=h1.1
 cases B' with
 | none=>
  have hc:=hnil rfl
  subst hc
  obtain rfl:ys=[]:=List.eq_nil_of_length_eq_zero (by omega)
  refine wpList_append_own_none hgd s x t ho base _ i 5 ht hi v ts.length vs hs h1 hx ?_
  exact h v w (by rw [List.append_nil];exact⟨vs,h1,h2⟩) (Below.refl _ _)
 | some ad=>
  have hnews:∃news:List Value,news.length=ys.length*5∧(∀q u,news[q]?=some u→w.cell? (ad.add q)=some u)∧(∀u∈news,u.oneCell'=true) ∧
    ∀j (hj:j<ys.length),∃A' c' B' c2',NdR W0 A' c' B' c2' (ys[j])∧∀o,o<5→news[j*5+o]?=(fiveC (ys[j]) A' c' B' c2')[o]?:=by
   rcases hk with hk0|hk0
   ·subst hk0
    exact⟨[],rfl,fun q u hq=>by simp at hq,fun u hu=>by simp at hu,fun j hj=>by simp at hj⟩
   ·obtain⟨b,off,hB,hk1⟩:=hk0
    injection hB with hB
    subst hB
    have hk2:KsR W0 (some ⟨b,off,none⟩) ys:=.inr ⟨b,off,rfl,hk1⟩
    have hcell:∀j (hj:j<ys.length),∃A' c' B' c2',NdR W0 A' c' B' c2' (ys[j])∧∀o,o<5→w.cell? ⟨b,off+(j*5+o),none⟩=(fiveC (ys[j]) A' c' B' c2')[o]?:=by
     intro j hj
     obtain⟨A',c',B',c2',g1,g2⟩:=hk2.cells (o:=0) hj (by omega)
     refine⟨A',c',B',c2',g1,fun o ho=>?_⟩
     have hsome:W0.cell? ⟨b,off+(j*5+0),none⟩=some (.int .i64 (ys[j]).k):=g2 0 (by omega)
     have hlt:b<W0.heap.size:=World.block_lt_of_cell? W0 ⟨b,off+(j*5+0),none⟩ hsome
     exact(hbW.cell (p:=⟨b,off+(j*5+o),none⟩) (by show b<N0;omega)).trans (g2 o ho)
    have hget:∀q,q<ys.length*5→∃u,w.cell? ⟨b,off+q,none⟩=some u∧u.oneCell'=true:=by
     intro q hq
     obtain⟨A',c',B',c2',_,g2⟩:=hcell (q / 5) (by omega)
     have e:q / 5*5+q % 5=q:=by omega
     have g3:=g2 (q % 5) (by omega)
     rw [e] at g3
     have hl5:q % 5<(fiveC (ys[q / 5]) A' c' B' c2').length:=by unfold fiveC;simp;omega
     rw [List.getElem?_eq_getElem hl5] at g3
     exact⟨_,g3,fiveC_one _ _ _ _ _ _ (List.getElem_mem hl5)⟩
    refine⟨(List.range (ys.length*5)).map (fun q=>(w.cell? ⟨b,off+q,none⟩).getD undef),by simp,?_,?_,?_⟩
    ·intro q u hq
     have hql:q<ys.length*5:=by
      rcases Nat.lt_or_ge q (ys.length*5) with h1|h1
      ·exact h1
      ·rw [List.getElem?_eq_none (by simpa using h1)] at hq;cases hq
     obtain⟨u',hu',_⟩:=hget q hql
     rw [add_plain,hu']
     simp [hql,hu'] at hq
     rw [hq]
    ·intro u hu
     obtain⟨q,hq,rfl⟩:=List.mem_map.1 hu
     obtain⟨u',hu',hone⟩:=hget q (List.mem_range.1 hq)
     rw [hu']
     exact hone
    ·intro j hj
     obtain⟨A',c',B',c2',g1,g2⟩:=hcell j hj
     refine⟨A',c',B',c2',g1,fun o ho=>?_⟩
     have hql:j*5+o<ys.length*5:=by omega
     rw [←g2 o ho,List.getElem?_map,List.getElem?_range hql]
     obtain⟨u',hu',_⟩:=hget (j*5+o) hql
     simp [hu']
  obtain⟨news,n1,n2,n3,n4⟩:=hnews
  refine wpList_append_own _ hgd s x t ho base _ i _ 5 72 ht hi hz0 hz1 hz2 rfl (by decide) v ts.length vs hs h1 ad ys.length c' news hx n1 n2 n3 (by unfold maxLen;omega) (by omega) hbase ?_
  intro v' w' k1 k2 _
  have hb:Below base w w':=(Below.refl base w).grown k2 hbase (fun g hg=>(h1.lt g hg).1)
  refine h v' w' ⟨vs++news,by rw [List.length_append];exact k1,fun j hj=>?_⟩ hb
  by_cases hjl:j<ts.length
  ·obtain⟨A',c',B',c2',g1,g2⟩:=h2 j hjl
   have e:(ts++ys)[j]=ts[j]:=List.getElem_append_left hjl
   rw [e]
   exact⟨A',c',B',c2',g1,fun o ho=>by rw [List.getElem?_append_left (by omega)];exact g2 o ho⟩
  ·rw [List.length_append] at hj
   obtain⟨A',c',B',c2',g1,g2⟩:=n4 (j-ts.length) (by omega)
   have e:(ts++ys)[j]=ys[j-ts.length]:=List.getElem_append_right (by omega)
   rw [e]
   refine⟨A',c',B',c2',g1,fun o ho=>?_⟩
   rw [List.getElem?_append_right (by omega),←g2 o ho,hlv]
   congr 1
   omega
theorem OwnK.slice {W0 w:World}{base N0:Nat}{v:Value}{ts:List Nd}(h:OwnK W0 w base v ts)(hW:W0.heap.size≤N0)(hb:Below N0 W0 w):∃B c,v=.slice B ts.length c∧KsR w B ts∧ts.length≤c∧c≤9223372036854775807∧(B=none→c=0):=by
 obtain⟨vs,h1,h2⟩:=h
 have h1':=h1
 rcases h1.2 with ⟨rfl,hn⟩|⟨g,cap,cur,rfl,hg,hh,hc,hm,hcs,htk⟩
 ·obtain rfl:ts=[]:=List.eq_nil_of_length_eq_zero hn
  exact⟨none,0,rfl,.inl rfl,by simp,by omega,fun _=>rfl⟩
 ·refine⟨some ⟨g,0,none⟩,cap,rfl,.inr ⟨g,0,rfl,fun j hj=>?_⟩,hc,by unfold maxLen at hm;omega,fun h=>by cases h⟩
  obtain⟨A',c',B',c2',g1,g2⟩:=h2 j hj
  have hcell:=fun o (ho:o<5)=>(World.ownsRow.cellAt (g:=g) (cap:=cap) h1' (j*5+o) (by omega)).trans (g2 o ho)
  refine⟨A',c',B',c2',?_,?_,?_,?_,?_,g1.on hb hW⟩
  ·have:=hcell 0 (by omega);rw [Nat.zero_add];exact this
  ·have:=hcell 1 (by omega);rw [Nat.zero_add];exact this
  ·have:=hcell 2 (by omega);rw [Nat.zero_add];exact this
  ·have:=hcell 3 (by omega);rw [Nat.zero_add];exact this
  ·have:=hcell 4 (by omega);rw [Nat.zero_add];exact this
theorem NdR.kidsX {w:World}{A:Option Addr}{c:Nat}{B:Option Addr}{c2:Nat}{x:Nd}(h:NdR w A c B c2 x):KsR w B x.ks∧(B=none→c2=0)∧x.ks.length≤c2:=by
 obtain⟨k,e,n,d,ks⟩:=x
 obtain⟨_,_,_,_,_,_,_,_,h9,_,h11⟩:=h.open
 exact⟨h.kids,h11,h9⟩
theorem KsR.atIn {w w':World}{B:Option Addr}{ts:List Nd}(h:KsR w B ts){N:Nat}(hb:Below N w w')(hN:w.heap.size≤N){j:Nat}(hj:j<ts.length):
  ∃b off A' c' B' c2',B=some ⟨b,off,none⟩∧w'.cell? ⟨b,off+j*5,none⟩=some (.int .i64 (ts[j]).k)∧w'.cell? ⟨b,off+j*5+1,none⟩=some (.int .i64 (ts[j]).e)∧w'.cell? ⟨b,off+j*5+2,none⟩=some (.int .i64 (ts[j]).n) ∧
   w'.cell? ⟨b,off+j*5+3,none⟩=some (.slice A' (ts[j]).d.length c')∧w'.cell? ⟨b,off+j*5+4,none⟩=some (.slice B' (ts[j]).ks.length c2')∧NdR w A' c' B' c2' (ts[j]):=by
 obtain⟨b,off,A',c',B',c2',hB,h0,h1,h2,h3,h4,h5⟩:=h.at hj
 have hlt:b<w.heap.size:=World.block_lt_of_cell? w ⟨b,off+j*5,none⟩ h0
 have hc:=fun o=>hb.cell (p:=⟨b,o,none⟩) (by show b<N;omega)
 exact⟨b,off,A',c',B',c2',hB,(hc _).trans h0,(hc _).trans h1,(hc _).trans h2,(hc _).trans h3,(hc _).trans h4,h5⟩
mutual
def depthN:Nd→Nat
 | .mk k e _ _ ks=>if k=0 then 0 else 1+if k=2∧e=7 then depthG ks else depthK ks
def depthK:List Nd→Nat
 | []=>0
 | x::xs=>max (depthN x) (depthK xs)
def depthG:List Nd→Nat
 | []=>0
 | .mk _ _ _ _ ks::xs=>max (depthK ks) (depthG xs)
end
theorem depthK_append (a b:List Nd):depthK (a++b)=max (depthK a) (depthK b):=by
 induction a with
 | nil=>simp [depthK]
 | cons x xs ih=>simp only [List.cons_append,depthK,ih];omega
theorem depthG_kk (l:List Nd):depthG l=depthK (kk l):=by
 induction l with
 | nil=>simp [depthG,kk,depthK]
 | cons x xs ih=>
  obtain⟨k,e,n,d,ks⟩:=x
  have h:kk (.mk k e n d ks::xs)=ks++kk xs:=by simp [kk,Nd.ks]
  rw [h,depthK_append]
  simp only [depthG,ih]
theorem depthN_eq (x:Nd):depthN x=if x.k=0 then 0 else 1+depthK (targN x):=by
 obtain⟨k,e,n,d,ks⟩:=x
 simp only [depthN,Nd.k,targN]
 by_cases h:k=2∧e=7
 ·rw [if_pos h,if_pos h,depthG_kk]
  by_cases h0:k=0<;>simp [h0]
 ·rw [if_neg h,if_neg h]
  by_cases h0:k=0<;>simp [h0]
theorem targ_lt {x t:Nd}(h:t∈targN x):sizeN t<sizeN x:=by
 have h1:=sizeN_kid h
 have h2:=sizeK_targ x
 omega
theorem size_ind {P:Nd→Prop}(h:∀x,(∀y,sizeN y<sizeN x→P y)→P x):∀x,P x:=by
 intro x
 generalize hn:sizeN x=n
 induction n using Nat.strongRecOn generalizing x with
 | _ n ih=>exact h x fun y hy=>ih (sizeN y) (by omega) y rfl
open Classical in
noncomputable def eqN (x y:Nd):Bool:=decide (x=y)
theorem eqN_yes {x y:Nd}(h:x=y):eqN x y=true:=by unfold eqN;simp [h]
theorem eqN_no {x y:Nd}(h:x≠y):eqN x y=false:=by unfold eqN;simp [h]
theorem eqN_iff {x y:Nd}:eqN x y=true↔x=y:=by unfold eqN;simp
theorem KsR.blk {w:World}{b off:Nat}{ts:List Nd}(h:KsR w (some ⟨b,off,none⟩) ts){j:Nat}(hj:j<ts.length):b<w.heap.size:=by
 obtain⟨b',off',A',c',B',c2',hB,h0,_⟩:=h.at hj
 injection hB with e
 injection e with e1 e2
 subst e1
 exact World.block_lt_of_cell? w ⟨b,off'+j*5,none⟩ h0
theorem take_eq_succ {l m:List Nd}{j:Nat}(h1:j<l.length)(h2:j<m.length)(h:l.take j=m.take j)(he:l[j]=m[j]):l.take (j+1)=m.take (j+1):=by
 rw [List.take_succ_eq_append_getElem h1,List.take_succ_eq_append_getElem h2,h,he]
def headB (k e n:Int)(d:List Int)(ks:List Nd):Bool:=
 if k=0 then decide (e=0∧n=0∧d.length=0∧ks.length=0)
 else if k=1 then decide (e=0∧n=0∧d.length % 8=0∧d.length≤524280∧ks.length≤65535)
 else if k=2 then decide (0≤n∧n≤536870911∧0≤e∧e≤7∧(6≤e→d.length=0∧(ks.length:Int)=n)∧(e<6→ks.length=0∧(d.length:Int)=bytesI e n∧trimL d e n=d))
 else false
mutual
def validN:Nd→Bool
 | .mk k e n d ks=>validK k e ks&&headB k e n d ks
def validK (k e:Int):List Nd→Bool
 | []=>true
 | x::xs=>validN x&&!(decide (k=2∧e=7∧x.k≠1))&&validK k e xs
end
theorem validK_append (k e:Int)(a b:List Nd):validK k e (a++b)=(validK k e a&&validK k e b):=by
 induction a with
 | nil=>simp [validK]
 | cons x xs ih=>simp only [List.cons_append,validK,ih,Bool.and_assoc]
theorem validK_take (k e:Int)(l:List Nd)(j:Nat)(h:j<l.length):validK k e (l.take (j+1))=(validK k e (l.take j)&&(validN l[j]&&!(decide (k=2∧e=7∧(l[j]).k≠1)))):=by
 rw [List.take_succ_eq_append_getElem h,validK_append]
 simp [validK]
theorem validK_no (k e:Int)(l:List Nd)(j:Nat)(h:j<l.length)(hb:(validN l[j]&&!(decide (k=2∧e=7∧(l[j]).k≠1)))=false):validK k e l=false:=by
 have h1:=validK_take k e l j h
 have h2:=validK_append k e (l.take (j+1)) (l.drop (j+1))
 rw [List.take_append_drop,h1,hb] at h2
 simpa using h2
end
section
theorem elemZ_bits (k:Nat)(h:k≤7):elemZ.getD k 0=bitsI k:=by
 rcases(by omega:k=0∨k=1∨k=2∨k=3∨k=4∨k=5∨k=6∨k=7) with h|h|h|h|h|h|h|h<;>subst h<;>rfl
theorem LBits_any (e:Int)(w:World)(hT:TabOK w)(h0:0≤e)(h7:e≤7):Calls Tryz.prog 49 #[.int .i64 e] w fun r w'=>r=.returned (.int .i64 (bitsI e))∧w=w':=by
 obtain⟨k,rfl⟩:=Int.eq_ofNat_of_zero_le h0
 have hk:k≤7:=by omega
 have hc:=hT k (by omega)
 rw [elemZ_bits k hk] at hc
 have HT:=Lib.hid hT
 generalize bitsI k=x at *
 clear hT
 go_enter Tryz.func49,Tryz.ntmps49
 go_wp2
 go_ret
 exact⟨rfl,rfl⟩
theorem totalBits_any (e c:Int)(w:World)(hT:TabOK w)(h0:0≤e)(h7:e≤7)(hc:0≤c)(h1:c≤536870911):Calls Tryz.prog 99 #[.int .i64 e,.int .i64 c] w fun r w'=>r=.returned (.int .i64 (bitsI e*c))∧w=w':=by
 have HB:=Lib.hid (LBits_any e w hT h0 h7)
 obtain⟨m0,m1⟩:=bitsI_mul e c hc
 clear hT
 generalize bitsI e=x at *
 go_enter Tryz.func99,Tryz.ntmps99
 go_wp2_with fail
 refine HB.out.mono ?_
 rintro e w' ⟨rfl,rfl⟩
 go_wp2
 go_ret
 exact⟨rfl,rfl⟩
theorem units_any (e c s:Int)(w:World)(hT:TabOK w)(h0:0≤e)(h7:e≤7)(hc:0≤c)(h1:c≤536870911)(hs:s=8∨s=64):Calls Tryz.prog 74 #[.int .i64 e,.int .i64 c,.int .i64 s] w fun r w'=>r=.returned (.int .i64 ((bitsI e*c+s-1) / s))∧w=w':=by
 have HB:=Lib.hid (totalBits_any e c w hT h0 h7 hc h1)
 obtain⟨m0,m1⟩:=bitsI_mul e c hc
 clear hT
 generalize bitsI e*c=x at *
 rcases hs with rfl|rfl
 all_goals
  go_enter Tryz.func74,Tryz.ntmps74
  go_wp2_with fail
  refine HB.out.mono ?_
  rintro e w' ⟨rfl,rfl⟩
  go_wp2
  go_ret
  exact⟨rfl,rfl⟩
theorem LWords_any (e c:Int)(w:World)(hT:TabOK w)(h0:0≤e)(h7:e≤7)(hc:0≤c)(h1:c≤536870911):Calls Tryz.prog 50 #[.int .i64 e,.int .i64 c] w fun r w'=>r=.returned (.int .i64 (wordsI e c))∧w=w':=by
 by_cases he:e=7
 ·subst he
  have HW:Hid (wordsI 7 c=1+c):=Lib.hid (by unfold wordsI;rw [if_pos rfl];omega)
  clear hT
  go_enter Tryz.func50,Tryz.ntmps50
  go_wp2
  go_ret
  exact⟨by rw [HW.out];rfl,rfl⟩
 ·have HW:Hid (wordsI e c=(bitsI e*c+64-1) / 64):=Lib.hid (by unfold wordsI;rw [if_neg he];omega)
  have HB:=Lib.hid (units_any e c 64 w hT h0 h7 hc h1 (.inr rfl))
  have he2:(e==7)=false:=beq_eq_false_iff_ne.2 he
  clear hT he
  rw [←HW.out] at HB
  generalize wordsI e c=x at *
  go_enter Tryz.func50,Tryz.ntmps50
  go_wp2_with fail
  refine HB.out.mono ?_
  rintro e w' ⟨rfl,rfl⟩
  go_wp2
  go_ret
  exact⟨rfl,rfl⟩
attribute [local irreducible] p2
end
end Go.Proofs.YtfaflahfjgnphaaGreatDoor
