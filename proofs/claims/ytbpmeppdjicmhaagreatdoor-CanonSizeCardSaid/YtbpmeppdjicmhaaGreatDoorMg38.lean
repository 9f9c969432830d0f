/- The texts CanA (what is wanted of them), one after the other. -/
import Derived.Test.YtbpmeppdjicmhaaGreatDoorMg31
namespace Go.Proofs.YtbpmeppdjicmhaaGreatDoor
open Go.ChangeShapes Go.WideShapes Go.ChangeAt Go.RowKit
set_option linter.unusedVariables false
set_option linter.unusedSimpArgs false
set_option maxRecDepth 100000
theorem isComp_yes (k e n:Int)(A:Option Addr)(dl c:Nat)(B:Option Addr)(kl c2:Nat)(w:World)(h:k=2∧e=7):Calls Tryz.prog 80 #[.agg #[.int .i64 k,.int .i64 e,.int .i64 n,.slice A dl c,.slice B kl c2]] w fun r w'=>r=.returned (.bool true)∧Below w.heap.size w w':=by
 have HB:=Lib.hid (fun o=>(Below.refl w.heap.size w).alloc (Nat.le_refl _) o)
 obtain⟨h1,h2⟩:=h
 have t1:(k==2)=true:=by simpa using h1
 have t2:(e==7)=true:=by simpa using h2
 clear h1 h2
 go_enter Tryz.func80,Tryz.ntmps80
 go_wp2
 go_ret
 exact⟨rfl,HB.out _⟩
theorem isComp_no (k e n:Int)(A:Option Addr)(dl c:Nat)(B:Option Addr)(kl c2:Nat)(w:World)(h:¬(k=2∧e=7)):Calls Tryz.prog 80 #[.agg #[.int .i64 k,.int .i64 e,.int .i64 n,.slice A dl c,.slice B kl c2]] w fun r w'=>r=.returned (.bool false)∧Below w.heap.size w w':=by
 have HB:=Lib.hid (fun o=>(Below.refl w.heap.size w).alloc (Nat.le_refl _) o)
 by_cases h1:k=2
 ·have h2:¬e=7:=fun h2=>h ⟨h1,h2⟩
  have t1:(k==2)=true:=by simpa using h1
  have t2:(e==7)=false:=by simpa using h2
  clear h1 h2 h
  go_enter Tryz.func80,Tryz.ntmps80
  go_wp2
  go_ret
  exact⟨rfl,HB.out _⟩
 ·have t1:(k==2)=false:=by simpa using h1
  clear h1 h
  go_enter Tryz.func80,Tryz.ntmps80
  go_wp2
  go_ret
  exact⟨rfl,HB.out _⟩
theorem LWords7_any (c:Int)(w:World)(hc:0≤c)(h1:c≤1152921504606846976):Calls Tryz.prog 101 #[.int .i64 7,.int .i64 c] w fun r w'=>r=.returned (.int .i64 (1+c))∧w=w':=by
 go_enter Tryz.func101,Tryz.ntmps101
 go_wp2
 go_ret
 exact⟨rfl,rfl⟩
set_option maxRecDepth 100000 in
theorem CObject_c (x:Nd)(A:Option Addr)(c:Nat)(B:Option Addr)(c2:Nat)(w:World)(hT:TabOK w)(hx:NdR w A c B c2 x)(hs:sizeN x≤1099511627776)(hv:validN x=true):
  Calls Tryz.prog 79 #[.agg #[.int .i64 x.k,.int .i64 x.e,.int .i64 x.n,.slice A x.d.length c,.slice B x.ks.length c2]] w fun r w'=>r=.returned (.int .i64 (canO x))∧Below w.heap.size w w':=by
 obtain⟨k,e,n,d,ks⟩:=x
 have HR:Hid (canO (.mk k e n d ks)=canOf k e n d ks):=Lib.hid rfl
 have hsz:sizeN (.mk k e n d ks)=1+d.length+sizeK ks:=by simp [sizeN]
 have hkl:=sizeK_length ks
 have HX:=Lib.hid hx
 have HS:=Lib.hid hs
 have HV:=Lib.hid hv
 have HT:=Lib.hid hT
 have hh:=valid_head hv
 simp only [Nd.k,Nd.e,Nd.n,Nd.d,Nd.ks]
 clear hT
 by_cases h1:k=1
 ·have HC:Hid (canOf k e n d ks=((d.length / 8+ks.length:Nat):Int)):=Lib.hid (by unfold canOf;rw [if_neg (by omega),if_pos h1])
  have t1:(k==1)=true:=by simpa using h1
  have hq:((d.length:Int)).tdiv 8=((d.length / 8:Nat):Int):=by rw [Int.tdiv_eq_ediv_of_nonneg (by omega)];omega
  clear h1 hh hx hv
  go_enter Tryz.func79,Tryz.ntmps79
  go_wp2
  go_ret
  exact⟨by rw [HR.out,HC.out];simp;try omega,(Below.refl _ _).alloc (Nat.le_refl _) _⟩
 have t1:(k==1)=false:=by simpa using h1
 have HB0:Hid (Below w.heap.size w (w.alloc (.cells #[.int .i64 k,.int .i64 e,.int .i64 n,.slice A d.length c,.slice B ks.length c2] 39))):=Lib.hid ((Below.refl _ _).alloc (Nat.le_refl _) _)
 have HF0:=Lib.hid (Blk.fresh w #[.int .i64 k,.int .i64 e,.int .i64 n,.slice A d.length c,.slice B ks.length c2] 39)
 by_cases h7:k=2∧e=7
 ·obtain⟨u,hu⟩:∃u,uniD ks ks.length=u:=⟨_,rfl⟩
  obtain⟨v,hv2⟩:∃v,uniP ks ks.length=v:=⟨_,rfl⟩
  have HC:Hid (canOf k e n d ks=1+n*((u:Int)+v)):=Lib.hid (by unfold canOf;rw [if_neg (by omega),if_neg h1,if_pos h7.2,hu,hv2];simp)
  have hub:=(by obtain⟨rfl,rfl⟩:=h7;exact uni_bd hv:uniD ks ks.length≤65535∧uniP ks ks.length≤65535)
  rw [hu,hv2] at hub
  obtain⟨hn0,hn1⟩:0≤n∧n≤536870911:=by rcases hh with h|h|h<;>omega
  have m0:0≤n*((u:Int)+v):=Int.mul_nonneg hn0 (by omega)
  have m1:n*((u:Int)+v)≤536870911*131070:=Int.mul_le_mul (by omega) (by omega) (by omega) (by omega)
  have HU:=Lib.hid (fun w2 (h2:NdR w2 A c B c2 (.mk k e n d ks)) hT2=>TUniform_any (.mk k e n d ks) A c B c2 w2 hT2 h2 HS.out HV.out h7.1 h7.2)
  simp only [Nd.k,Nd.e,Nd.n,Nd.d,Nd.ks] at HU
  rw [hu,hv2] at HU
  have HI:=Lib.hid (fun w2=>isComp_yes k e n A d.length c B ks.length c2 w2 h7)
  obtain rfl:e=7:=h7.2
  clear h1 h7 hh hx hu hv2 hv hs HV
  go_enter Tryz.func79,Tryz.ntmps79
  go_wp2_with fail
  refine(HI.out _).mono ?_
  rintro r w1 ⟨rfl,hb1⟩
  have HF1:=Lib.hid (HF0.out.below hb1)
  have HB1:=Lib.hid (bel_on HB0.out hb1)
  clear hb1 HF0 HB0 HI
  obtain⟨x1,y1,z1⟩:=HF1.out
  go_wp2_with fail
  refine(HU.out _ (HX.out.on HB1.out (Nat.le_refl _)) (HT.out.on HB1.out)).mono ?_
  rintro r w2 ⟨rfl,hb2⟩
  have HF2:=Lib.hid (HF1.out.below hb2)
  have HB2:=Lib.hid (bel_on HB1.out hb2)
  clear hb2 HF1 HB1 HU x1 y1 z1
  obtain⟨x2,y2,z2⟩:=HF2.out
  go_wp2_with fail
  refine(LWords7_any _ _ m0 (by omega)).mono ?_
  rintro r w3 ⟨rfl,rfl⟩
  go_wp2
  go_ret
  exact⟨by rw [HR.out,HC.out];rfl,HB2.out⟩
 have HI:=Lib.hid (fun w2=>isComp_no k e n A d.length c B ks.length c2 w2 h7)
 by_cases h2:k=2
 ·have HC:Hid (canOf k e n d ks=wordsI e n):=Lib.hid (by unfold canOf;rw [if_neg (by omega),if_neg h1,if_neg (fun h=>h7 ⟨h2,h⟩)])
  obtain⟨hn0,hn1,he0,he7⟩:0≤n∧n≤536870911∧0≤e∧e≤7:=by rcases hh with h|h|h<;>omega
  have t2:(k==2)=true:=by simpa using h2
  clear h1 h7 h2 hh hx hv HV
  go_enter Tryz.func79,Tryz.ntmps79
  go_wp2_with fail
  refine(HI.out _).mono ?_
  rintro r w1 ⟨rfl,hb1⟩
  have HF1:=Lib.hid (HF0.out.below hb1)
  have HB1:=Lib.hid (bel_on HB0.out hb1)
  clear hb1 HF0 HB0 HI
  obtain⟨x1,y1,z1⟩:=HF1.out
  go_wp2_with fail
  refine(LWords_any e n _ (HT.out.on HB1.out) he0 he7 hn0 hn1).mono ?_
  rintro r w2 ⟨rfl,rfl⟩
  go_wp2
  go_ret
  exact⟨by rw [HR.out,HC.out];rfl,HB1.out⟩
 ·have HC:Hid (canOf k e n d ks=0):=Lib.hid (by unfold canOf;rw [if_pos (by rcases hh with h|h|h<;>omega)])
  have t2:(k==2)=false:=by simpa using h2
  clear h1 h7 h2 hh hx hv HV
  go_enter Tryz.func79,Tryz.ntmps79
  go_wp2_with fail
  refine(HI.out _).mono ?_
  rintro r w1 ⟨rfl,hb1⟩
  have HF1:=Lib.hid (HF0.out.below hb1)
  have HB1:=Lib.hid (bel_on HB0.out hb1)
  clear hb1 HF0 HB0 HI
  obtain⟨x1,y1,z1⟩:=HF1.out
  go_wp2
  go_ret
  exact⟨by rw [HR.out,HC.out];rfl,HB1.out⟩
end Go.Proofs.YtbpmeppdjicmhaaGreatDoor
