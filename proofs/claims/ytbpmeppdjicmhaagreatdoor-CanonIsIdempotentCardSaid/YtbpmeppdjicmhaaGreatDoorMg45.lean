/- The texts Cnv, CwP (what is wanted of them), one after the other. -/
import Derived.Test.YtbpmeppdjicmhaaGreatDoorMg37
import Derived.Test.YtbpmeppdjicmhaaGreatDoorMg43
import Derived.Test.YtbpmeppdjicmhaaGreatDoorMg44
namespace Go.Proofs.YtbpmeppdjicmhaaGreatDoor
open Go.ChangeShapes Go.WideShapes Go.ChangeAt Go.RowKit
set_option linter.unusedVariables false
set_option linter.unusedSimpArgs false
set_option maxRecDepth 100000
section
theorem GotS.lit1 {w:World}{base:Nat}{v:Value}{l:List Int}(h:Got w base 48 .u64 v l)(hb:base≤w.heap.size):GotS (w.alloc (.cells #[v] 27)) base (.slice (some ⟨w.heap.size,0,none⟩) 1 1) [l]:=by
 refine⟨[v],⟨rfl,.inr ⟨w.heap.size,1,#[v],rfl,hb,heap_alloc_new _ _,Nat.le_refl _,by unfold maxLen;omega,rfl,rfl⟩⟩,fun j hj=>?_⟩
 have:j=0:=by simpa using hj
 subst this
 exact⟨v,rfl,h.below ((Below.refl _ _).alloc (Nat.le_refl _) _) (Nat.le_refl _)⟩
attribute [local irreducible] msgV measV writeF
theorem segments_any (x:Nd)(A:Option Addr)(c:Nat)(B:Option Addr)(c2:Nat)(w:World)(hT:TabOK w)(hx:NdR w A c B c2 x)(hs:sizeN x≤1048576)(hv:validN x=true)(ht:trimmedN x=true)(hc:canN x≤268435455):
  Calls Tryz.prog 25 #[.agg #[.int .i64 x.k,.int .i64 x.e,.int .i64 x.n,.slice A x.d.length c,.slice B x.ks.length c2]] w fun r w'=>∃v,r=.returned v∧GotS w' w.heap.size v [writeF x]∧Below w.heap.size w w':=by
 have HB0:Hid (∀o,Below w.heap.size w (w.alloc o)):=Lib.hid (fun o=>(Below.refl _ _).alloc (Nat.le_refl _) o)
 have HW:=Lib.hid (fun o=>CWrite_any x A c B c2 (w.alloc o) (hT.alloc o) (hx.on ((Below.refl _ _).alloc (Nat.le_refl _) o) (Nat.le_refl _)) hs hv ht hc)
 clear hT hx hs hv ht hc
 go_enter Tryz.func25,Tryz.ntmps25
 go_wp2_with fail
 refine(HW.out _).mono ?_
 rintro r w2 ⟨v,rfl,hg,hb⟩
 obtain⟨A9,c9,hv9,-⟩:=hg.slice
 subst hv9
 have hz:w.heap.size≤w2.heap.size:=Nat.le_trans (by simp) hb.size
 have HG:=Lib.hid (GotS.lit1 (hg.mono (base':=w.heap.size) (by simp)) hz)
 have HB:=Lib.hid ((bel_on (HB0.out _) hb).alloc hz (.cells #[.slice A9 (writeF x).length c9] 27))
 clear hg hb HW HB0 hz
 go_wp2
 go_ret
 exact⟨_,rfl,HG.out,HB.out⟩
set_option maxHeartbeats 4000000 in
theorem convertW_any (A:Option Addr)(c:Nat)(ls:List (List Int))(D X O:Int)(w:World)(hT:TabOK w)(hs:Sg w A ls)(hw:Wd2 ls)(hm:ls.length≤40)(hf:∀j,(seg ls j).length≤20000000)(hD:D≤900)(hX:X≤100000):
  Calls Tryz.prog 21 #[.slice A ls.length c,.agg #[.int .i64 D,.int .i64 X,.int .i64 O],.func (.func 22) #[] #[]] w fun r w'=>∃v,r=.returned (.tuple #[v,.int .i64 (msgV ls D X).2])∧Got w' w.heap.size 48 .u64 v (if (msgV ls D X).2=0 then writeF (msgV ls D X).1 else [])∧Below w.heap.size w w':=by
 have HT:=Lib.hid hT
 have Hs:=Lib.hid hs
 have hsz:=canon_size hw hm hf D X hX
 have HFA:=Lib.hid (fun h=>canon_facts hw hm hf D X (by omega) h)
 obtain⟨⟨x,e⟩,hq⟩:∃q,msgV ls D X=q:=⟨_,rfl⟩
 have HM:=Lib.hid (fun w2 hT2 hs2=>DMessage_is A c ls.length ls D X O x e w2 hT2 rfl hs2 hw hm hf hD (by omega) hq)
 rw [hq] at HFA hsz
 rw [hq]
 simp only at HFA hsz ⊢
 have HB0:=Lib.hid ((Below.refl w.heap.size w).alloc (Nat.le_refl _) (.cells #[.int .i64 D,.int .i64 X,.int .i64 O] 24))
 have hXm:X≤268435455:=by omega
 have hXs:startI X≤100000:=by unfold startI;split<;>omega
 have tX:decide (X≤268435455)=true:=decide_eq_true hXm
 have tX2:decide (X<268435455)=true:=decide_eq_true (by omega)
 have hX2:X<268435455:=by omega
 clear hs hw hm hf hq hT hX
 by_cases he:e=0
 ·have hfa:=HFA.out he
  have HV:=Lib.hid hfa.1
  have HTR:=Lib.hid hfa.2.1
  have HC:Hid (canN x≤268435455):=Lib.hid (by omega)
  have HSX:=Lib.hid hsz
  subst he
  rw [if_pos rfl]
  clear HFA hfa hsz hXs
  go_enter Tryz.func21,Tryz.ntmps21
  go_wp2_with fail
  refine abs_world (F:=fun W=>Sg W A ls∧TabOK W∧Below w.heap.size w W) ⟨?_,?_,?_⟩ ?_
  ·exact Hs.out.below HB0.out (Nat.le_refl _)
  ·exact HT.out.on HB0.out
  ·exact HB0.out
  rintro W1 ⟨h1,h2,h3⟩
  clear HB0 hXm tX tX2 hX2 Hs
  have HB1:=Lib.hid h3
  refine(HM.out W1 h2 h1).mono ?_
  rintro r w3 ⟨v,rfl,⟨A1,c1,E1,e1,hi1,rfl,-,hno⟩,hb⟩
  have HN:=Lib.hid hno.nd
  have HB:=Lib.hid (bel_on HB1.out hb)
  clear hno hb h1 h2 h3 HM HB1
  go_wp2_with fail
  refine(CWrite_any x A1 c1 E1 e1 _ ((HT.out.on HB.out).alloc _) (HN.out.on ((Below.refl _ _).alloc (Nat.le_refl _) _) (Nat.le_refl _)) HSX.out HV.out HTR.out HC.out).mono ?_
  rintro r w4 ⟨v4,rfl,hh,hb4⟩
  have HH:=Lib.hid (hh.mono (base':=w.heap.size) (by have:=HB.out.size;simp;omega))
  have HB4:=Lib.hid (bel_on HB.out (((Below.refl w3.heap.size w3).alloc (Nat.le_refl _) (.cells #[.int .i64 x.k,.int .i64 x.e,.int .i64 x.n,.slice A1 x.d.length c1,.slice E1 x.ks.length e1] 39)).trans (hb4.mono (by simp))))
  clear hh hb4
  go_wp2
  go_ret2
  exact⟨_,rfl,HH.out,HB4.out⟩
 ·have t1:(e != 0)=true:=by simpa using he
  rw [if_neg he]
  clear HFA hsz he
  go_enter Tryz.func21,Tryz.ntmps21
  go_wp2_with fail
  refine abs_world (F:=fun W=>Sg W A ls∧TabOK W∧Below w.heap.size w W) ⟨?_,?_,?_⟩ ?_
  ·exact Hs.out.below HB0.out (Nat.le_refl _)
  ·exact HT.out.on HB0.out
  ·exact HB0.out
  rintro W1 ⟨h1,h2,h3⟩
  clear HB0 hXm tX tX2 hX2 Hs
  have HB1:=Lib.hid h3
  refine(HM.out W1 h2 h1).mono ?_
  rintro r w3 ⟨v,rfl,⟨A1,c1,E1,e1,hi1,rfl,-,hno⟩,hb⟩
  have HB:=Lib.hid (bel_on HB1.out hb)
  clear hno hb h1 h2 h3 HM HB1
  go_wp2
  go_ret2
  exact⟨_,rfl,Got.empty _ _ _ _,HB.out.alloc HB.out.size _⟩
set_option maxHeartbeats 4000000 in
theorem convertS_any (A:Option Addr)(c:Nat)(ls:List (List Int))(D X O:Int)(w:World)(hT:TabOK w)(hs:Sg w A ls)(hw:Wd2 ls)(hm:ls.length≤40)(hf:∀j,(seg ls j).length≤20000000)(hD:D≤900)(hX:X≤100000):
  Calls Tryz.prog 24 #[.slice A ls.length c,.agg #[.int .i64 D,.int .i64 X,.int .i64 O],.func (.func 25) #[] #[]] w fun r w'=>∃v,r=.returned (.tuple #[v,.int .i64 (msgV ls D X).2])∧GotS w' w.heap.size v (if (msgV ls D X).2=0 then [writeF (msgV ls D X).1] else [])∧Below w.heap.size w w':=by
 have HT:=Lib.hid hT
 have Hs:=Lib.hid hs
 have hsz:=canon_size hw hm hf D X hX
 have HFA:=Lib.hid (fun h=>canon_facts hw hm hf D X (by omega) h)
 obtain⟨⟨x,e⟩,hq⟩:∃q,msgV ls D X=q:=⟨_,rfl⟩
 have HM:=Lib.hid (fun w2 hT2 hs2=>DMessage_is A c ls.length ls D X O x e w2 hT2 rfl hs2 hw hm hf hD (by omega) hq)
 rw [hq] at HFA hsz
 rw [hq]
 simp only at HFA hsz ⊢
 have HB0:=Lib.hid ((Below.refl w.heap.size w).alloc (Nat.le_refl _) (.cells #[.int .i64 D,.int .i64 X,.int .i64 O] 24))
 have hXm:X≤268435455:=by omega
 have hXs:startI X≤100000:=by unfold startI;split<;>omega
 have tX:decide (X≤268435455)=true:=decide_eq_true hXm
 have tX2:decide (X<268435455)=true:=decide_eq_true (by omega)
 have hX2:X<268435455:=by omega
 clear hs hw hm hf hq hT hX
 by_cases he:e=0
 ·have hfa:=HFA.out he
  have HV:=Lib.hid hfa.1
  have HTR:=Lib.hid hfa.2.1
  have HC:Hid (canN x≤268435455):=Lib.hid (by omega)
  have HSX:=Lib.hid hsz
  subst he
  rw [if_pos rfl]
  clear HFA hfa hsz hXs
  go_enter Tryz.func24,Tryz.ntmps24
  go_wp2_with fail
  refine abs_world (F:=fun W=>Sg W A ls∧TabOK W∧Below w.heap.size w W) ⟨?_,?_,?_⟩ ?_
  ·exact Hs.out.below HB0.out (Nat.le_refl _)
  ·exact HT.out.on HB0.out
  ·exact HB0.out
  rintro W1 ⟨h1,h2,h3⟩
  clear HB0 hXm tX tX2 hX2 Hs
  have HB1:=Lib.hid h3
  refine(HM.out W1 h2 h1).mono ?_
  rintro r w3 ⟨v,rfl,⟨A1,c1,E1,e1,hi1,rfl,-,hno⟩,hb⟩
  have HN:=Lib.hid hno.nd
  have HB:=Lib.hid (bel_on HB1.out hb)
  clear hno hb h1 h2 h3 HM HB1
  go_wp2_with fail
  refine(segments_any x A1 c1 E1 e1 _ ((HT.out.on HB.out).alloc _) (HN.out.on ((Below.refl _ _).alloc (Nat.le_refl _) _) (Nat.le_refl _)) HSX.out HV.out HTR.out HC.out).mono ?_
  rintro r w4 ⟨v4,rfl,hh,hb4⟩
  have HH:=Lib.hid (hh.mono (base':=w.heap.size) (by have:=HB.out.size;simp;omega))
  have HB4:=Lib.hid (bel_on HB.out (((Below.refl w3.heap.size w3).alloc (Nat.le_refl _) (.cells #[.int .i64 x.k,.int .i64 x.e,.int .i64 x.n,.slice A1 x.d.length c1,.slice E1 x.ks.length e1] 39)).trans (hb4.mono (by simp))))
  clear hh hb4
  go_wp2
  go_ret2
  exact⟨_,rfl,HH.out,HB4.out⟩
 ·have t1:(e != 0)=true:=by simpa using he
  rw [if_neg he]
  clear HFA hsz he
  go_enter Tryz.func24,Tryz.ntmps24
  go_wp2_with fail
  refine abs_world (F:=fun W=>Sg W A ls∧TabOK W∧Below w.heap.size w W) ⟨?_,?_,?_⟩ ?_
  ·exact Hs.out.below HB0.out (Nat.le_refl _)
  ·exact HT.out.on HB0.out
  ·exact HB0.out
  rintro W1 ⟨h1,h2,h3⟩
  clear HB0 hXm tX tX2 hX2 Hs
  have HB1:=Lib.hid h3
  refine(HM.out W1 h2 h1).mono ?_
  rintro r w3 ⟨v,rfl,⟨A1,c1,E1,e1,hi1,rfl,-,hno⟩,hb⟩
  have HB:=Lib.hid (bel_on HB1.out hb)
  clear hno hb h1 h2 h3 HM HB1
  go_wp2
  go_ret2
  exact⟨_,rfl,GotS.empty _ _,HB.out.alloc HB.out.size _⟩
end
theorem CWords_any (A:Option Addr)(c:Nat)(ls:List (List Int))(D X O:Int)(w:World)(hT:TabOK w)(hs:Sg w A ls)(hw:Wd2 ls)(hm:ls.length≤40)(hf:∀j,(seg ls j).length≤20000000)(hD:D≤900)(hX:X≤100000):
  Calls Tryz.prog 10 #[.slice A ls.length c,.agg #[.int .i64 D,.int .i64 X,.int .i64 O]] w fun r w'=>∃v,r=.returned (.tuple #[v,.int .i64 (msgV ls D X).2])∧Got w' w.heap.size 48 .u64 v (canW ls D X)∧Below w.heap.size w w':=by
 have HC:=Lib.hid (fun w2 hT2 hs2=>convertW_any A c ls D X O w2 hT2 hs2 hw hm hf hD hX)
 have HT:=Lib.hid hT
 have Hs:=Lib.hid hs
 have HB0:=Lib.hid ((Below.refl w.heap.size w).alloc (Nat.le_refl _) (.cells #[.int .i64 D,.int .i64 X,.int .i64 O] 24))
 have HCW:Hid (canW ls D X=if (msgV ls D X).2=0 then writeF (msgV ls D X).1 else []):=Lib.hid rfl
 rw [HCW.out]
 generalize (if (msgV ls D X).2=0 then writeF (msgV ls D X).1 else [])=cw at *
 clear HCW
 generalize (msgV ls D X).2=e at *
 clear hT hs hw hm hf hD hX
 go_enter Tryz.func10,Tryz.ntmps10
 go_wp2_with fail
 refine(HC.out _ (HT.out.alloc _) (Hs.out.alloc _)).mono ?_
 rintro r w3 ⟨v,rfl,hg,hb⟩
 have HG:=Lib.hid (hg.mono (base':=w.heap.size) (by simp))
 have HB:=Lib.hid (bel_on HB0.out hb)
 clear hg hb HC
 go_wp2
 go_ret2
 exact⟨_,rfl,HG.out,HB.out⟩
theorem CSegs_any (A:Option Addr)(c:Nat)(ls:List (List Int))(D X O:Int)(w:World)(hT:TabOK w)(hs:Sg w A ls)(hw:Wd2 ls)(hm:ls.length≤40)(hf:∀j,(seg ls j).length≤20000000)(hD:D≤900)(hX:X≤100000):
  Calls Tryz.prog 12 #[.slice A ls.length c,.agg #[.int .i64 D,.int .i64 X,.int .i64 O]] w fun r w'=>∃v,r=.returned (.tuple #[v,.int .i64 (msgV ls D X).2])∧GotS w' w.heap.size v (if (msgV ls D X).2=0 then [writeF (msgV ls D X).1] else [])∧Below w.heap.size w w':=by
 have HC:=Lib.hid (fun w2 hT2 hs2=>convertS_any A c ls D X O w2 hT2 hs2 hw hm hf hD hX)
 have HT:=Lib.hid hT
 have Hs:=Lib.hid hs
 have HB0:=Lib.hid ((Below.refl w.heap.size w).alloc (Nat.le_refl _) (.cells #[.int .i64 D,.int .i64 X,.int .i64 O] 24))
 generalize (if (msgV ls D X).2=0 then [writeF (msgV ls D X).1] else [])=cw at *
 generalize (msgV ls D X).2=e at *
 clear hT hs hw hm hf hD hX
 go_enter Tryz.func12,Tryz.ntmps12
 go_wp2_with fail
 refine(HC.out _ (HT.out.alloc _) (Hs.out.alloc _)).mono ?_
 rintro r w3 ⟨v,rfl,hg,hb⟩
 have HG:=Lib.hid (hg.mono (base':=w.heap.size) (by simp))
 have HB:=Lib.hid (bel_on HB0.out hb)
 clear hg hb HC
 go_wp2
 go_ret2
 exact⟨_,rfl,HG.out,HB.out⟩
theorem CWords_w (A:Option Addr)(c m:Nat)(ls:List (List Int))(D X O e:Int)(l:List Int)(L:Nat)(w:World)(hT:TabOK w)(hl:m=ls.length)(hs:Sg w A ls)(hw:Wd2 ls)(hm:ls.length≤40)(hf:∀j,(seg ls j).length≤20000000)(hD:D≤900)(hX:X≤100000)(he:(msgV ls D X).2=e)(hc:canW ls D X=l)(hL:l.length=L):
  Calls Tryz.prog 10 #[.slice A m c,.agg #[.int .i64 D,.int .i64 X,.int .i64 O]] w fun r w'=>∃A' c',r=.returned (.tuple #[.slice A' L c',.int .i64 e])∧Got w' w.heap.size 48 .u64 (.slice A' L c') l∧Ri w' .u64 A' l∧(A'=none→c'=0)∧L≤c'∧c'≤maxLen∧Below w.heap.size w w':=by
 subst hl he hc hL
 refine(CWords_any A c ls D X O w hT hs hw hm hf hD hX).mono ?_
 rintro r w' ⟨v,rfl,hg,hb⟩
 obtain⟨A',c',rfl,h6,h7,h8,h9⟩:=hg.full
 exact⟨A',c',rfl,hg,h8,h9,h6,h7,hb⟩
theorem CSegs_w (A:Option Addr)(c m:Nat)(ls:List (List Int))(D X O e:Int)(o:List (List Int))(L:Nat)(w:World)(hT:TabOK w)(hl:m=ls.length)(hs:Sg w A ls)(hw:Wd2 ls)(hm:ls.length≤40)(hf:∀j,(seg ls j).length≤20000000)(hD:D≤900)(hX:X≤100000)(he:(msgV ls D X).2=e)(hc:(if (msgV ls D X).2=0 then [writeF (msgV ls D X).1] else [])=o)(hL:o.length=L):
  Calls Tryz.prog 12 #[.slice A m c,.agg #[.int .i64 D,.int .i64 X,.int .i64 O]] w fun r w'=>∃A' c',r=.returned (.tuple #[.slice A' L c',.int .i64 e])∧GotS w' w.heap.size (.slice A' L c') o∧Sg w' A' o∧L≤c'∧c'≤maxLen∧Below w.heap.size w w':=by
 subst hl he hc hL
 refine(CSegs_any A c ls D X O w hT hs hw hm hf hD hX).mono ?_
 rintro r w' ⟨v,rfl,hg,hb⟩
 obtain⟨A',c',rfl,h6,h7,h8⟩:=hg.slice
 exact⟨A',c',rfl,hg,h8,h6,h7,hb⟩
theorem SameWords_15 (A B:Option Addr)(c d:Nat)(a b:List Int)(la lb:Nat)(v:Bool)(w:World)(ha:Ri w .u64 A a)(hb:Ri w .u64 B b)(hla:a.length=la)(hlb:b.length=lb)(hm:la≤9223372036854775807)(hm2:lb≤9223372036854775807)(hv:sameB a b=v):
  Calls Tryz.prog 13 #[.slice A la c,.slice B lb d] w fun e w'=>e=.returned (.bool v)∧Below w.heap.size w w':=by
 subst hla hlb hv
 refine(SameWords_any A B c d a b w ha hb hm hm2).mono ?_
 rintro e w' ⟨rfl,m,rfl⟩
 exact⟨rfl,bel_drewN (Below.refl _ _) m⟩
end Go.Proofs.YtbpmeppdjicmhaaGreatDoor
