/- The texts Ref15 (what is wanted of them), one after the other. -/
import Derived.Test.YtclpapddejgpnaaDoorMg24
import Derived.Test.YtclpapddejgpnaaDoorMg41
namespace Go.Proofs.YtclpapddejgpnaaDoor
open Go.ChangeShapes Go.WideShapes Go.ChangeAt Go.RowKit
set_option linter.unusedVariables false
set_option linter.unusedSimpArgs false
set_option maxRecDepth 100000
section
def small15B (ls:List (List Int))(D X:Int):Bool:=decide (D≤40)&&(decide (X≤2000)&&fewB ls)
theorem RefSmall15 (A:Option Addr)(c:Nat)(ls:List (List Int))(D X O:Int)(w:World)(hs:Sg w A ls)(hlm:ls.length≤9223372036854775807):
  Calls Tryd.prog 9 #[.slice A ls.length c,.agg #[.int .i64 D,.int .i64 X,.int .i64 O]] w fun e w'=>e=.returned (.bool (small15B ls D X))∧Below w.heap.size w w':=by
 have Hs:=Lib.hid hs
 clear hs
 by_cases h1:D≤40
 ·by_cases h2:X≤2000
  ·have HR:Hid (small15B ls D X=fewB ls):=Lib.hid (by unfold small15B;simp [h1,h2])
   generalize small15B ls D X=v at *
   have HF:=Lib.hid (fun w2 hs2=>Few_any A c ls w2 hs2 hlm)
   generalize fewB ls=fb at *
   have t1:decide (D≤40)=true:=decide_eq_true h1
   have t2:decide (X≤2000)=true:=decide_eq_true h2
   clear h1 h2
   go_enter Tryd.func9,Tryd.ntmps9
   go_wp2_with fail
   refine(HF.out _ (Hs.out.alloc _)).mono ?_
   rintro e w' ⟨rfl,rfl⟩
   go_wp2
   go_ret
   exact⟨by rw [HR.out];rfl,(Below.refl _ _).alloc (Nat.le_refl _) _⟩
  ·have HR:Hid (small15B ls D X=false):=Lib.hid (by unfold small15B;simp [h1,h2])
   generalize small15B ls D X=v at *
   have t1:decide (D≤40)=true:=decide_eq_true h1
   go_enter Tryd.func9,Tryd.ntmps9
   go_wp2
   go_ret
   exact⟨by rw [HR.out];rfl,(Below.refl _ _).alloc (Nat.le_refl _) _⟩
 ·have HR:Hid (small15B ls D X=false):=Lib.hid (by unfold small15B;simp [h1])
  generalize small15B ls D X=v at *
  go_enter Tryd.func9,Tryd.ntmps9
  go_wp2
  go_ret
  exact⟨by rw [HR.out];rfl,(Below.refl _ _).alloc (Nat.le_refl _) _⟩
theorem small15_fits {ls:List (List Int)}{D X:Int}(h:small15B ls D X=true):D≤40∧X≤2000∧ls.length≤20∧∀j,(seg ls j).length≤300:=by
 unfold small15B at h
 simp only [Bool.and_eq_true,decide_eq_true_eq] at h
 have:=few_fits h.2.2
 exact⟨h.1,h.2.1,this.2,this.1⟩
theorem RefMessage15 (A:Option Addr)(c m:Nat)(ls:List (List Int))(D X O:Int)(x:Nd)(e:Int)(w:World)(hl:m=ls.length)(hs:Sg w A ls)(hw:Wd2 ls)(hm:ls.length≤40)(hf:∀j,(seg ls j).length≤20000000)(hD:D≤900)(hX:X≤1000000)(hq:msgV ls D X=(x,e)):
  Calls Tryd.prog 16 #[.slice A m c,.agg #[.int .i64 D,.int .i64 X,.int .i64 O]] w fun r w'=>∃v,r=.returned (.tuple #[v,.int .i64 e])∧NodF w.heap.size x v w'∧Below w.heap.size w w':=by
 subst hl
 have h:=RefMessage12 A c ls D X O w hs hw hm hf hD hX
 rw [hq] at h
 exact h
def canW (ls:List (List Int))(D X:Int):List Int:=if (msgV ls D X).2=0 then writeF (msgV ls D X).1 else []
theorem canon_size {ls:List (List Int)}(hw:Wd2 ls)(hm:ls.length≤40)(hf:∀j,(seg ls j).length≤20000000)(D X:Int)(hX:X≤100000):sizeN (msgV ls D X).1≤1048576:=by
 have h1:=msg_size hw hm hf D X
 have h2:startI X≤100000:=by unfold startI;split<;>omega
 omega
attribute [local irreducible] msgV measV writeF
set_option maxRecDepth 100000 in
theorem RefWords15 (A:Option Addr)(c:Nat)(ls:List (List Int))(D X O:Int)(w:World)(hs:Sg w A ls)(hw:Wd2 ls)(hm:ls.length≤40)(hf:∀j,(seg ls j).length≤20000000)(hD:D≤900)(hX:X≤100000):
  Calls Tryd.prog 12 #[.slice A ls.length c,.agg #[.int .i64 D,.int .i64 X,.int .i64 O]] w fun r w'=>∃v,r=.returned (.tuple #[v,.int .i64 (msgV ls D X).2])∧Holds w' v (canW ls D X)∧Below w.heap.size w w':=by
 have Hs:=Lib.hid hs
 have hsz:=canon_size hw hm hf D X hX
 have HFA:=Lib.hid (fun h=>canon_facts hw hm hf D X (by omega) h)
 have HCW:Hid (canW ls D X=if (msgV ls D X).2=0 then writeF (msgV ls D X).1 else []):=Lib.hid rfl
 generalize canW ls D X=cw at *
 obtain⟨⟨x,e⟩,hq⟩:∃q,msgV ls D X=q:=⟨_,rfl⟩
 have HM:=Lib.hid (fun w2 hs2=>RefMessage15 A c ls.length ls D X O x e w2 rfl hs2 hw hm hf hD (by omega) hq)
 rw [hq] at HFA HCW hsz
 rw [hq]
 simp only at HFA HCW hsz ⊢
 have HB0:=Lib.hid (fun o=>(Below.refl w.heap.size w).alloc (Nat.le_refl _) o)
 have hXs:startI X≤100000:=by unfold startI;split<;>omega
 clear hs hw hm hf hq
 by_cases he:e=0
 ·have hfa:=HFA.out he
  have HV:=Lib.hid hfa.1
  have HC:Hid (canN x≤536870910):=Lib.hid (by omega)
  have HCW2:Hid (cw=writeF x):=Lib.hid (by rw [HCW.out,if_pos he])
  have HSX:=Lib.hid hsz
  subst he
  clear HFA HCW hfa hsz
  go_enter Tryd.func12,Tryd.ntmps12
  go_wp2_with fail
  refine(HM.out _ (Hs.out.alloc _)).mono ?_
  rintro r w3 ⟨v,rfl,⟨A1,c1,E1,e1,hi1,rfl,-,hno⟩,hb⟩
  have HN:=Lib.hid hno.nd
  have HB:=Lib.hid ((HB0.out (.cells #[.int .i64 D,.int .i64 X,.int .i64 O] 24)).trans (hb.mono (by simp)))
  clear hno hb
  go_wp2_with fail
  refine(RefWrite14 x A1 c1 E1 e1 _ (HN.out.on ((Below.refl _ _).alloc (Nat.le_refl _) _) (Nat.le_refl _)) HV.out HSX.out HC.out).mono ?_
  rintro r w4 ⟨v4,rfl,hh,hb4⟩
  have HH:=Lib.hid hh
  have HB4:=Lib.hid (HB.out.trans (((Below.refl w3.heap.size w3).alloc (Nat.le_refl _) (.cells #[.int .i64 x.k,.int .i64 x.e,.int .i64 x.n,.slice A1 x.d.length c1,.slice E1 x.ks.length e1] 37)).trans (hb4.mono (by simp))|>.mono HB.out.size))
  clear hh hb4
  go_wp2
  go_ret2
  exact⟨_,rfl,by rw [HCW2.out];exact HH.out,HB4.out⟩
 ·have t1:(e != 0)=true:=by simpa using he
  have HCW2:Hid (cw=[]):=Lib.hid (by rw [HCW.out,if_neg he])
  clear HFA HCW hsz he
  go_enter Tryd.func12,Tryd.ntmps12
  go_wp2_with fail
  refine(HM.out _ (Hs.out.alloc _)).mono ?_
  rintro r w3 ⟨v,rfl,⟨A1,c1,E1,e1,hi1,rfl,-,hno⟩,hb⟩
  have HB:=Lib.hid ((HB0.out (.cells #[.int .i64 D,.int .i64 X,.int .i64 O] 24)).trans (hb.mono (by simp)))
  clear hno hb
  go_wp2
  go_ret2
  exact⟨_,rfl,by rw [HCW2.out];exact⟨none,0,rfl,Ri.nil _ _ _,fun _=>rfl,Nat.le_refl _,by unfold maxLen;omega⟩,HB.out.alloc HB.out.size _⟩
end
end Go.Proofs.YtclpapddejgpnaaDoor
