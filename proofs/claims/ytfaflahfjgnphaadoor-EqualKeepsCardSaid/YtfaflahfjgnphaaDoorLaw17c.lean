/- A law of layer 17: EqualMatchesCanonicalForms. -/
import Derived.Test.YtfaflahfjgnphaaDoorMg37
import Derived.Test.YtfaflahfjgnphaaDoorMg38
import Derived.Test.YtfaflahfjgnphaaDoorMg41
import Derived.Test.YtfaflahfjgnphaaDoorMg42
import Derived.Test.YtfaflahfjgnphaaDoorAwake17
namespace Go.Proofs.YtfaflahfjgnphaaDoor
open Go.ChangeShapes Go.WideShapes Go.ChangeAt Go.RowKit
set_option linter.unusedVariables false
set_option linter.unusedSimpArgs false
set_option maxRecDepth 100000
section
theorem sg_wrap17 (w:World)(A:Option Addr)(c L q:Nat)(l:List Int)(T:TypeId)(hr:Ri w .u64 A l)(hL:l.length=L)(hn:A=none→c=0)(hl:L≤c)(hc:c≤9223372036854775807)(hq:q=w.heap.size):Sg (w.alloc (.cells #[.slice A L c] T)) (some ⟨q,0,none⟩) [l]:=by
 subst hq hL
 have h:=Sg.lit (w:=w) [.slice A l.length c] [l] T (fun j hj=>by
  obtain rfl:j=0:=by simp at hj;omega
  exact⟨_,rfl,A,c,rfl,hr,hn,hl,hc⟩)
 simpa using h
theorem can17 {ls:List (List Int)}(hw:Wd2 ls)(hm:ls.length≤40)(hf:∀j,(seg ls j).length≤20000000)(D X:Int)(hX:X≤100000):(canW ls D X).length≤100001:=by
 have hXs:startI X≤100000:=by unfold startI;split<;>omega
 unfold canW
 split
 ·next h=>
  obtain⟨h1,h2,h3,h4,h5,h6,h7,h8⟩:=canon_facts hw hm hf D X (by omega) h
  have:=writeF_length h1
  omega
 ·simp
theorem can_wds17 {ls:List (List Int)}(hw:Wd2 ls)(D X:Int):Wds (canW ls D X):=by
 unfold canW
 split
 ·exact writeF_wds (msg_byt ls D X)
 ·intro z hz;cases hz
theorem wd_one17 {l:List Int}(h:Wds l):Wd2 [l]:=by
 intro a ha
 simp at ha
 subst ha
 exact h
theorem fw_one17 {l:List Int}(h:l.length≤20000000)(j:Nat):(seg [l] j).length≤20000000:=by
 by_cases hj:j<[l].length
 ·obtain rfl:j=0:=by simp at hj;omega
  exact h
 ·rw [seg_out (by omega)];simp
theorem forms17 {la lb:List (List Int)}(wa:Wd2 la)(wb:Wd2 lb)(ma:la.length≤40)(mb:lb.length≤40)(fa:∀j,(seg la j).length≤20000000)(fb:∀j,(seg lb j).length≤20000000){D X:Int}(hX:X≤100000){v:Bool}{g:Int}(h:eqM la lb D X=(v,g))(ea:(msgV la D X).2=0)(eb:(msgV lb D X).2=0):
  g=0∧eqM la [canW la D X] D X=(true,0)∧sameS [canW la D X] [canW lb D X]=v:=by
 have hXs:startI X≤100000:=by unfold startI;split<;>omega
 obtain⟨a1,a2,a3,a4,a5,a6,a7,a8⟩:=canon_facts wa ma fa D X (by omega) ea
 obtain⟨b1,b2,b3,b4,b5,b6,b7,b8⟩:=canon_facts wb mb fb D X (by omega) eb
 have ha:bytN (msgV la D X).1:=msg_byt la D X
 have hb:bytN (msgV lb D X).1:=msg_byt lb D X
 obtain⟨c1,-⟩:=canon_idem wa ma fa D X (by omega) ea ha
 have hca:canW la D X=writeF (msgV la D X).1:=by unfold canW;rw [if_pos ea]
 have hcb:canW lb D X=writeF (msgV lb D X).1:=by unfold canW;rw [if_pos eb]
 have h2:eqM la lb D X=(eqN (msgV la D X).1 (msgV lb D X).1,0):=by
  unfold eqM eqQ
  rw [if_neg (fun h=>h ea),if_neg (fun h=>h eb)]
 rw [h2] at h
 injection h with h3 h4
 refine⟨h4.symm,?_,?_⟩
 ·rw [hca]
  unfold eqM eqQ
  rw [c1,if_neg (fun h=>h ea),if_neg (fun h=>h rfl),eqN_yes rfl]
 ·rw [hca,hcb,←h3,Bool.eq_iff_iff,eqN_iff]
  unfold sameS
  rw [decide_eq_true_iff]
  exact⟨fun h=>write_inj a1 b1 a2 b2 ha hb (by omega) (by omega) (by injection h),fun h=>by rw [h]⟩
theorem no17 {la lb:List (List Int)}{D X:Int}{v:Bool}{g:Int}(h:eqM la lb D X=(v,g)):((msgV la D X).2≠0→v=false∧g=(msgV la D X).2)∧((msgV la D X).2=0→(msgV lb D X).2≠0→v=false∧g=(msgV lb D X).2):=by
 unfold eqM eqQ at h
 refine⟨fun h1=>?_,fun h1 h2=>?_⟩
 ·rw [if_pos h1] at h
  injection h with h3 h4
  exact⟨h3.symm,h4.symm⟩
 ·rw [if_neg (fun h=>h h1),if_pos h2] at h
  injection h with h3 h4
  exact⟨h3.symm,h4.symm⟩
theorem Same17_w (A B:Option Addr)(c d n m:Nat)(a b:List (List Int))(v:Bool)(w:World)(hn:a.length=n)(hm:b.length=m)(ha:Sg w A a)(hb:Sg w B b)(h1:n≤9223372036854775807)(h2:m≤9223372036854775807)(hv:sameS a b=v):
  Calls Tryd.prog 10 #[.slice A n c,.slice B m d] w fun e w'=>e=.returned (.bool v)∧Below w.heap.size w w':=by
 subst hn hm hv
 refine(Same4_any A B c d a b w ha hb h1 h2).mono ?_
 rintro e w' ⟨rfl,k,rfl⟩
 exact⟨rfl,bel_drewN (Below.refl _ _) k⟩
attribute [local irreducible] msgV measV small15B fewB canW writeF eqM eqN dataE sameB sizeN
end
end Go.Proofs.YtfaflahfjgnphaaDoor
