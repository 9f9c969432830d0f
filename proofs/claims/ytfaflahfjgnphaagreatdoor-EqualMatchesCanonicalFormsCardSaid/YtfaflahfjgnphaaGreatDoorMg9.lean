/- The texts Ref05, RegionT, Cut, Arena, MsgLit (what is wanted of them), one after the other. -/
import Derived.Test.YtfaflahfjgnphaaGreatDoorMg2
import Derived.Test.YtfaflahfjgnphaaGreatDoorMg3
import Derived.OneCell
import Derived.Laws.CopyOwn
namespace Go.Proofs.YtfaflahfjgnphaaGreatDoor
open Go.ChangeShapes Go.WideShapes Go.ChangeAt Go.RowKit
set_option linter.unusedVariables false
set_option linter.unusedSimpArgs false
set_option maxRecDepth 100000
theorem Few_any (A:Option Addr)(c:Nat)(ls:List (List Int))(w:World)(hs:Sg w A ls)(hm:ls.length≤9223372036854775807):
  Calls Tryz.prog 13 #[.slice A ls.length c] w fun e w'=>e=.returned (.bool (fewB ls))∧w=w':=by
 have Hs:=Lib.hid hs
 clear hs
 go_enter Tryz.func13,Tryz.ntmps13
 go_wp2
 go_loop [3] (fun i=>∃k:Nat,k≤ls.length∧i=.int .i64 k∧∀j,j<k→(seg ls j).length≤300) (fun i=>ls.length-(intOf i).toNat)
 case atStart=>exact⟨0,by omega,rfl,by intro j hj;omega⟩
 case round=>
  obtain⟨k,hk,rfl,hfew⟩:=hrel
  have HF:=Lib.hid hfew
  clear hfew
  by_cases hlt:k<ls.length
  ·obtain⟨b,off,A',c',rfl,hcell,hri,-,-,-⟩:=Hs.out.one hlt
   have hi1:(k:Int)<(ls.length:Int):=by omega
   clear hri
   by_cases h3:(seg ls k).length≤300
   ·have h4:¬(300:Int)<((seg ls k).length:Int):=by omega
    have H3:=Lib.hid h3
    go_wp2
    go_round
    case rel=>exact⟨k+1,by omega,by go_num,fun j hj=>by
     by_cases e:j=k
     ·subst e;exact H3.out
     ·exact HF.out j (by omega)⟩
    case measure=>simp [intOf];omega
   ·have h4:(300:Int)<((seg ls k).length:Int):=by omega
    have HR:Hid (fewB ls=false):=Lib.hid (by
     unfold fewB
     simp
     intro hh
     exact absurd (hh k hlt) h3)
    go_wp2
    go_ret
    exact⟨by rw [HR.out];rfl,rfl⟩
  ·obtain rfl:k=ls.length:=by omega
   have HR:Hid (fewB ls=decide ((ls.length:Int)≤20)):=Lib.hid (by
    unfold fewB
    rw [decide_eq_decide]
    constructor
    ·intro h;omega
    ·intro h;exact⟨HF.out,by omega⟩)
   go_wp2
   go_ret
   exact⟨by rw [HR.out];rfl,rfl⟩
theorem RefInBounds_any (A:Option Addr)(c:Nat)(ls:List (List Int))(s a n:Int)(w:World)(hs:Sg w A ls)(hm:ls.length≤140737488355328):
  Calls Tryz.prog 90 #[.slice A ls.length c,.int .i64 s,.int .i64 a,.int .i64 n] w fun e w'=>e=.returned (.bool (inB ls s a n))∧w=w':=by
 have Hs:=Lib.hid hs
 clear hs
 by_cases h1:s<0
 ·have HR:Hid (inB ls s a n=false):=Lib.hid (by unfold inB;simp;omega)
  go_enter Tryz.func90,Tryz.ntmps90
  go_wp2
  go_ret
  exact⟨by rw [HR.out];rfl,rfl⟩
 by_cases h2:(ls.length:Int)≤s
 ·have HR:Hid (inB ls s a n=false):=Lib.hid (by unfold inB;simp;omega)
  go_enter Tryz.func90,Tryz.ntmps90
  go_wp2
  go_ret
  exact⟨by rw [HR.out];rfl,rfl⟩
 by_cases h3:a<0
 ·have HR:Hid (inB ls s a n=false):=Lib.hid (by unfold inB;simp;omega)
  go_enter Tryz.func90,Tryz.ntmps90
  go_wp2
  go_ret
  exact⟨by rw [HR.out];rfl,rfl⟩
 by_cases h4:n<0
 ·have HR:Hid (inB ls s a n=false):=Lib.hid (by unfold inB;simp;omega)
  go_enter Tryz.func90,Tryz.ntmps90
  go_wp2
  go_ret
  exact⟨by rw [HR.out];rfl,rfl⟩
 obtain⟨k,rfl⟩:=Int.eq_ofNat_of_zero_le (by omega:0≤s)
 obtain⟨b,off,A',c',rfl,hcell,hri,-,hc1,hc2⟩:=Hs.out.one (i:=k) (by omega)
 clear hri
 have hk2:(k:Int)<(ls.length:Int):=by omega
 by_cases h5:a≤(seg ls k).length
 ·have HR:Hid (inB ls k a n=decide (n≤(seg ls k).length-a)):=Lib.hid (by
   unfold inB
   rw [decide_eq_decide,Int.toNat_natCast]
   constructor
   ·intro h;omega
   ·intro h;omega)
  go_enter Tryz.func90,Tryz.ntmps90
  go_wp2
  go_ret
  exact⟨by rw [HR.out];rfl,rfl⟩
 ·have HR:Hid (inB ls k a n=false):=Lib.hid (by unfold inB;simp;omega)
  go_enter Tryz.func90,Tryz.ntmps90
  go_wp2
  go_ret
  exact⟨by rw [HR.out];rfl,rfl⟩
theorem RefWord_no (A:Option Addr)(c:Nat)(ls:List (List Int))(s a:Int)(w:World)(hs:Sg w A ls)(hm:ls.length≤140737488355328)(hh:hasB ls s a=false):
  Calls Tryz.prog 86 #[.slice A ls.length c,.int .i64 s,.int .i64 a] w fun e w'=>e=.returned (.tuple #[.int .u64 0,.bool false])∧w=w':=by
 have Hs:=Lib.hid hs
 have hno:∀i q:Nat,i<ls.length→q<(seg ls i).length→(i:Int)=s→(q:Int)=a→False:=by
  intro i q h1 h2 h3 h4
  subst h3 h4
  unfold hasB at hh
  rw [decide_eq_false_iff_not,Int.toNat_natCast] at hh
  omega
 have HN:=Lib.hid hno
 clear hs hno hh
 go_enter Tryz.func86,Tryz.ntmps86
 go_wp2
 go_loop [8] (fun x=>∃i:Nat,i≤ls.length∧x=.int .i64 i) (fun x=>ls.length-(intOf x).toNat)
 case atStart=>exact⟨0,by omega,rfl⟩
 case round=>
  obtain⟨i,hi,rfl⟩:=hrel
  by_cases hlt:i<ls.length
  ·obtain⟨b,off,A',c',rfl,hcell,hri,-,hc1,hc2⟩:=Hs.out.one hlt
   have hi1:(i:Int)<(ls.length:Int):=by omega
   clear hri
   go_wp2
   go_loop [9] (fun x=>∃q:Nat,q≤(seg ls i).length∧x=.int .i64 q) (fun x=>(seg ls i).length-(intOf x).toNat)
   case atStart=>exact⟨0,by omega,rfl⟩
   case round=>
    obtain⟨q,hq,rfl⟩:=hrel
    by_cases hlt2:q<(seg ls i).length
    ·have hq1:(q:Int)<((seg ls i).length:Int):=by omega
     by_cases e1:(i:Int)=s
     ·have e2:((q:Int)==a)=false:=by rw [beq_eq_false_iff_ne];exact fun h=>HN.out i q hlt hlt2 e1 h
      have e3:((i:Int)==s)=true:=by rw [beq_iff_eq];exact e1
      clear e1
      go_wp2
      go_round
      case rel=>exact⟨q+1,by omega,by go_num⟩
      case measure=>simp [intOf];omega
     ·have e3:((i:Int)==s)=false:=by rw [beq_eq_false_iff_ne];exact e1
      clear e1
      go_wp2
      go_round
      case rel=>exact⟨q+1,by omega,by go_num⟩
      case measure=>simp [intOf];omega
    ·have hq1:¬(q:Int)<((seg ls i).length:Int):=by omega
     go_wp2
     go_round
     case rel=>exact⟨i+1,by omega,by go_num⟩
     case measure=>simp [intOf];omega
  ·obtain rfl:i=ls.length:=by omega
   go_wp2
   go_ret2
   exact⟨rfl,rfl⟩
theorem RefWord_yes (A:Option Addr)(c:Nat)(ls:List (List Int))(S K:Nat)(w:World)(hs:Sg w A ls)(hm:ls.length≤140737488355328)(hS:S<ls.length)(hK:K<(seg ls S).length):
  Calls Tryz.prog 86 #[.slice A ls.length c,.int .i64 S,.int .i64 K] w fun e w'=>e=.returned (.tuple #[.int .u64 (zat (seg ls S) K),.bool true])∧w=w':=by
 have Hs:=Lib.hid hs
 clear hs
 go_enter Tryz.func86,Tryz.ntmps86
 go_wp2
 go_loop [8] (fun x=>∃i:Nat,i≤S∧x=.int .i64 i) (fun x=>ls.length-(intOf x).toNat)
 case atStart=>exact⟨0,by omega,rfl⟩
 case round=>
  obtain⟨i,hi,rfl⟩:=hrel
  have hlt:i<ls.length:=by omega
  obtain⟨b,off,A',c',rfl,hcell,hri,-,hc1,hc2⟩:=Hs.out.one hlt
  have hi1:(i:Int)<(ls.length:Int):=by omega
  by_cases e1:i=S
  ·subst e1
   obtain⟨b2,off2,rfl,hw⟩:=hri.at hK
   have hword:=hw K hK
   clear hw hri
   go_wp2
   go_loop [9] (fun x=>∃q:Nat,q≤K∧x=.int .i64 q) (fun x=>(seg ls i).length-(intOf x).toNat)
   case atStart=>exact⟨0,by omega,rfl⟩
   case round=>
    obtain⟨q,hq,rfl⟩:=hrel
    have hq1:(q:Int)<((seg ls i).length:Int):=by omega
    by_cases e2:q=K
    ·subst e2
     go_wp2
     go_ret2
     exact⟨rfl,rfl⟩
    ·have e3:((q:Int)==(K:Int))=false:=by rw [beq_eq_false_iff_ne];omega
     go_wp2
     go_round
     case rel=>exact⟨q+1,by omega,by go_num⟩
     case measure=>simp [intOf];omega
  ·have e3:((i:Int)==(S:Int))=false:=by rw [beq_eq_false_iff_ne];omega
   clear hri
   go_wp2
   go_loop [9] (fun x=>∃q:Nat,q≤(seg ls i).length∧x=.int .i64 q) (fun x=>(seg ls i).length-(intOf x).toNat)
   case atStart=>exact⟨0,by omega,rfl⟩
   case round=>
    obtain⟨q,hq,rfl⟩:=hrel
    by_cases hlt2:q<(seg ls i).length
    ·have hq1:(q:Int)<((seg ls i).length:Int):=by omega
     go_wp2
     go_round
     case rel=>exact⟨q+1,by omega,by go_num⟩
     case measure=>simp [intOf];omega
    ·have hq1:¬(q:Int)<((seg ls i).length:Int):=by omega
     go_wp2
     go_round
     case rel=>exact⟨i+1,by omega,by go_num⟩
     case measure=>simp [intOf];omega
theorem RefWord_any (A:Option Addr)(c:Nat)(ls:List (List Int))(s a:Int)(w:World)(hs:Sg w A ls)(hm:ls.length≤140737488355328):
  Calls Tryz.prog 86 #[.slice A ls.length c,.int .i64 s,.int .i64 a] w fun e w'=>e=.returned (.tuple #[.int .u64 (wordV ls s a),.bool (hasB ls s a)])∧w=w':=by
 cases hh:hasB ls s a
 ·exact(RefWord_no A c ls s a w hs hm hh).mono fun e w' ⟨h1,h2⟩=>⟨h1.trans (by simp [wordV,hh]),h2⟩
 ·have h:=hh
  unfold hasB at h
  have h2:=of_decide_eq_true h
  obtain⟨S,rfl⟩:=Int.eq_ofNat_of_zero_le h2.1
  obtain⟨K,rfl⟩:=Int.eq_ofNat_of_zero_le h2.2.2.1
  rw [Int.toNat_natCast] at h2
  exact(RefWord_yes A c ls S K w hs hm (by omega) (by omega)).mono fun e w' ⟨h3,h4⟩=>⟨h3.trans (by simp [wordV,hh]),h4⟩
theorem sliceL_length {ls:List (List Int)}{s a n:Int}(h:inB ls s a n=true):((sliceL ls s a n).length:Int)=n:=by
 have h2:=of_decide_eq_true h
 unfold sliceL
 rw [List.length_take,List.length_drop]
 omega
theorem RefSlice_no (A:Option Addr)(c:Nat)(ls:List (List Int))(s a n:Int)(w:World)(hs:Sg w A ls)(hm:ls.length≤140737488355328)(hh:inB ls s a n=false):
  Calls Tryz.prog 60 #[.slice A ls.length c,.int .i64 s,.int .i64 a,.int .i64 n] w fun e w'=>e=.returned (.tuple #[.slice none 0 0,.bool false])∧w=w':=by
 have HH:=Lib.hid hh
 clear hh
 go_enter Tryz.func60,Tryz.ntmps60
 go_wp2_with fail
 refine(RefInBounds_any _ _ _ _ _ _ _ hs hm).mono ?_
 rintro e w' ⟨rfl,rfl⟩
 rw [HH.out]
 go_wp2
 go_ret2
 exact⟨rfl,rfl⟩
set_option maxRecDepth 100000 in
theorem RefSlice_yes (A:Option Addr)(c:Nat)(ls:List (List Int))(S K n:Nat)(w:World)(hs:Sg w A ls)(hm:ls.length≤140737488355328)(hS:S<ls.length)(hK:K+n≤(seg ls S).length)(hlen:(seg ls S).length≤17592186044415)(hh:inB ls S K n=true):
  Calls Tryz.prog 60 #[.slice A ls.length c,.int .i64 S,.int .i64 K,.int .i64 n] w fun e w'=>∃v,e=.returned (.tuple #[v,.bool true])∧Got w' w.heap.size 39 .u64 v (sliceL ls S K n)∧Below w.heap.size w w':=by
 obtain⟨i0,hi,hz0,hz1,hz2⟩:=info_parts int64_info
 have HL0:=sliceL_length hh
 have HL:Hid ((sliceL ls S K n).length=n):=Lib.hid (by omega)
 have HZ:Hid (∀q,q<n→zat (sliceL ls S K n) q=zat (seg ls S) (K+q)):=Lib.hid (by
  intro q hq
  unfold sliceL
  rw [Int.toNat_natCast,Int.toNat_natCast,Int.toNat_natCast,zat_take _ _ _ hq,zat_drop])
 have Hs:=Lib.hid hs
 have HH:=Lib.hid hh
 clear hs hh HL0
 go_enter Tryz.func60,Tryz.ntmps60
 go_wp2_with fail
 refine(RefInBounds_any _ _ _ _ _ _ _ Hs.out hm).mono ?_
 rintro e w' ⟨rfl,rfl⟩
 rw [HH.out]
 go_wp2
 go_loopw [10,11] (fun v x wr=>∃q:Nat,q≤n∧x=.int .i64 q∧Got wr w.heap.size 39 .u64 v ((sliceL ls S K n).take q)∧Below w.heap.size w wr) (fun _ x _=>n-(intOf x).toNat)
 case atStart=>exact⟨0,by omega,rfl,Got.empty _ _ _ _,Below.refl _ _⟩
 case round=>
  obtain⟨q,hq,rfl,hgk,hbk⟩:=hrel
  by_cases hlt:q<n
  ·have hsg:=Hs.out.below hbk (Nat.le_refl _)
   obtain⟨b,off,A',c',rfl,hcell,hri,-,hc1,hc2⟩:=hsg.one hS
   obtain⟨b2,off2,rfl,hw⟩:=hri.at (i:=K+q) (by omega)
   have hword:=hw (K+q) (by omega)
   have hq1:(q:Int)<(n:Int):=by omega
   have hq2:(K:Int)+q<((seg ls S).length:Int):=by omega
   have hS1:(S:Int)<(ls.length:Int):=by omega
   have HLK:Hid (((sliceL ls S K n).take q).length=q):=Lib.hid (by rw [List.length_take,HL.out];omega)
   have HT:Hid ((sliceL ls S K n).take (q+1)=(sliceL ls S K n).take q++[zat (seg ls S) (K+q)]):=Lib.hid (by rw [take_succ_zat _ _ (by rw [HL.out];omega),HZ.out q hlt])
   have hsz:=hbk.size
   have HB:=Lib.hid hbk
   clear hsg hri hw hbk
   go_wp2_with (at_builtin;refine wpList_app1 rfl (.tmp 23) (.tmp 33) 25 rfl Tryz.underlying25 hi hz0 hz1 hz2 rfl hgk rfl (by rw [HLK.out];unfold maxLen;omega) (by rw [HLK.out];omega) hsz ?_;intro v1 w1 hg1 hb1)
   go_roundw
   case rel=>exact⟨q+1,by omega,by go_num,by rw [HT.out];exact hg1,HB.out.trans hb1⟩
   case measure=>simp [intOf];omega
  ·obtain rfl:q=n:=by omega
   go_wp2
   go_ret2
   exact⟨_,rfl,hgk.cast rfl (by rw [List.take_of_length_le (by rw [HL.out];omega)]),hbk⟩
section
def isA (late:List Nat)(i:Nat):Bool:=!late.contains i
def free (U:Fact):Prop:=∀v w w',U v w→U v w'
theorem free_is (u:Value):free (Is u):=fun _ _ _ h=>h
theorem free_any:free Any:=fun _ _ _ h=>h
def PureOK (P:Program)(ops:Array Oper)(F G:List (Tmp×Fact))(a0:Act)(o:Oper)(T:Fact):Prop:=
 o.guard=none∧∃f:(Tmp→Value)→Value,(∀ρ ρ',(∀s∈o.looksAt ops,ρ s=ρ' s)→f ρ=f ρ')∧(∀a w,(∀s∈o.looksAt ops,Knows G a0 a w s)→(execOp a.eval o).run P w=.ok (.value (f fun s=>a.tmps.getD s undef)) w)∧∀a w,(∀s∈o.looksAt ops,Knows F a0 a w s)→T (f fun s=>a.tmps.getD s undef) w
def ChainT (P:Program)(ops:Array Oper)(late:List Nat)(a0:Act)(w0:World)(E:Act→World→Prop):List Oper→Nat→List (Tmp×Fact)→List (Tmp×Fact)→Prop
 | [],_,F,_=>∀a w,Below w0.heap.size w0 w→a.defers=a0.defers→a.tmps.size=a0.tmps.size→(∀s,s<a0.tmps.size→Knows F a0 a w s)→E a w
 | o::r,i,F,G=>∃d T U,o.dst=some d∧stable T∧free U∧(∀v w,T v w→U v w)∧(if isA late i=true then StepOK P ops F a0 w0 o T else PureOK P ops F G a0 o T)∧ChainT P ops late a0 w0 E r (i+1) ((d,T)::F) ((d,U)::G)
structure FactsT (P:Program) (ops:Array Oper) (l:List Oper) (late:List Nat) (a0:Act) (w0:World) (Ts Us:List Fact) (i:Nat):Prop where
 len:Ts.length=i
 len2:Us.length=i
 st:∀(j:Nat) (T:Fact),Ts[j]?=some T→stable T
 fr:∀(j:Nat) (U:Fact),Us[j]?=some U→free U
 weak:∀(j:Nat) (T U:Fact),Ts[j]?=some T→Us[j]?=some U→∀v w,T v w→U v w
 step:∀(j:Nat) (o:Oper) (T:Fact),l[j]?=some o→Ts[j]?=some T→if isA late j=true then StepOK P ops (factsTo l Ts j) a0 w0 o T else PureOK P ops (factsTo l Ts j) (factsTo l Us j) a0 o T
theorem chainT_facts {P:Program}{ops:Array Oper}{a0:Act}{w0:World}{E:Act→World→Prop}{l:List Oper}{late:List Nat}:
  ∀(r:List Oper) (i:Nat) (Ts Us:List Fact),l.drop i=r→i≤l.length→ChainT P ops late a0 w0 E r i (factsTo l Ts i) (factsTo l Us i)→FactsT P ops l late a0 w0 Ts Us i →
   ∃Ts Us:List Fact,FactsT P ops l late a0 w0 Ts Us l.length∧ChainT P ops late a0 w0 E [] l.length (factsTo l Ts l.length) (factsTo l Us l.length):=by
 intro r
 induction r with
 | nil=>
  intro i Ts Us hd hi hc hF
  have:i=l.length:=by
   have:=congrArg List.length hd
   simp at this
   omega
  subst this
  exact⟨Ts,Us,hF,hc⟩
 | cons o r ih=>
  intro i Ts Us hd hi hc hF
  obtain⟨d,T,U,hdst,hs1,hs2,hw,hstep,hrest⟩:=hc
  have hlt:i<l.length:=by
   have:=congrArg List.length hd
   simp at this
   omega
  have hli:l[i]?=some o:=by
   have:=congrArg (fun x=>x[0]?) hd
   simpa using this
  have hdi:dstAt l i=some d:=by simp [dstAt,hli,hdst]
  have fT:=factsTo_app (l:=l) (T:=T) hF.len
  have fU:=factsTo_app (l:=l) (T:=U) hF.len2
  have gT:(Ts++[T])[i]?=some T:=by rw [List.getElem?_append_right (by have:=hF.len;omega)];simp [hF.len]
  have gU:(Us++[U])[i]?=some U:=by rw [List.getElem?_append_right (by have:=hF.len2;omega)];simp [hF.len2]
  refine ih (i+1) (Ts++[T]) (Us++[U]) (by rw [←List.drop_drop,hd];rfl) (by omega) ?_ ⟨by simp [hF.len],by simp [hF.len2],?_,?_,?_,?_⟩
  ·have e1:factsTo l (Ts++[T]) (i+1)=(d,T)::factsTo l Ts i:=by rw [factsTo,hdi,gT,fT i (Nat.le_refl _)]
   have e2:factsTo l (Us++[U]) (i+1)=(d,U)::factsTo l Us i:=by rw [factsTo,hdi,gU,fU i (Nat.le_refl _)]
   rw [e1,e2]
   exact hrest
  ·intro j V hV
   rcases get_app hF.len hV with ⟨_,h⟩|⟨_,rfl⟩
   ·exact hF.st j V h
   ·exact hs1
  ·intro j V hV
   rcases get_app hF.len2 hV with ⟨_,h⟩|⟨_,rfl⟩
   ·exact hF.fr j V h
   ·exact hs2
  ·intro j V V' hV hV'
   rcases get_app hF.len hV with ⟨h0,h⟩|⟨rfl,rfl⟩
   ·rcases get_app hF.len2 hV' with ⟨_,h'⟩|⟨h1,_⟩
    ·exact hF.weak j V V' h h'
    ·omega
   ·rcases get_app hF.len2 hV' with ⟨h1,_⟩|⟨_,rfl⟩
    ·omega
    ·exact hw
  ·intro j o' V ho' hV
   rcases get_app hF.len hV with ⟨h0,h⟩|⟨rfl,rfl⟩
   ·rw [fT j (by omega),fU j (by omega)]
    exact hF.step j o' V ho' h
   ·rw [hli] at ho'
    injection ho' with ho'
    subst ho'
    rw [fT j (Nat.le_refl _),fU j (Nat.le_refl _)]
    exact hstep
def storeOf (o:Oper):Option (Tmp×Tmp):=match o.op with
 | .store _ (.tmp p) (.tmp v)=>some (p,v)
 | _=>none
def chainTB (n:Nat)(late:List Nat)(l ts:List Oper):Bool:=
  (List.range l.length).all (fun i=>match l[i]? with
    | none=>true
    | some o=>
      (match o.dst with
       | none=>false
       | some d=>decide (d<n)) &&
      (List.range l.length).all (fun j=>j==i||dstAt l j != o.dst) &&
      o.after.all (fun e=>!Region.binds .any e||decide (e.on<i)) &&
      (o.looksAt (l++ts).toArray).all (fun s=>decide (s<n)&&(List.range l.length).all fun j=>dstAt l j != some s||(o.after.any (fun e=>Region.binds .any e&&e.on==j)&&(isA late i||isA late j)))) &&
  (List.range ts.length).all (fun k=>match ts[k]? with
    | none=>true
    | some o=>
      o.guard.isNone &&
      o.after.all (fun e=>!Region.binds .any e||decide (e.on<l.length+k)) &&
      (List.range l.length).all (fun j=>((!isA late j&&decide (k+1<ts.length))||o.after.any (fun e=>Region.binds .any e&&e.on==j))||(decide (k+1<ts.length)&&(List.range l.length).any (fun j'=>decide (j<j')&&isA late j'&&(match l[j']? with
        | none=>false
        | some o'=>o'.after.any (fun e=>Region.binds .any e&&e.on==j))))) &&
      (k==0||o.after.any (fun e=>Region.binds .any e&&e.on==l.length+k-1)) &&
      (k+1==ts.length||(o.dst.isNone&&match storeOf o with
        | none=>false
        | some (p,v)=>decide (p<n)&&decide (v<n)&&(List.range l.length).all fun j=>(dstAt l j != some p&&dstAt l j != some v)||o.after.any (fun e=>Region.binds .any e&&e.on==j))))
theorem chainTB_at {n:Nat}{late:List Nat}{l ts:List Oper}(h:chainTB n late l ts=true){i:Nat}{o:Oper}(ho:l[i]?=some o):
  (∃d,o.dst=some d∧d<n)∧(∀j,j<l.length→j≠i→dstAt l j≠o.dst)∧(∀e∈o.after,Region.binds .any e=true→e.on<i) ∧
  (∀s∈o.looksAt (l++ts).toArray,s<n∧∀j,j<l.length→dstAt l j=some s→(∃e∈o.after,Region.binds .any e=true∧e.on=j)∧(isA late i=true∨isA late j=true)):=by
 have hlt:i<l.length:=by
  rcases Nat.lt_or_ge i l.length with h1|h1
  ·exact h1
  ·rw [List.getElem?_eq_none h1] at ho;cases ho
 unfold chainTB at h
 rw [Bool.and_eq_true,List.all_eq_true] at h
 have h1:=h.1 i (List.mem_range.2 hlt)
 rw [ho] at h1
 simp only [Bool.and_eq_true,List.all_eq_true,List.mem_range,Bool.or_eq_true,beq_iff_eq,bne_iff_ne,Bool.not_eq_true',decide_eq_true_eq,Array.all_eq_true_iff_forall_mem,Array.any_eq_true'] at h1
 obtain⟨⟨⟨h2,h3⟩,h4⟩,h5⟩:=h1
 refine⟨?_,fun j hj hne=>?_,fun e he hb=>?_,fun s hs=>⟨(h5 s hs).1,fun j hj hd=>?_⟩⟩
 ·cases hd:o.dst with
  | none=>rw [hd] at h2;cases h2
  | some d=>rw [hd] at h2;exact⟨d,rfl,by simpa using h2⟩
 ·rcases h3 j hj with h|h
  ·exact absurd h hne
  ·exact h
 ·rcases h4 e he with h|h
  ·rw [h] at hb;cases hb
  ·exact h
 ·rcases(h5 s hs).2 j hj with h|⟨⟨e,he,hb⟩,h2⟩
  ·exact absurd hd h
  ·exact⟨⟨e,he,hb⟩,h2⟩
theorem chainTB_tail {n:Nat}{late:List Nat}{l ts:List Oper}(h:chainTB n late l ts=true){k:Nat}{o:Oper}(ho:ts[k]?=some o):
  o.guard=none∧(∀e∈o.after,Region.binds .any e=true→e.on<l.length+k) ∧
  (∀j,j<l.length→(isA late j=true∨k+1=ts.length)→(∃e∈o.after,Region.binds .any e=true∧e.on=j)∨(k+1<ts.length∧∃j' o',j<j'∧j'<l.length∧isA late j'=true∧l[j']?=some o'∧∃e∈o'.after,Region.binds .any e=true∧e.on=j)) ∧
  (0<k→∃e∈o.after,Region.binds .any e=true∧e.on=l.length+k-1) ∧
  (k+1≠ts.length→o.dst=none∧∃t p v,o.op=.store t (.tmp p) (.tmp v)∧∀j,j<l.length→dstAt l j=some p∨dstAt l j=some v→∃e∈o.after,Region.binds .any e=true∧e.on=j):=by
 have hlt:k<ts.length:=by
  rcases Nat.lt_or_ge k ts.length with h1|h1
  ·exact h1
  ·rw [List.getElem?_eq_none h1] at ho;cases ho
 unfold chainTB at h
 rw [Bool.and_eq_true] at h
 have h1:=(List.all_eq_true.1 h.2) k (List.mem_range.2 hlt)
 rw [ho] at h1
 simp only [Bool.and_eq_true,List.all_eq_true,List.mem_range,Bool.or_eq_true,beq_iff_eq,bne_iff_ne,Bool.not_eq_true',decide_eq_true_eq,Array.all_eq_true_iff_forall_mem,Array.any_eq_true',Option.isNone_iff_eq_none] at h1
 obtain⟨⟨⟨⟨h2,h3⟩,h4⟩,h5⟩,h6⟩:=h1
 refine⟨h2,fun e he hb=>?_,fun j hj hor=>?_,fun hk=>?_,fun hne=>?_⟩
 ·rcases h3 e he with h|h
  ·rw [h] at hb;cases hb
  ·exact h
 ·rcases h4 j hj with (⟨h7,h8⟩|⟨e,he,hb⟩)|⟨h8,h9⟩
  ·rcases hor with h|h
   ·rw [h7] at h;cases h
   ·omega
  ·exact .inl ⟨e,he,hb⟩
  ·rw [List.any_eq_true] at h9
   obtain⟨j',hj',h9⟩:=h9
   rw [Bool.and_eq_true,Bool.and_eq_true,decide_eq_true_eq] at h9
   obtain⟨⟨h10,h11⟩,h12⟩:=h9
   refine .inr ⟨h8,j',?_⟩
   cases ho':l[j']? with
   | none=>rw [ho'] at h12;cases h12
   | some o'=>
    rw [ho'] at h12
    simp only [Array.any_eq_true',Bool.and_eq_true,beq_iff_eq] at h12
    obtain⟨e,he,hb⟩:=h12
    exact⟨o',h10,List.mem_range.1 hj',h11,rfl,e,he,hb⟩
 ·rcases h5 with h|⟨e,he,hb⟩
  ·omega
  ·exact⟨e,he,hb⟩
 ·rcases h6 with h|⟨h7,h8⟩
  ·exact absurd h hne
  ·refine⟨h7,?_⟩
   unfold storeOf at h8
   split at h8
   ·cases h8
   ·rename_i p v hst
    split at hst
    ·rename_i t p' v' hop
     injection hst with hst
     injection hst with e1 e2
     subst e1 e2
     simp only [Bool.and_eq_true,List.all_eq_true,List.mem_range,Bool.or_eq_true,beq_iff_eq,bne_iff_ne,decide_eq_true_eq,Array.any_eq_true'] at h8
     refine⟨t,p',v',hop,fun j hj hd=>?_⟩
     rcases h8.2 j hj with h|⟨e,he,hb⟩
     ·rcases hd with hd|hd
      ·exact absurd hd h.1
      ·exact absurd hd h.2
     ·exact⟨e,he,hb⟩
    ·cases hst
structure Ph2 (l ts:List Oper) (late:List Nat) (b a:Act) (listed:Array Bool) (k:Nat):Prop where
 size:listed.size=l.length+ts.length
 kle:k≤ts.length
 la:∀j,j<l.length→isA late j=true∨k=ts.length→listed.getD j false=true
 ldone:∀q,q<k→listed.getD (l.length+q) false=true
 lopen:∀q,k≤q→q<ts.length→listed.getD (l.length+q) true=false
 agree:∀s:Tmp,(∀j,j<l.length→listed.getD j false=false→dstAt l j≠some s)→a.tmps.getD s undef=b.tmps.getD s undef
 defers:a.defers=b.defers
 tmps:a.tmps.size=b.tmps.size
theorem act_ext {a b:Act}(h1:a.defers=b.defers)(h2:a.tmps.size=b.tmps.size)(h3:∀s,a.tmps.getD s undef=b.tmps.getD s undef):a=b:=by
 obtain⟨ta,da⟩:=a
 obtain⟨tb,db⟩:=b
 simp only at h1 h2
 subst h1
 congr 1
 apply Array.ext h2
 intro i hi hi'
 have:=h3 i
 simpa [hi,hi'] using this
theorem eval_tmp (a:Act)(s:Tmp):a.eval (.tmp s)=a.tmps.getD s undef:=rfl
theorem drop_cons {α:Type}{l:List α}{k:Nat}{x:α}(h:l[k]?=some x):l.drop k=x::l.drop (k+1):=by
 obtain⟨hk,rfl⟩:=List.getElem?_eq_some_iff.1 h
 exact List.drop_eq_getElem_cons hk
theorem ph2_anyL {P:Program}{l ts:List Oper}{late:List Nat}{Q:Exit→Act→World→Prop}{b:Act}(hB:chainTB b.tmps.size late l ts=true):
  ∀(fuel:Nat) (listed:Array Bool) (a:Act) (w:World) (k:Nat),(∀j o,l[j]?=some o→isA late j=false→listed.getD j false=false→o.guard=none∧∃d,o.dst=some d∧∀(a:Act) (w:World),(∀s∈o.looksAt (l++ts).toArray,a.tmps.getD s undef=b.tmps.getD s undef)→(execOp a.eval o).run P w=.ok (.value (b.tmps.getD d undef)) w)→Ph2 l ts late b a listed k→(∃n,n≤fuel∧n=(List.range (l.length+ts.length)).countP (fun j=>!listed.getD j true))→wpList P (l++ts).toArray (OnlyN fun a w=>Q .normal a w) (ts.drop k) b w→wpAny P .any (l++ts).toArray Q fuel listed a w:=by
 have hgl:∀j,j<l.length→(l++ts).toArray[j]?=l[j]?:=fun j hj=>by rw [List.getElem?_toArray,List.getElem?_append_left hj]
 have hgt:∀q,(l++ts).toArray[l.length+q]?=ts[q]?:=fun q=>by
  rw [List.getElem?_toArray,List.getElem?_append_right (by omega)];congr 1;omega
 have hff:∀{listed:Array Bool} {j:Nat},j<listed.size→(listed.getD j true=false↔listed.getD j false=false):=by
  intro listed j hj
  simp [hj]
 have hdec:∀{listed:Array Bool} {i:Nat} {n f:Nat},listed.size=l.length+ts.length→i<l.length+ts.length→listed.getD i true=false→n=(List.range (l.length+ts.length)).countP (fun j=>!listed.getD j true)→n≤f+1→∃m,m≤f∧m=(List.range (l.length+ts.length)).countP (fun j=>!(listed.setIfInBounds i true).getD j true):=by
  intro listed i n f hsz hi hu hn hf
  refine⟨_,?_,rfl⟩
  have hlt:(List.range (l.length+ts.length)).countP (fun j=>!(listed.setIfInBounds i true).getD j true)<(List.range (l.length+ts.length)).countP (fun j=>!listed.getD j true):=by
   refine countP_lt (i:=i) (fun x _ hx=>?_) (List.mem_range.2 hi) (by simp [hu]) ?_
   ·by_cases e:i=x
    ·subst e;simp [hu]
    ·rw [getD_set_ne true e] at hx;exact hx
   ·have:i<listed.size:=by omega
    simp [this]
  omega
 have hallEnd:∀(listed:Array Bool) (a:Act) (w:World),Ph2 l ts late b a listed ts.length→wpList P (l++ts).toArray (OnlyN fun a w=>Q .normal a w) (ts.drop ts.length) b w→Region.ready .any (l++ts).toArray listed=[]∧Q .normal a w:=by
  intro listed a w hP hw
  have hall:∀j,j<l.length+ts.length→listed.getD j false=true:=by
   intro j hj
   by_cases h1:j<l.length
   ·exact hP.la j h1 (.inr rfl)
   ·have:=hP.ldone (j-l.length) (by omega)
    rwa [show l.length+(j-l.length)=j by omega] at this
  refine⟨?_,?_⟩
  ·rw [List.eq_nil_iff_forall_not_mem]
   intro j hj
   obtain⟨hu,o,ho,_⟩:=mem_ready.1 hj
   have hjl:j<l.length+ts.length:=by
    rcases Nat.lt_or_ge j (l.length+ts.length) with h1|h1
    ·exact h1
    ·rw [List.getElem?_toArray,List.getElem?_eq_none (by simpa using h1)] at ho;cases ho
   exact absurd (hall j hjl) (by rw [getD_ff hu];simp)
  ·have he:a=b:=act_ext hP.defers hP.tmps fun s=>hP.agree s fun j hj hn=>by
    rw [hall j (by omega)] at hn;cases hn
   subst he
   rw [List.drop_length] at hw
   exact hw.2
 intro fuel
 induction fuel with
 | zero=>
  intro listed a w k hE hP hn hw
  obtain⟨n,hn0,hn⟩:=hn
  have hk:k=ts.length:=by
   refine Classical.byContradiction fun hne=>?_
   have hlt:k<ts.length:=by have:=hP.kle;omega
   have:0<(List.range (l.length+ts.length)).countP (fun j=>!listed.getD j true):=List.countP_pos_iff.2 ⟨l.length+k,List.mem_range.2 (by omega),by simp [hP.lopen k (Nat.le_refl _) hlt]⟩
   omega
  subst hk
  exact hallEnd listed a w hP hw
 | succ fuel ih=>
  intro listed a w k hE hP hn hw
  obtain⟨n,hn0,hn⟩:=hn
  by_cases hk:k=ts.length
  ·subst hk
   obtain⟨h1,h2⟩:=hallEnd listed a w hP hw
   exact⟨fun _=>h2,fun i hi=>by rw [h1] at hi;cases hi⟩
  have hkl:k<ts.length:=by have:=hP.kle;omega
  have hok:ts[k]?=some ts[k]:=List.getElem?_eq_getElem hkl
  refine⟨fun hr=>?_,fun i hi=>?_⟩
  ·exfalso
   have hall:∀j,j<l.length→listed.getD j false=true:=by
    intro j
    induction j using Nat.strongRecOn with
    | _ j ihj=>
     intro hj
     cases hb:listed.getD j false with
     | true=>rfl
     | false=>
      exfalso
      have hj':l[j]?=some l[j]:=List.getElem?_eq_getElem hj
      have hc:=chainTB_at hB hj'
      have hm:j∈Region.ready .any (l++ts).toArray listed:=by
       rw [mem_ready]
       refine⟨(hff (by rw [hP.size];omega)).2 hb,l[j],by rw [hgl j hj,hj'],fun e he hbi=>ihj e.on (hc.2.2.1 e he hbi) (Nat.lt_trans (hc.2.2.1 e he hbi) hj)⟩
      rw [hr] at hm
      cases hm
   have hm:l.length+k∈Region.ready .any (l++ts).toArray listed:=by
    rw [mem_ready]
    refine⟨hP.lopen k (Nat.le_refl _) hkl,ts[k],by rw [hgt k,hok],fun e he hb=>?_⟩
    have hlt:=(chainTB_tail hB hok).2.1 e he hb
    by_cases h1:e.on<l.length
    ·exact hall _ h1
    ·have:=hP.ldone (e.on-l.length) (by omega)
     rwa [show l.length+(e.on-l.length)=e.on by omega] at this
   rw [hr] at hm
   cases hm
  ·obtain⟨hu,o,ho,hedges⟩:=mem_ready.1 hi
   have hisz:i<l.length+ts.length:=by
    rcases Nat.lt_or_ge i (l.length+ts.length) with h1|h1
    ·exact h1
    ·rw [List.getElem?_toArray,List.getElem?_eq_none (by simpa using h1)] at ho;cases ho
   by_cases hil:i<l.length
   ·
    have hol:l[i]?=some o:=by rw [←hgl i hil];exact ho
    have hei:isA late i=false:=by
     refine Bool.eq_false_iff.2 fun h=>?_
     have:=hP.la i hil (.inl h)
     rw [getD_ff hu] at this
     cases this
    obtain⟨hg,d,hd,hrun⟩:=hE i o hol hei (getD_ff hu)
    obtain⟨⟨d',hd',hdm⟩,hdis,hbe,hlook⟩:=chainTB_at hB hol
    rw [hd] at hd'
    injection hd' with hd'
    subst hd'
    have hdi:dstAt l i=some d:=by simp [dstAt,hol,hd]
    have hds:d<a.tmps.size:=by rw [hP.tmps];exact hdm
    have hlooks:∀s∈o.looksAt (l++ts).toArray,a.tmps.getD s undef=b.tmps.getD s undef:=fun s hs=>hP.agree s fun j hj hnl hdj=>by
     obtain⟨-,h2⟩:=(hlook s hs).2 j hj hdj
     have:=hP.la j hj (.inl (h2.resolve_left (by rw [hei];simp)))
     rw [hnl] at this
     cases this
    refine wpOp_noWay ho (K:=fun a' w'=>a'=a.put o.dst (b.tmps.getD d undef)∧w'=w) ?_ ?_
    ·rintro a' w' ⟨rfl,rfl⟩
     refine ih _ _ _ k (fun j oo h1 h2 h3=>hE j oo h1 h2 (Bool.eq_false_iff.2 fun h4=>by rw [getD_set_true h4] at h3;cases h3)) ⟨by simpa using hP.size,hP.kle,fun j hj hor=>getD_set_true (hP.la j hj hor),fun q hq=>getD_set_true (hP.ldone q hq),fun q h1 h2=>by rw [getD_set_ne true (by omega)];exact hP.lopen q h1 h2,fun s hs=>?_,by rw [hd];exact hP.defers,by rw [hd];simp [Act.put,hP.tmps]⟩ (hdec hP.size hisz hu hn hn0) hw
     rw [hd]
     by_cases e:d=s
     ·subst e
      rw [getD_put_same hds]
     ·rw [getD_put_ne e]
      refine hP.agree s fun j hj hnl hdj=>?_
      by_cases hji:j=i
      ·subst hji
       rw [hdi] at hdj
       injection hdj with hdj
       exact e hdj
      ·exact hs j hj (by rw [getD_set_ne false (fun h=>hji h.symm)];exact hnl) hdj
    ·have hwn:Region.wanted o (yielded (l++ts).toArray a.tmps)=true:=by unfold Region.wanted;rw [hg]
     rw [if_pos hwn]
     unfold Oper.wp
     rw [hrun a w hlooks]
     exact⟨rfl,rfl⟩
   ·
    obtain⟨q,rfl⟩:∃q,i=l.length+q:=⟨i-l.length,by omega⟩
    have hql:q<ts.length:=by omega
    have hqk:k≤q:=by
     refine Nat.le_of_not_lt fun h=>?_
     have:=hP.ldone q h
     rw [getD_ff hu] at this
     cases this
    rw [hgt q] at ho
    obtain⟨hg,hbe,hbl,hprev,hst⟩:=chainTB_tail hB ho
    obtain rfl:q=k:=by
     refine Classical.byContradiction fun hne=>?_
     obtain⟨e,he,hb,hon⟩:=hprev (by omega)
     have h1:=hedges e he hb
     have h2:=hP.lopen (q-1) (by omega) (by omega)
     rw [hon,show l.length+q-1=l.length+(q-1) by omega,getD_ff h2] at h1
     cases h1
    have hwn:∀a:Act,Region.wanted o (yielded (l++ts).toArray a.tmps)=true:=fun a=>by unfold Region.wanted;rw [hg]
    rw [drop_cons ho] at hw
    have hwl:o.wp P b w (wpList P (l++ts).toArray (OnlyN fun a w=>Q .normal a w) (ts.drop (q+1))) (OnlyN fun a w=>Q .normal a w):=by
     unfold wpList at hw
     rw [if_pos (hwn b)] at hw
     rcases hw with hw|⟨_,a',w',he,_⟩
     ·exact hw
     ·cases he
    have hgo:(l++ts).toArray[l.length+q]?=some o:=by rw [hgt q];exact ho
    by_cases hlast:q+1=ts.length
    ·
     have hall:∀j,j<l.length→listed.getD j false=true:=fun j hj=>by
      rcases hbl j hj (.inr hlast) with ⟨e,he,hb,hon⟩|⟨h,-⟩
      ·rw [←hon];exact hedges e he hb
      ·omega
     have hab:a=b:=act_ext hP.defers hP.tmps fun s=>hP.agree s fun j hj hn=>by rw [hall j hj] at hn;cases hn
     subst hab
     refine wpOp_noWay hgo (K:=wpList P (l++ts).toArray (OnlyN fun a w=>Q .normal a w) (ts.drop (q+1))) (fun a' w' hw'=>?_) ?_
     ·rw [hlast,List.drop_length] at hw'
      have hempty:Region.ready .any (l++ts).toArray (listed.setIfInBounds (l.length+q) true)=[]:=by
       rw [List.eq_nil_iff_forall_not_mem]
       intro j hj
       obtain⟨hu',o',ho',_⟩:=mem_ready.1 hj
       have hjl:j<l.length+ts.length:=by
        rcases Nat.lt_or_ge j (l.length+ts.length) with h1|h1
        ·exact h1
        ·rw [List.getElem?_toArray,List.getElem?_eq_none (by simpa using h1)] at ho';cases ho'
       have hu2:=getD_ff hu'
       by_cases h1:j<l.length
       ·rw [getD_set_ne false (by omega),hall j h1] at hu2;cases hu2
       ·by_cases h2:j=l.length+q
        ·subst h2
         have:l.length+q<listed.size:=by rw [hP.size];omega
         simp [this] at hu'
        ·have:=hP.ldone (j-l.length) (by omega)
         rw [show l.length+(j-l.length)=j by omega] at this
         rw [getD_set_ne false (fun h=>h2 h.symm),this] at hu2
         cases hu2
      cases fuel with
      | zero=>exact⟨hempty,hw'.2⟩
      | succ f=>exact⟨fun _=>hw'.2,fun i hi=>by rw [hempty] at hi;cases hi⟩
     ·rw [if_pos (hwn a)]
      unfold Oper.wp at hwl ⊢
      generalize (execOp a.eval o).run P w=r at *
      cases r with
      | ok n w'=>
       cases n<;>simp only [Oper.upon] at hwl ⊢ <;>
        first
         | exact hwl
         | exact Calls.mono hwl (fun e w'' he=>by
           cases e with
           | returned v=>exact he
           | panicked c=>exact absurd he.1 (by simp)
           | outgrown=>obtain⟨_,_,h',_⟩:=he;cases h')
         | exact hwl.elim
      | halt x w'=>
       cases x<;>simp only [Oper.upon] at hwl ⊢ <;>
        first
         | exact hwl.elim
         | exact absurd hwl.1 (by simp)
    ·obtain⟨hdn,t,p,v,hop,hdat⟩:=hst hlast
     have hpv:∀s,(s=p∨s=v)→a.tmps.getD s undef=b.tmps.getD s undef:=fun s hs=>hP.agree s fun j hj hnl hdj=>by
      obtain⟨e,he,hb,hon⟩:=hdat j hj (by rcases hs with rfl|rfl;exact .inl hdj;exact .inr hdj)
      have:=hedges e he hb
      rw [hon,hnl] at this
      cases this
     have hex:execOp a.eval o=execOp b.eval o:=by
      unfold execOp
      rw [hop]
      simp only [eval_tmp,hpv p (.inl rfl),hpv v (.inr rfl)]
     refine wpOp_noWay hgo (K:=fun a' w'=>a'=a∧wpList P (l++ts).toArray (OnlyN fun a w=>Q .normal a w) (ts.drop (q+1)) b w') ?_ ?_
     ·rintro a' w' ⟨rfl,hw'⟩
      refine ih _ _ _ (q+1) (fun j oo h1 h2 h3=>hE j oo h1 h2 (Bool.eq_false_iff.2 fun h4=>by rw [getD_set_true h4] at h3;cases h3)) ⟨by simpa using hP.size,by omega,fun j hj hor=>?_,fun r hr=>?_,fun r h1 h2=>?_,fun s hs=>hP.agree s fun j hj hnl=>hs j hj (by rw [getD_set_ne false (by omega)];exact hnl),hP.defers,hP.tmps⟩ (hdec hP.size hisz hu hn hn0) hw'
      ·rcases hor with h|h
       ·exact getD_set_true (hP.la j hj (.inl h))
       ·exact absurd h hlast
      ·by_cases e:r=q
       ·subst e
        have:l.length+r<listed.size:=by rw [hP.size];omega
        simp [this]
       ·exact getD_set_true (hP.ldone r (by omega))
      ·rw [getD_set_ne true (by omega)];exact hP.lopen r (by omega) h2
     ·rw [if_pos (hwn a)]
      unfold Oper.wp at hwl ⊢
      rw [hex]
      have hsk:∀n w',(execOp b.eval o).run P w=.ok n w'→n=.skip:=by
       intro n w' h
       unfold execOp at h
       rw [hop] at h
       simp only [Sem.run_bind,Sem.run_pure] at h
       cases hr:(Instr.storeAt t (b.eval (.tmp p)) (b.eval (.tmp v))).run P w with
       | ok x w2=>rw [hr] at h;simp at h;exact h.1.symm
       | halt x w2=>rw [hr] at h;simp at h
      generalize hrr:(execOp b.eval o).run P w=r at *
      cases r with
      | ok n w'=>
       obtain rfl:=hsk n w' rfl
       simp only [Oper.upon,hdn] at hwl ⊢
       exact⟨rfl,hwl⟩
      | halt x w'=>
       cases x<;>simp only [Oper.upon] at hwl ⊢ <;>
        first
         | exact hwl.elim
         | exact absurd hwl.1 (by simp)
theorem ph2_any {P:Program}{l ts:List Oper}{late:List Nat}{Q:Exit→Act→World→Prop}{b:Act}(hB:chainTB b.tmps.size late l ts=true)
  (hE:∀j o,l[j]?=some o→isA late j=false→o.guard=none∧∃d,o.dst=some d∧∀(a:Act) (w:World),(∀s∈o.looksAt (l++ts).toArray,a.tmps.getD s undef=b.tmps.getD s undef)→(execOp a.eval o).run P w=.ok (.value (b.tmps.getD d undef)) w)
  (fuel:Nat) (listed:Array Bool) (a:Act) (w:World) (k:Nat) (hP:Ph2 l ts late b a listed k) (hn:∃n,n≤fuel∧n=(List.range (l.length+ts.length)).countP (fun j=>!listed.getD j true)) (hw:wpList P (l++ts).toArray (OnlyN fun a w=>Q .normal a w) (ts.drop k) b w):wpAny P .any (l++ts).toArray Q fuel listed a w:=
 ph2_anyL hB fuel listed a w k (fun j o h1 h2 _=>hE j o h1 h2) hP hn hw
def Pend (l:List Oper)(listed:Array Bool)(s:Nat):Prop:=∃j,j<l.length∧listed.getD j false=false∧dstAt l j=some s
noncomputable def fillB (l:List Oper) (listed:Array Bool) (u:Nat→Value) (a:Act):Act:=
 { a with tmps:=Array.ofFn fun s:Fin a.tmps.size=>open Classical in if h:Pend l listed s.1 then u (Classical.choose h) else a.tmps.getD s.1 undef }
theorem fillB_yes {l:List Oper}{listed:Array Bool}{u:Nat→Value}{a:Act}{j d:Nat}(hj:j<l.length)(hn:listed.getD j false=false)(hd:dstAt l j=some d)(hs:d<a.tmps.size)(hu:∀j',j'<l.length→dstAt l j'=some d→j'=j):(fillB l listed u a).tmps.getD d undef=u j:=by
 have h:Pend l listed d:=⟨j,hj,hn,hd⟩
 have hc:=Classical.choose_spec h
 have he:Classical.choose h=j:=hu _ hc.1 hc.2.2
 unfold fillB
 rw [Array.getD_eq_getD_getElem?,Array.getElem?_ofFn,dif_pos hs,Option.getD_some]
 refine(dif_pos h).trans ?_
 rw [he]
theorem fillB_no {l:List Oper}{listed:Array Bool}{u:Nat→Value}{a:Act}{s:Nat}(h:∀j,j<l.length→listed.getD j false=false→dstAt l j≠some s):(fillB l listed u a).tmps.getD s undef=a.tmps.getD s undef:=by
 have hn:¬Pend l listed s:=fun ⟨j,h1,h2,h3⟩=>h j h1 h2 h3
 by_cases hs:s<a.tmps.size
 ·simp [fillB,hs,hn]
 ·simp [fillB,hs]
theorem inv1_any {P:Program}{l ts:List Oper}{late:List Nat}{Ts Us:List Fact}{a0:Act}{w0:World}{Q:Exit→Act→World→Prop}(hts:0<ts.length)(hB:chainTB a0.tmps.size late l ts=true)
  (hF:FactsT P (l++ts).toArray l late a0 w0 Ts Us l.length)
  (hend:ChainT P (l++ts).toArray late a0 w0 (fun a w=>wpList P (l++ts).toArray (OnlyN fun a w=>Q .normal a w) ts a w) [] l.length (factsTo l Ts l.length) (factsTo l Us l.length)) :
  ∀(fuel:Nat) (listed:Array Bool) (a:Act) (w:World),listed.size=l.length+ts.length→(∀q,q<ts.length→listed.getD (l.length+q) true=false)→(∃n,n≤fuel∧n=(List.range (l.length+ts.length)).countP (fun j=>!listed.getD j true))→Inv l Ts a0 w0 listed a w→(∀(j:Nat) (o:Oper),listed.getD j false=true→l[j]?=some o→∀e∈o.after,Region.binds .any e=true→listed.getD e.on false=true)→wpAny P .any (l++ts).toArray Q fuel listed a w:=by
 have hgl:∀j,j<l.length→(l++ts).toArray[j]?=l[j]?:=fun j hj=>by rw [List.getElem?_toArray,List.getElem?_append_left hj]
 have hgt:∀q,(l++ts).toArray[l.length+q]?=ts[q]?:=fun q=>by
  rw [List.getElem?_toArray,List.getElem?_append_right (by omega)];congr 1;omega
 have hl1:=hF.len
 have hl2:=hF.len2
 have hpure:∀j o,l[j]?=some o→isA late j=false→PureOK P (l++ts).toArray (factsTo l Ts j) (factsTo l Us j) a0 o ((Ts[j]?).getD Any):=by
  intro j o ho hj
  have hjl:j<l.length:=(List.getElem?_eq_some_iff.1 ho).1
  have hT:Ts[j]?=some (Ts[j]'(by omega)):=List.getElem?_eq_getElem (by omega)
  have h:=hF.step j o _ ho hT
  rw [if_neg (by rw [hj];simp)] at h
  rw [hT]
  exact h
 intro fuel
 induction fuel with
 | zero=>
  intro listed a w hsz hop hn hI hC
  exfalso
  obtain⟨n,hn0,hn⟩:=hn
  have:0<(List.range (l.length+ts.length)).countP (fun j=>!listed.getD j true):=List.countP_pos_iff.2 ⟨l.length+0,List.mem_range.2 (by omega),by simp only [hop 0 hts];rfl⟩
  omega
 | succ fuel ih=>
  intro listed a w hsz hop hn hI hC
  have hff:∀{j:Nat},j<listed.size→(listed.getD j true=false↔listed.getD j false=false):=by
   intro j hj
   simp [hj]
  refine⟨fun hr=>?_,fun i hi=>?_⟩
  ·exfalso
   have hall:∀j,j<l.length→listed.getD j false=true:=by
    intro j
    induction j using Nat.strongRecOn with
    | _ j ihj=>
     intro hj
     cases hb:listed.getD j false with
     | true=>rfl
     | false=>
      exfalso
      have hj':l[j]?=some l[j]:=List.getElem?_eq_getElem hj
      have hc:=chainTB_at hB hj'
      have hm:j∈Region.ready .any (l++ts).toArray listed:=by
       rw [mem_ready]
       exact⟨(hff (by rw [hsz];omega)).2 hb,l[j],by rw [hgl j hj,hj'],fun e he hbi=>ihj e.on (hc.2.2.1 e he hbi) (Nat.lt_trans (hc.2.2.1 e he hbi) hj)⟩
      rw [hr] at hm
      cases hm
   have hok:ts[0]?=some ts[0]:=List.getElem?_eq_getElem hts
   have hm:l.length+0∈Region.ready .any (l++ts).toArray listed:=by
    rw [mem_ready]
    exact⟨hop 0 hts,ts[0],by rw [hgt 0,hok],fun e he hb=>hall _ (by have:=(chainTB_tail hB hok).2.1 e he hb;omega)⟩
   rw [hr] at hm
   cases hm
  ·obtain⟨hu,o,ho,hedges⟩:=mem_ready.1 hi
   have hisz:i<l.length+ts.length:=by
    rcases Nat.lt_or_ge i (l.length+ts.length) with h1|h1
    ·exact h1
    ·rw [List.getElem?_toArray,List.getElem?_eq_none (by simpa using h1)] at ho;cases ho
   by_cases hil:i<l.length
   ·have hol:l[i]?=some o:=by rw [←hgl i hil];exact ho
    obtain⟨⟨d,hd,hdm⟩,hdis,hbe,hlook⟩:=chainTB_at hB hol
    have hdi:dstAt l i=some d:=by simp [dstAt,hol,hd]
    have hTi:Ts[i]?=some (Ts[i]'(by omega)):=List.getElem?_eq_getElem (by omega)
    have hK:∀(F:List Fact),F.length=l.length→(∀(j:Nat) (d:Tmp) (V:Fact),listed.getD j false=true→dstAt l j=some d→F[j]?=some V→V (a.tmps.getD d undef) w)→∀s∈o.looksAt (l++ts).toArray,Knows (factsTo l F i) a0 a w s:=by
     intro F hlF hdone s hs
     unfold Knows
     cases hl:look (factsTo l F i) s with
     | some V=>
      obtain⟨j,hj,hdj,hVj⟩:=mem_factsTo (look_some hl)
      obtain⟨⟨e,he,hb,rfl⟩,-⟩:=(hlook s hs).2 j (by omega) hdj
      exact hdone _ s V (hedges e he hb) hdj hVj
     | none=>
      refine hI.rest s fun j hj hdj=>?_
      have hjl:=dst_lt hdj
      obtain⟨⟨e,he,hb,rfl⟩,-⟩:=(hlook s hs).2 j hjl hdj
      have hlt:=hbe e he hb
      have hV:F[e.on]?=some (F[e.on]'(by omega)):=List.getElem?_eq_getElem (by omega)
      obtain⟨V,hV'⟩:=look_mem ⟨_,factsTo_mem (i:=i) hlt hdj hV,rfl⟩
      rw [hV'] at hl
      cases hl
    have hS:if Region.wanted o (yielded (l++ts).toArray a.tmps) then o.wp P a w (After (Ts[i]'(by omega)) a o.dst w) NoWay else (Ts[i]'(by omega)) undef w:=by
     by_cases he:isA late i=true
     ·have h:=hF.step i o _ hol hTi
      rw [if_pos he] at h
      exact h a w hI.below (hK Ts hl1 fun j d V h1 h2 h3=>hI.done j d V h1 h2 h3)
     ·obtain⟨hg,f,hf,hrun,hT⟩:=hpure i o hol (Bool.eq_false_iff.2 he)
      rw [hTi,Option.getD_some] at hT
      have hwn:Region.wanted o (yielded (l++ts).toArray a.tmps)=true:=by unfold Region.wanted;rw [hg]
      rw [if_pos hwn]
      have hr:=hrun a w (hK Us hl2 fun j d V h1 h2 h3=>by
       have hjl:=dst_lt h2
       have hT:Ts[j]?=some (Ts[j]'(by omega)):=List.getElem?_eq_getElem (by omega)
       exact hF.weak j _ V hT h3 _ _ (hI.done j d _ h1 h2 hT))
      have ht:=hT a w (hK Ts hl1 fun j d V h1 h2 h3=>hI.done j d V h1 h2 h3)
      unfold Oper.wp
      rw [hr]
      exact⟨_,rfl,ht,Below.refl _ _⟩
    refine wpOp_noWay ho (K:=After (Ts[i]'(by omega)) a o.dst w) ?_ ?_
    ·rintro a' w' ⟨v,rfl,hT,hbel⟩
     have hds:d<a.tmps.size:=by rw [hI.size];exact hdm
     refine ih _ _ _ (by simpa using hsz) (fun q hq=>by rw [getD_set_ne true (by omega)];exact hop q hq) ?_ ⟨hI.below.trans (hbel.mono hI.below.size),?_,?_,?_,?_⟩ (fun jj oo hj hoo e he hb=>by
      rcases getD_set_cases hj with rfl|hj2
      ·rw [hol] at hoo
       injection hoo with hoo
       subst hoo
       exact getD_set_true (hedges e he hb)
      ·exact getD_set_true (hC jj oo hj2 hoo e he hb))
     ·obtain⟨n,hn0,hn⟩:=hn
      refine⟨_,?_,rfl⟩
      have hlt:(List.range (l.length+ts.length)).countP (fun j=>!(listed.setIfInBounds i true).getD j true)<(List.range (l.length+ts.length)).countP (fun j=>!listed.getD j true):=by
       refine countP_lt (i:=i) (fun x _ hx=>?_) (List.mem_range.2 hisz) (by simp [hu]) ?_
       ·by_cases e:i=x
        ·subst e;simp [hu]
        ·rw [getD_set_ne true e] at hx;exact hx
       ·have:i<listed.size:=by omega
        simp [this]
      omega
     ·rw [hd];exact hI.defers
     ·rw [hd];simp [Act.put,hI.size]
     ·intro j d' T hj hdj hTj
      rw [hd]
      rcases getD_set_cases hj with rfl|hj2
      ·rw [hdi] at hdj
       injection hdj with hdj
       subst hdj
       rw [hTi] at hTj
       injection hTj with hTj
       subst hTj
       rw [getD_put_same hds]
       exact hT
      ·have hne:d≠d':=by
        rintro rfl
        have hji:j≠i:=by
         rintro rfl
         rw [getD_ff hu] at hj2
         cases hj2
        exact hdis j (dst_lt hdj) hji (by rw [hdj,hd])
       rw [getD_put_ne hne]
       exact hF.st j T hTj _ _ _ (hI.done j d' T hj2 hdj hTj) hbel
     ·intro s hs
      have hne:d≠s:=by
       rintro rfl
       refine hs i ?_ hdi
       have:i<listed.size:=by omega
       simp [this]
      rw [hd,getD_put_ne hne]
      refine hI.rest s fun j hj hdj=>hs j (getD_set_true hj) hdj
    ·by_cases hw:Region.wanted o (yielded (l++ts).toArray a.tmps)=true
     ·rw [if_pos hw] at hS ⊢
      exact hS
     ·rw [if_neg hw] at hS ⊢
      exact⟨undef,rfl,hS,Below.refl _ _⟩
   ·
    obtain⟨q,rfl⟩:∃q,i=l.length+q:=⟨i-l.length,by omega⟩
    have hql:q<ts.length:=by omega
    rw [hgt q] at ho
    obtain⟨hg,hbe,hbl,hprev,hst⟩:=chainTB_tail hB ho
    obtain rfl:q=0:=by
     refine Classical.byContradiction fun hne=>?_
     obtain⟨e,he,hb,hon⟩:=hprev (by omega)
     have h1:=hedges e he hb
     have h2:=hop (q-1) (by omega)
     rw [hon,show l.length+q-1=l.length+(q-1) by omega,getD_ff h2] at h1
     cases h1
    have hA:∀j,j<l.length→isA late j=true→listed.getD j false=true:=by
     intro j
     generalize hn0:l.length-j=n0
     induction n0 using Nat.strongRecOn generalizing j with
     | _ n0 ihA=>
      intro hj hje
      rcases hbl j hj (.inl hje) with ⟨e,he,hb,hon⟩|⟨-,j',o',h1,h2,h3,h4,e,he,hb,hon⟩
      ·rw [←hon];exact hedges e he hb
      ·rw [←hon];exact hC j' o' (ihA (l.length-j') (by omega) j' rfl h2 h3) h4 e he hb
    have hdu:∀j j' d,j<l.length→j'<l.length→dstAt l j=some d→dstAt l j'=some d→j'=j:=fun j j' d hj hj' h h'=>by
     refine Classical.byContradiction fun hne=>?_
     have hj2:l[j]?=some l[j]:=List.getElem?_eq_getElem hj
     have hd2:l[j].dst=some d:=by simpa [dstAt,hj2] using h
     exact(chainTB_at hB hj2).2.1 j' hj' hne (by rw [h',hd2])
    have hsA:∀(j:Nat) (o:Oper),l[j]?=some o→isA late j=false→∀s∈o.looksAt (l++ts).toArray,∀j',j'<l.length→dstAt l j'=some s→isA late j'=true:=fun j o ho hj s hs j' hj' hd'=>by
     obtain⟨-,h2⟩:=((chainTB_at hB ho).2.2.2 s hs).2 j' hj' hd'
     exact h2.resolve_left (by rw [hj];simp)
    have hKn:∀(j:Nat) (o:Oper),l[j]?=some o→isA late j=false→∀(F:List Fact),F.length=l.length→∀(a':Act) (w':World),(∀(j':Nat) (d:Tmp) (V:Fact),isA late j'=true→dstAt l j'=some d→F[j']?=some V→V (a.tmps.getD d undef) w')→(∀s∈o.looksAt (l++ts).toArray,a'.tmps.getD s undef=a.tmps.getD s undef)→∀s∈o.looksAt (l++ts).toArray,Knows (factsTo l F j) a0 a' w' s:=fun j o ho hj F hlF a' w' hdone hag s hs=>by
     obtain⟨-,-,hbe,hlook⟩:=chainTB_at hB ho
     have hjl:j<l.length:=(List.getElem?_eq_some_iff.1 ho).1
     unfold Knows
     rw [hag s hs]
     cases hl:look (factsTo l F j) s with
     | some V=>
      obtain⟨j',hj',hd',hV⟩:=mem_factsTo (look_some hl)
      exact hdone j' s V (hsA j o ho hj s hs j' (by omega) hd') hd' hV
     | none=>
      refine hI.rest s fun j' hj' hd'=>?_
      have hjl':=dst_lt hd'
      obtain⟨⟨e,he,hb,rfl⟩,-⟩:=(hlook s hs).2 j' hjl' hd'
      have hlt:=hbe e he hb
      have hV:F[e.on]?=some (F[e.on]'(by omega)):=List.getElem?_eq_getElem (by omega)
      obtain⟨V,hV'⟩:=look_mem ⟨_,factsTo_mem (i:=j) hlt hd' hV,rfl⟩
      rw [hV'] at hl
      cases hl
    obtain⟨u,hu2⟩:∃u:Nat→Value,∀j o,l[j]?=some o→isA late j=false→(∀T,Ts[j]?=some T→T (u j) w)∧(∀d,dstAt l j=some d→listed.getD j false=true→a.tmps.getD d undef=u j)∧(listed.getD j false=false→∀(a':Act) (w':World),(∀s∈o.looksAt (l++ts).toArray,a'.tmps.getD s undef=a.tmps.getD s undef)→(execOp a'.eval o).run P w'=.ok (.value (u j)) w'):=by
     have hex:∀j,∃u,∀o,l[j]?=some o→isA late j=false→(∀T,Ts[j]?=some T→T u w)∧(∀d,dstAt l j=some d→listed.getD j false=true→a.tmps.getD d undef=u)∧(listed.getD j false=false→∀(a':Act) (w':World),(∀s∈o.looksAt (l++ts).toArray,a'.tmps.getD s undef=a.tmps.getD s undef)→(execOp a'.eval o).run P w'=.ok (.value u) w'):=fun j=>by
      by_cases h:j<l.length∧isA late j=false
      ·obtain⟨hjl,hj⟩:=h
       have ho:l[j]?=some l[j]:=List.getElem?_eq_getElem hjl
       obtain⟨⟨d,hd,hdm⟩,-⟩:=chainTB_at hB ho
       have hdj:dstAt l j=some d:=by simp [dstAt,ho,hd]
       cases hn:listed.getD j false with
       | true=>
        refine⟨a.tmps.getD d undef,fun o _ _=>⟨fun T hT=>hI.done j d T hn hdj hT,fun d' hd' _=>?_,fun h=>by cases h⟩⟩
        rw [hdj] at hd'
        injection hd' with hd'
        rw [hd']
       | false=>
        obtain⟨hg,f,hf,hrun,hT⟩:=hpure j _ ho hj
        refine⟨f fun s=>a.tmps.getD s undef,fun o ho2 _=>⟨fun T hTj=>?_,(fun _ _ h=>by cases h),fun _ a' w' hag=>?_⟩⟩
        ·rw [hTj,Option.getD_some] at hT
         exact hT a w (hKn j _ ho hj Ts hl1 a w (fun j' d' V h1 h2 h3=>hI.done j' d' V (hA j' (dst_lt h2) h1) h2 h3) fun _ _=>rfl)
        ·rw [ho] at ho2
         injection ho2 with ho2
         subst ho2
         rw [hrun a' w' (hKn j _ ho hj Us hl2 a' w' (fun j' d' V h1 h2 h3=>by
          have hT':Ts[j']?=some (Ts[j']'(by have:=dst_lt h2;omega)):=List.getElem?_eq_getElem (by have:=dst_lt h2;omega)
          exact hF.fr j' V h3 _ w w' (hF.weak j' _ V hT' h3 _ _ (hI.done j' d' _ (hA j' (dst_lt h2) h1) h2 hT'))) hag)]
         rw [hf _ _ fun s hs=>hag s hs]
      ·exact⟨undef,fun o h1 h2=>absurd ⟨(List.getElem?_eq_some_iff.1 h1).1,h2⟩ h⟩
     exact⟨fun j=>Classical.choose (hex j),fun j=>Classical.choose_spec (hex j)⟩
    have hbs:(fillB l listed u a).tmps.size=a.tmps.size:=by simp [fillB]
    have hbd:∀j d,j<l.length→isA late j=false→dstAt l j=some d→(fillB l listed u a).tmps.getD d undef=u j:=fun j d hj he hd=>by
     have hj2:l[j]?=some l[j]:=List.getElem?_eq_getElem hj
     obtain⟨⟨d',hd',hdm⟩,-⟩:=chainTB_at hB hj2
     have hdd:d'=d:=by
      have:dstAt l j=some d':=by simp [dstAt,hj2,hd']
      rw [hd] at this
      injection this with this
      exact this.symm
     subst hdd
     cases hn:listed.getD j false with
     | false=>exact fillB_yes hj hn hd (by rw [hI.size];exact hdm) (fun j' hj' h'=>hdu j j' _ hj hj' hd h')
     | true=>
      rw [fillB_no (fun j' hj' hn' h'=>by
       obtain rfl:=hdu j j' _ hj hj' hd h'
       rw [hn] at hn';cases hn')]
      exact(hu2 j _ hj2 he).2.1 _ hd hn
    have hba:∀s,(∀j,j<l.length→dstAt l j=some s→isA late j=true)→(fillB l listed u a).tmps.getD s undef=a.tmps.getD s undef:=fun s hs=>fillB_no fun j hj hn hd=>by
     rw [hA j hj (hs j hj hd)] at hn;cases hn
    have hph:Ph2 l ts late (fillB l listed u a) a listed 0:=⟨hsz,Nat.zero_le _,fun j hj hor=>by
     rcases hor with h|h
     ·exact hA j hj h
     ·omega,fun q hq=>by omega,fun q _ hq=>hop q hq,fun s hs=>(fillB_no hs).symm,rfl,hbs.symm⟩
    have hwl:=hend (fillB l listed u a) w hI.below hI.defers (by rw [hbs];exact hI.size) fun s hs=>by
     unfold Knows
     cases hl:look (factsTo l Ts l.length) s with
     | some T=>
      obtain⟨j,hj,hd,hT⟩:=mem_factsTo (look_some hl)
      by_cases he:isA late j=false
      ·rw [hbd j s hj he hd]
       exact(hu2 j _ (List.getElem?_eq_getElem hj) he).1 T hT
      ·have he':isA late j=true:=by simpa using he
       rw [hba s (fun j' hj' hd'=>by obtain rfl:=hdu j j' _ hj hj' hd hd';exact he')]
       exact hI.done j s T (hA j hj he') hd hT
     | none=>
      have hnd:∀j,j<l.length→dstAt l j≠some s:=fun j hj hd=>by
       have hT:Ts[j]?=some (Ts[j]'(by omega)):=List.getElem?_eq_getElem (by omega)
       obtain⟨T,hT'⟩:=look_mem ⟨_,factsTo_mem (i:=l.length) hj hd hT,rfl⟩
       rw [hT'] at hl
       cases hl
      rw [fillB_no (fun j hj _=>hnd j hj)]
      exact hI.rest s fun j _ hd=>hnd j (dst_lt hd) hd
    refine(ph2_anyL (by rw [hbs,hI.size];exact hB) (fuel+1) listed a w 0 ?_ hph hn (by simpa using hwl)).2 _ hi
    intro j o ho hj hnl
    have hjl:j<l.length:=(List.getElem?_eq_some_iff.1 ho).1
    obtain⟨hg,-⟩:=hpure j o ho hj
    obtain⟨⟨d,hd,hdm⟩,-⟩:=chainTB_at hB ho
    have hdj:dstAt l j=some d:=by simp [dstAt,ho,hd]
    refine⟨hg,d,hd,fun a' w' hag=>?_⟩
    rw [hbd j d hjl hj hdj]
    exact(hu2 j o ho hj).2.2 hnl a' w' fun s hs=>by rw [hag s hs,hba s (hsA j o ho hj s hs)]
theorem wp_region_t {P:Program}{id:Nat}{ops:Array Oper}(l ts:List Oper)(late:List Nat){Q:Exit→Act→World→Prop}{a:Act}{w:World}(hops:ops=(l++ts).toArray)(hts:0<ts.length)(hm:P.follows .mixedOrders=true)(hB:chainTB a.tmps.size late l ts=true)
  (h:ChainT P (l++ts).toArray late a w.drew (fun a w=>wpList P (l++ts).toArray (OnlyN fun a w=>Q .normal a w) ts a w) l 0 [] []):(Code.region id ops true).wp P Q a w:=by
 subst hops
 obtain⟨Ts,Us,hF,hend⟩:=chainT_facts (l:=l) l 0 [] [] rfl (Nat.zero_le _) h ⟨rfl,rfl,fun j T hT=>by simp at hT,fun j T hT=>by simp at hT,fun j T U hT=>by simp at hT,fun j o T _ hT=>by simp at hT⟩
 refine wp_region_any hm ?_
 have hff:∀j b,j<l.length+ts.length→(Array.replicate (l++ts).toArray.size false).getD j b=false:=by
  intro j b hlt
  simp [hlt]
 refine inv1_any hts hB hF hend _ _ _ _ (by simp) (fun q hq=>hff _ _ (by omega)) ⟨_,?_,rfl⟩ ⟨Below.refl _ _,rfl,rfl,?_,fun s _=>rfl⟩ (fun j o hj=>by
  exfalso
  have h0:(Array.replicate (l++ts).toArray.size false).getD j false=false:=by
   simp only [Array.getD_eq_getD_getElem?,Array.getElem?_replicate]
   split<;>rfl
  rw [h0] at hj
  cases hj)
 ·refine Nat.le_trans List.countP_le_length ?_
  simp
 ·intro j d T hj
  exfalso
  have h0:(Array.replicate (l++ts).toArray.size false).getD j false=false:=by
   simp only [Array.getD_eq_getD_getElem?,Array.getElem?_replicate]
   split<;>rfl
  rw [h0] at hj
  cases hj
section
variable {P:Program} {ops:Array Oper} {late:List Nat} {a0:Act} {w0:World} {E:Act→World→Prop} {o:Oper} {r:List Oper} {i:Nat} {F G:List (Tmp×Fact)} {d:Tmp}
theorem t_val {u:Value}(L:List Tmp)(hi:isA late i=true)(hd:o.dst=some d)(hL:(L.all fun s=>(o.looksAt ops).contains s)=true)(hg:GuardOK ops F a0 o)
  (h:∀ρ w,Below w0.heap.size w0 w→Plain ρ→AllK F a0 w ρ L→(execOp ρ o).run P w=.ok (.value u) w) (hr:ChainT P ops late a0 w0 E r (i+1) ((d,Is u)::F) ((d,Is u)::G)):ChainT P ops late a0 w0 E (o::r) i F G:=by
 refine⟨d,Is u,Is u,hd,stable_is u,free_is u,fun _ _ h=>h,?_,hr⟩
 rw [if_pos (hi)]
 intro a w hb hk
 rw [if_pos (wanted_of hg hk)]
 unfold Oper.wp
 rw [h a.eval w hb (plain_eval a) (allK_of hk hL)]
 exact⟨u,rfl,rfl,Below.refl _ _⟩
theorem t_new {T:Fact}(U:Fact)(L:List Tmp)(hi:isA late i=true)(hd:o.dst=some d)(hL:(L.all fun s=>(o.looksAt ops).contains s)=true)(hg:GuardOK ops F a0 o)(hs:stable T)(hf:free U)(hTU:∀v w,T v w→U v w)
  (h:∀ρ w,Below w0.heap.size w0 w→Plain ρ→AllK F a0 w ρ L→∃v w',(execOp ρ o).run P w=.ok (.value v) w'∧T v w'∧Below w.heap.size w w') (hr:ChainT P ops late a0 w0 E r (i+1) ((d,T)::F) ((d,U)::G)):ChainT P ops late a0 w0 E (o::r) i F G:=by
 refine⟨d,T,U,hd,hs,hf,hTU,?_,hr⟩
 rw [if_pos (hi)]
 intro a w hb hk
 rw [if_pos (wanted_of hg hk)]
 obtain⟨v,w',h1,h2,h3⟩:=h a.eval w hb (plain_eval a) (allK_of hk hL)
 unfold Oper.wp
 rw [h1]
 exact⟨v,rfl,h2,h3⟩
theorem t_call {T:Fact}(U:Fact)(f:FuncId)(L:List Tmp)(hi:isA late i=true)(hd:o.dst=some d)(hL:(L.all fun s=>(o.looksAt ops).contains s)=true)(hg:GuardOK ops F a0 o)(hs:stable T)(hf:free U)(hTU:∀v w,T v w→U v w)
  (h:∀ρ w,Below w0.heap.size w0 w→Plain ρ→AllK F a0 w ρ L→∃args,(execOp ρ o).run P w=.ok (.enter f args) w∧Calls P f args w fun e w'=>∃v,e=.returned v∧T v w'∧Below w.heap.size w w') (hr:ChainT P ops late a0 w0 E r (i+1) ((d,T)::F) ((d,U)::G)):ChainT P ops late a0 w0 E (o::r) i F G:=by
 refine⟨d,T,U,hd,hs,hf,hTU,?_,hr⟩
 rw [if_pos (hi)]
 intro a w hb hk
 rw [if_pos (wanted_of hg hk)]
 obtain⟨args,h1,h2⟩:=h a.eval w hb (plain_eval a) (allK_of hk hL)
 unfold Oper.wp
 rw [h1]
 refine h2.mono fun e w' ⟨v,he,hT,hbel⟩=>?_
 subst he
 exact⟨v,rfl,hT,hbel⟩
theorem t_pure {u:Value}(L:List Tmp)(hi:isA late i=false)(hd:o.dst=some d)(hL:(L.all fun s=>(o.looksAt ops).contains s)=true)(hg:o.guard=none)
  (h:∀ρ w,Plain ρ→AllK G a0 w ρ L→(execOp ρ o).run P w=.ok (.value u) w) (hr:ChainT P ops late a0 w0 E r (i+1) ((d,Is u)::F) ((d,Is u)::G)):ChainT P ops late a0 w0 E (o::r) i F G:=by
 refine⟨d,Is u,Is u,hd,stable_is u,free_is u,fun _ _ h=>h,?_,hr⟩
 rw [if_neg (by rw [hi];exact Bool.false_ne_true)]
 exact⟨hg,fun _=>u,fun _ _ _=>rfl,fun a w hk=>h a.eval w (plain_eval a) (allK_of hk hL),fun _ _ _=>rfl⟩
theorem t_end_lit (n:Nat)(hn:a0.tmps.size=n)
  (h:∀(f:Tmp→Value) (w:World),Below w0.heap.size w0 w→AllN (fun s=>KnowsV F a0 w s (f s)) n 0→E { tmps:=(frameL f n 0).toArray,defers:=a0.defers } w):ChainT P ops late a0 w0 E [] i F G:=by
 intro a w hb hd hs hk
 have e:a={ tmps:=(frameL (fun s=>a.tmps.getD s undef) n 0).toArray,defers:=a0.defers }:=by
  obtain⟨tm,df⟩:=a
  simp only at hd hs
  subst hd
  congr 1
  apply Array.ext'
  apply List.ext_getElem?
  intro j
  by_cases hj:j<n
  ·rw [show ((frameL (fun s=>tm.getD s undef) n 0).toArray.toList)=frameL (fun s=>tm.getD s undef) n 0 from rfl,frameL_get _ _ _ _ hj]
   have:j<tm.size:=by omega
   simp [this]
  ·rw [show ((frameL (fun s=>tm.getD s undef) n 0).toArray.toList)=frameL (fun s=>tm.getD s undef) n 0 from rfl]
   rw [List.getElem?_eq_none (by simp;omega),List.getElem?_eq_none (by rw [frameL_length];omega)]
 rw [e]
 exact h _ w hb (allN_of n 0 fun j _ hj=>hk j (by rw [hn];omega))
end
theorem wp_region_t12_3 {P:Program}{id:Nat}{o0 o1 o2 o3 o4 o5 o6 o7 o8 o9 o10 o11 t0 t1 t2:Oper}(late:List Nat){Q:Exit→Act→World→Prop}{a:Act}{w:World}(hm:P.follows .mixedOrders=true)(hB:chainTB a.tmps.size late [o0,o1,o2,o3,o4,o5,o6,o7,o8,o9,o10,o11] [t0,t1,t2]=true)
  (h:ChainT P #[o0,o1,o2,o3,o4,o5,o6,o7,o8,o9,o10,o11,t0,t1,t2] late a w.drew (fun a w=>wpList P #[o0,o1,o2,o3,o4,o5,o6,o7,o8,o9,o10,o11,t0,t1,t2] (OnlyN fun a w=>Q .normal a w) [t0,t1,t2] a w) [o0,o1,o2,o3,o4,o5,o6,o7,o8,o9,o10,o11] 0 [] []):(Code.region id #[o0,o1,o2,o3,o4,o5,o6,o7,o8,o9,o10,o11,t0,t1,t2] true).wp P Q a w:=
 wp_region_t [o0,o1,o2,o3,o4,o5,o6,o7,o8,o9,o10,o11] [t0,t1,t2] late rfl (by simp) hm hB h
theorem wp_region_t15_2 {P:Program}{id:Nat}{o0 o1 o2 o3 o4 o5 o6 o7 o8 o9 o10 o11 o12 o13 o14 t0 t1:Oper}(late:List Nat){Q:Exit→Act→World→Prop}{a:Act}{w:World}(hm:P.follows .mixedOrders=true)(hB:chainTB a.tmps.size late [o0,o1,o2,o3,o4,o5,o6,o7,o8,o9,o10,o11,o12,o13,o14] [t0,t1]=true)
  (h:ChainT P #[o0,o1,o2,o3,o4,o5,o6,o7,o8,o9,o10,o11,o12,o13,o14,t0,t1] late a w.drew (fun a w=>wpList P #[o0,o1,o2,o3,o4,o5,o6,o7,o8,o9,o10,o11,o12,o13,o14,t0,t1] (OnlyN fun a w=>Q .normal a w) [t0,t1] a w) [o0,o1,o2,o3,o4,o5,o6,o7,o8,o9,o10,o11,o12,o13,o14] 0 [] []):(Code.region id #[o0,o1,o2,o3,o4,o5,o6,o7,o8,o9,o10,o11,o12,o13,o14,t0,t1] true).wp P Q a w:=
 wp_region_t [o0,o1,o2,o3,o4,o5,o6,o7,o8,o9,o10,o11,o12,o13,o14] [t0,t1] late rfl (by simp) hm hB h
theorem wp_region_t13_2 {P:Program}{id:Nat}{o0 o1 o2 o3 o4 o5 o6 o7 o8 o9 o10 o11 o12 t0 t1:Oper}(late:List Nat){Q:Exit→Act→World→Prop}{a:Act}{w:World}(hm:P.follows .mixedOrders=true)(hB:chainTB a.tmps.size late [o0,o1,o2,o3,o4,o5,o6,o7,o8,o9,o10,o11,o12] [t0,t1]=true)
  (h:ChainT P #[o0,o1,o2,o3,o4,o5,o6,o7,o8,o9,o10,o11,o12,t0,t1] late a w.drew (fun a w=>wpList P #[o0,o1,o2,o3,o4,o5,o6,o7,o8,o9,o10,o11,o12,t0,t1] (OnlyN fun a w=>Q .normal a w) [t0,t1] a w) [o0,o1,o2,o3,o4,o5,o6,o7,o8,o9,o10,o11,o12] 0 [] []):(Code.region id #[o0,o1,o2,o3,o4,o5,o6,o7,o8,o9,o10,o11,o12,t0,t1] true).wp P Q a w:=
 wp_region_t [o0,o1,o2,o3,o4,o5,o6,o7,o8,o9,o10,o11,o12] [t0,t1] late rfl (by simp) hm hB h
end
def cutA (A:Option Addr)(l m:Nat):Option Addr:=if m=l then A else A.map (·.add l)
theorem ri_cut {w:World}{k:IntKind}{A:Option Addr}{zs:List Int}{i c:Nat}(h:Ri w k A zs)(hc:zs.length≤c):Ri w k (cutA A i c) (zs.drop i):=by
 unfold cutA
 by_cases hi:i<zs.length
 ·rw [if_neg (by omega)]
  obtain⟨b,off,rfl,-⟩:=h.at hi
  have h2:=h.drop (n:=i) rfl
  simp only [Option.map_some,add_plain]
  exact h2
 ·rw [List.drop_of_length_le (by omega)]
  exact Ri.nil _ _ _
theorem head64 (A:Option Addr)(n c m:Nat)(h:m≤c)(w:World):(Instr.sliceAt 25 (.slice A n c) none (some (.int .i64 m)) none).run Tryz.prog w=.ok (.slice (cutA A 0 c) m c) w:=by
 have hs:=run_slice_h (P:=Tryz.prog) w 25 A n c rfl .i64 (m:Int) (by omega) (by omega)
 rw [run_sliceAt_slice (P:=Tryz.prog) w _ _ _ _ _ rfl,hs]
 rw [show Tryz.prog.elem 25=39 from rfl]
 have hz:(sizeOf 39).run Tryz.prog w=.ok 1 w:=rfl
 rw [hz]
 simp [Result.andThen,sliced,cutA]
theorem ri_head {w:World}{k:IntKind}{A:Option Addr}{zs:List Int}{c:Nat}(m:Nat)(h:Ri w k A zs)(hc:zs.length≤c):Ri w k (cutA A 0 c) (zs.take m):=by
 have h2:=(ri_cut (i:=0) h hc).take m
 rw [List.drop_zero] at h2
 exact h2
theorem head64i (A:Option Addr)(n c m:Nat)(x:Int)(hx:x=(m:Int))(h:m≤c):∀w,(Instr.sliceAt 25 (.slice A n c) none (some (.int .i64 x)) none).run Tryz.prog w=.ok (.slice (cutA A 0 c) m c) w:=by
 subst hx
 exact fun w=>head64 A n c m h w
theorem tailW (A:Option Addr)(n c i:Nat)(h:i≤n)(w:World):(Instr.sliceAt 25 (.slice A n c) (some (.int .i64 i)) none none).run Tryz.prog w=.ok (.slice (cutA A i c) (n-i) (c-i)) w:=by
 have hs:=run_slice_l (P:=Tryz.prog) w 25 A n c rfl .i64 (i:Int) (by omega) (by omega)
 rw [run_sliceAt_slice (P:=Tryz.prog) w _ _ _ _ _ rfl,hs]
 rw [show Tryz.prog.elem 25=39 from rfl]
 have hz:(sizeOf 39).run Tryz.prog w=.ok 1 w:=rfl
 rw [hz]
 simp [Result.andThen,sliced,cutA]
def sliceX (ls:List (List Int))(s a n:Int):List Int:=if inB ls s a n then sliceL ls s a n else []
theorem inB_nat {ls:List (List Int)}{s a n:Int}(h:inB ls s a n=true):∃S K N:Nat,s=S∧a=K∧n=N∧S<ls.length∧K+N≤(seg ls S).length:=by
 obtain⟨h1,h2,h3,h4,h5,h6⟩:=of_decide_eq_true h
 obtain⟨S,rfl⟩:=Int.eq_ofNat_of_zero_le h1
 obtain⟨K,rfl⟩:=Int.eq_ofNat_of_zero_le h3
 obtain⟨N,rfl⟩:=Int.eq_ofNat_of_zero_le h4
 rw [Int.toNat_natCast] at h5 h6
 exact⟨S,K,N,rfl,rfl,rfl,by omega,by omega⟩
def Fits (ls:List (List Int)):Prop:=∀j,(seg ls j).length≤17592186044415
theorem got_block {w:World}{base:Nat}{E:TypeId}{k:IntKind}{g n:Nat}{zs:List Int}(h:Got w base E k (.slice (some ⟨g,0,none⟩) n n) zs)(hl:zs.length=n):w.heap[g]?=some (.cells (zs.map (Value.int k)).toArray E (0,0)):=by
 obtain⟨h1,h2⟩:=h
 rcases h2 with ⟨h3,_⟩|⟨g',cap,cur,h3,h4,h5,h6,h7,h8,h9⟩
 ·injection h3 with e;cases e
 ·injection h3 with e1 e2 e3
  injection e1 with e1
  injection e1 with e1
  subst e1
  subst e3
  rw [h5,←h9,List.take_of_length_le (by rw [Array.length_toList];omega)]
theorem got_of_block {w:World}{base:Nat}{E:TypeId}{k:IntKind}{g n:Nat}{zs:List Int}(h:w.heap[g]?=some (.cells (zs.map (Value.int k)).toArray E (0,0)))(hb:base≤g)(hl:zs.length=n)(hm:n≤maxLen):Got w base E k (.slice (some ⟨g,0,none⟩) n n) zs:=by
 subst hl
 refine⟨by simp,.inr ⟨g,zs.length,_,rfl,hb,h,Nat.le_refl _,hm,by simp,?_⟩⟩
 rw [List.take_of_length_le (by simp)]
theorem splice_whole {α:Type}{L cs:List α}(h:cs.length=L.length):Go.splice L 0 cs=cs:=by
 simp [Go.splice,h]
theorem one_cells (k:IntKind)(zs:List Int):∀v∈zs.map (Value.int k),v.oneCell'=true:=by
 intro v hv
 obtain⟨z,_,rfl⟩:=List.mem_map.1 hv
 rfl
theorem copy_src {w:World}{k:IntKind}{A:Option Addr}{zs:List Int}{dp:Option Addr}{g:Nat}(h:Ri w k A zs)(hd:dp=some ⟨g,0,none⟩):0<(zs.map (Value.int k)).length→dp=some ⟨g,0,none⟩∧∃ad,A=some ad∧∀j v,(zs.map (Value.int k))[j]?=some v→w.cell? (ad.add j)=some v:=by
 intro h0
 rw [List.length_map] at h0
 obtain⟨b,off,rfl,hw⟩:=h.at h0
 refine⟨hd,_,rfl,fun j v hv=>?_⟩
 rw [List.getElem?_map] at hv
 cases hz:zs[j]? with
 | none=>rw [hz] at hv;cases hv
 | some z=>
  rw [hz] at hv
  have hj:j<zs.length:=by
   rcases Nat.lt_or_ge j zs.length with hlt|hge
   ·exact hlt
   ·rw [List.getElem?_eq_none hge] at hz;cases hz
  have e:v=Value.int k z:=(Option.some.inj hv).symm
  have:=hw j hj
  simp only [zat,List.getD_eq_getElem?_getD,hz,Option.getD_some] at this
  rw [e,←this]
  unfold Addr.add
  by_cases h1:j=0
  ·subst h1;rfl
  ·rw [if_neg h1]
theorem AWithin_no (A:Option Addr)(c:Nat)(ls:List (List Int))(s a n:Int)(w:World)(hs:Sg w A ls)(hm:ls.length≤140737488355328)
  (hs0:-9223372036854775808≤s) (hs1:s≤9223372036854775807) (ha0:-9223372036854775808≤a) (ha1:a≤9223372036854775807) (hn0:-9223372036854775808≤n) (hn1:n≤9223372036854775807) (hh:inB ls s a n=false) :
  Calls Tryz.prog 98 #[.slice A ls.length c,.int .i64 s,.int .i64 a,.int .i64 n] w fun e w'=>e=.returned (.tuple #[.slice none 0 0,.bool false])∧w=w':=by
 have Hs:=Lib.hid hs
 have HH:=Lib.hid hh
 clear hs hh
 by_cases h1:s<0
 ·go_enter Tryz.func98,Tryz.ntmps98
  go_wp2
  go_ret2
  exact⟨rfl,rfl⟩
 by_cases h2:(ls.length:Int)≤s
 ·go_enter Tryz.func98,Tryz.ntmps98
  go_wp2
  go_ret2
  exact⟨rfl,rfl⟩
 obtain⟨k,rfl⟩:=Int.eq_ofNat_of_zero_le (by omega:0≤s)
 obtain⟨b,off,A',c',rfl,hcell,hri,-,hc1,hc2⟩:=Hs.out.one (i:=k) (by omega)
 clear hri
 have hk2:(k:Int)<(ls.length:Int):=by omega
 by_cases h3:a<0
 ·go_enter Tryz.func98,Tryz.ntmps98
  go_wp2
  go_ret2
  exact⟨rfl,rfl⟩
 by_cases h4:n<0
 ·go_enter Tryz.func98,Tryz.ntmps98
  go_wp2
  go_ret2
  exact⟨rfl,rfl⟩
 have h5:((seg ls k).length:Int)-a<n:=by
  have h:=HH.out
  unfold inB at h
  rw [decide_eq_false_iff_not,Int.toNat_natCast] at h
  omega
 go_enter Tryz.func98,Tryz.ntmps98
 go_wp2
 go_ret2
 exact⟨rfl,rfl⟩
theorem AWithin_yes (A:Option Addr)(c:Nat)(ls:List (List Int))(S K n:Nat)(w:World)(hs:Sg w A ls)(hm:ls.length≤140737488355328)(hS:S<ls.length)(hK:K+n≤(seg ls S).length)(hh:inB ls S K n=true):
  Calls Tryz.prog 98 #[.slice A ls.length c,.int .i64 S,.int .i64 K,.int .i64 n] w fun e w'=>∃A' c',e=.returned (.tuple #[.slice A' n c',.bool true])∧w=w'∧Ri w .u64 A' (sliceL ls S K n)∧n≤c'∧c'≤9223372036854775807:=by
 have HL0:=sliceL_length hh
 have HL:Hid ((sliceL ls S K n).length=n):=Lib.hid (by omega)
 have HZ:Hid (sliceL ls S K n=((seg ls S).drop K).take n):=Lib.hid (by
  unfold sliceL
  rw [Int.toNat_natCast,Int.toNat_natCast,Int.toNat_natCast])
 have Hs:=Lib.hid hs
 clear hs hh HL0
 obtain⟨b,off,A',c',rfl,hcell,hri,hno,hc1,hc2⟩:=Hs.out.one hS
 have HR:=Lib.hid hri
 clear hri
 have hS1:(S:Int)<(ls.length:Int):=by omega
 have h5:¬((seg ls S).length:Int)-K<n:=by omega
 by_cases h0:n=0
 ·subst h0
  have H0:Hid (sliceL ls S K 0=[]):=Lib.hid (List.eq_nil_of_length_eq_zero HL.out)
  clear HZ HL
  by_cases hcap:c'=K
  ·clear hno
   go_enter Tryz.func98,Tryz.ntmps98
   go_wp2
   go_ret2
   refine⟨_,_,rfl,rfl,?_,by omega⟩
   rw [H0.out]
   exact Ri.nil _ _ _
  ·cases A' with
   | none=>exact absurd (hno rfl) (by omega)
   | some p=>
    clear hno
    go_enter Tryz.func98,Tryz.ntmps98
    go_wp2
    go_ret2
    refine⟨_,_,rfl,rfl,?_,by omega⟩
    rw [H0.out]
    exact Ri.nil _ _ _
 ·obtain⟨g,o,rfl,-⟩:=HR.out.at (i:=0) (by omega)
  clear hno
  have hcap:c'≠K:=by omega
  go_enter Tryz.func98,Tryz.ntmps98
  go_wp2
  go_ret2
  refine⟨_,_,rfl,rfl,?_,by omega,by omega⟩
  rw [HZ.out]
  exact(HR.out.drop rfl).take n
theorem AInF_any (A:Option Addr)(c:Nat)(ls:List (List Int))(s a n:Int)(w:World)(hs:Sg w A ls)(hm:ls.length≤140737488355328)
  (hs0:-9223372036854775808≤s) (hs1:s≤9223372036854775807) (ha0:-9223372036854775808≤a) (ha1:a≤9223372036854775807) (hn0:-9223372036854775808≤n) (hn1:n≤9223372036854775807) :
  Calls Tryz.prog 122 #[.slice A ls.length c,.int .i64 s,.int .i64 a,.int .i64 n] w fun e w'=>e=.returned (.bool (inB ls s a n))∧w=w':=by
 cases hi:inB ls s a n with
 | true=>
  obtain⟨S,K,N,rfl,rfl,rfl,hS,hK⟩:=inB_nat hi
  have HI:=Lib.hid (AWithin_yes A c ls S K N w hs hm hS hK hi)
  clear hs hi
  go_enter Tryz.func122,Tryz.ntmps122
  go_wp2_with fail
  refine HI.out.mono ?_
  rintro e w' ⟨A',c',rfl,rfl,-,-,-⟩
  go_wp2
  go_ret
  exact⟨rfl,rfl⟩
 | false=>
  have HI:=Lib.hid (AWithin_no A c ls s a n w hs hm hs0 hs1 ha0 ha1 hn0 hn1 hi)
  clear hs hi
  go_enter Tryz.func122,Tryz.ntmps122
  go_wp2_with fail
  refine HI.out.mono ?_
  rintro e w' ⟨rfl,rfl⟩
  go_wp2
  go_ret
  exact⟨rfl,rfl⟩
theorem hasB_inB (ls:List (List Int))(s a:Int):hasB ls s a=inB ls s a 1:=by
 unfold hasB inB
 rw [decide_eq_decide]
 constructor<;>intro h<;>omega
theorem AWordF_any (A:Option Addr)(c:Nat)(ls:List (List Int))(s a:Int)(w:World)(hs:Sg w A ls)(hm:ls.length≤140737488355328)
  (hs0:-9223372036854775808≤s) (hs1:s≤9223372036854775807) (ha0:-9223372036854775808≤a) (ha1:a≤9223372036854775807) :
  Calls Tryz.prog 75 #[.slice A ls.length c,.int .i64 s,.int .i64 a] w fun e w'=>e=.returned (.tuple #[.int .u64 (wordV ls s a),.bool (hasB ls s a)])∧w=w':=by
 cases hi:inB ls s a 1 with
 | true=>
  have hB:hasB ls s a=true:=(hasB_inB ls s a).trans hi
  obtain⟨S,K,N,rfl,rfl,h1,hS,hK⟩:=inB_nat hi
  obtain rfl:N=1:=by omega
  have HI:=Lib.hid (AWithin_yes A c ls S K 1 w hs hm hS hK hi)
  have HV:Hid (wordV ls S K=zat (sliceL ls S K (1:Nat)) 0):=Lib.hid (by
   unfold wordV sliceL
   rw [if_pos hB,Int.toNat_natCast,Int.toNat_natCast,Int.toNat_natCast,zat_take _ _ _ (by omega),zat_drop]
   rfl)
  have HL:Hid ((sliceL ls S K (1:Nat)).length=1):=Lib.hid (by have h:=sliceL_length hi;exact Int.ofNat.inj h)
  have HB:=Lib.hid hB
  clear hs hi hB h1
  generalize wordV ls S K=x at *
  go_enter Tryz.func75,Tryz.ntmps75
  go_wp2_with fail
  refine HI.out.mono ?_
  rintro e w' ⟨A',c',rfl,rfl,hri,h2,h3⟩
  obtain⟨g,o,rfl,hw⟩:=hri.at (i:=0) (by rw [HL.out];omega)
  have hword:=hw 0 (by rw [HL.out];omega)
  rw [←HV.out,Nat.add_zero] at hword
  clear hw hri
  go_wp2
  go_ret2
  exact⟨by rw [HB.out];rfl,rfl⟩
 | false=>
  have hB:hasB ls s a=false:=(hasB_inB ls s a).trans hi
  have HV:Hid (wordV ls s a=0):=Lib.hid (by unfold wordV;rw [if_neg (by rw [hB];exact Bool.false_ne_true)])
  have HB:=Lib.hid hB
  have HI:=Lib.hid (AWithin_no A c ls s a 1 w hs hm hs0 hs1 ha0 ha1 (by omega) (by omega) hi)
  clear hs hi hB
  go_enter Tryz.func75,Tryz.ntmps75
  go_wp2_with fail
  refine HI.out.mono ?_
  rintro e w' ⟨rfl,rfl⟩
  go_wp2
  go_ret2
  exact⟨by rw [HV.out,HB.out];rfl,rfl⟩
theorem AWord_any (A:Option Addr)(c:Nat)(ls:List (List Int))(s a:Int)(w:World)(hs:Sg w A ls)(hm:ls.length≤140737488355328)(hf:Fits ls)
  (hs0:-9223372036854775808≤s) (hs1:s≤9223372036854775807) (ha0:-9223372036854775808≤a) (ha1:a≤9223372036854775807) :
  Calls Tryz.prog 75 #[.slice A ls.length c,.int .i64 s,.int .i64 a] w fun e w'=>e=.returned (.tuple #[.int .u64 (wordV ls s a),.bool (hasB ls s a)])∧w=w':=
 AWordF_any A c ls s a w hs hm hs0 hs1 ha0 ha1
set_option maxRecDepth 100000 in
theorem ASlice_any (A:Option Addr)(c:Nat)(ls:List (List Int))(s a n:Int)(w:World)(hs:Sg w A ls)(hm:ls.length≤140737488355328)(hf:Fits ls)
    (hs0:-9223372036854775808≤s) (hs1:s≤9223372036854775807) (ha0:-9223372036854775808≤a) (ha1:a≤9223372036854775807) (hn0:-9223372036854775808≤n) (hn1:n≤9223372036854775807) :
    Calls Tryz.prog 73 #[.slice A ls.length c,.int .i64 s,.int .i64 a,.int .i64 n] w fun e w'=>∃v,e=.returned (.tuple #[v,.bool (inB ls s a n)])∧Got w' w.heap.size 39 .u64 v (sliceX ls s a n)∧Below w.heap.size w w':=by
  cases hi:inB ls s a n with
  | true=>
    obtain⟨S,K,N,rfl,rfl,rfl,hS,hK⟩:=inB_nat hi
    obtain⟨i0,hi0,hz0,hz1,hz2⟩:=info_parts int64_info
    have hN:=hf S
    have HI:=Lib.hid (AWithin_yes A c ls S K N w hs hm hS hK hi)
    have HX:Hid (sliceX ls S K N=sliceL ls S K N):=Lib.hid (by unfold sliceX;rw [if_pos hi])
    have HL:Hid ((sliceL ls S K N).length=N):=Lib.hid (by have:=sliceL_length hi;omega)
    clear hs hi hf
    generalize sliceL ls S K N=xs at *
    go_enter Tryz.func73,Tryz.ntmps73
    go_wp2_with fail
    refine HI.out.mono ?_
    rintro e w' ⟨A',c',rfl,rfl,hri,h2,h3⟩
    have HR:=Lib.hid hri
    clear hri
    go_wp2_with (first
      | (at_make;refine wpList_make_full _ rfl _ _ 25 rfl w.heap.size 39 i0 (.int .u64 0) 1 Tryz.underlying25 hi0 hz0 hz1 .i64 .i64 _ _ N rfl rfl (by omega) (by omega) (by rw [hz2];omega) (by unfold maxLen;omega) (Nat.le_refl _) ?_;intro w0 hown0 hgrow0
         have hb0:Below w.heap.size w w0:=(Below.refl _ _).grown hgrow0 (Nat.le_refl _) (by simp)
         have HBK:=Lib.hid (got_block (got_made hown0) (List.length_replicate ..))
         have HRC:=Lib.hid (HR.out.below hb0 (Nat.le_refl _))
         have HB0:=Lib.hid hb0
         clear hown0 hgrow0 hb0)
      | (refine wpList_copy_splice rfl (.tmp 26) (.tmp 27) 25 25 rfl 39 rfl rfl _ _ _ _ _ _ rfl rfl w.heap.size 0 _ _ HBK.out (xs.map (Value.int .u64)) (by rw [List.length_map,HL.out];exact(Nat.min_self N).symm) (copy_src HRC.out rfl) (by rw [List.length_map,List.length_map,List.length_replicate,HL.out];omega) (one_cells _ _) w.heap.size w HB0.out (Nat.le_refl _) ?_;intro w2 HG2 hB2))
    go_ret2
    refine⟨_,rfl,?_,hB2⟩
    rw [HX.out]
    refine(got_of_block (n:=N) ?_ (Nat.le_refl _) HL.out (by unfold maxLen;omega))
    have h:=HG2.out
    rw [splice_whole (by rw [List.length_map,List.length_map,List.length_replicate,HL.out])] at h
    exact h
  | false=>
    have HI:=Lib.hid (AWithin_no A c ls s a n w hs hm hs0 hs1 ha0 ha1 hn0 hn1 hi)
    have HX:Hid (sliceX ls s a n=[]):=Lib.hid (by unfold sliceX;rw [if_neg (by rw [hi];exact Bool.false_ne_true)])
    clear hs hi hf
    go_enter Tryz.func73,Tryz.ntmps73
    go_wp2_with fail
    refine HI.out.mono ?_
    rintro e w' ⟨rfl,rfl⟩
    go_wp2
    go_ret2
    exact⟨_,rfl,by rw [HX.out];exact Got.empty _ _ _ _,Below.refl _ _⟩
theorem Sg.lit {w:World}(vs:List Value)(ls:List (List Int))(T:TypeId)(h:∀j,j<ls.length→∃v,vs[j]?=some v∧Holds w v (seg ls j)):
  Sg (w.alloc (.cells vs.toArray T)) (some ⟨w.heap.size,0,none⟩) ls:=by
 refine .inr ⟨w.heap.size,0,rfl,fun j hj=>?_⟩
 obtain⟨v,hv,hh⟩:=h j hj
 refine⟨v,?_,hh.below ((Below.refl _ _).alloc (Nat.le_refl _) _) (Nat.le_refl _)⟩
 rw [World.cell?_alloc_new]
 simpa using hv
theorem Holds.lit (w:World)(zs:List Int)(T:TypeId)(n:Nat)(hn:n=zs.length)(hm:n≤maxLen):Holds (w.alloc (.cells (zs.map (Value.int .u64)).toArray T)) (.slice (some ⟨w.heap.size,0,none⟩) n n) zs:=by
 subst hn
 exact⟨_,_,rfl,Ri.lit w .u64 zs T,(fun h=>by cases h),Nat.le_refl _,hm⟩
theorem Holds.alloc {w:World}{v:Value}{l:List Int}(h:Holds w v l)(o:Obj):Holds (w.alloc o) v l:=h.below ((Below.refl _ _).alloc (Nat.le_refl _) o) (Nat.le_refl _)
theorem sg_lit1 (w:World)(v:Value)(z:List Int)(T:TypeId)(n:Nat)(hn:w.heap.size=n)(h:Holds w v z):Sg (w.alloc (.cells #[v] T)) (some ⟨n,0,none⟩) [z]:=by
 subst hn
 exact Sg.lit [v] [z] T (by
  intro j hj
  match j,hj with
  | 0,_=>exact⟨_,rfl,h⟩
  | n+1,h=>exact absurd h (by simp))
end Go.Proofs.YtfaflahfjgnphaaGreatDoor
