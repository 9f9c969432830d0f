/- The texts Ref05 (what is wanted of them), one after the other. -/
import Derived.Test.YtclpapddejgpnaaDoorMg11
namespace Go.Proofs.YtclpapddejgpnaaDoor
open Go.ChangeShapes Go.WideShapes Go.ChangeAt Go.RowKit
set_option linter.unusedVariables false
set_option linter.unusedSimpArgs false
set_option maxRecDepth 100000
theorem Few_any (A:Option Addr)(c:Nat)(ls:List (List Int))(w:World)(hs:Sg w A ls)(hm:ls.length≤9223372036854775807):
  Calls Tryd.prog 17 #[.slice A ls.length c] w fun e w'=>e=.returned (.bool (fewB ls))∧w=w':=by
 have Hs:=Lib.hid hs
 clear hs
 go_enter Tryd.func17,Tryd.ntmps17
 go_wp2
 go_loop [3] (fun i=>∃k:Nat,k≤ls.length∧i=.int .i64 k∧∀j,j<k→(seg ls j).length≤300) (fun i=>ls.length-(intOf i).toNat)
 case atStart=>exact⟨0,by omega,rfl,by intro j hj;omega⟩
 case round=>
  obtain⟨k,hk,rfl,hfew⟩:=hrel
  have HF:=Lib.hid hfew
  clear hfew
  by_cases hlt:k<ls.length
  ·obtain⟨b,off,A',c',rfl,hcell,hri,-,-,-⟩:=Hs.out.one hlt
   have hi1:(k:Int)<(ls.length:Int):=by omega
   clear hri
   by_cases h3:(seg ls k).length≤300
   ·have h4:¬(300:Int)<((seg ls k).length:Int):=by omega
    have H3:=Lib.hid h3
    go_wp2
    go_round
    case rel=>exact⟨k+1,by omega,by go_num,fun j hj=>by
     by_cases e:j=k
     ·subst e;exact H3.out
     ·exact HF.out j (by omega)⟩
    case measure=>simp [intOf];omega
   ·have h4:(300:Int)<((seg ls k).length:Int):=by omega
    have HR:Hid (fewB ls=false):=Lib.hid (by
     unfold fewB
     simp
     intro hh
     exact absurd (hh k hlt) h3)
    go_wp2
    go_ret
    exact⟨by rw [HR.out];rfl,rfl⟩
  ·obtain rfl:k=ls.length:=by omega
   have HR:Hid (fewB ls=decide ((ls.length:Int)≤20)):=Lib.hid (by
    unfold fewB
    rw [decide_eq_decide]
    constructor
    ·intro h;omega
    ·intro h;exact⟨HF.out,by omega⟩)
   go_wp2
   go_ret
   exact⟨by rw [HR.out];rfl,rfl⟩
theorem RefInBounds_any (A:Option Addr)(c:Nat)(ls:List (List Int))(s a n:Int)(w:World)(hs:Sg w A ls)(hm:ls.length≤140737488355328):
  Calls Tryd.prog 69 #[.slice A ls.length c,.int .i64 s,.int .i64 a,.int .i64 n] w fun e w'=>e=.returned (.bool (inB ls s a n))∧w=w':=by
 have Hs:=Lib.hid hs
 clear hs
 by_cases h1:s<0
 ·have HR:Hid (inB ls s a n=false):=Lib.hid (by unfold inB;simp;omega)
  go_enter Tryd.func69,Tryd.ntmps69
  go_wp2
  go_ret
  exact⟨by rw [HR.out];rfl,rfl⟩
 by_cases h2:(ls.length:Int)≤s
 ·have HR:Hid (inB ls s a n=false):=Lib.hid (by unfold inB;simp;omega)
  go_enter Tryd.func69,Tryd.ntmps69
  go_wp2
  go_ret
  exact⟨by rw [HR.out];rfl,rfl⟩
 by_cases h3:a<0
 ·have HR:Hid (inB ls s a n=false):=Lib.hid (by unfold inB;simp;omega)
  go_enter Tryd.func69,Tryd.ntmps69
  go_wp2
  go_ret
  exact⟨by rw [HR.out];rfl,rfl⟩
 by_cases h4:n<0
 ·have HR:Hid (inB ls s a n=false):=Lib.hid (by unfold inB;simp;omega)
  go_enter Tryd.func69,Tryd.ntmps69
  go_wp2
  go_ret
  exact⟨by rw [HR.out];rfl,rfl⟩
 obtain⟨k,rfl⟩:=Int.eq_ofNat_of_zero_le (by omega:0≤s)
 obtain⟨b,off,A',c',rfl,hcell,hri,-,hc1,hc2⟩:=Hs.out.one (i:=k) (by omega)
 clear hri
 have hk2:(k:Int)<(ls.length:Int):=by omega
 by_cases h5:a≤(seg ls k).length
 ·have HR:Hid (inB ls k a n=decide (n≤(seg ls k).length-a)):=Lib.hid (by
   unfold inB
   rw [decide_eq_decide,Int.toNat_natCast]
   constructor
   ·intro h;omega
   ·intro h;omega)
  go_enter Tryd.func69,Tryd.ntmps69
  go_wp2
  go_ret
  exact⟨by rw [HR.out];rfl,rfl⟩
 ·have HR:Hid (inB ls k a n=false):=Lib.hid (by unfold inB;simp;omega)
  go_enter Tryd.func69,Tryd.ntmps69
  go_wp2
  go_ret
  exact⟨by rw [HR.out];rfl,rfl⟩
theorem RefWord_no (A:Option Addr)(c:Nat)(ls:List (List Int))(s a:Int)(w:World)(hs:Sg w A ls)(hm:ls.length≤140737488355328)(hh:hasB ls s a=false):
  Calls Tryd.prog 70 #[.slice A ls.length c,.int .i64 s,.int .i64 a] w fun e w'=>e=.returned (.tuple #[.int .u64 0,.bool false])∧w=w':=by
 have Hs:=Lib.hid hs
 have hno:∀i q:Nat,i<ls.length→q<(seg ls i).length→(i:Int)=s→(q:Int)=a→False:=by
  intro i q h1 h2 h3 h4
  subst h3 h4
  unfold hasB at hh
  rw [decide_eq_false_iff_not,Int.toNat_natCast] at hh
  omega
 have HN:=Lib.hid hno
 clear hs hno hh
 go_enter Tryd.func70,Tryd.ntmps70
 go_wp2
 go_loop [8] (fun x=>∃i:Nat,i≤ls.length∧x=.int .i64 i) (fun x=>ls.length-(intOf x).toNat)
 case atStart=>exact⟨0,by omega,rfl⟩
 case round=>
  obtain⟨i,hi,rfl⟩:=hrel
  by_cases hlt:i<ls.length
  ·obtain⟨b,off,A',c',rfl,hcell,hri,-,hc1,hc2⟩:=Hs.out.one hlt
   have hi1:(i:Int)<(ls.length:Int):=by omega
   clear hri
   go_wp2
   go_loop [9] (fun x=>∃q:Nat,q≤(seg ls i).length∧x=.int .i64 q) (fun x=>(seg ls i).length-(intOf x).toNat)
   case atStart=>exact⟨0,by omega,rfl⟩
   case round=>
    obtain⟨q,hq,rfl⟩:=hrel
    by_cases hlt2:q<(seg ls i).length
    ·have hq1:(q:Int)<((seg ls i).length:Int):=by omega
     by_cases e1:(i:Int)=s
     ·have e2:((q:Int)==a)=false:=by rw [beq_eq_false_iff_ne];exact fun h=>HN.out i q hlt hlt2 e1 h
      have e3:((i:Int)==s)=true:=by rw [beq_iff_eq];exact e1
      clear e1
      go_wp2
      go_round
      case rel=>exact⟨q+1,by omega,by go_num⟩
      case measure=>simp [intOf];omega
     ·have e3:((i:Int)==s)=false:=by rw [beq_eq_false_iff_ne];exact e1
      clear e1
      go_wp2
      go_round
      case rel=>exact⟨q+1,by omega,by go_num⟩
      case measure=>simp [intOf];omega
    ·have hq1:¬(q:Int)<((seg ls i).length:Int):=by omega
     go_wp2
     go_round
     case rel=>exact⟨i+1,by omega,by go_num⟩
     case measure=>simp [intOf];omega
  ·obtain rfl:i=ls.length:=by omega
   go_wp2
   go_ret2
   exact⟨rfl,rfl⟩
theorem RefWord_yes (A:Option Addr)(c:Nat)(ls:List (List Int))(S K:Nat)(w:World)(hs:Sg w A ls)(hm:ls.length≤140737488355328)(hS:S<ls.length)(hK:K<(seg ls S).length):
  Calls Tryd.prog 70 #[.slice A ls.length c,.int .i64 S,.int .i64 K] w fun e w'=>e=.returned (.tuple #[.int .u64 (zat (seg ls S) K),.bool true])∧w=w':=by
 have Hs:=Lib.hid hs
 clear hs
 go_enter Tryd.func70,Tryd.ntmps70
 go_wp2
 go_loop [8] (fun x=>∃i:Nat,i≤S∧x=.int .i64 i) (fun x=>ls.length-(intOf x).toNat)
 case atStart=>exact⟨0,by omega,rfl⟩
 case round=>
  obtain⟨i,hi,rfl⟩:=hrel
  have hlt:i<ls.length:=by omega
  obtain⟨b,off,A',c',rfl,hcell,hri,-,hc1,hc2⟩:=Hs.out.one hlt
  have hi1:(i:Int)<(ls.length:Int):=by omega
  by_cases e1:i=S
  ·subst e1
   obtain⟨b2,off2,rfl,hw⟩:=hri.at hK
   have hword:=hw K hK
   clear hw hri
   go_wp2
   go_loop [9] (fun x=>∃q:Nat,q≤K∧x=.int .i64 q) (fun x=>(seg ls i).length-(intOf x).toNat)
   case atStart=>exact⟨0,by omega,rfl⟩
   case round=>
    obtain⟨q,hq,rfl⟩:=hrel
    have hq1:(q:Int)<((seg ls i).length:Int):=by omega
    by_cases e2:q=K
    ·subst e2
     go_wp2
     go_ret2
     exact⟨rfl,rfl⟩
    ·have e3:((q:Int)==(K:Int))=false:=by rw [beq_eq_false_iff_ne];omega
     go_wp2
     go_round
     case rel=>exact⟨q+1,by omega,by go_num⟩
     case measure=>simp [intOf];omega
  ·have e3:((i:Int)==(S:Int))=false:=by rw [beq_eq_false_iff_ne];omega
   clear hri
   go_wp2
   go_loop [9] (fun x=>∃q:Nat,q≤(seg ls i).length∧x=.int .i64 q) (fun x=>(seg ls i).length-(intOf x).toNat)
   case atStart=>exact⟨0,by omega,rfl⟩
   case round=>
    obtain⟨q,hq,rfl⟩:=hrel
    by_cases hlt2:q<(seg ls i).length
    ·have hq1:(q:Int)<((seg ls i).length:Int):=by omega
     go_wp2
     go_round
     case rel=>exact⟨q+1,by omega,by go_num⟩
     case measure=>simp [intOf];omega
    ·have hq1:¬(q:Int)<((seg ls i).length:Int):=by omega
     go_wp2
     go_round
     case rel=>exact⟨i+1,by omega,by go_num⟩
     case measure=>simp [intOf];omega
theorem RefWord_any (A:Option Addr)(c:Nat)(ls:List (List Int))(s a:Int)(w:World)(hs:Sg w A ls)(hm:ls.length≤140737488355328):
  Calls Tryd.prog 70 #[.slice A ls.length c,.int .i64 s,.int .i64 a] w fun e w'=>e=.returned (.tuple #[.int .u64 (wordV ls s a),.bool (hasB ls s a)])∧w=w':=by
 cases hh:hasB ls s a
 ·exact(RefWord_no A c ls s a w hs hm hh).mono fun e w' ⟨h1,h2⟩=>⟨h1.trans (by simp [wordV,hh]),h2⟩
 ·have h:=hh
  unfold hasB at h
  have h2:=of_decide_eq_true h
  obtain⟨S,rfl⟩:=Int.eq_ofNat_of_zero_le h2.1
  obtain⟨K,rfl⟩:=Int.eq_ofNat_of_zero_le h2.2.2.1
  rw [Int.toNat_natCast] at h2
  exact(RefWord_yes A c ls S K w hs hm (by omega) (by omega)).mono fun e w' ⟨h3,h4⟩=>⟨h3.trans (by simp [wordV,hh]),h4⟩
theorem sliceL_length {ls:List (List Int)}{s a n:Int}(h:inB ls s a n=true):((sliceL ls s a n).length:Int)=n:=by
 have h2:=of_decide_eq_true h
 unfold sliceL
 rw [List.length_take,List.length_drop]
 omega
theorem RefSlice_no (A:Option Addr)(c:Nat)(ls:List (List Int))(s a n:Int)(w:World)(hs:Sg w A ls)(hm:ls.length≤140737488355328)(hh:inB ls s a n=false):
  Calls Tryd.prog 56 #[.slice A ls.length c,.int .i64 s,.int .i64 a,.int .i64 n] w fun e w'=>e=.returned (.tuple #[.slice none 0 0,.bool false])∧w=w':=by
 have HH:=Lib.hid hh
 clear hh
 go_enter Tryd.func56,Tryd.ntmps56
 go_wp2_with fail
 refine(RefInBounds_any _ _ _ _ _ _ _ hs hm).mono ?_
 rintro e w' ⟨rfl,rfl⟩
 rw [HH.out]
 go_wp2
 go_ret2
 exact⟨rfl,rfl⟩
set_option maxRecDepth 100000 in
theorem RefSlice_yes (A:Option Addr)(c:Nat)(ls:List (List Int))(S K n:Nat)(w:World)(hs:Sg w A ls)(hm:ls.length≤140737488355328)(hS:S<ls.length)(hK:K+n≤(seg ls S).length)(hlen:(seg ls S).length≤17592186044415)(hh:inB ls S K n=true):
  Calls Tryd.prog 56 #[.slice A ls.length c,.int .i64 S,.int .i64 K,.int .i64 n] w fun e w'=>∃v,e=.returned (.tuple #[v,.bool true])∧Got w' w.heap.size 32 .u64 v (sliceL ls S K n)∧Below w.heap.size w w':=by
 obtain⟨i0,hi,hz0,hz1,hz2⟩:=info_parts int64_info
 have HL0:=sliceL_length hh
 have HL:Hid ((sliceL ls S K n).length=n):=Lib.hid (by omega)
 have HZ:Hid (∀q,q<n→zat (sliceL ls S K n) q=zat (seg ls S) (K+q)):=Lib.hid (by
  intro q hq
  unfold sliceL
  rw [Int.toNat_natCast,Int.toNat_natCast,Int.toNat_natCast,zat_take _ _ _ hq,zat_drop])
 have Hs:=Lib.hid hs
 have HH:=Lib.hid hh
 clear hs hh HL0
 go_enter Tryd.func56,Tryd.ntmps56
 go_wp2_with fail
 refine(RefInBounds_any _ _ _ _ _ _ _ Hs.out hm).mono ?_
 rintro e w' ⟨rfl,rfl⟩
 rw [HH.out]
 go_wp2
 go_loopw [10,11] (fun v x wr=>∃q:Nat,q≤n∧x=.int .i64 q∧Got wr w.heap.size 32 .u64 v ((sliceL ls S K n).take q)∧Below w.heap.size w wr) (fun _ x _=>n-(intOf x).toNat)
 case atStart=>exact⟨0,by omega,rfl,Got.empty _ _ _ _,Below.refl _ _⟩
 case round=>
  obtain⟨q,hq,rfl,hgk,hbk⟩:=hrel
  by_cases hlt:q<n
  ·have hsg:=Hs.out.below hbk (Nat.le_refl _)
   obtain⟨b,off,A',c',rfl,hcell,hri,-,hc1,hc2⟩:=hsg.one hS
   obtain⟨b2,off2,rfl,hw⟩:=hri.at (i:=K+q) (by omega)
   have hword:=hw (K+q) (by omega)
   have hq1:(q:Int)<(n:Int):=by omega
   have hq2:(K:Int)+q<((seg ls S).length:Int):=by omega
   have hS1:(S:Int)<(ls.length:Int):=by omega
   have HLK:Hid (((sliceL ls S K n).take q).length=q):=Lib.hid (by rw [List.length_take,HL.out];omega)
   have HT:Hid ((sliceL ls S K n).take (q+1)=(sliceL ls S K n).take q++[zat (seg ls S) (K+q)]):=Lib.hid (by rw [take_succ_zat _ _ (by rw [HL.out];omega),HZ.out q hlt])
   have hsz:=hbk.size
   have HB:=Lib.hid hbk
   clear hsg hri hw hbk
   go_wp2_with (at_builtin;refine wpList_app1 rfl (.tmp 23) (.tmp 33) 22 rfl Tryd.underlying22 hi hz0 hz1 hz2 rfl hgk rfl (by rw [HLK.out];unfold maxLen;omega) (by rw [HLK.out];omega) hsz ?_;intro v1 w1 hg1 hb1)
   go_roundw
   case rel=>exact⟨q+1,by omega,by go_num,by rw [HT.out];exact hg1,HB.out.trans hb1⟩
   case measure=>simp [intOf];omega
  ·obtain rfl:q=n:=by omega
   go_wp2
   go_ret2
   exact⟨_,rfl,hgk.cast rfl (by rw [List.take_of_length_le (by rw [HL.out];omega)]),hbk⟩
end Go.Proofs.YtclpapddejgpnaaDoor
