/- The texts Ref05, NodeO, Ref11, Ref10d, NodeZ, Arena, TrimA, TrimP (what is wanted of them), one after the other. -/
import Derived.Test.YtbpmeppdjicmhaaGreatDoorMg3
import Derived.Test.YtbpmeppdjicmhaaGreatDoorMg9
import Derived.Laws.CopyOwn
import Derived.Lib.SliceRun
namespace Go.Proofs.YtbpmeppdjicmhaaGreatDoor
open Go.ChangeShapes Go.WideShapes Go.ChangeAt Go.RowKit
set_option linter.unusedVariables false
set_option linter.unusedSimpArgs false
set_option maxRecDepth 100000
theorem Few_any (A:Option Addr)(c:Nat)(ls:List (List Int))(w:World)(hs:Sg w A ls)(hm:ls.length≤9223372036854775807):
  Calls Tryz.prog 20 #[.slice A ls.length c] w fun e w'=>e=.returned (.bool (fewB ls))∧w=w':=by
 have Hs:=Lib.hid hs
 clear hs
 go_enter Tryz.func20,Tryz.ntmps20
 go_wp2
 go_loop [3] (fun i=>∃k:Nat,k≤ls.length∧i=.int .i64 k∧∀j,j<k→(seg ls j).length≤300) (fun i=>ls.length-(intOf i).toNat)
 case atStart=>exact⟨0,by omega,rfl,by intro j hj;omega⟩
 case round=>
  obtain⟨k,hk,rfl,hfew⟩:=hrel
  have HF:=Lib.hid hfew
  clear hfew
  by_cases hlt:k<ls.length
  ·obtain⟨b,off,A',c',rfl,hcell,hri,-,-,-⟩:=Hs.out.one hlt
   have hi1:(k:Int)<(ls.length:Int):=by omega
   clear hri
   by_cases h3:(seg ls k).length≤300
   ·have h4:¬(300:Int)<((seg ls k).length:Int):=by omega
    have H3:=Lib.hid h3
    go_wp2
    go_round
    case rel=>exact⟨k+1,by omega,by go_num,fun j hj=>by
     by_cases e:j=k
     ·subst e;exact H3.out
     ·exact HF.out j (by omega)⟩
    case measure=>simp [intOf];omega
   ·have h4:(300:Int)<((seg ls k).length:Int):=by omega
    have HR:Hid (fewB ls=false):=Lib.hid (by
     unfold fewB
     simp
     intro hh
     exact absurd (hh k hlt) h3)
    go_wp2
    go_ret
    exact⟨by rw [HR.out];rfl,rfl⟩
  ·obtain rfl:k=ls.length:=by omega
   have HR:Hid (fewB ls=decide ((ls.length:Int)≤20)):=Lib.hid (by
    unfold fewB
    rw [decide_eq_decide]
    constructor
    ·intro h;omega
    ·intro h;exact⟨HF.out,by omega⟩)
   go_wp2
   go_ret
   exact⟨by rw [HR.out];rfl,rfl⟩
theorem RefInBounds_any (A:Option Addr)(c:Nat)(ls:List (List Int))(s a n:Int)(w:World)(hs:Sg w A ls)(hm:ls.length≤140737488355328):
  Calls Tryz.prog 65 #[.slice A ls.length c,.int .i64 s,.int .i64 a,.int .i64 n] w fun e w'=>e=.returned (.bool (inB ls s a n))∧w=w':=by
 have Hs:=Lib.hid hs
 clear hs
 by_cases h1:s<0
 ·have HR:Hid (inB ls s a n=false):=Lib.hid (by unfold inB;simp;omega)
  go_enter Tryz.func65,Tryz.ntmps65
  go_wp2
  go_ret
  exact⟨by rw [HR.out];rfl,rfl⟩
 by_cases h2:(ls.length:Int)≤s
 ·have HR:Hid (inB ls s a n=false):=Lib.hid (by unfold inB;simp;omega)
  go_enter Tryz.func65,Tryz.ntmps65
  go_wp2
  go_ret
  exact⟨by rw [HR.out];rfl,rfl⟩
 by_cases h3:a<0
 ·have HR:Hid (inB ls s a n=false):=Lib.hid (by unfold inB;simp;omega)
  go_enter Tryz.func65,Tryz.ntmps65
  go_wp2
  go_ret
  exact⟨by rw [HR.out];rfl,rfl⟩
 by_cases h4:n<0
 ·have HR:Hid (inB ls s a n=false):=Lib.hid (by unfold inB;simp;omega)
  go_enter Tryz.func65,Tryz.ntmps65
  go_wp2
  go_ret
  exact⟨by rw [HR.out];rfl,rfl⟩
 obtain⟨k,rfl⟩:=Int.eq_ofNat_of_zero_le (by omega:0≤s)
 obtain⟨b,off,A',c',rfl,hcell,hri,-,hc1,hc2⟩:=Hs.out.one (i:=k) (by omega)
 clear hri
 have hk2:(k:Int)<(ls.length:Int):=by omega
 by_cases h5:a≤(seg ls k).length
 ·have HR:Hid (inB ls k a n=decide (n≤(seg ls k).length-a)):=Lib.hid (by
   unfold inB
   rw [decide_eq_decide,Int.toNat_natCast]
   constructor
   ·intro h;omega
   ·intro h;omega)
  go_enter Tryz.func65,Tryz.ntmps65
  go_wp2
  go_ret
  exact⟨by rw [HR.out];rfl,rfl⟩
 ·have HR:Hid (inB ls k a n=false):=Lib.hid (by unfold inB;simp;omega)
  go_enter Tryz.func65,Tryz.ntmps65
  go_wp2
  go_ret
  exact⟨by rw [HR.out];rfl,rfl⟩
theorem RefWord_no (A:Option Addr)(c:Nat)(ls:List (List Int))(s a:Int)(w:World)(hs:Sg w A ls)(hm:ls.length≤140737488355328)(hh:hasB ls s a=false):
  Calls Tryz.prog 61 #[.slice A ls.length c,.int .i64 s,.int .i64 a] w fun e w'=>e=.returned (.tuple #[.int .u64 0,.bool false])∧w=w':=by
 have Hs:=Lib.hid hs
 have hno:∀i q:Nat,i<ls.length→q<(seg ls i).length→(i:Int)=s→(q:Int)=a→False:=by
  intro i q h1 h2 h3 h4
  subst h3 h4
  unfold hasB at hh
  rw [decide_eq_false_iff_not,Int.toNat_natCast] at hh
  omega
 have HN:=Lib.hid hno
 clear hs hno hh
 go_enter Tryz.func61,Tryz.ntmps61
 go_wp2
 go_loop [8] (fun x=>∃i:Nat,i≤ls.length∧x=.int .i64 i) (fun x=>ls.length-(intOf x).toNat)
 case atStart=>exact⟨0,by omega,rfl⟩
 case round=>
  obtain⟨i,hi,rfl⟩:=hrel
  by_cases hlt:i<ls.length
  ·obtain⟨b,off,A',c',rfl,hcell,hri,-,hc1,hc2⟩:=Hs.out.one hlt
   have hi1:(i:Int)<(ls.length:Int):=by omega
   clear hri
   go_wp2
   go_loop [9] (fun x=>∃q:Nat,q≤(seg ls i).length∧x=.int .i64 q) (fun x=>(seg ls i).length-(intOf x).toNat)
   case atStart=>exact⟨0,by omega,rfl⟩
   case round=>
    obtain⟨q,hq,rfl⟩:=hrel
    by_cases hlt2:q<(seg ls i).length
    ·have hq1:(q:Int)<((seg ls i).length:Int):=by omega
     by_cases e1:(i:Int)=s
     ·have e2:((q:Int)==a)=false:=by rw [beq_eq_false_iff_ne];exact fun h=>HN.out i q hlt hlt2 e1 h
      have e3:((i:Int)==s)=true:=by rw [beq_iff_eq];exact e1
      clear e1
      go_wp2
      go_round
      case rel=>exact⟨q+1,by omega,by go_num⟩
      case measure=>simp [intOf];omega
     ·have e3:((i:Int)==s)=false:=by rw [beq_eq_false_iff_ne];exact e1
      clear e1
      go_wp2
      go_round
      case rel=>exact⟨q+1,by omega,by go_num⟩
      case measure=>simp [intOf];omega
    ·have hq1:¬(q:Int)<((seg ls i).length:Int):=by omega
     go_wp2
     go_round
     case rel=>exact⟨i+1,by omega,by go_num⟩
     case measure=>simp [intOf];omega
  ·obtain rfl:i=ls.length:=by omega
   go_wp2
   go_ret2
   exact⟨rfl,rfl⟩
theorem RefWord_yes (A:Option Addr)(c:Nat)(ls:List (List Int))(S K:Nat)(w:World)(hs:Sg w A ls)(hm:ls.length≤140737488355328)(hS:S<ls.length)(hK:K<(seg ls S).length):
  Calls Tryz.prog 61 #[.slice A ls.length c,.int .i64 S,.int .i64 K] w fun e w'=>e=.returned (.tuple #[.int .u64 (zat (seg ls S) K),.bool true])∧w=w':=by
 have Hs:=Lib.hid hs
 clear hs
 go_enter Tryz.func61,Tryz.ntmps61
 go_wp2
 go_loop [8] (fun x=>∃i:Nat,i≤S∧x=.int .i64 i) (fun x=>ls.length-(intOf x).toNat)
 case atStart=>exact⟨0,by omega,rfl⟩
 case round=>
  obtain⟨i,hi,rfl⟩:=hrel
  have hlt:i<ls.length:=by omega
  obtain⟨b,off,A',c',rfl,hcell,hri,-,hc1,hc2⟩:=Hs.out.one hlt
  have hi1:(i:Int)<(ls.length:Int):=by omega
  by_cases e1:i=S
  ·subst e1
   obtain⟨b2,off2,rfl,hw⟩:=hri.at hK
   have hword:=hw K hK
   clear hw hri
   go_wp2
   go_loop [9] (fun x=>∃q:Nat,q≤K∧x=.int .i64 q) (fun x=>(seg ls i).length-(intOf x).toNat)
   case atStart=>exact⟨0,by omega,rfl⟩
   case round=>
    obtain⟨q,hq,rfl⟩:=hrel
    have hq1:(q:Int)<((seg ls i).length:Int):=by omega
    by_cases e2:q=K
    ·subst e2
     go_wp2
     go_ret2
     exact⟨rfl,rfl⟩
    ·have e3:((q:Int)==(K:Int))=false:=by rw [beq_eq_false_iff_ne];omega
     go_wp2
     go_round
     case rel=>exact⟨q+1,by omega,by go_num⟩
     case measure=>simp [intOf];omega
  ·have e3:((i:Int)==(S:Int))=false:=by rw [beq_eq_false_iff_ne];omega
   clear hri
   go_wp2
   go_loop [9] (fun x=>∃q:Nat,q≤(seg ls i).length∧x=.int .i64 q) (fun x=>(seg ls i).length-(intOf x).toNat)
   case atStart=>exact⟨0,by omega,rfl⟩
   case round=>
    obtain⟨q,hq,rfl⟩:=hrel
    by_cases hlt2:q<(seg ls i).length
    ·have hq1:(q:Int)<((seg ls i).length:Int):=by omega
     go_wp2
     go_round
     case rel=>exact⟨q+1,by omega,by go_num⟩
     case measure=>simp [intOf];omega
    ·have hq1:¬(q:Int)<((seg ls i).length:Int):=by omega
     go_wp2
     go_round
     case rel=>exact⟨i+1,by omega,by go_num⟩
     case measure=>simp [intOf];omega
theorem RefWord_any (A:Option Addr)(c:Nat)(ls:List (List Int))(s a:Int)(w:World)(hs:Sg w A ls)(hm:ls.length≤140737488355328):
  Calls Tryz.prog 61 #[.slice A ls.length c,.int .i64 s,.int .i64 a] w fun e w'=>e=.returned (.tuple #[.int .u64 (wordV ls s a),.bool (hasB ls s a)])∧w=w':=by
 cases hh:hasB ls s a
 ·exact(RefWord_no A c ls s a w hs hm hh).mono fun e w' ⟨h1,h2⟩=>⟨h1.trans (by simp [wordV,hh]),h2⟩
 ·have h:=hh
  unfold hasB at h
  have h2:=of_decide_eq_true h
  obtain⟨S,rfl⟩:=Int.eq_ofNat_of_zero_le h2.1
  obtain⟨K,rfl⟩:=Int.eq_ofNat_of_zero_le h2.2.2.1
  rw [Int.toNat_natCast] at h2
  exact(RefWord_yes A c ls S K w hs hm (by omega) (by omega)).mono fun e w' ⟨h3,h4⟩=>⟨h3.trans (by simp [wordV,hh]),h4⟩
theorem sliceL_length {ls:List (List Int)}{s a n:Int}(h:inB ls s a n=true):((sliceL ls s a n).length:Int)=n:=by
 have h2:=of_decide_eq_true h
 unfold sliceL
 rw [List.length_take,List.length_drop]
 omega
theorem RefSlice_no (A:Option Addr)(c:Nat)(ls:List (List Int))(s a n:Int)(w:World)(hs:Sg w A ls)(hm:ls.length≤140737488355328)(hh:inB ls s a n=false):
  Calls Tryz.prog 43 #[.slice A ls.length c,.int .i64 s,.int .i64 a,.int .i64 n] w fun e w'=>e=.returned (.tuple #[.slice none 0 0,.bool false])∧w=w':=by
 have HH:=Lib.hid hh
 clear hh
 go_enter Tryz.func43,Tryz.ntmps43
 go_wp2_with fail
 refine(RefInBounds_any _ _ _ _ _ _ _ hs hm).mono ?_
 rintro e w' ⟨rfl,rfl⟩
 rw [HH.out]
 go_wp2
 go_ret2
 exact⟨rfl,rfl⟩
set_option maxRecDepth 100000 in
theorem RefSlice_yes (A:Option Addr)(c:Nat)(ls:List (List Int))(S K n:Nat)(w:World)(hs:Sg w A ls)(hm:ls.length≤140737488355328)(hS:S<ls.length)(hK:K+n≤(seg ls S).length)(hlen:(seg ls S).length≤17592186044415)(hh:inB ls S K n=true):
  Calls Tryz.prog 43 #[.slice A ls.length c,.int .i64 S,.int .i64 K,.int .i64 n] w fun e w'=>∃v,e=.returned (.tuple #[v,.bool true])∧Got w' w.heap.size 48 .u64 v (sliceL ls S K n)∧Below w.heap.size w w':=by
 obtain⟨i0,hi,hz0,hz1,hz2⟩:=info_parts int64_info
 have HL0:=sliceL_length hh
 have HL:Hid ((sliceL ls S K n).length=n):=Lib.hid (by omega)
 have HZ:Hid (∀q,q<n→zat (sliceL ls S K n) q=zat (seg ls S) (K+q)):=Lib.hid (by
  intro q hq
  unfold sliceL
  rw [Int.toNat_natCast,Int.toNat_natCast,Int.toNat_natCast,zat_take _ _ _ hq,zat_drop])
 have Hs:=Lib.hid hs
 have HH:=Lib.hid hh
 clear hs hh HL0
 go_enter Tryz.func43,Tryz.ntmps43
 go_wp2_with fail
 refine(RefInBounds_any _ _ _ _ _ _ _ Hs.out hm).mono ?_
 rintro e w' ⟨rfl,rfl⟩
 rw [HH.out]
 go_wp2
 go_loopw [10,11] (fun v x wr=>∃q:Nat,q≤n∧x=.int .i64 q∧Got wr w.heap.size 48 .u64 v ((sliceL ls S K n).take q)∧Below w.heap.size w wr) (fun _ x _=>n-(intOf x).toNat)
 case atStart=>exact⟨0,by omega,rfl,Got.empty _ _ _ _,Below.refl _ _⟩
 case round=>
  obtain⟨q,hq,rfl,hgk,hbk⟩:=hrel
  by_cases hlt:q<n
  ·have hsg:=Hs.out.below hbk (Nat.le_refl _)
   obtain⟨b,off,A',c',rfl,hcell,hri,-,hc1,hc2⟩:=hsg.one hS
   obtain⟨b2,off2,rfl,hw⟩:=hri.at (i:=K+q) (by omega)
   have hword:=hw (K+q) (by omega)
   have hq1:(q:Int)<(n:Int):=by omega
   have hq2:(K:Int)+q<((seg ls S).length:Int):=by omega
   have hS1:(S:Int)<(ls.length:Int):=by omega
   have HLK:Hid (((sliceL ls S K n).take q).length=q):=Lib.hid (by rw [List.length_take,HL.out];omega)
   have HT:Hid ((sliceL ls S K n).take (q+1)=(sliceL ls S K n).take q++[zat (seg ls S) (K+q)]):=Lib.hid (by rw [take_succ_zat _ _ (by rw [HL.out];omega),HZ.out q hlt])
   have hsz:=hbk.size
   have HB:=Lib.hid hbk
   clear hsg hri hw hbk
   go_wp2_with (at_builtin;refine wpList_app1 rfl (.tmp 23) (.tmp 33) 27 rfl Tryz.underlying27 hi hz0 hz1 hz2 rfl hgk rfl (by rw [HLK.out];unfold maxLen;omega) (by rw [HLK.out];omega) hsz ?_;intro v1 w1 hg1 hb1)
   go_roundw
   case rel=>exact⟨q+1,by omega,by go_num,by rw [HT.out];exact hg1,HB.out.trans hb1⟩
   case measure=>simp [intOf];omega
  ·obtain rfl:q=n:=by omega
   go_wp2
   go_ret2
   exact⟨_,rfl,hgk.cast rfl (by rw [List.take_of_length_le (by rw [HL.out];omega)]),hbk⟩
def NdO (lo hi:Nat)(w:World)(A:Option Addr)(c:Nat)(B:Option Addr)(c2:Nat)(x:Nd):Prop:=∀W:World,(∀k,lo≤k→k<hi→W.heap[k]?=w.heap[k]?)→NdR W A c B c2 x
theorem NdO.nd {lo hi:Nat}{w:World}{A:Option Addr}{c:Nat}{B:Option Addr}{c2:Nat}{x:Nd}(h:NdO lo hi w A c B c2 x):NdR w A c B c2 x:=h w (fun _ _ _=>rfl)
theorem NdO.to {lo hi:Nat}{w w':World}{A:Option Addr}{c:Nat}{B:Option Addr}{c2:Nat}{x:Nd}(h:NdO lo hi w A c B c2 x)(hw:∀k,lo≤k→k<hi→w'.heap[k]?=w.heap[k]?):NdO lo hi w' A c B c2 x:=
 fun W hW=>h W fun k h1 h2=>(hW k h1 h2).trans (hw k h1 h2)
theorem NdO.wide {lo hi lo' hi':Nat}{w:World}{A:Option Addr}{c:Nat}{B:Option Addr}{c2:Nat}{x:Nd}(h:NdO lo hi w A c B c2 x)(h1:lo'≤lo)(h2:hi≤hi'):NdO lo' hi' w A c B c2 x:=
 fun W hW=>h W fun k k1 k2=>hW k (by omega) (by omega)
theorem NdO.below {lo hi:Nat}{w w':World}{A:Option Addr}{c:Nat}{B:Option Addr}{c2:Nat}{x:Nd}(h:NdO lo hi w A c B c2 x){N:Nat}(hb:Below N w w')(hN:hi≤N):NdO lo hi w' A c B c2 x:=h.to fun k _ h2=>hb.block k (by omega)
def OwnN (base:Nat)(w:World)(v:Value)(ts:List Nd):Prop:=
 ∃vs,w.ownsRow base 39 5 v ts.length vs∧∀j (hj:j<ts.length),∃A' c' B' c2' lo hi,base≤lo∧hi≤w.heap.size∧(∀g,v.ownBlock=some g→g<lo∨hi≤g)∧NdO lo hi w A' c' B' c2' (ts[j]) ∧
  ∀o,o<5→vs[j*5+o]?=(fiveC (ts[j]) A' c' B' c2')[o]?
theorem OwnN.empty (base:Nat)(w:World):OwnN base w (.slice none 0 0) []:=⟨[],World.ownsRow_nil w base _ 5,fun j hj=>by simp at hj⟩
theorem ownsRow_below {w w':World}{base:Nat}{E:TypeId}{sz n:Nat}{v:Value}{vs:List Value}(h:w.ownsRow base E sz v n vs){N:Nat}(hb:Below N w w')(hN:w.heap.size≤N):w'.ownsRow base E sz v n vs:=by
 have hlt:=h.lt
 refine⟨h.1,?_⟩
 rcases h.2 with h2|⟨g,cap,cur,hv,hg,hh,r⟩
 ·exact .inl h2
 ·refine .inr ⟨g,cap,cur,hv,hg,?_,r⟩
  have:=(hlt g (by rw [hv];rfl)).2
  rw [hb.block g (by omega)]
  exact hh
theorem OwnN.below {base:Nat}{w w':World}{v:Value}{ts:List Nd}(h:OwnN base w v ts){N:Nat}(hb:Below N w w')(hN:w.heap.size≤N):OwnN base w' v ts:=by
 obtain⟨vs,h1,h2⟩:=h
 refine⟨vs,ownsRow_below h1 hb hN,fun j hj=>?_⟩
 obtain⟨A',c',B',c2',lo,hi,k1,k2,k3,k4,k5⟩:=h2 j hj
 exact⟨A',c',B',c2',lo,hi,k1,Nat.le_trans k2 hb.size,k3,k4.below hb (by omega),k5⟩
theorem OwnN.slice {base:Nat}{w:World}{v:Value}{ts:List Nd}(h:OwnN base w v ts):∃B c,v=.slice B ts.length c∧ts.length≤c∧c≤maxLen∧(B=none→c=0):=by
 obtain⟨vs,h1,h2⟩:=h
 rcases h1.2 with ⟨rfl,hn⟩|⟨g,cap,cur,rfl,hg,hh,hc,hm,hcs,htk⟩
 ·exact⟨none,0,by rw [hn],by omega,by omega,fun _=>rfl⟩
 ·exact⟨some ⟨g,0,none⟩,cap,rfl,hc,hm,fun h=>by cases h⟩
theorem OwnN.node {base:Nat}{w:World}{B:Option Addr}{n0 c2:Nat}{ts:List Nd}(h:OwnN base w (.slice B n0 c2) ts){k e n:Int}{d:List Int}{A:Option Addr}{c:Nat}
  (hk:-9223372036854775808≤k∧k≤9223372036854775807) (he:-9223372036854775808≤e∧e≤9223372036854775807) (hn:-9223372036854775808≤n∧n≤9223372036854775807)
  (hd:Got w base 5 .u8 (.slice A d.length c) d) (hby:Bts d):NdO base w.heap.size w A c B c2 (.mk k e n d ts):=by
 intro W hW
 obtain⟨A0,c0,he0,hc0,hm0,_⟩:=hd.slice
 injection he0 with e1 e2 e3
 subst e1
 subst e3
 obtain⟨vs,h1,h2⟩:=h
 have hWO:W.ownsRow base 39 5 (.slice B n0 c2) ts.length vs:=by
  refine⟨h1.1,?_⟩
  rcases h1.2 with h3|⟨g,cap,cur,hv,hg,hh,r⟩
  ·exact .inl h3
  ·exact .inr ⟨g,cap,cur,hv,hg,(hW g hg (Array.getElem?_eq_some_iff.1 hh).1).trans hh,r⟩
 have hdW:Got W base 5 .u8 (.slice A d.length c) d:=by
  have hd0:=hd
  refine⟨hd.1,?_⟩
  rcases hd.2 with h3|⟨g,cap,cur,hv,hg,hh,r⟩
  ·exact .inl h3
  ·exact .inr ⟨g,cap,cur,hv,hg,(hW g hg (Array.getElem?_eq_some_iff.1 hh).1).trans hh,r⟩
 have hkid:∀j (hj:j<ts.length),∃A' c' B' c2',NdR W A' c' B' c2' (ts[j])∧∀o,o<5→vs[j*5+o]?=(fiveC (ts[j]) A' c' B' c2')[o]?:=by
  intro j hj
  obtain⟨A',c',B',c2',lo,hi,k1,k2,k3,k4,k5⟩:=h2 j hj
  exact⟨A',c',B',c2',k4 W fun q q1 q2=>hW q (by omega) (by omega),k5⟩
 have hAnil:A=none→c=0:=by
  rintro rfl
  rcases hd.2 with ⟨h3,_⟩|⟨g,cap,cur,hv,_⟩
  ·injection h3
  ·injection hv with h4;cases h4
 have hBs:n0=ts.length∧ts.length≤c2∧c2≤maxLen∧(B=none→c2=0):=by
  rcases h1.2 with ⟨hv,hn⟩|⟨g,cap,cur,hv,hg,hh,hc,hm,hcs,htk⟩
  ·injection hv with e1 e2 e3
   subst e1;subst e2;subst e3
   exact⟨by omega,by omega,by omega,fun _=>rfl⟩
  ·injection hv with e1 e2 e3
   subst e1;subst e2;subst e3
   exact⟨rfl,hc,hm,fun h=>by cases h⟩
 obtain⟨_,_,_,_,_,hri⟩:=hdW.slice
 have hriA:Ri W .u8 A d:=by
  obtain⟨A1,c1,he1,_,_,hr1⟩:=hdW.slice
  injection he1 with e1 e2 e3
  subst e1
  exact hr1
 refine .mk k e n d ts A c B c2 (fun j=>if h:j<ts.length then Classical.choose (hkid j h) else none)
  (fun j=>if h:j<ts.length then Classical.choose (Classical.choose_spec (hkid j h)) else 0)
  (fun j=>if h:j<ts.length then Classical.choose (Classical.choose_spec (Classical.choose_spec (hkid j h))) else none)
  (fun j=>if h:j<ts.length then Classical.choose (Classical.choose_spec (Classical.choose_spec (Classical.choose_spec (hkid j h)))) else 0)
  hk he hn hriA hby hc0 hm0 hAnil hBs.2.1 hBs.2.2.1 hBs.2.2.2 ?_ ?_
 ·by_cases hne:ts=[]
  ·exact .inl hne
  ·right
   have hpos:0<ts.length:=List.length_pos_iff.2 hne
   rcases hWO.2 with ⟨_,hn⟩|⟨g,cap,cur,hv,hg,hh,_⟩
   ·omega
   ·injection hv with e1 e2 e3
    subst e1
    subst e2
    subst e3
    refine⟨g,0,rfl,fun j x hj=>?_⟩
    have hjl:j<ts.length:=(List.getElem?_eq_some_iff.1 hj).1
    obtain rfl:ts[j]=x:=(List.getElem?_eq_some_iff.1 hj).2
    have hspec:=Classical.choose_spec (Classical.choose_spec (Classical.choose_spec (Classical.choose_spec (hkid j hjl))))
    have hcell:=fun o (ho:o<5)=>(World.ownsRow.cellAt (g:=g) (cap:=c2) hWO (j*5+o) (by omega)).trans (hspec.2 o ho)
    simp only [dif_pos hjl]
    refine⟨?_,?_,?_,?_,?_⟩
    ·have:=hcell 0 (by omega);rw [Nat.zero_add];exact this
    ·have:=hcell 1 (by omega);rw [Nat.zero_add];exact this
    ·have:=hcell 2 (by omega);rw [Nat.zero_add];exact this
    ·have:=hcell 3 (by omega);rw [Nat.zero_add];simpa [fiveC] using this
    ·have:=hcell 4 (by omega);rw [Nat.zero_add];simpa [fiveC] using this
 ·intro j x hj
  have hjl:j<ts.length:=(List.getElem?_eq_some_iff.1 hj).1
  obtain rfl:ts[j]=x:=(List.getElem?_eq_some_iff.1 hj).2
  have hspec:=Classical.choose_spec (Classical.choose_spec (Classical.choose_spec (Classical.choose_spec (hkid j hjl))))
  simp only [dif_pos hjl]
  exact hspec.1
theorem append_block {P:Program}{w:World}{base:Nat}{t ty e:TypeId}{i:TypeInfo}{z:Value}(ht:P.underlying t=some (.slice e))(hi:P.info? e=some i)(hz:i.zero=some z)
  {v:Value} {n:Nat} {xs:List Value} (hown:w.ownsRow base e i.size v n xs) {a:Addr} {m c:Nat} {news:List Value} (hl:news.length=m*i.size) (hnews:∀j u,news[j]?=some u→w.cell? (a.add j)=some u)
  (h1:∀u∈news,u.oneCell'=true) (hm:0<m) (h63:n+m≤maxLen) (hbytes:(n+m)*i.bytes≤140737488355328) {v':Value} {w':World}
  (hr:(Builtin.append_ #[t,t] ty #[v,.slice (some a) m c]).run P w=.ok v' w'):v'.ownBlock=v.ownBlock∨v'.ownBlock=some w.heap.size:=by
 have hsmall:n+m≤9223372036854775807:=by unfold maxLen at h63;omega
 rcases hown.2 with ⟨rfl,rfl⟩|⟨g,cap,cur,rfl,hbg,hg,hnc,hcm,hcs,htake⟩
 ·rw [Nat.zero_add] at hbytes hsmall
  rw [run_append_nil (P:=P) w t ty e i z ht hi hz a m c news hl hnews hm (by omega) (by omega)] at hr
  injection hr with hv hw
  subst hv
  exact .inr rfl
 ·by_cases hroom:n+m≤cap
  ·have hfit:n*i.size+news.length≤cur.size:=by rw [hl,hcs,←Nat.add_mul];exact Nat.mul_le_mul_right _ hroom
   rw [run_append_room (P:=P) w t ty e i ht hi g n cap cur hg a m c news hl hnews h1 hroom hfit] at hr
   injection hr with hv hw
   subst hv
   exact .inl rfl
  ·rw [run_append_grow (P:=P) w t ty e i z ht hi hz ⟨g,0,none⟩ n cap xs hown.1 (hown.cells (g:=g) rfl) a m c news hl hnews (by omega) (by omega) (growslice_fits (by omega) hbytes)] at hr
   injection hr with hv hw
   subst hv
   exact .inr rfl
theorem wpList_appO {ops:Array Oper}{rest:List Oper}{o:Oper}{a:Act}{Q:Exit→Act→World→Prop}{w:World}(hgd:o.guard=none)(s x:Operand)(t:TypeId)
  (ho:o.op=.call { callee:=.builtin .append,args:=#[s,x],argTypes:=#[t,t] }) (ht:Tryz.prog.underlying t=some (.slice 39))
  {base:Nat} {v:Value} {ts:List Nd} (hs:a.eval s=v) (hown:OwnN base w v ts) {q:Nat} (hx:a.eval x=.slice (some ⟨q,0,none⟩) 1 1) {y:Nd} {A':Option Addr} {c':Nat} {B':Option Addr} {c2':Nat}
  (hq:∀o,o<5→w.cell? ⟨q,o,none⟩=(fiveC y A' c' B' c2')[o]?) {lo hi:Nat} (hlo:base≤lo) (hhi:hi≤w.heap.size) (hne:∀g,v.ownBlock=some g→g<lo) (hy:NdO lo hi w A' c' B' c2' y)
  (hn:ts.length+1≤1099511627776) (hbase:base≤w.heap.size)
  (h:∀v' w',OwnN base w' v' (ts++[y])→w.grownBy w' v.ownBlock→wpList Tryz.prog ops Q rest (a.put o.dst v') w'):wpList Tryz.prog ops Q (o::rest) a w:=by
 obtain⟨i,hi',hz0,hz1,hz2⟩:=info_parts node_info
 obtain⟨vs,h1,h2⟩:=hown
 have hlv:vs.length=ts.length*5:=h1.1
 have hl5:(fiveC y A' c' B' c2').length=1*5:=rfl
 have hnews:∀j u,(fiveC y A' c' B' c2')[j]?=some u→w.cell? ((⟨q,0,none⟩:Addr).add j)=some u:=by
  intro j u hu
  have hj:j<5:=by
   rcases Nat.lt_or_ge j 5 with h0|h0
   ·exact h0
   ·rw [List.getElem?_eq_none (by rw [hl5];omega)] at hu;cases hu
  rw [add_plain,Nat.zero_add,hq j hj,hu]
 refine wpList_plain hgd fun K hK=>?_
 obtain⟨v',w',hr,k2,k3,-⟩:=run_append_own (P:=Tryz.prog) w base t o.type 39 i _ 5 72 ht hi' hz0 hz1 hz2 rfl (by decide) v ts.length vs h1 ⟨q,0,none⟩ 1 1 _ hl5 hnews (fiveC_one _ _ _ _ _) (by unfold maxLen;omega) (by omega) hbase
 have k5:=append_block ht hi' hz0 (by rw [hz1];exact h1) (by rw [hz1];exact hl5) hnews (fiveC_one _ _ _ _ _) (by decide) (by unfold maxLen;omega) (by rw [hz2];omega) hr
 have hfin:=hK _ _ (h v' w' ?_ k3)
 ·unfold Oper.wp execOp
  simp only [ho,resolve,invoke,builtin,Sem.run_bind,Sem.run_pure,Result.andThen_ok,List.map_toArray,List.map_cons,List.map_nil,hs,hx,hr]
  exact hfin
 ·refine⟨vs++fiveC y A' c' B' c2',by rw [List.length_append];exact k2,fun j hj=>?_⟩
  by_cases hjl:j<ts.length
  ·obtain⟨A1,c1,B1,c3,lo1,hi1,g1,g2,g3,g4,g5⟩:=h2 j hjl
   rw [show (ts++[y])[j]=ts[j] from List.getElem_append_left hjl]
   refine⟨A1,c1,B1,c3,lo1,hi1,g1,Nat.le_trans g2 k3.size,fun g hg=>?_,g4.to fun k e1 e2=>k3.block k (by omega) fun e=>?_,fun o ho=>by rw [List.getElem?_append_left (by omega)];exact g5 o ho⟩
   ·rcases k5 with k5|k5
    ·exact g3 g (by rw [←k5];exact hg)
    ·rw [k5] at hg;injection hg with hg;exact .inr (by omega)
   ·have:=g3 k e.symm
    omega
  ·rw [List.length_append] at hj
   simp only [List.length_cons,List.length_nil] at hj
   obtain rfl:j=ts.length:=by omega
   have e:(ts++[y])[ts.length]'(by simp)=y:=by simp
   rw [e]
   refine⟨A',c',B',c2',lo,hi,hlo,Nat.le_trans hhi k3.size,fun g hg=>?_,hy.to fun k e1 e2=>k3.block k (by omega) fun e=>?_,fun o ho=>?_⟩
   ·rcases k5 with k5|k5
    ·rw [k5] at hg;exact .inl (hne g hg)
    ·rw [k5] at hg;injection hg with hg;exact .inr (by omega)
   ·have:=hne k e.symm
    omega
   ·rw [List.getElem?_append_right (by omega),hlv]
    congr 1
    omega
def NodF (lo:Nat)(x:Nd):Fact:=fun v w=>∃A c B c2 hi,v=.agg #[.int .i64 x.k,.int .i64 x.e,.int .i64 x.n,.slice A x.d.length c,.slice B x.ks.length c2]∧hi≤w.heap.size∧NdO lo hi w A c B c2 x
theorem stable_nod (lo:Nat)(x:Nd):stable (NodF lo x):=by
 rintro v w w' ⟨A,c,B,c2,hi,e,h1,h2⟩ hb
 exact⟨A,c,B,c2,hi,e,Nat.le_trans h1 hb.size,h2.below hb h1⟩
def OneF (lo:Nat)(x:Nd):Fact:=fun v w=>∃q A c B c2 hi,v=.slice (some ⟨q,0,none⟩) 1 1∧(∀o,o<5→w.cell? ⟨q,o,none⟩=(fiveC x A c B c2)[o]?)∧hi≤w.heap.size∧NdO lo hi w A c B c2 x
theorem stable_one (lo:Nat)(x:Nd):stable (OneF lo x):=by
 rintro v w w' ⟨q,A,c,B,c2,hi,e,h0,h1,h2⟩ hb
 refine⟨q,A,c,B,c2,hi,e,fun o ho=>?_,Nat.le_trans h1 hb.size,h2.below hb h1⟩
 have hq:q<w.heap.size:=World.block_lt_of_cell? w ⟨q,0,none⟩ (h0 0 (by decide))
 rw [hb.cell (p:=⟨q,o,none⟩) hq]
 exact h0 o ho
def OwnF (base:Nat)(ts:List Nd):Fact:=fun v w=>OwnN base w v ts
theorem stable_ownF (base:Nat)(ts:List Nd):stable (OwnF base ts):=fun v w w' h hb=>h.below hb (Nat.le_refl _)
theorem Blk.keeps {W W':World}{b:Nat}{cs:Array Value}(h:Blk W b cs){S:Nat→Prop}(hk:Keeps S W W')(hS:¬S b):Blk W' b cs:=by
 have hb:=hk.block b h.lt hS
 exact⟨fun o=>by rw [World.cell?_of_block (w:=W) hb];exact h.cell o,fun o=>by rw [World.frozen?_of_block (w:=W) hb];exact h.free o,Nat.lt_of_lt_of_le h.lt hk.size⟩
theorem OwnN.mono {base base':Nat}{w:World}{v:Value}{ts:List Nd}(h:OwnN base w v ts)(hb:base'≤base):OwnN base' w v ts:=by
 obtain⟨vs,h1,h2⟩:=h
 refine⟨vs,⟨h1.1,?_⟩,fun j hj=>?_⟩
 ·rcases h1.2 with h3|⟨g,cap,cur,hv,hg,r⟩
  ·exact .inl h3
  ·exact .inr ⟨g,cap,cur,hv,by omega,r⟩
 ·obtain⟨A',c',B',c2',lo,hi,k1,k2⟩:=h2 j hj
  exact⟨A',c',B',c2',lo,hi,by omega,k2⟩
theorem OwnN.far {base:Nat}{w:World}{v:Value}{ts:List Nd}(h:OwnN base w v ts){p:Addr}(hp:p.block<base)(u:Value):OwnN base (w.setCell p u) v ts:=by
 obtain⟨vs,h1,h2⟩:=h
 refine⟨vs,ownsRow_setCell_below h1 hp u,fun j hj=>?_⟩
 obtain⟨A',c',B',c2',lo,hi,k1,k2,k3,k4,k5⟩:=h2 j hj
 exact⟨A',c',B',c2',lo,hi,k1,by simpa using k2,k3,k4.to fun q q1 _=>Below.heap_setCell _ _ _ _ (by omega),k5⟩
theorem OwnN.cast {base:Nat}{w:World}{v:Value}{ts ts':List Nd}(h:OwnN base w v ts)(e:ts=ts'):OwnN base w v ts':=e ▸ h
theorem got_agree {w w':World}{base:Nat}{E:TypeId}{k:IntKind}{v:Value}{zs:List Int}(h:Got w base E k v zs)(hw:∀q,base≤q→q<w.heap.size→w'.heap[q]?=w.heap[q]?):Got w' base E k v zs:=by
 refine⟨h.1,?_⟩
 rcases h.2 with h3|⟨g,cap,cur,hv,hg,hh,r⟩
 ·exact .inl h3
 ·exact .inr ⟨g,cap,cur,hv,hg,(hw g hg (Array.getElem?_eq_some_iff.1 hh).1).trans hh,r⟩
set_option maxRecDepth 100000 in
theorem RefWords11_any (A:Option Addr)(c:Nat)(d:List Int)(w:World)(hr:Ri w .u8 A d)(hb:Bts d)(hm:d.length≤1099511627776):
  Calls Tryz.prog 47 #[.slice A d.length c] w fun r w'=>r=.returned (.int .i64 (wordsT d))∧w=w':=by
 have Hr:=Lib.hid hr
 have Hb:=Lib.hid hb
 have HW:Hid (wordsT d=wordsF d d.length):=Lib.hid rfl
 clear hr hb
 go_enter Tryz.func47,Tryz.ntmps47
 go_wp2
 go_loop [3,4] (fun n i=>∃k:Nat,k≤d.length∧i=.int .i64 k∧n=.int .i64 (wordsF d k)) (fun _ i=>d.length-(intOf i).toNat)
 case atStart=>exact⟨0,by omega,rfl,rfl⟩
 case round=>
  obtain⟨k,hk,rfl,rfl⟩:=hrel
  by_cases hlt:k<d.length
  ·obtain⟨g,off,rfl,hc⟩:=Hr.out.at hlt
   have hcell:=hc k hlt
   have hz:=Hb.out.at k
   have hlt2:(k:Int)<(d.length:Int):=by omega
   have HS:Hid (wordsF d (k+1)=if zat d k=0 then wordsF d k else k / 8+1):=Lib.hid rfl
   clear hc
   generalize zat d k=z at *
   by_cases h0:z=0
   ·subst h0
    go_wp2
    go_round
    case rel=>exact⟨k+1,by omega,by go_num,by rw [HS.out,if_pos rfl]⟩
    case measure=>simp [intOf];omega
   ·have hne:(z != 0)=true:=by simpa using h0
    have HZ:=Lib.hid h0
    clear h0
    go_wp2
    go_round
    case rel=>exact⟨k+1,by omega,by go_num,by rw [HS.out,if_neg HZ.out];go_num⟩
    case measure=>simp [intOf];omega
  ·obtain rfl:k=d.length:=by omega
   go_wp2
   go_ret
   exact⟨by rw [HW.out];rfl,rfl⟩
set_option maxRecDepth 100000 in
theorem RefPointers11_any (B:Option Addr)(c:Nat)(ks:List Nd)(w:World)(hr:KsR w B ks)(hm:ks.length≤1099511627776):
  Calls Tryz.prog 48 #[.slice B ks.length c] w fun r w'=>r=.returned (.int .i64 (ptrsT ks))∧w=w':=by
 have Hr:=Lib.hid hr
 have HW:Hid (ptrsT ks=ptrsF ks ks.length):=Lib.hid rfl
 clear hr
 go_enter Tryz.func48,Tryz.ntmps48
 go_wp2
 go_loop [3,4] (fun n i=>∃k:Nat,k≤ks.length∧i=.int .i64 k∧n=.int .i64 (ptrsF ks k)) (fun _ i=>ks.length-(intOf i).toNat)
 case atStart=>exact⟨0,by omega,rfl,rfl⟩
 case round=>
  obtain⟨k,hk,rfl,rfl⟩:=hrel
  by_cases hlt:k<ks.length
  ·obtain⟨b,off,Aa,ca,Ba,cb,rfl,hcell,-⟩:=Hr.out.at hlt
   have hlt2:(k:Int)<(ks.length:Int):=by omega
   have HS:Hid (ptrsF ks (k+1)=if ks[k].k=0 then ptrsF ks k else k+1):=Lib.hid (by rw [←kAt_get hlt];rfl)
   generalize ks[k].k=z at *
   by_cases h0:z=0
   ·subst h0
    go_wp2
    go_round
    case rel=>exact⟨k+1,by omega,by go_num,by rw [HS.out,if_pos rfl]⟩
    case measure=>simp [intOf];omega
   ·have hne:(z != 0)=true:=by simpa using h0
    have HZ:=Lib.hid h0
    clear h0
    go_wp2
    go_round
    case rel=>exact⟨k+1,by omega,by go_num,by rw [HS.out,if_neg HZ.out];go_num⟩
    case measure=>simp [intOf];omega
  ·obtain rfl:k=ks.length:=by omega
   go_wp2
   go_ret
   exact⟨by rw [HW.out];rfl,rfl⟩
theorem dec1 (u v:Nat):(decide ((u:Int)<(v:Int))=true∧decide (u<v)=true∧(u:Int)<(v:Int)∧u<v∧max u v=v)∨(decide ((u:Int)<(v:Int))=false∧decide (u<v)=false∧¬(u:Int)<(v:Int)∧¬u<v∧max u v=u):=by
 by_cases h:u<v
 ·exact .inl ⟨decide_eq_true (by omega),decide_eq_true h,by omega,h,by omega⟩
 ·exact .inr ⟨decide_eq_false (by omega),decide_eq_false h,by omega,h,by omega⟩
theorem dec8 (u v:Nat):(decide ((u:Int)<(v:Int) / 8)=true∧(u:Int)<(v:Int) / 8∧max u (v / 8)=v / 8)∨(decide ((u:Int)<(v:Int) / 8)=false∧¬(u:Int)<(v:Int) / 8∧max u (v / 8)=u):=by
 by_cases h:u<v / 8
 ·exact .inl ⟨decide_eq_true (by omega),by omega,by omega⟩
 ·exact .inr ⟨decide_eq_false (by omega),by omega,by omega⟩
set_option maxHeartbeats 2000000 in
set_option maxRecDepth 100000 in
theorem RefUniform11_any (x:Nd)(A:Option Addr)(c:Nat)(B:Option Addr)(c2:Nat)(w:World)(hx:NdR w A c B c2 x)(hs:sizeN x≤1099511627776):
  Calls Tryz.prog 49 #[.agg #[.int .i64 x.k,.int .i64 x.e,.int .i64 x.n,.slice A x.d.length c,.slice B x.ks.length c2]] w fun r w'=>r=.returned (.tuple #[.int .i64 (uniD x.ks x.ks.length),.int .i64 (uniP x.ks x.ks.length)])∧Below w.heap.size w w':=by
 obtain⟨k,e,n,d,ks⟩:=x
 simp only [Nd.k,Nd.e,Nd.n,Nd.d,Nd.ks]
 have HX:=Lib.hid hx
 have hso:sizeN (.mk k e n d ks)=1+d.length+sizeK ks:=by simp only [sizeN]
 rw [hso] at hs
 have hkl:=sizeK_length ks
 have HKID:Hid (∀j (h:j<ks.length),ks[j].d.length≤1099511627776∧ks[j].ks.length≤1099511627776):=Lib.hid (fun j h=>by
  have hz:=sizeN_kid (List.getElem_mem h)
  generalize ks[j]=y at *
  obtain⟨_,_,_,dd,kk'⟩:=y
  have:=sizeK_length kk'
  simp only [sizeN,Nd.d,Nd.ks] at *
  omega)
 clear hx hso
 go_enter Tryz.func49,Tryz.ntmps49
 have B1:=Blk.fresh w #[.int .i64 k,.int .i64 e,.int .i64 n,.slice A d.length c,.slice B ks.length c2] 39
 have HB1:=Lib.hid B1
 go_wp2
 clear B1
 go_loop [4,5,6] (fun a b i=>∃j:Nat,j≤ks.length∧i=.int .i64 j∧a=.int .i64 (uniD ks j)∧b=.int .i64 (uniP ks j)) (fun _ _ i=>ks.length-(intOf i).toNat)
 case atStart=>exact⟨0,by omega,rfl,rfl,rfl⟩
 case round=>
  obtain⟨j,hj,rfl,rfl,rfl⟩:=hrel
  obtain⟨x1,y1,z1⟩:=HB1.out
  by_cases hlt:j<ks.length
  ·obtain⟨b,off,Aa,ca,Ba,cb,rfl,k0,k1,k2,k3,k4,hsub⟩:=HX.out.kids.atIn ((Below.refl _ _).alloc (Nat.le_refl _) (.cells #[.int .i64 k,.int .i64 e,.int .i64 n,.slice A d.length c,.slice B ks.length c2] 39)) (Nat.le_refl _) hlt
   have HD:=Lib.hid (uniD_succ hlt)
   have HP:=Lib.hid (uniP_succ hlt)
   obtain⟨bd1,bd2⟩:=HKID.out j hlt
   clear hsub k0 k1 k2
   generalize uniD ks j=u at *
   generalize uniP ks j=v at *
   generalize ks[j]=kx at *
   have HM1:=Lib.hid (dec8 u kx.d.length)
   have HM2:=Lib.hid (dec1 v kx.ks.length)
   rcases HM1.out with ⟨t1,t1',m1⟩|⟨t1,t1',m1⟩<;>rcases HM2.out with ⟨t2,t2',t3,t4,m2⟩|⟨t2,t2',t3,t4,m2⟩ <;>
   (rw [m1] at HD
    rw [m2] at HP
    clear m1 m2
    go_wp2
    go_round
    case rel=>exact⟨j+1,by omega,by go_num,by rw [HD.out];try (first|rfl|go_num),by rw [HP.out];try (first|rfl|go_num)⟩
    case measure=>simp [intOf];omega)
  ·obtain rfl:j=ks.length:=by omega
   go_wp2
   go_ret2
   exact⟨rfl,(Below.refl _ _).alloc (Nat.le_refl _) _⟩
section
attribute [local simp] AllK KnowsV look Is
theorem abs_list {P:Program}{ops:Array Oper}{l:List Oper}{Q:Exit→Act→World→Prop}{a:Act}{V:World}(F:World→Prop)(hF:F V)(h:∀W,F W→wpList P ops Q l a W):wpList P ops Q l a V:=h V hF
theorem allN_at10d {P:Nat→Prop}:∀{n s:Nat},AllN P n s→∀j,s≤j→j<s+n→P j
 | 0,_,_,_,_,h=>by omega
 | n+1,s,h,j,h1,h2=>by
  by_cases e:s=j
  ·subst e;exact h.1
  ·exact allN_at10d h.2 j (by omega) (by omega)
theorem hold_it {p:Prop}(h:Hid p):p:=h.out
theorem abs_code10 {P:Program}{C:Code}{Q:Exit→Act→World→Prop}{a:Act}{V:World}(F:World→Prop)(hF:F V)(h:∀W,F W→C.wp P Q a W):C.wp P Q a V:=h V hF
end
theorem Ri.agree {w W:World}{k:IntKind}{A:Option Addr}{zs:List Int}(h:Ri w k A zs){N:Nat}(hw:∀q,q<N→W.heap[q]?=w.heap[q]?)(hN:w.heap.size≤N):Ri W k A zs:=by
 rcases h with rfl|⟨b,off,rfl,h⟩
 ·exact .inl rfl
 ·refine .inr ⟨b,off,rfl,fun j hj=>?_⟩
  have hlt:b<w.heap.size:=World.block_lt_of_cell? w ⟨b,off+j,none⟩ (h j hj)
  rw [World.cell?_of_block (w:=w) (hw b (by omega))]
  exact h j hj
theorem NdR.agree {w W:World}{A:Option Addr}{c:Nat}{B:Option Addr}{c2:Nat}{x:Nd}(h:NdR w A c B c2 x){N:Nat}(hw:∀q,q<N→W.heap[q]?=w.heap[q]?)(hN:w.heap.size≤N):NdR W A c B c2 x:=by
 induction h with
 | mk k e n d ks A c B c2 FA Fc FB Fc2 hk he hn hd hby hdl hc hA hkl hc2 hB hcell hsub ih=>
  refine .mk k e n d ks A c B c2 FA Fc FB Fc2 hk he hn (hd.agree hw hN) hby hdl hc hA hkl hc2 hB ?_ ih
  rcases hcell with h|⟨b,off,hBe,hcs⟩
  ·exact .inl h
  ·refine .inr ⟨b,off,hBe,fun j x hj=>?_⟩
   obtain⟨h0,h1,h2,h3,h4⟩:=hcs j x hj
   have hlt:b<w.heap.size:=World.block_lt_of_cell? w ⟨b,off+j*5,none⟩ h0
   have hc:=fun o=>World.cell?_of_block (w:=w) (a:=⟨b,o,none⟩) (hw b (by omega))
   exact⟨(hc _).trans h0,(hc _).trans h1,(hc _).trans h2,(hc _).trans h3,(hc _).trans h4⟩
def OkB (B:Nat)(w:World)(k:Nat):Prop:=k<w.heap.size∧(k<B∨w.cell? ⟨k,0,none⟩≠some (.int .i64 0))
def Rob (B:Nat)(w:World)(P:World→Prop):Prop:=∀W:World,(∀k,OkB B w k→W.heap[k]?=w.heap[k]?)→P W
theorem Rob.on {B:Nat}{w w':World}{P:World→Prop}(h:Rob B w P)(hb:Below w.heap.size w w'):Rob B w' P:=fun W hW=>h W fun k hk=>by
 have e:=hb.block k hk.1
 refine(hW k ⟨Nat.lt_of_lt_of_le hk.1 hb.size,?_⟩).trans e
 rw [World.cell?_of_block (w:=w) (a:=⟨k,0,none⟩) e]
 exact hk.2
theorem Rob.to {B:Nat}{w W:World}{P:World→Prop}(h:Rob B w P){b:Nat}(hB:B≤b)(hz:w.cell? ⟨b,0,none⟩=some (.int .i64 0))(hW:∀k,k≠b→W.heap[k]?=w.heap[k]?):P W:=h W fun k hk=>hW k fun e=>by
 subst e
 rcases hk.2 with h1|h1
 ·omega
 ·exact h1 hz
theorem Rob.and {B:Nat}{w:World}{P P2:World→Prop}(h:Rob B w P)(h2:Rob B w P2):Rob B w fun W=>P W∧P2 W:=fun W hW=>⟨h W hW,h2 W hW⟩
def sliceX (ls:List (List Int))(s a n:Int):List Int:=if inB ls s a n then sliceL ls s a n else []
theorem inB_nat {ls:List (List Int)}{s a n:Int}(h:inB ls s a n=true):∃S K N:Nat,s=S∧a=K∧n=N∧S<ls.length∧K+N≤(seg ls S).length:=by
 obtain⟨h1,h2,h3,h4,h5,h6⟩:=of_decide_eq_true h
 obtain⟨S,rfl⟩:=Int.eq_ofNat_of_zero_le h1
 obtain⟨K,rfl⟩:=Int.eq_ofNat_of_zero_le h3
 obtain⟨N,rfl⟩:=Int.eq_ofNat_of_zero_le h4
 rw [Int.toNat_natCast] at h5 h6
 exact⟨S,K,N,rfl,rfl,rfl,by omega,by omega⟩
def Fits (ls:List (List Int)):Prop:=∀j,(seg ls j).length≤17592186044415
theorem got_block {w:World}{base:Nat}{E:TypeId}{k:IntKind}{g n:Nat}{zs:List Int}(h:Got w base E k (.slice (some ⟨g,0,none⟩) n n) zs)(hl:zs.length=n):w.heap[g]?=some (.cells (zs.map (Value.int k)).toArray E (0,0)):=by
 obtain⟨h1,h2⟩:=h
 rcases h2 with ⟨h3,_⟩|⟨g',cap,cur,h3,h4,h5,h6,h7,h8,h9⟩
 ·injection h3 with e;cases e
 ·injection h3 with e1 e2 e3
  injection e1 with e1
  injection e1 with e1
  subst e1
  subst e3
  rw [h5,←h9,List.take_of_length_le (by rw [Array.length_toList];omega)]
theorem got_of_block {w:World}{base:Nat}{E:TypeId}{k:IntKind}{g n:Nat}{zs:List Int}(h:w.heap[g]?=some (.cells (zs.map (Value.int k)).toArray E (0,0)))(hb:base≤g)(hl:zs.length=n)(hm:n≤maxLen):Got w base E k (.slice (some ⟨g,0,none⟩) n n) zs:=by
 subst hl
 refine⟨by simp,.inr ⟨g,zs.length,_,rfl,hb,h,Nat.le_refl _,hm,by simp,?_⟩⟩
 rw [List.take_of_length_le (by simp)]
theorem splice_whole {α:Type}{L cs:List α}(h:cs.length=L.length):Go.splice L 0 cs=cs:=by
 simp [Go.splice,h]
theorem one_cells (k:IntKind)(zs:List Int):∀v∈zs.map (Value.int k),v.oneCell'=true:=by
 intro v hv
 obtain⟨z,_,rfl⟩:=List.mem_map.1 hv
 rfl
theorem copy_src {w:World}{k:IntKind}{A:Option Addr}{zs:List Int}{dp:Option Addr}{g:Nat}(h:Ri w k A zs)(hd:dp=some ⟨g,0,none⟩):0<(zs.map (Value.int k)).length→dp=some ⟨g,0,none⟩∧∃ad,A=some ad∧∀j v,(zs.map (Value.int k))[j]?=some v→w.cell? (ad.add j)=some v:=by
 intro h0
 rw [List.length_map] at h0
 obtain⟨b,off,rfl,hw⟩:=h.at h0
 refine⟨hd,_,rfl,fun j v hv=>?_⟩
 rw [List.getElem?_map] at hv
 cases hz:zs[j]? with
 | none=>rw [hz] at hv;cases hv
 | some z=>
  rw [hz] at hv
  have hj:j<zs.length:=by
   rcases Nat.lt_or_ge j zs.length with hlt|hge
   ·exact hlt
   ·rw [List.getElem?_eq_none hge] at hz;cases hz
  have e:v=Value.int k z:=(Option.some.inj hv).symm
  have:=hw j hj
  simp only [zat,List.getD_eq_getElem?_getD,hz,Option.getD_some] at this
  rw [e,←this]
  unfold Addr.add
  by_cases h1:j=0
  ·subst h1;rfl
  ·rw [if_neg h1]
theorem AWithin_no (A:Option Addr)(c:Nat)(ls:List (List Int))(s a n:Int)(w:World)(hs:Sg w A ls)(hm:ls.length≤140737488355328)
  (hs0:-9223372036854775808≤s) (hs1:s≤9223372036854775807) (ha0:-9223372036854775808≤a) (ha1:a≤9223372036854775807) (hn0:-9223372036854775808≤n) (hn1:n≤9223372036854775807) (hh:inB ls s a n=false) :
  Calls Tryz.prog 142 #[.slice A ls.length c,.int .i64 s,.int .i64 a,.int .i64 n] w fun e w'=>e=.returned (.tuple #[.slice none 0 0,.bool false])∧w=w':=by
 have Hs:=Lib.hid hs
 have HH:=Lib.hid hh
 clear hs hh
 by_cases h1:s<0
 ·go_enter Tryz.func142,Tryz.ntmps142
  go_wp2
  go_ret2
  exact⟨rfl,rfl⟩
 by_cases h2:(ls.length:Int)≤s
 ·go_enter Tryz.func142,Tryz.ntmps142
  go_wp2
  go_ret2
  exact⟨rfl,rfl⟩
 obtain⟨k,rfl⟩:=Int.eq_ofNat_of_zero_le (by omega:0≤s)
 obtain⟨b,off,A',c',rfl,hcell,hri,-,hc1,hc2⟩:=Hs.out.one (i:=k) (by omega)
 clear hri
 have hk2:(k:Int)<(ls.length:Int):=by omega
 by_cases h3:a<0
 ·go_enter Tryz.func142,Tryz.ntmps142
  go_wp2
  go_ret2
  exact⟨rfl,rfl⟩
 by_cases h4:n<0
 ·go_enter Tryz.func142,Tryz.ntmps142
  go_wp2
  go_ret2
  exact⟨rfl,rfl⟩
 have h5:((seg ls k).length:Int)-a<n:=by
  have h:=HH.out
  unfold inB at h
  rw [decide_eq_false_iff_not,Int.toNat_natCast] at h
  omega
 go_enter Tryz.func142,Tryz.ntmps142
 go_wp2
 go_ret2
 exact⟨rfl,rfl⟩
theorem AWithin_yes (A:Option Addr)(c:Nat)(ls:List (List Int))(S K n:Nat)(w:World)(hs:Sg w A ls)(hm:ls.length≤140737488355328)(hS:S<ls.length)(hK:K+n≤(seg ls S).length)(hh:inB ls S K n=true):
  Calls Tryz.prog 142 #[.slice A ls.length c,.int .i64 S,.int .i64 K,.int .i64 n] w fun e w'=>∃A' c',e=.returned (.tuple #[.slice A' n c',.bool true])∧w=w'∧Ri w .u64 A' (sliceL ls S K n)∧n≤c'∧c'≤9223372036854775807:=by
 have HL0:=sliceL_length hh
 have HL:Hid ((sliceL ls S K n).length=n):=Lib.hid (by omega)
 have HZ:Hid (sliceL ls S K n=((seg ls S).drop K).take n):=Lib.hid (by
  unfold sliceL
  rw [Int.toNat_natCast,Int.toNat_natCast,Int.toNat_natCast])
 have Hs:=Lib.hid hs
 clear hs hh HL0
 obtain⟨b,off,A',c',rfl,hcell,hri,hno,hc1,hc2⟩:=Hs.out.one hS
 have HR:=Lib.hid hri
 clear hri
 have hS1:(S:Int)<(ls.length:Int):=by omega
 have h5:¬((seg ls S).length:Int)-K<n:=by omega
 by_cases h0:n=0
 ·subst h0
  have H0:Hid (sliceL ls S K 0=[]):=Lib.hid (List.eq_nil_of_length_eq_zero HL.out)
  clear HZ HL
  by_cases hcap:c'=K
  ·clear hno
   go_enter Tryz.func142,Tryz.ntmps142
   go_wp2
   go_ret2
   refine⟨_,_,rfl,rfl,?_,by omega⟩
   rw [H0.out]
   exact Ri.nil _ _ _
  ·cases A' with
   | none=>exact absurd (hno rfl) (by omega)
   | some p=>
    clear hno
    go_enter Tryz.func142,Tryz.ntmps142
    go_wp2
    go_ret2
    refine⟨_,_,rfl,rfl,?_,by omega⟩
    rw [H0.out]
    exact Ri.nil _ _ _
 ·obtain⟨g,o,rfl,-⟩:=HR.out.at (i:=0) (by omega)
  clear hno
  have hcap:c'≠K:=by omega
  go_enter Tryz.func142,Tryz.ntmps142
  go_wp2
  go_ret2
  refine⟨_,_,rfl,rfl,?_,by omega,by omega⟩
  rw [HZ.out]
  exact(HR.out.drop rfl).take n
theorem AInF_any (A:Option Addr)(c:Nat)(ls:List (List Int))(s a n:Int)(w:World)(hs:Sg w A ls)(hm:ls.length≤140737488355328)
  (hs0:-9223372036854775808≤s) (hs1:s≤9223372036854775807) (ha0:-9223372036854775808≤a) (ha1:a≤9223372036854775807) (hn0:-9223372036854775808≤n) (hn1:n≤9223372036854775807) :
  Calls Tryz.prog 155 #[.slice A ls.length c,.int .i64 s,.int .i64 a,.int .i64 n] w fun e w'=>e=.returned (.bool (inB ls s a n))∧w=w':=by
 cases hi:inB ls s a n with
 | true=>
  obtain⟨S,K,N,rfl,rfl,rfl,hS,hK⟩:=inB_nat hi
  have HI:=Lib.hid (AWithin_yes A c ls S K N w hs hm hS hK hi)
  clear hs hi
  go_enter Tryz.func155,Tryz.ntmps155
  go_wp2_with fail
  refine HI.out.mono ?_
  rintro e w' ⟨A',c',rfl,rfl,-,-,-⟩
  go_wp2
  go_ret
  exact⟨rfl,rfl⟩
 | false=>
  have HI:=Lib.hid (AWithin_no A c ls s a n w hs hm hs0 hs1 ha0 ha1 hn0 hn1 hi)
  clear hs hi
  go_enter Tryz.func155,Tryz.ntmps155
  go_wp2_with fail
  refine HI.out.mono ?_
  rintro e w' ⟨rfl,rfl⟩
  go_wp2
  go_ret
  exact⟨rfl,rfl⟩
theorem hasB_inB (ls:List (List Int))(s a:Int):hasB ls s a=inB ls s a 1:=by
 unfold hasB inB
 rw [decide_eq_decide]
 constructor<;>intro h<;>omega
theorem AWordF_any (A:Option Addr)(c:Nat)(ls:List (List Int))(s a:Int)(w:World)(hs:Sg w A ls)(hm:ls.length≤140737488355328)
  (hs0:-9223372036854775808≤s) (hs1:s≤9223372036854775807) (ha0:-9223372036854775808≤a) (ha1:a≤9223372036854775807) :
  Calls Tryz.prog 136 #[.slice A ls.length c,.int .i64 s,.int .i64 a] w fun e w'=>e=.returned (.tuple #[.int .u64 (wordV ls s a),.bool (hasB ls s a)])∧w=w':=by
 cases hi:inB ls s a 1 with
 | true=>
  have hB:hasB ls s a=true:=(hasB_inB ls s a).trans hi
  obtain⟨S,K,N,rfl,rfl,h1,hS,hK⟩:=inB_nat hi
  obtain rfl:N=1:=by omega
  have HI:=Lib.hid (AWithin_yes A c ls S K 1 w hs hm hS hK hi)
  have HV:Hid (wordV ls S K=zat (sliceL ls S K (1:Nat)) 0):=Lib.hid (by
   unfold wordV sliceL
   rw [if_pos hB,Int.toNat_natCast,Int.toNat_natCast,Int.toNat_natCast,zat_take _ _ _ (by omega),zat_drop]
   rfl)
  have HL:Hid ((sliceL ls S K (1:Nat)).length=1):=Lib.hid (by have h:=sliceL_length hi;exact Int.ofNat.inj h)
  have HB:=Lib.hid hB
  clear hs hi hB h1
  generalize wordV ls S K=x at *
  go_enter Tryz.func136,Tryz.ntmps136
  go_wp2_with fail
  refine HI.out.mono ?_
  rintro e w' ⟨A',c',rfl,rfl,hri,h2,h3⟩
  obtain⟨g,o,rfl,hw⟩:=hri.at (i:=0) (by rw [HL.out];omega)
  have hword:=hw 0 (by rw [HL.out];omega)
  rw [←HV.out,Nat.add_zero] at hword
  clear hw hri
  go_wp2
  go_ret2
  exact⟨by rw [HB.out];rfl,rfl⟩
 | false=>
  have hB:hasB ls s a=false:=(hasB_inB ls s a).trans hi
  have HV:Hid (wordV ls s a=0):=Lib.hid (by unfold wordV;rw [if_neg (by rw [hB];exact Bool.false_ne_true)])
  have HB:=Lib.hid hB
  have HI:=Lib.hid (AWithin_no A c ls s a 1 w hs hm hs0 hs1 ha0 ha1 (by omega) (by omega) hi)
  clear hs hi hB
  go_enter Tryz.func136,Tryz.ntmps136
  go_wp2_with fail
  refine HI.out.mono ?_
  rintro e w' ⟨rfl,rfl⟩
  go_wp2
  go_ret2
  exact⟨by rw [HV.out,HB.out];rfl,rfl⟩
set_option maxRecDepth 100000 in
theorem ASlice_any (A:Option Addr)(c:Nat)(ls:List (List Int))(s a n:Int)(w:World)(hs:Sg w A ls)(hm:ls.length≤140737488355328)(hf:Fits ls)
    (hs0:-9223372036854775808≤s) (hs1:s≤9223372036854775807) (ha0:-9223372036854775808≤a) (ha1:a≤9223372036854775807) (hn0:-9223372036854775808≤n) (hn1:n≤9223372036854775807) :
    Calls Tryz.prog 131 #[.slice A ls.length c,.int .i64 s,.int .i64 a,.int .i64 n] w fun e w'=>∃v,e=.returned (.tuple #[v,.bool (inB ls s a n)])∧Got w' w.heap.size 48 .u64 v (sliceX ls s a n)∧Below w.heap.size w w':=by
  cases hi:inB ls s a n with
  | true=>
    obtain⟨S,K,N,rfl,rfl,rfl,hS,hK⟩:=inB_nat hi
    obtain⟨i0,hi0,hz0,hz1,hz2⟩:=info_parts int64_info
    have hN:=hf S
    have HI:=Lib.hid (AWithin_yes A c ls S K N w hs hm hS hK hi)
    have HX:Hid (sliceX ls S K N=sliceL ls S K N):=Lib.hid (by unfold sliceX;rw [if_pos hi])
    have HL:Hid ((sliceL ls S K N).length=N):=Lib.hid (by have:=sliceL_length hi;omega)
    clear hs hi hf
    generalize sliceL ls S K N=xs at *
    go_enter Tryz.func131,Tryz.ntmps131
    go_wp2_with fail
    refine HI.out.mono ?_
    rintro e w' ⟨A',c',rfl,rfl,hri,h2,h3⟩
    have HR:=Lib.hid hri
    clear hri
    go_wp2_with (first
      | (at_make;refine wpList_make_full _ rfl _ _ 27 rfl w.heap.size 48 i0 (.int .u64 0) 1 Tryz.underlying27 hi0 hz0 hz1 .i64 .i64 _ _ N rfl rfl (by omega) (by omega) (by rw [hz2];omega) (by unfold maxLen;omega) (Nat.le_refl _) ?_;intro w0 hown0 hgrow0
         have hb0:Below w.heap.size w w0:=(Below.refl _ _).grown hgrow0 (Nat.le_refl _) (by simp)
         have HBK:=Lib.hid (got_block (got_made hown0) (List.length_replicate ..))
         have HRC:=Lib.hid (HR.out.below hb0 (Nat.le_refl _))
         have HB0:=Lib.hid hb0
         clear hown0 hgrow0 hb0)
      | (refine wpList_copy_splice rfl (.tmp 26) (.tmp 27) 27 27 rfl 48 rfl rfl _ _ _ _ _ _ rfl rfl w.heap.size 0 _ _ HBK.out (xs.map (Value.int .u64)) (by rw [List.length_map,HL.out];exact(Nat.min_self N).symm) (copy_src HRC.out rfl) (by rw [List.length_map,List.length_map,List.length_replicate,HL.out];omega) (one_cells _ _) w.heap.size w HB0.out (Nat.le_refl _) ?_;intro w2 HG2 hB2))
    go_ret2
    refine⟨_,rfl,?_,hB2⟩
    rw [HX.out]
    refine(got_of_block (n:=N) ?_ (Nat.le_refl _) HL.out (by unfold maxLen;omega))
    have h:=HG2.out
    rw [splice_whole (by rw [List.length_map,List.length_map,List.length_replicate,HL.out])] at h
    exact h
  | false=>
    have HI:=Lib.hid (AWithin_no A c ls s a n w hs hm hs0 hs1 ha0 ha1 hn0 hn1 hi)
    have HX:Hid (sliceX ls s a n=[]):=Lib.hid (by unfold sliceX;rw [if_neg (by rw [hi];exact Bool.false_ne_true)])
    clear hs hi hf
    go_enter Tryz.func131,Tryz.ntmps131
    go_wp2_with fail
    refine HI.out.mono ?_
    rintro e w' ⟨rfl,rfl⟩
    go_wp2
    go_ret2
    exact⟨_,rfl,by rw [HX.out];exact Got.empty _ _ _ _,Below.refl _ _⟩
def cutF (d:List Int):Nat→Nat
 | 0=>0
 | i+1=>if zat d i=0 then cutF d i else i+1
theorem cutF_le (d:List Int):∀i,cutF d i≤i
 | 0=>by simp [cutF]
 | i+1=>by
  have:=cutF_le d i
  unfold cutF
  split<;>omega
theorem wordsF_cut (d:List Int):∀i,wordsF d i=(cutF d i+7) / 8
 | 0=>by simp [wordsF,cutF]
 | i+1=>by
  have:=wordsF_cut d i
  unfold wordsF cutF
  split
  ·exact this
  ·omega
theorem isZero_any (z:Int)(w:World):Calls Tryz.prog 90 #[.int .u8 z] w fun r w'=>r=.returned (.bool (z==0))∧w'=w:=by
 go_enter Tryz.func90,Tryz.ntmps90
 go_wp2
 go_ret
 exact⟨rfl,rfl⟩
theorem isNull_any (k e n:Int)(A:Option Addr)(dl c:Nat)(B:Option Addr)(kl c2:Nat)(w:World):Calls Tryz.prog 71 #[.agg #[.int .i64 k,.int .i64 e,.int .i64 n,.slice A dl c,.slice B kl c2]] w fun r w'=>r=.returned (.bool (k==0))∧Below w.heap.size w w':=by
 have HB:=Lib.hid (fun o=>(Below.refl w.heap.size w).alloc (Nat.le_refl _) o)
 go_enter Tryz.func71,Tryz.ntmps71
 go_wp2
 go_ret
 exact⟨rfl,HB.out _⟩
set_option maxRecDepth 100000 in
theorem cutB_any (A:Option Addr)(c:Nat)(d:List Int)(w:World)(hr:Ri w .u8 A d)(hb:Bts d)(hm:d.length≤1099511627776)(hc:d.length≤c):
  Calls Tryz.prog 89 #[.slice A d.length c,.func (.func 90) #[] #[]] w fun r w'=>r=.returned (.slice A (cutF d d.length) c)∧w=w':=by
 have Hr:=Lib.hid hr
 have Hb:=Lib.hid hb
 clear hr hb
 go_enter Tryz.func89,Tryz.ntmps89
 go_wp2
 go_loop [0] (fun v=>∃k:Nat,k≤d.length∧v=.slice A k c∧cutF d d.length=cutF d k) (fun v=>match v with|.slice _ n _=>n|_=>0)
 case atStart=>exact⟨d.length,by omega,rfl,rfl⟩
 case round=>
  obtain⟨k,hk,rfl,hq⟩:=hrel
  have HQ:=Lib.hid hq
  clear hq
  cases k with
  | zero=>
   go_wp2
   go_ret
   exact⟨by rw [HQ.out];rfl,rfl⟩
  | succ k=>
   obtain⟨g,off,rfl,hcd⟩:=Hr.out.at (i:=k) (by omega)
   have hcell:=hcd k (by omega)
   have HS:Hid (cutF d (k+1)=if zat d k=0 then cutF d k else k+1):=Lib.hid rfl
   clear hcd
   generalize zat d k=z at *
   go_wp2_with fail
   refine(isZero_any z _).mono ?_
   rintro r w' ⟨rfl,rfl⟩
   by_cases h0:z=0
   ·have t1:(z==0)=true:=by simpa using h0
    have HQ2:=Lib.hid (HQ.out.trans (HS.out.trans (if_pos h0)))
    clear h0
    go_wp2
    go_round
    case rel=>exact⟨k,by omega,by go_num,HQ2.out⟩
    case measure=>simp
   ·have t1:(z==0)=false:=by simpa using h0
    have HQ2:=Lib.hid (HQ.out.trans (HS.out.trans (if_neg h0)))
    clear h0
    go_wp2
    go_ret
    exact⟨by rw [HQ2.out];rfl,rfl⟩
theorem trimWords_any (A:Option Addr)(c:Nat)(d:List Int)(w:World)(hr:Ri w .u8 A d)(hb:Bts d)(hm:d.length≤1099511627776)(hc:d.length≤c):
  Calls Tryz.prog 69 #[.slice A d.length c] w fun r w'=>r=.returned (.int .i64 (wordsT d))∧w=w':=by
 have HC:=Lib.hid (cutB_any A c d w hr hb hm hc)
 have HW:Hid (((cutF d d.length:Int)+7) / 8=wordsT d):=Lib.hid (by unfold wordsT;rw [wordsF_cut];omega)
 have hl:=cutF_le d d.length
 clear hr hb
 generalize cutF d d.length=m at *
 go_enter Tryz.func69,Tryz.ntmps69
 go_wp2_with fail
 refine HC.out.mono ?_
 rintro r w' ⟨rfl,rfl⟩
 go_wp2
 go_ret
 refine⟨?_,rfl⟩
 rw [←HW.out]
 go_num
set_option maxRecDepth 100000 in
theorem cutK_any (B:Option Addr)(c:Nat)(ks:List Nd)(w:World)(hr:KsR w B ks)(hm:ks.length≤1099511627776)(hc:ks.length≤c):
  Calls Tryz.prog 70 #[.slice B ks.length c,.func (.func 71) #[] #[]] w fun r w'=>r=.returned (.slice B (ptrsT ks) c)∧Below w.heap.size w w':=by
 have HK:=Lib.hid hr
 have HW:Hid (ptrsT ks=ptrsF ks ks.length):=Lib.hid rfl
 clear hr
 go_enter Tryz.func70,Tryz.ntmps70
 go_wp2
 go_loopw [0] (fun v wr=>∃k:Nat,k≤ks.length∧v=.slice B k c∧ptrsT ks=ptrsF ks k∧Below w.heap.size w wr) (fun v _=>match v with|.slice _ n _=>n|_=>0)
 case atStart=>exact⟨ks.length,by omega,rfl,HW.out,Below.refl _ _⟩
 case round=>
  obtain⟨k,hk,rfl,hq,hbr⟩:=hrel
  have HQ:=Lib.hid hq
  have HR:=Lib.hid hbr
  clear hq hbr
  cases k with
  | zero=>
   go_wp2
   go_ret
   exact⟨by rw [HQ.out];rfl,HR.out⟩
  | succ k=>
   obtain⟨b,off,A',c',B',c2',rfl,k0,k1,k2,k3,k4,hsub⟩:=HK.out.atIn HR.out (Nat.le_refl _) (j:=k) (by omega)
   have HS:Hid (ptrsF ks (k+1)=if (ks[k]'(by omega)).k=0 then ptrsF ks k else k+1):=Lib.hid (by rw [←kAt_get (by omega)];rfl)
   clear hsub
   generalize (ks[k]'(by omega))=kx at *
   obtain⟨kk,ke,kn,kd,kks⟩:=kx
   simp only [Nd.k,Nd.e,Nd.n,Nd.d,Nd.ks] at k0 k1 k2 k3 k4 HS
   go_wp2_with fail
   refine(isNull_any _ _ _ _ _ _ _ _ _ _).mono ?_
   rintro r w' ⟨rfl,hb1⟩
   have HB1:=Lib.hid (bel_on HR.out hb1)
   clear hb1
   by_cases h0:kk=0
   ·have t1:(kk==0)=true:=by simpa using h0
    have HQ2:=Lib.hid (HQ.out.trans (HS.out.trans (if_pos h0)))
    clear h0
    go_wp2
    go_roundw
    case rel=>exact⟨k,by omega,by go_num,HQ2.out,HB1.out⟩
    case measure=>simp
   ·have t1:(kk==0)=false:=by simpa using h0
    have HQ2:=Lib.hid (HQ.out.trans (HS.out.trans (if_neg h0)))
    clear h0
    go_wp2
    go_ret
    exact⟨by rw [HQ2.out];rfl,HB1.out⟩
set_option maxRecDepth 100000 in
theorem trimUniform_any (x:Nd)(A:Option Addr)(c:Nat)(B:Option Addr)(c2:Nat)(w:World)(hx:NdR w A c B c2 x)(hs:sizeN x≤1099511627776):
  Calls Tryz.prog 100 #[.agg #[.int .i64 x.k,.int .i64 x.e,.int .i64 x.n,.slice A x.d.length c,.slice B x.ks.length c2]] w fun r w'=>r=.returned (.tuple #[.int .i64 (uniD x.ks x.ks.length),.int .i64 (uniP x.ks x.ks.length)])∧Below w.heap.size w w':=by
 obtain⟨k,e,n,d,ks⟩:=x
 simp only [Nd.k,Nd.e,Nd.n,Nd.d,Nd.ks]
 have HK:=Lib.hid hx.kids
 have hso:sizeN (.mk k e n d ks)=1+d.length+sizeK ks:=by simp only [sizeN]
 rw [hso] at hs
 have hkl:=sizeK_length ks
 have hlen:ks.length≤1099511627776:=by omega
 have HSZ:Hid (∀(j:Nat) (hj:j<ks.length),(ks[j]).d.length≤1099511627776∧(ks[j]).ks.length≤1099511627776):=Lib.hid (fun j hj=>by
  have h1:=sizeN_kid (List.getElem_mem hj)
  generalize ks[j]=y at *
  obtain⟨k',e',n',d',ks'⟩:=y
  simp only [sizeN] at h1
  have:=sizeK_length ks'
  simp only [Nd.d,Nd.ks]
  omega)
 have HB0:=Lib.hid (fun o=>(Below.refl w.heap.size w).alloc (Nat.le_refl _) o)
 clear hx hso hs hkl
 go_enter Tryz.func100,Tryz.ntmps100
 go_wp2
 go_loopw [4,5,11] (fun p q i wr=>∃j:Nat,j≤ks.length∧i=.int .i64 j∧p=.int .i64 (uniD ks j)∧q=.int .i64 (uniP ks j)∧uniD ks j≤1099511627776∧uniP ks j≤1099511627776∧Below w.heap.size w wr) (fun _ _ i _=>ks.length-(intOf i).toNat)
 case atStart=>exact⟨0,by omega,rfl,rfl,rfl,by simp [uniD],by simp [uniP],HB0.out _⟩
 case round=>
  obtain⟨j,hj,rfl,rfl,rfl,hd1,hp1,hbr⟩:=hrel
  have HR:=Lib.hid hbr
  clear hbr
  by_cases hlt:j<ks.length
  ·have hj1:(j:Int)<(ks.length:Int):=by omega
   obtain⟨b,off,A',c',B',c2',rfl,k0,k1,k2,k3,k4,hsub⟩:=HK.out.atIn HR.out (Nat.le_refl _) hlt
   have HD:=Lib.hid (uniD_succ hlt)
   have HP:=Lib.hid (uniP_succ hlt)
   obtain⟨hz1,hz2⟩:=HSZ.out j hlt
   clear hsub
   generalize ks[j]=kx at *
   obtain⟨kk,ke,kn,kd,kks⟩:=kx
   simp only [Nd.k,Nd.e,Nd.n,Nd.d,Nd.ks] at k0 k1 k2 k3 k4 HD HP hz1 hz2
   have HB1:=Lib.hid (fun o=>HR.out.alloc HR.out.size o)
   generalize uniD ks j=u at *
   generalize uniP ks j=v at *
   go_wp2
   go_roundw
   case rel=>exact⟨j+1,by omega,by go_num,by rw [HD.out];go_num,by rw [HP.out];go_num,by rw [HD.out];omega,by rw [HP.out];omega,HB1.out _⟩
   case measure=>simp [intOf];omega
  ·obtain rfl:j=ks.length:=by omega
   go_wp2
   go_ret2
   exact⟨rfl,HR.out⟩
theorem TUniform_any (x:Nd)(A:Option Addr)(c:Nat)(B:Option Addr)(c2:Nat)(w:World)(hT:TabOK w)(hx:NdR w A c B c2 x)(hs:sizeN x≤1099511627776)(hv:validN x=true)(hk:x.k=2)(he:x.e=7):
  Calls Tryz.prog 100 #[.agg #[.int .i64 x.k,.int .i64 x.e,.int .i64 x.n,.slice A x.d.length c,.slice B x.ks.length c2]] w fun r w'=>r=.returned (.tuple #[.int .i64 (uniD x.ks x.ks.length),.int .i64 (uniP x.ks x.ks.length)])∧Below w.heap.size w w':=
 trimUniform_any x A c B c2 w hx hs
end Go.Proofs.YtbpmeppdjicmhaaGreatDoor
