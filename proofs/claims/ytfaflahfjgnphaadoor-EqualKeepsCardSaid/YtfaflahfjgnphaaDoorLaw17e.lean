/- A law of layer 17: EqualKeeps. -/
import Derived.Test.YtfaflahfjgnphaaDoorMg17
import Derived.Test.YtfaflahfjgnphaaDoorMg37
import Derived.Test.YtfaflahfjgnphaaDoorMg38
import Derived.Test.YtfaflahfjgnphaaDoorMg45
import Derived.Test.YtfaflahfjgnphaaDoorLaw17c
namespace Go.Proofs.YtfaflahfjgnphaaDoor
open Go.ChangeShapes Go.WideShapes Go.ChangeAt Go.RowKit
set_option linter.unusedVariables false
set_option linter.unusedSimpArgs false
set_option maxRecDepth 100000
section
def Row17 (base X0:Nat)(wr:World)(ls:List (List Int))(v:Value)(k:Nat):Prop:=(k=0∧v=.slice (some ⟨X0,0,none⟩) 0 0)∨(0<k∧GotS wr base v (ls.take k))
theorem Row17.slice {base X0:Nat}{wr:World}{ls:List (List Int)}{v:Value}(h:Row17 base X0 wr ls v ls.length):∃A c,v=.slice A ls.length c∧ls.length≤c∧c≤maxLen∧Sg wr A ls:=by
 rcases h with ⟨h0,rfl⟩|⟨-,hgk⟩
 ·have hn:ls=[]:=List.eq_nil_of_length_eq_zero h0
  exact⟨_,0,by rw [h0],by omega,Nat.zero_le _,by rw [hn];exact Sg.nil _ _⟩
 ·rw [List.take_length] at hgk
  exact hgk.slice
attribute [local simp] AllK KnowsV look Is
attribute [local irreducible] msgV measV small15B fewB canW writeF eqM eqN dataE sameB sizeN
set_option maxHeartbeats 4000000 in
set_option maxRecDepth 100000 in
theorem Keeps17_walk (Aa:Option Addr)(ca:Nat)(la:List (List Int))(Ab:Option Addr)(cb:Nat)(lb:List (List Int))(D X O:Int)(w:World)(hT:TabOK w)(hAa:Sg w Aa la)(hwa:Wd2 la)(hna:Aa=none→ca=0)(hma:la.length≤9223372036854775807)(hca:la.length≤ca)(hka:ca≤9223372036854775807)(hAb:Sg w Ab lb)(hwb:Wd2 lb)(hnb:Ab=none→cb=0)(hmb:lb.length≤9223372036854775807)(hcb:lb.length≤cb)(hkb:cb≤9223372036854775807)
  (d0:-9223372036854775808≤D) (d1:D≤9223372036854775807) (x0:-9223372036854775808≤X) (x1:X≤9223372036854775807) :
  Calls Tryd.prog 5 #[.slice Aa la.length ca,.slice Ab lb.length cb,.agg #[.int .i64 D,.int .i64 X,.int .i64 O]] w fun e w'=>e=.returned (.bool true)∧Below w.heap.size w w':=by
 obtain⟨i0,hi,hy0,hy1,hy2⟩:=info_parts int64_info
 have HT:=Lib.hid hT
 clear hT
 have Hma:=Lib.hid hAa
 have HWa:=Lib.hid hwa
 clear hAa hwa hna
 have Hmb:=Lib.hid hAb
 have HWb:=Lib.hid hwb
 clear hAb hwb hnb
 go_enter Tryd.func5,Tryd.ntmps5
 go_wp2_with fail
 refine abs_world (F:=fun W=>Sg W Aa la∧Sg W Ab lb∧Blk W w.heap.size #[.int .i64 D,.int .i64 X,.int .i64 O]∧Below w.heap.size w W) ⟨?_,?_,?_,?_⟩ ?_
 ·exact(Hma.out.alloc _)
 ·exact(Hmb.out.alloc _)
 ·exact Blk.fresh _ _ _
 ·exact((Below.refl w.heap.size w).alloc (by first|exact Nat.le_refl _|(simp;done)|(simp;omega)) _)
 clear Hma Hmb
 rintro W1 ⟨hma,hmb,hl,hb⟩
 have Hma:=Lib.hid hma
 have Hmb:=Lib.hid hmb
 have Hl:=Lib.hid hl
 have HB:=Lib.hid hb
 clear hb hma hmb hl
 refine(awake17_any _ (HT.out.on HB.out)).mono ?_
 rintro r w2 ⟨rfl,hb⟩
 have fma:=Hma.out.below hb (Nat.le_refl _)
 have fmb:=Hmb.out.below hb (Nat.le_refl _)
 have fl:=Hl.out.below hb
 have HB0:=Lib.hid (bel_on HB.out hb)
 clear hb Hma Hmb Hl HB
 have HB:=HB0
 clear HB0
 have Hma:=Lib.hid fma
 clear fma
 have Hmb:=Lib.hid fmb
 clear fmb
 have Hl:=Lib.hid fl
 clear fl
 obtain⟨xl,yl,zl⟩:=Hl.out
 go_wp2_with fail
 clear xl yl zl
 refine(RefSmall15 Aa ca la D X O _ Hma.out hma).mono ?_
 rintro r w3 ⟨rfl,hb⟩
 have fma:=Hma.out.below hb (Nat.le_refl _)
 have fmb:=Hmb.out.below hb (Nat.le_refl _)
 have fl:=Hl.out.below hb
 have HB0:=Lib.hid (bel_on HB.out hb)
 clear hb Hma Hmb Hl HB
 have HB:=HB0
 clear HB0
 have Hma:=Lib.hid fma
 clear fma
 have Hmb:=Lib.hid fmb
 clear fmb
 have Hl:=Lib.hid fl
 clear fl
 cases hsm:small15B la D X with
 | false=>
  clear hsm
  go_wp2_with fail
  refine(awake17_any _ (HT.out.on HB.out)).mono ?_
  rintro r w4 ⟨rfl,hb⟩
  have fma:=Hma.out.below hb (Nat.le_refl _)
  have fmb:=Hmb.out.below hb (Nat.le_refl _)
  have fl:=Hl.out.below hb
  have HB0:=Lib.hid (bel_on HB.out hb)
  clear hb Hma Hmb Hl HB
  have HB:=HB0
  clear HB0
  have Hma:=Lib.hid fma
  clear fma
  have Hmb:=Lib.hid fmb
  clear fmb
  have Hl:=Lib.hid fl
  clear fl
  go_wp2
  go_ret
  exact⟨rfl,HB.out⟩
 | true=>
  obtain⟨hD,hX,hl20,hf⟩:=small15_fits hsm
  have HFa:Hid (∀j,(seg la j).length≤20000000):=Lib.hid (fun j=>by have:=hf j;omega)
  have H3a:Hid (∀j,(seg la j).length≤300):=Lib.hid hf
  have hm'a:la.length≤40:=by omega
  clear hsm hf hl20
  obtain⟨xl,yl,zl⟩:=Hl.out
  go_wp2_with fail
  clear xl yl zl
  refine(RefSmall15 Ab cb lb D X O _ Hmb.out hmb).mono ?_
  rintro r w4 ⟨rfl,hb⟩
  have fma:=Hma.out.below hb (Nat.le_refl _)
  have fmb:=Hmb.out.below hb (Nat.le_refl _)
  have fl:=Hl.out.below hb
  have HB0:=Lib.hid (bel_on HB.out hb)
  clear hb Hma Hmb Hl HB
  have HB:=HB0
  clear HB0
  have Hma:=Lib.hid fma
  clear fma
  have Hmb:=Lib.hid fmb
  clear fmb
  have Hl:=Lib.hid fl
  clear fl
  cases hsm:small15B lb D X with
  | false=>
   clear hsm
   go_wp2_with fail
   refine(awake17_any _ (HT.out.on HB.out)).mono ?_
   rintro r w5 ⟨rfl,hb⟩
   have fma:=Hma.out.below hb (Nat.le_refl _)
   have fmb:=Hmb.out.below hb (Nat.le_refl _)
   have fl:=Hl.out.below hb
   have HB0:=Lib.hid (bel_on HB.out hb)
   clear hb Hma Hmb Hl HB
   have HB:=HB0
   clear HB0
   have Hma:=Lib.hid fma
   clear fma
   have Hmb:=Lib.hid fmb
   clear fmb
   have Hl:=Lib.hid fl
   clear fl
   go_wp2
   go_ret
   exact⟨rfl,HB.out⟩
  | true=>
   obtain⟨hD,hX,hl20,hf⟩:=small15_fits hsm
   have HFb:Hid (∀j,(seg lb j).length≤20000000):=Lib.hid (fun j=>by have:=hf j;omega)
   have H3b:Hid (∀j,(seg lb j).length≤300):=Lib.hid hf
   have hm'b:lb.length≤40:=by omega
   clear hsm hf hl20
   obtain⟨xl,yl,zl⟩:=Hl.out
   go_wp2
   refine abs_code10 (F:=fun W=>Sg W Aa la∧Sg W Ab lb∧Blk W w.heap.size #[.int .i64 D,.int .i64 X,.int .i64 O]∧Below w.heap.size w W) ⟨?_,?_,?_,?_⟩ ?_
   ·exact((Hma.out.alloc _).alloc _)
   ·exact((Hmb.out.alloc _).alloc _)
   ·exact((Hl.out.alloc _).alloc _)
   ·exact((HB.out.alloc (by first|exact Nat.le_refl _|(have:=HB.out.size;simp;omega)|(have:=HB.out.size;omega)|(simp;done)|(simp;omega)) _).alloc (by first|exact Nat.le_refl _|(have:=HB.out.size;simp;omega)|(have:=HB.out.size;omega)|(simp;done)|(simp;omega)) _)
   clear Hma Hmb Hl HB xl yl zl
   rintro W5 ⟨hma,hmb,hl,hb⟩
   have Hma:=Lib.hid hma
   have Hmb:=Lib.hid hmb
   have Hl:=Lib.hid hl
   have HB:=Lib.hid hb
   clear hb hma hmb hl
   go_loopw [7,9] (fun v i wr=>∃k:Nat,k≤la.length∧i=.int .i64 k∧Row17 W5.heap.size (w4.heap.size) wr la v k∧Below W5.heap.size W5 wr) (fun _ i _=>la.length-(intOf i).toNat)
   case atStart=>exact⟨0,by omega,rfl,.inl ⟨rfl,rfl⟩,Below.refl _ _⟩
   case round=>
    obtain⟨k,hk,rfl,hgk,hbk⟩:=hrel
    have HBk:=Lib.hid hbk
    have hzk:=hbk.size
    by_cases hlt:k<la.length
    ·have hsg:=(Hma.out.below hbk (Nat.le_refl _)).below ((Below.refl wr.heap.size wr).alloc (Nat.le_refl _) (.cells #[] 32)) (Nat.le_refl _)
     obtain⟨b,off,A',c',rfl,hcell,hri,hn',hc1,hc2⟩:=hsg.one hlt
     have hk1:(k:Int)<(la.length:Int):=by omega
     have HRI:=Lib.hid hri
     have HN':=Lib.hid hn'
     have HEM:=Lib.hid (Got.empty_made wr 32 .u64 (Nat.le_refl _))
     have HTK:=Lib.hid (take_succ_seg la k hlt)
     have HTL:Hid ((la.take k).length=k):=Lib.hid (by rw [List.length_take];omega)
     have h600:=H3a.out k
     have HBA:=Lib.hid ((Below.refl wr.heap.size wr).alloc (Nat.le_refl _) (.cells #[] 32))
     clear hsg hbk hri hn'
     rcases hgk with ⟨hk0,rfl⟩|⟨hk0,hgk⟩
     ·have HK0:Hid (la.take k=[]):=Lib.hid (by rw [hk0];rfl)
      have hk2:k+1≤la.length:=by omega
      clear hk0
      go_wp2_with (first
       | (at_builtin;refine wpList_appN rfl (.tmp 36) (.tmp 40) 31 rfl Tryd.underlying31 hi hy0 hy1 hy2 rfl HEM.out rfl HRI.out HN'.out (by unfold maxLen;simp;omega) (by simp;omega) (by first|omega|(simp;done)|(simp;omega)) ?_;intro v2 u2 hg2 hb2;obtain⟨A2,c2,rfl,-,-,-⟩:=hg2.slice;have hbw:=HBA.out.trans hb2;have HG2:=Lib.hid (hg2.mono hzk);have hz2:=hbw.size;have HB2:=Lib.hid (HBk.out.trans (hbw.mono hzk));clear hg2 hb2 hbw)
       | (at_builtin;refine wpList_appS0 rfl (.tmp 35) (.tmp 42) 22 rfl Tryd.underlying22 rfl HG2.out rfl (by omega) ?_;intro v5 u5 hg5 hb5))
      go_roundw
      case rel=>exact⟨k+1,hk2,by go_num,.inr ⟨by omega,by rw [HTK.out,HK0.out];exact hg5⟩,HB2.out.trans (hb5.mono (by omega))⟩
      case measure=>simp [intOf];omega
     ·have HG:=Lib.hid hgk
      clear hgk
      go_wp2_with (first
       | (at_builtin;refine wpList_appN rfl (.tmp 36) (.tmp 40) 31 rfl Tryd.underlying31 hi hy0 hy1 hy2 rfl HEM.out rfl HRI.out HN'.out (by unfold maxLen;simp;omega) (by simp;omega) (by first|omega|(simp;done)|(simp;omega)) ?_;intro v2 u2 hg2 hb2;obtain⟨A2,c2,rfl,-,-,-⟩:=hg2.slice;have hbw:=HBA.out.trans hb2;have HG2:=Lib.hid (hg2.mono hzk);have hz2:=hbw.size;have HB2:=Lib.hid (HBk.out.trans (hbw.mono hzk));have HGS2:=Lib.hid (HG.out.below hbw (Nat.le_refl _));clear hg2 hb2 hbw)
       | (at_builtin;refine wpList_appS rfl (.tmp 35) (.tmp 42) 22 rfl Tryd.underlying22 rfl HGS2.out HG2.out rfl (by rw [HTL.out];omega) (by omega) ?_;intro v5 u5 hg5 hb5))
      go_roundw
      case rel=>exact⟨k+1,by omega,by go_num,.inr ⟨by omega,by rw [HTK.out];exact hg5⟩,HB2.out.trans hb5⟩
      case measure=>simp [intOf];omega
    obtain rfl:k=la.length:=by omega
    obtain⟨Aa2,ca2,rfl,hca2,hka2,hsa⟩:=Row17.slice hgk
    unfold maxLen at hka2
    clear hgk hlt hk hzk
    have hma':=Hma.out.below hbk (Nat.le_refl _)
    have hmb':=Hmb.out.below hbk (Nat.le_refl _)
    have hl':=Hl.out.below hbk
    have hb':=bel_on HB.out hbk
    clear Hma Hmb Hl HB HBk hbk
    have Hma:=Lib.hid hma'
    have Hmb:=Lib.hid hmb'
    have Hl:=Lib.hid hl'
    have HB:=Lib.hid hb'
    have Hca:=Lib.hid hsa
    clear hma' hmb' hl' hb' hsa
    generalize wr=Y at *
    go_wp2
    go_loopw [8,10] (fun v i wr=>∃k:Nat,k≤lb.length∧i=.int .i64 k∧Row17 Y.heap.size (w4.heap.size+1) wr lb v k∧Below Y.heap.size Y wr) (fun _ i _=>lb.length-(intOf i).toNat)
    case atStart=>exact⟨0,by omega,rfl,.inl ⟨rfl,rfl⟩,Below.refl _ _⟩
    case round=>
     obtain⟨k,hk,rfl,hgk,hbk⟩:=hrel
     have HBk:=Lib.hid hbk
     have hzk:=hbk.size
     by_cases hlt:k<lb.length
     ·have hsg:=(Hmb.out.below hbk (Nat.le_refl _)).below ((Below.refl wr.heap.size wr).alloc (Nat.le_refl _) (.cells #[] 32)) (Nat.le_refl _)
      obtain⟨b,off,A',c',rfl,hcell,hri,hn',hc1,hc2⟩:=hsg.one hlt
      have hk1:(k:Int)<(lb.length:Int):=by omega
      have HRI:=Lib.hid hri
      have HN':=Lib.hid hn'
      have HEM:=Lib.hid (Got.empty_made wr 32 .u64 (Nat.le_refl _))
      have HTK:=Lib.hid (take_succ_seg lb k hlt)
      have HTL:Hid ((lb.take k).length=k):=Lib.hid (by rw [List.length_take];omega)
      have h600:=H3b.out k
      have HBA:=Lib.hid ((Below.refl wr.heap.size wr).alloc (Nat.le_refl _) (.cells #[] 32))
      clear hsg hbk hri hn'
      rcases hgk with ⟨hk0,rfl⟩|⟨hk0,hgk⟩
      ·have HK0:Hid (lb.take k=[]):=Lib.hid (by rw [hk0];rfl)
       have hk2:k+1≤lb.length:=by omega
       clear hk0
       go_wp2_with (first
        | (at_builtin;refine wpList_appN rfl (.tmp 51) (.tmp 55) 31 rfl Tryd.underlying31 hi hy0 hy1 hy2 rfl HEM.out rfl HRI.out HN'.out (by unfold maxLen;simp;omega) (by simp;omega) (by first|omega|(simp;done)|(simp;omega)) ?_;intro v2 u2 hg2 hb2;obtain⟨A2,c2,rfl,-,-,-⟩:=hg2.slice;have hbw:=HBA.out.trans hb2;have HG2:=Lib.hid (hg2.mono hzk);have hz2:=hbw.size;have HB2:=Lib.hid (HBk.out.trans (hbw.mono hzk));clear hg2 hb2 hbw)
        | (at_builtin;refine wpList_appS0 rfl (.tmp 50) (.tmp 57) 22 rfl Tryd.underlying22 rfl HG2.out rfl (by omega) ?_;intro v5 u5 hg5 hb5))
       go_roundw
       case rel=>exact⟨k+1,hk2,by go_num,.inr ⟨by omega,by rw [HTK.out,HK0.out];exact hg5⟩,HB2.out.trans (hb5.mono (by omega))⟩
       case measure=>simp [intOf];omega
      ·have HG:=Lib.hid hgk
       clear hgk
       go_wp2_with (first
        | (at_builtin;refine wpList_appN rfl (.tmp 51) (.tmp 55) 31 rfl Tryd.underlying31 hi hy0 hy1 hy2 rfl HEM.out rfl HRI.out HN'.out (by unfold maxLen;simp;omega) (by simp;omega) (by first|omega|(simp;done)|(simp;omega)) ?_;intro v2 u2 hg2 hb2;obtain⟨A2,c2,rfl,-,-,-⟩:=hg2.slice;have hbw:=HBA.out.trans hb2;have HG2:=Lib.hid (hg2.mono hzk);have hz2:=hbw.size;have HB2:=Lib.hid (HBk.out.trans (hbw.mono hzk));have HGS2:=Lib.hid (HG.out.below hbw (Nat.le_refl _));clear hg2 hb2 hbw)
        | (at_builtin;refine wpList_appS rfl (.tmp 50) (.tmp 57) 22 rfl Tryd.underlying22 rfl HGS2.out HG2.out rfl (by rw [HTL.out];omega) (by omega) ?_;intro v5 u5 hg5 hb5))
       go_roundw
       case rel=>exact⟨k+1,by omega,by go_num,.inr ⟨by omega,by rw [HTK.out];exact hg5⟩,HB2.out.trans hb5⟩
       case measure=>simp [intOf];omega
     obtain rfl:k=lb.length:=by omega
     obtain⟨Ab2,cb2,rfl,hcb2,hkb2,hsb⟩:=Row17.slice hgk
     unfold maxLen at hkb2
     clear hgk hlt hk hzk
     have hma':=Hma.out.below hbk (Nat.le_refl _)
     have hmb':=Hmb.out.below hbk (Nat.le_refl _)
     have hl':=Hl.out.below hbk
     have hb':=bel_on HB.out hbk
     have hca':=Hca.out.below hbk (Nat.le_refl _)
     clear Hma Hmb Hl HB HBk hbk Hca
     have Hma:=Lib.hid hma'
     have Hmb:=Lib.hid hmb'
     have Hl:=Lib.hid hl'
     have HB:=Lib.hid hb'
     have Hca:=Lib.hid hca'
     have Hcb:=Lib.hid hsb
     clear hma' hmb' hl' hb' hca' hsb
     generalize wr=V at *
     obtain⟨⟨vv,ee⟩,hq⟩:∃q,eqM la lb D X=q:=⟨_,rfl⟩
     have HQ:=Lib.hid hq
     clear hq
     obtain⟨xl,yl,zl⟩:=Hl.out
     go_wp2_with fail
     refine(EMessages_w Aa2 ca2 _ Ab2 cb2 _ la lb D X O vv ee V (HT.out.on HB.out) rfl rfl Hca.out Hcb.out HWa.out HWb.out hm'a hm'b HFa.out HFb.out (by omega) (by omega) hca2 hcb2 hka2 hkb2 HQ.out).mono ?_
     rintro r V7 ⟨rfl,hb7⟩
     have hma':=Hma.out.below hb7 (Nat.le_refl _)
     have hmb':=Hmb.out.below hb7 (Nat.le_refl _)
     have hb':=bel_on HB.out hb7
     have hca':=Hca.out.below hb7 (Nat.le_refl _)
     have hcb':=Hcb.out.below hb7 (Nat.le_refl _)
     clear Hma Hmb Hl HB Hca Hcb hb7 xl yl zl
     have Hma:=Lib.hid hma'
     have Hmb:=Lib.hid hmb'
     have HB:=Lib.hid hb'
     have Hca:=Lib.hid hca'
     have Hcb:=Lib.hid hcb'
     clear hma' hmb' hb' hca' hcb'
     go_wp2
     go_loopw [11] (fun i wr=>∃q:Nat,q≤la.length∧i=.int .i64 q∧Below V7.heap.size V7 wr) (fun i _=>la.length-(intOf i).toNat)
     case atStart=>exact⟨0,by omega,rfl,Below.refl _ _⟩
     case round=>
      obtain⟨q,hq,rfl,hbr⟩:=hrel
      have HBR:=Lib.hid hbr
      clear hbr
      have hend:(¬q<la.length∨¬q<lb.length)→True:=fun _=>trivial
      by_cases h1:q<la.length
      ·have s1:decide ((q:Int)<(la.length:Int))=true:=decide_eq_true (by omega)
       have s1':decide (q<la.length)=true:=decide_eq_true h1
       by_cases h2:q<lb.length
       ·have s2:decide ((q:Int)<(lb.length:Int))=true:=decide_eq_true (by omega)
        have s2':decide (q<lb.length)=true:=decide_eq_true h2
        have hi1:(q:Int)<(la.length:Int):=by omega
        have hi2:(q:Int)<(lb.length:Int):=by omega
        obtain⟨b1,o1,A1,c1,rfl,hcell1,hri1,hn1,hl1,hm1⟩:=(Hca.out.below HBR.out (Nat.le_refl _)).one h1
        obtain⟨b2,o2,A2,c2,rfl,hcell2,hri2,hn2,hl2,hm2⟩:=(Hcb.out.below HBR.out (Nat.le_refl _)).one h2
        have h31:=H3a.out q
        have h32:=H3b.out q
        have HR1:=Lib.hid hri1
        have HR2:=Lib.hid hri2
        have HN1:=Lib.hid hn1
        have HN2:=Lib.hid hn2
        have HC1:Hid (∀wc,Below wr.drew.heap.size wr.drew wc→wc.cell? ⟨b1,o1+q,none⟩=some (.slice A1 (seg la q).length c1)):=Lib.hid (fun wc h=>(h.cell (p:=⟨b1,o1+q,none⟩) (World.block_lt_of_cell? wr ⟨b1,o1+q,none⟩ hcell1)).trans hcell1)
        have HC2:Hid (∀wc,Below wr.drew.heap.size wr.drew wc→wc.cell? ⟨b2,o2+q,none⟩=some (.slice A2 (seg lb q).length c2)):=Lib.hid (fun wc h=>(h.cell (p:=⟨b2,o2+q,none⟩) (World.block_lt_of_cell? wr ⟨b2,o2+q,none⟩ hcell2)).trans hcell2)
        have HBC:Hid (∀wc,Below wr.drew.heap.size wr.drew wc→Below wr.heap.size wr wc):=Lib.hid (fun wc h=>⟨h.os,h.tape,h.output,h.size,h.block⟩)
        obtain⟨u,hu⟩:∃u,dataE (seg la q) (seg lb q)=u:=⟨_,rfl⟩
        have HU:=Lib.hid hu
        clear hri1 hri2 hn1 hn2 hcell1 hcell2 hu
        go_wp2_with fail
        rename_i KK hKK
        refine wp_region_chain (by kernel_rfl) (by kernel_rfl) ?_
        refine chain_val (u:=?_) [7] rfl (by kernel_rfl) trivial (fun ρ wc hbc hcn hk=>?_) ?_;rotate_left
        ·obtain⟨hcn,-⟩:=hcn
         simp at hk
         go_simp
         rfl
        refine chain_val (u:=?_) [11] rfl (by kernel_rfl) trivial (fun ρ wc hbc hcn hk=>?_) ?_;rotate_left
        ·obtain⟨hcn,-⟩:=hcn
         simp at hk
         go_simp
         rfl
        refine chain_val (u:=?_) [75,76] rfl (by kernel_rfl) trivial (fun ρ wc hbc hcn hk=>?_) ?_;rotate_left
        ·obtain⟨hcn,-⟩:=hcn
         simp at hk
         go_simp
         rfl
        refine chain_val (u:=?_) [77] rfl (by kernel_rfl) trivial (fun ρ wc hbc hcn hk=>?_) ?_;rotate_left
        ·obtain⟨hcn,-⟩:=hcn
         simp at hk
         have hc1:=HC1.out wc hbc
         go_simp
         rfl
        refine chain_val (u:=?_) [8] rfl (by kernel_rfl) trivial (fun ρ wc hbc hcn hk=>?_) ?_;rotate_left
        ·obtain⟨hcn,-⟩:=hcn
         simp at hk
         go_simp
         rfl
        refine chain_val (u:=?_) [11] rfl (by kernel_rfl) trivial (fun ρ wc hbc hcn hk=>?_) ?_;rotate_left
        ·obtain⟨hcn,-⟩:=hcn
         simp at hk
         go_simp
         rfl
        refine chain_val (u:=?_) [79,80] rfl (by kernel_rfl) trivial (fun ρ wc hbc hcn hk=>?_) ?_;rotate_left
        ·obtain⟨hcn,-⟩:=hcn
         simp at hk
         go_simp
         rfl
        refine chain_val (u:=?_) [81] rfl (by kernel_rfl) trivial (fun ρ wc hbc hcn hk=>?_) ?_;rotate_left
        ·obtain⟨hcn,-⟩:=hcn
         simp at hk
         have hc2:=HC2.out wc hbc
         go_simp
         rfl
        refine chain_call (T:=Is ?_) 9 [78,82] rfl (by kernel_rfl) trivial (stable_is _) (fun ρ wc hbc hcn hk=>?_) ?_;rotate_left
        ·obtain⟨hcn,hfn⟩:=hcn
         simp at hk
         refine⟨_,by go_simp;rfl,?_⟩
         refine(EData_w A1 c1 _ A2 c2 _ (seg la q) (seg lb q) u wc (HT.out.on (bel_on HB.out (bel_on HBR.out (HBC.out wc hbc)))) rfl rfl (HR1.out.below (HBC.out wc hbc) (Nat.le_refl _)) (HR2.out.below (HBC.out wc hbc) (Nat.le_refl _)) (by omega) (by omega) hl1 hl2 HN1.out HN2.out hm1 hm2 HU.out).mono ?_
         rintro e w' ⟨rfl,hbq⟩
         refine⟨_,rfl,?_,hbq⟩
         unfold Is
         rfl
        refine chain_end_lit 92 rfl (fun ff w9 hb9 hk=>?_)
        refine hKK _ _ ?_
        simp [AllN] at hk
        simp only [frameL,hk,Nat.zero_add,Nat.reduceAdd]
        have HB9:=Lib.hid (bel_on HBR.out (HBC.out _ hb9))
        clear hb9 hk
        go_wp2
        go_roundw
        case rel=>exact⟨q+1,by omega,by go_num,HB9.out⟩
        case measure=>simp [intOf];omega
       ·have s2:decide ((q:Int)<(lb.length:Int))=false:=decide_eq_false (by omega)
        have s2':decide (q<lb.length)=false:=decide_eq_false h2
        have HSA:=Lib.hid (Hca.out.below HBR.out (Nat.le_refl _))
        have HSB:=Lib.hid (Hcb.out.below HBR.out (Nat.le_refl _))
        have HMA:=Lib.hid (Hma.out.below HBR.out (Nat.le_refl _))
        have HMB:=Lib.hid (Hmb.out.below HBR.out (Nat.le_refl _))
        have HBE:=Lib.hid (bel_on HB.out HBR.out)
        clear Hca Hcb Hma Hmb HB HBR
        go_wp2_with fail
        refine(Same17_w Aa2 Aa ca2 ca _ _ la la true _ rfl rfl HSA.out HMA.out hma hma (sameS_self la)).mono ?_
        rintro r w9 ⟨rfl,hb9⟩
        have HB9:=Lib.hid (bel_on HBE.out hb9)
        have HSB9:=Lib.hid (HSB.out.below hb9 (Nat.le_refl _))
        have HMB9:=Lib.hid (HMB.out.below hb9 (Nat.le_refl _))
        clear hb9
        go_wp2_with fail
        refine(Same17_w Ab2 Ab cb2 cb _ _ lb lb true _ rfl rfl HSB9.out HMB9.out hmb hmb (sameS_self lb)).mono ?_
        rintro r w10 ⟨rfl,hb10⟩
        have HB10:=Lib.hid (bel_on HB9.out hb10)
        clear hb10
        go_wp2
        go_ret
        exact⟨rfl,HB10.out⟩
      ·have s1:decide ((q:Int)<(la.length:Int))=false:=decide_eq_false (by omega)
       have s1':decide (q<la.length)=false:=decide_eq_false h1
       have HSA:=Lib.hid (Hca.out.below HBR.out (Nat.le_refl _))
       have HSB:=Lib.hid (Hcb.out.below HBR.out (Nat.le_refl _))
       have HMA:=Lib.hid (Hma.out.below HBR.out (Nat.le_refl _))
       have HMB:=Lib.hid (Hmb.out.below HBR.out (Nat.le_refl _))
       have HBE:=Lib.hid (bel_on HB.out HBR.out)
       clear Hca Hcb Hma Hmb HB HBR
       go_wp2_with fail
       refine(Same17_w Aa2 Aa ca2 ca _ _ la la true _ rfl rfl HSA.out HMA.out hma hma (sameS_self la)).mono ?_
       rintro r w9 ⟨rfl,hb9⟩
       have HB9:=Lib.hid (bel_on HBE.out hb9)
       have HSB9:=Lib.hid (HSB.out.below hb9 (Nat.le_refl _))
       have HMB9:=Lib.hid (HMB.out.below hb9 (Nat.le_refl _))
       clear hb9
       go_wp2_with fail
       refine(Same17_w Ab2 Ab cb2 cb _ _ lb lb true _ rfl rfl HSB9.out HMB9.out hmb hmb (sameS_self lb)).mono ?_
       rintro r w10 ⟨rfl,hb10⟩
       have HB10:=Lib.hid (bel_on HB9.out hb10)
       clear hb10
       go_wp2
       go_ret
       exact⟨rfl,HB10.out⟩
end
end Go.Proofs.YtfaflahfjgnphaaDoor
