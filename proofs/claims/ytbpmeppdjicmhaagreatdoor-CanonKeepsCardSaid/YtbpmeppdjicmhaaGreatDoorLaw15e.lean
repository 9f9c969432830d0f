/- A law of layer 15: CanonKeeps. -/
import Derived.Test.YtbpmeppdjicmhaaGreatDoorMg45
import Derived.Test.YtbpmeppdjicmhaaGreatDoorLaw15
namespace Go.Proofs.YtbpmeppdjicmhaaGreatDoor
open Go.ChangeShapes Go.WideShapes Go.ChangeAt Go.RowKit
set_option linter.unusedVariables false
set_option linter.unusedSimpArgs false
set_option maxRecDepth 100000
section
attribute [local irreducible] msgV measV small15B fewB canW writeF
set_option maxHeartbeats 8000000 in
set_option maxRecDepth 100000 in
theorem Keep15_walk (A:Option Addr)(c:Nat)(ls:List (List Int))(D X O:Int)(w:World)(hT:TabOK w)(hA:Sg w A ls)(hw:Wd2 ls)(hnil:A=none→c=0)(hlm:ls.length≤9223372036854775807)(hlc:ls.length≤c)(hcm:c≤9223372036854775807)
  (d0:-9223372036854775808≤D) (d1:D≤9223372036854775807) (x0:-9223372036854775808≤X) (x1:X≤9223372036854775807) :
  Calls Tryz.prog 7 #[.slice A ls.length c,.agg #[.int .i64 D,.int .i64 X,.int .i64 O]] w fun e w'=>e=.returned (.bool true)∧Below w.heap.size w w':=by
 have HT:=Lib.hid hT
 have Hm:=Lib.hid hA
 have HW:=Lib.hid hw
 clear hT hA hw hnil
 go_enter Tryz.func7,Tryz.ntmps7
 go_wp2_with fail
 refine abs_world (F:=fun W=>Sg W A ls∧Blk W w.heap.size #[.int .i64 D,.int .i64 X,.int .i64 O]∧Below w.heap.size w W) ⟨?_,?_,?_⟩ ?_
 ·exact(Hm.out.alloc _)
 ·exact Blk.fresh _ _ _
 ·exact((Below.refl w.heap.size w).alloc (by first|exact Nat.le_refl _|(simp;done)|(simp;omega)) _)
 clear Hm
 rintro W1 ⟨hm,hl,hb⟩
 have Hm:=Lib.hid hm
 have Hl:=Lib.hid hl
 have HB:=Lib.hid hb
 clear hb hm hl
 refine(awake15_any _ (HT.out.on HB.out)).mono ?_
 rintro r w2 ⟨rfl,hb⟩
 have fm:=Hm.out.below hb (Nat.le_refl _)
 have fl:=Hl.out.below hb
 have HB0:=Lib.hid (bel_on HB.out hb)
 clear hb Hm Hl HB
 have HB:=HB0
 clear HB0
 have Hm:=Lib.hid fm
 clear fm
 have Hl:=Lib.hid fl
 clear fl
 obtain⟨xl,yl,zl⟩:=Hl.out
 go_wp2_with fail
 clear xl yl zl
 refine(RefSmall15 A c ls D X O _ Hm.out hlm).mono ?_
 rintro r w3 ⟨rfl,hb⟩
 have fm:=Hm.out.below hb (Nat.le_refl _)
 have fl:=Hl.out.below hb
 have HB0:=Lib.hid (bel_on HB.out hb)
 clear hb Hm Hl HB
 have HB:=HB0
 clear HB0
 have Hm:=Lib.hid fm
 clear fm
 have Hl:=Lib.hid fl
 clear fl
 cases hsm:small15B ls D X with
 | false=>
  clear hsm
  go_wp2_with fail
  refine(awake15_any _ (HT.out.on HB.out)).mono ?_
  rintro r w4 ⟨rfl,hb⟩
  have fm:=Hm.out.below hb (Nat.le_refl _)
  have fl:=Hl.out.below hb
  have HB0:=Lib.hid (bel_on HB.out hb)
  clear hb Hm Hl HB
  have HB:=HB0
  clear HB0
  have Hm:=Lib.hid fm
  clear fm
  have Hl:=Lib.hid fl
  clear fl
  go_wp2
  go_ret
  exact⟨rfl,HB.out⟩
 | true=>
  obtain⟨hD,hX,hl20,hf⟩:=small15_fits hsm
  have HF:Hid (∀j,(seg ls j).length≤20000000):=Lib.hid (fun j=>by have:=hf j;omega)
  have hm':ls.length≤40:=by omega
  clear hsm hf
  obtain⟨i0,hi,hy0,hy1,hy2⟩:=info_parts int64_info
  have hcl:=can15 HW.out hm' HF.out D X (by omega)
  obtain⟨e,he⟩:∃e,(msgV ls D X).2=e:=⟨_,rfl⟩
  obtain⟨o,ho⟩:∃o,(if (msgV ls D X).2=0 then [writeF (msgV ls D X).1] else [])=o:=⟨_,rfl⟩
  have hof:o.length≤1∧∀j,(seg o j).length≤100001:=by
   by_cases h0:(msgV ls D X).2=0
   ·rw [if_pos h0] at ho
    have hc:canW ls D X=writeF (msgV ls D X).1:=by unfold canW;rw [if_pos h0]
    rw [hc] at hcl
    subst ho
    refine⟨by simp,fun j=>?_⟩
    by_cases hj:j<1
    ·obtain rfl:j=0:=by omega
     exact hcl
    ·rw [seg_out (by simp;omega)];simp
   ·rw [if_neg h0] at ho
    subst ho
    exact⟨by simp,fun j=>by rw [seg_out (by simp)];simp⟩
  obtain⟨cw,hcw⟩:∃c,canW ls D X=c:=⟨_,rfl⟩
  rw [hcw] at hcl
  obtain⟨L,hL⟩:∃L,cw.length=L:=⟨_,rfl⟩
  rw [hL] at hcl
  obtain⟨N,hN⟩:∃N,o.length=N:=⟨_,rfl⟩
  have hN1:N≤1:=by have:=hof.1;omega
  have HOF:=Lib.hid hof.2
  have HE:=Lib.hid he
  have HO:=Lib.hid ho
  have HC:=Lib.hid hcw
  have HL:=Lib.hid hL
  have HN:=Lib.hid hN
  clear hof he ho hcw hL hN
  have HG0:=Lib.hid (GotS.made0 w3 (Nat.le_refl _))
  have HB1':=Lib.hid ((Below.refl w3.heap.size w3).alloc (Nat.le_refl _) (.cells #[] 27))
  go_wp2
  go_loopw [5,6] (fun v i wr=>∃k:Nat,k≤ls.length∧i=.int .i64 k∧GotS wr w3.heap.size v (ls.take k)∧Below w3.heap.size w3 wr) (fun _ i _=>ls.length-(intOf i).toNat)
  case atStart=>exact⟨0,by omega,rfl,HG0.out,HB1'.out⟩
  case round=>
   obtain⟨k,hk,rfl,hgk,hbk⟩:=hrel
   have HG:=Lib.hid hgk
   have HBk:=Lib.hid hbk
   have hzk:=hbk.size
   clear HG0 HB1' hgk
   by_cases hlt:k<ls.length
   ·have hsg:=(Hm.out.below hbk (Nat.le_refl _)).below ((Below.refl wr.heap.size wr).alloc (Nat.le_refl _) (.cells #[] 48)) (Nat.le_refl _)
    obtain⟨b,off,A',c',rfl,hcell,hri,hn',hc1,hc2⟩:=hsg.one hlt
    have hk1:(k:Int)<(ls.length:Int):=by omega
    have HRI:=Lib.hid hri
    have HN':=Lib.hid hn'
    have HEM:=Lib.hid (Got.empty_made wr 48 .u64 (Nat.le_refl _))
    have HTK:=Lib.hid (take_succ_seg ls k hlt)
    have HTL:Hid ((ls.take k).length=k):=Lib.hid (by rw [List.length_take];omega)
    have h600:=HF.out k
    have HBA:=Lib.hid ((Below.refl wr.heap.size wr).alloc (Nat.le_refl _) (.cells #[] 48))
    clear hsg hbk hri hn'
    go_wp2_with (first
     | (at_builtin;refine wpList_appN rfl (.tmp 31) (.tmp 35) 27 rfl Tryz.underlying27 hi hy0 hy1 hy2 rfl HEM.out rfl HRI.out HN'.out (by unfold maxLen;simp;omega) (by simp;omega) (by first|omega|(simp;done)|(simp;omega)) ?_;intro v2 u2 hg2 hb2;obtain⟨A2,c2,rfl,-,-,-⟩:=hg2.slice;have hbw:=HBA.out.trans hb2;have HG2:=Lib.hid (hg2.mono hzk);have hz2:=hbw.size;have HB2:=Lib.hid (HBk.out.trans (hbw.mono hzk));have HGS2:=Lib.hid (HG.out.below hbw (Nat.le_refl _));clear hg2 hb2 hbw)
     | (at_builtin;refine wpList_appS rfl (.tmp 30) (.tmp 37) 22 rfl Tryz.underlying22 rfl HGS2.out HG2.out rfl (by rw [HTL.out];omega) (by omega) ?_;intro v5 u5 hg5 hb5))
    go_roundw
    case rel=>exact⟨k+1,by omega,by go_num,by rw [HTK.out];exact hg5,HB2.out.trans hb5⟩
    case measure=>simp [intOf];omega
   ·obtain rfl:k=ls.length:=by omega
    have hg:=HG.out
    rw [List.take_length] at hg
    obtain⟨A2,c2,rfl,hq1,hq2,hsg2⟩:=hg.slice
    have HS2:=Lib.hid hsg2
    have HS3:=Lib.hid (Hm.out.below hbk (Nat.le_refl _))
    have HBW:=Lib.hid (bel_on HB.out hbk)
    have HL3:=Lib.hid (Hl.out.below hbk)
    obtain⟨xl,yl,zl⟩:=Hl.out.below hbk
    clear hg HG hsg2 HB hbk HBk Hm Hl
    go_wp2_with fail
    refine(CWords_w A2 c2 _ ls D X O e cw L wr (HT.out.on HBW.out) rfl HS2.out HW.out hm' HF.out (by omega) (by omega) HE.out HC.out HL.out).mono ?_
    rintro r w6 ⟨A6,c6,rfl,hg6,-,-,-,-,hb6⟩
    have hz6:=hb6.size
    have HG6:=Lib.hid hg6
    have HB6:=Lib.hid hb6
    clear xl yl zl hg6 hb6
    obtain⟨xl,yl,zl⟩:=HL3.out.below HB6.out
    go_wp2_with fail
    refine(CSegs_w A2 c2 _ ls D X O e o N w6 (HT.out.on (bel_on HBW.out HB6.out)) rfl (HS2.out.below HB6.out (Nat.le_refl _)) HW.out hm' HF.out (by omega) (by omega) HE.out HO.out HN.out).mono ?_
    rintro r w7 ⟨A7,c7,rfl,hg7,-,-,-,hb7⟩
    have HG7:=Lib.hid hg7
    have HG67:=Lib.hid (HG6.out.below hb7 (Nat.le_refl _))
    have HB7:=Lib.hid (HB6.out.trans (hb7.mono hz6))
    have hown:∀g,Value.ownBlock (.slice A6 L c6)=some g→wr.heap.size≤g∧g<w6.heap.size:=fun g hg=>HG6.out.lt g hg
    have HOWN:=Lib.hid hown
    have hsame:∀(w':World),Below wr.heap.size wr w'→Calls Tryz.prog 19 #[.slice A2 ls.length c2,.slice A ls.length c] w' fun e w''=>e=.returned (.bool true)∧∃m,w''=w'.drewN m:=fun w' hb'=>by
     have h:=Same4_any A2 A c2 c ls ls w' (HS2.out.below hb' (Nat.le_refl _)) (HS3.out.below hb' (Nat.le_refl _)) hlm hlm
     rwa [sameS_self] at h
    have HSM:=Lib.hid hsame
    have HBF:Hid (∀w',Below wr.heap.size wr w'→Below w.heap.size w w'):=Lib.hid (fun w' hb'=>HBW.out.trans (hb'.mono HBW.out.size))
    clear hsame hown hg7 hb7 xl yl zl HL3 HB6 HG6 HS2 HS3 HBW
    generalize wr=wq at *
    go_wp2
    go_loopw [11] (fun i wr=>∃(q:Nat) (zs:List Int),q≤L∧i=.int .i64 q∧zs.length=L∧Got wr wq.heap.size 48 .u64 (.slice A6 L c6) zs∧GotS wr w6.heap.size (.slice A7 N c7) o∧Below wq.heap.size wq wr) (fun i _=>L-(intOf i).toNat)
    case atStart=>exact⟨0,cw,by omega,rfl,HL.out,HG67.out,HG7.out,HB7.out⟩
    case round=>
     rename World=>wr
     clear HG67 HG7 HB7
     obtain⟨q,zs,hq,rfl,hzl,hgz,hgs,hbz⟩:=hrel
     have HGS:=Lib.hid hgs
     have HBZ:=Lib.hid hbz
     have HZL:=Lib.hid hzl
     by_cases hlt:q<L
     ·obtain⟨g,rfl,hg1,hg2,hnz⟩:=hgz.addr (by omega)
      have hgo:=HOWN.out g rfl
      have hgz':=hgz.cast (congrArg (fun n=>Value.slice (some ⟨g,0,none⟩) n c6) hnz) rfl
      have hcell:=hgz'.cell q (by omega)
      have hfree:=hgz'.free q
      have HPT:=Lib.hid (fun y=>hgz'.put q y)
      have hq1:(q:Int)<(L:Int):=by omega
      clear hgz hgs hbz hgz' hzl hnz
      generalize zat zs q=z at *
      go_wp2
      go_roundw
      case rel=>
       refine⟨q+1,zs.set q ((z+1) % 18446744073709551616),by omega,by go_num,by rw [List.length_set];exact HZL.out,?_,HGS.out.jabFar (p:=⟨g,q,none⟩) hgo.2 _,HBZ.out.setCell (p:=⟨g,q,none⟩) hgo.1 _⟩
       have:=HPT.out ((z+1) % 18446744073709551616)
       rw [HZL.out] at this
       exact this
      case measure=>simp [intOf];omega
     ·clear hgz hgs hbz hzl
      go_wp2
      generalize wr=wz at *
      go_loopw [12] (fun i wr=>∃(k:Nat) (xs:List (List Int)),k≤N∧i=.int .i64 k∧xs.length=N∧(∀j,(seg xs j).length≤100001)∧GotS wr w6.heap.size (.slice A7 N c7) xs∧Below wq.heap.size wq wr) (fun i _=>N-(intOf i).toNat)
      case atStart=>exact⟨0,o,by omega,rfl,HN.out,HOF.out,HGS.out,HBZ.out⟩
      case round=>
       rename World=>wr
       clear HGS HBZ
       obtain⟨k,xs,hk,rfl,hxl,hxf,hgx,hbx⟩:=hrel
       by_cases hlt2:k<N
       ·have hl:(k:Int)<(N:Int):=by omega
        obtain⟨g0,u,rfl,hcu,hgu⟩:=hgx.ent (i:=k) (by omega)
        obtain⟨Au,cu,rfl,-⟩:=hgu.slice
        have hM:=hxf k
        have HX:=Lib.hid hxf
        have HGX:=Lib.hid hgx
        have HBX:=Lib.hid hbx
        have HXL:=Lib.hid hxl
        generalize hMM:(seg xs k).length=M at *
        have HMM:=Lib.hid hMM
        have HCU:=Lib.hid hcu
        clear hgx hbx hgu hxf hxl hMM hcu
        go_wp2
        go_loopw [13] (fun i wr2=>∃(q:Nat) (ys:List (List Int)),q≤M∧i=.int .i64 q∧ys.length=N∧(∀j,(seg ys j).length=(seg xs j).length)∧GotS wr2 w6.heap.size (.slice (some ⟨g0,0,none⟩) N c7) ys∧wr2.cell? ⟨g0,k,none⟩=some (.slice Au M cu)∧Below wq.heap.size wq wr2) (fun i _=>M-(intOf i).toNat)
        case atStart=>exact⟨0,xs,by omega,rfl,HXL.out,fun _=>rfl,HGX.out,HCU.out,HBX.out⟩
        case round=>
         clear HGX HBX HCU
         obtain⟨q,ys,hq,rfl,hyl,hyf,hgy,hcy,hby⟩:=hrel
         have hlN:(k:Int)<(N:Int):=by omega
         by_cases hqt:q<M
         ·have hqM:(q:Int)<(M:Int):=by omega
          obtain⟨g1,u1,e1,hc1,hg1⟩:=hgy.ent (i:=k) (by omega)
          injection e1 with e1
          injection e1 with e1
          subst e1
          rw [hcy] at hc1
          injection hc1 with hc1
          subst hc1
          have hyk:=hyf k
          have hlen:M=(seg ys k).length:=by rw [hyk,HMM.out]
          obtain⟨g2,rfl,hg2a,hg2b,_⟩:=hg1.addr (by omega)
          have hg1':=hg1.cast (congrArg (fun n=>Value.slice (some ⟨g2,0,none⟩) n cu) hlen) rfl
          have hcq:=hg1'.cell q (by omega)
          have hfq:=hg1'.free q
          obtain⟨hne0,ys2,z1,z2,z3⟩:=hgy.jab g2 q ((zat (seg ys k) q+1) % 18446744073709551616) hg1 (by simp [Value.ownBlock])
          have hne:g0≠g2:=by rintro rfl;exact hne0 (by simp [Value.ownBlock])
          have HZ3:=Lib.hid z3
          have HZ2:=Lib.hid z2
          have HZ1:=Lib.hid z1
          have HYF:=Lib.hid hyf
          have HYL:=Lib.hid hyl
          have HBY:=Lib.hid hby
          have HCY:=Lib.hid hcy
          clear z1 z2 z3 hyf hyl hby hg1 hg1' hgy hyk hlen
          generalize zat (seg ys k) q=z at *
          go_wp2
          go_roundw
          case rel=>
           refine⟨q+1,ys2,by omega,by go_num,by rw [HZ1.out,HYL.out],fun j=>by rw [HZ2.out,HYF.out],?_,?_,?_⟩
           ·exact HZ3.out
           ·exact(World.cell?_setCell_other (h:=fun h=>hne (congrArg Addr.block h).symm) ..).trans HCY.out
           ·exact HBY.out.setCell (p:=⟨g2,q,none⟩) (by show wq.heap.size≤g2;omega) _
          case measure=>simp [intOf];omega
         ·obtain rfl:q=M:=by omega
          have HGY:=Lib.hid hgy
          have HYF:=Lib.hid hyf
          have HYL:=Lib.hid hyl
          have HBY:=Lib.hid hby
          clear hgy hyf hyl hby
          go_wp2
          go_roundw
          case rel=>exact⟨k+1,ys,by omega,by go_num,HYL.out,fun j=>by rw [HYF.out];exact HX.out j,HGY.out,HBY.out⟩
          case measure=>simp [intOf];omega
       ·have HBX:=Lib.hid hbx
        clear hgx hbx hxf hxl
        go_wp2_with fail
        refine(HSM.out _ HBX.out).mono ?_
        rintro r w9 ⟨rfl,m,rfl⟩
        go_wp2
        go_ret
        exact⟨rfl,bel_drewN (HBF.out _ HBX.out) m⟩
end
end Go.Proofs.YtbpmeppdjicmhaaGreatDoor
