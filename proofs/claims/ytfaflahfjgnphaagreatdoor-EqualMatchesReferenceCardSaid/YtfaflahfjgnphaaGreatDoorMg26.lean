/- The texts Res2, Res3 (what is wanted of them), one after the other. -/
import Derived.Test.YtfaflahfjgnphaaGreatDoorMg21
import Derived.Test.YtfaflahfjgnphaaGreatDoorMg25
namespace Go.Proofs.YtfaflahfjgnphaaGreatDoor
open Go.ChangeShapes Go.WideShapes Go.ChangeAt Go.RowKit
set_option linter.unusedVariables false
set_option linter.unusedSimpArgs false
set_option maxRecDepth 100000
set_option maxRecDepth 100000 in
set_option maxHeartbeats 8000000 in
theorem composite_any (A:Option Addr)(c:Nat)(ls:List (List Int))(k o d p el cc pa pg lo s t:Int)(db:Bool)(w:World)(hT:TabOK w)(c0:0≤cc)(c1:cc≤536870911)(hs:Sg w A ls)(hw:Wd2 ls)(hm:ls.length≤140737488355328)(hf:∀j,(seg ls j).length≤140737488355328)(hs0:-9223372036854775808≤s)(hs1:s≤9223372036854775807)(ht0:-9223372036854775808≤t)(ht1:t≤9223372036854775807):
  Calls Tryz.prog 82 #[.agg #[.slice A ls.length c,.int .i64 k,.int .i64 o,.int .i64 d,.int .i64 p,.int .i64 el,.int .i64 cc,.bool db,.int .i64 pa,.int .u32 pg,.int .u32 lo,.int .i64 s,.int .i64 t]] w fun e w'=>e=.returned (.tuple #[.agg #[.int .i64 (cmpR ls cc s t).1.k,.int .i64 (cmpR ls cc s t).1.sg,.int .i64 (cmpR ls cc s t).1.at',.int .i64 (cmpR ls cc s t).1.d,.int .i64 (cmpR ls cc s t).1.p,.int .i64 (cmpR ls cc s t).1.el,.int .i64 (cmpR ls cc s t).1.n,.int .i64 (cmpR ls cc s t).1.cost],.int .i64 (cmpR ls cc s t).2])∧Below w.heap.size w w':=by
 have hwl:=wordsI_lim 7 cc c0 c1
 have HH:=Lib.hid (fun w2 hs2=>holds_any A c ls k o d p el cc pa pg lo s t db w2 (wordsI 7 cc) hs2 hm hs0 hs1 ht0 ht1 (by omega) (by omega))
 have HA:=Lib.hid (fun w2 hs2=>AWordF_any A c ls s t w2 hs2 hm hs0 hs1 ht0 ht1)
 have Hs:=Lib.hid hs
 have HT:=Lib.hid hT
 have HL:=Lib.hid (fun w2 hT2=>LWords_any 7 cc w2 hT2 (by omega) (by omega) c0 c1)
 have hwd:=wordV_bd hw s t
 have HD:=Lib.hid (fun w2=>Decode_any (wordV ls s t) w2 hwd.1 hwd.2)
 have hq:=decP_bd (wordV ls s t) hwd.1 hwd.2
 clear hT hs hwd hw
 cases hi:inB ls s t (wordsI 7 cc) with
 | false=>
  have HR:Hid (cmpR ls cc s t=(ob0,2)):=Lib.hid (by unfold cmpR;rw [hi];rfl)
  rw [hi] at HH
  clear hi hq HD HA hf hwl
  generalize wordsI 7 cc=n at *
  go_enter Tryz.func82,Tryz.ntmps82
  go_wp2_with fail
  refine(HL.out _ ((HT.out.alloc _).alloc _)).mono ?_
  rintro e w' ⟨rfl,rfl⟩
  go_wp2_with fail
  refine(HH.out _ ((Hs.out.alloc _).alloc _)).mono ?_
  rintro e w1 ⟨rfl,hb⟩
  have BL:=((Blk.fresh w #[.slice A ls.length c,.int .i64 k,.int .i64 o,.int .i64 d,.int .i64 p,.int .i64 el,.int .i64 cc,.bool db,.int .i64 pa,.int .u32 pg,.int .u32 lo,.int .i64 s,.int .i64 t] 101).alloc _).below hb
  have BO:=(Blk.fresh (w.alloc (.cells #[.slice A ls.length c,.int .i64 k,.int .i64 o,.int .i64 d,.int .i64 p,.int .i64 el,.int .i64 cc,.bool db,.int .i64 pa,.int .u32 pg,.int .u32 lo,.int .i64 s,.int .i64 t] 101)) #[.int .i64 0,.int .i64 0,.int .i64 0,.int .i64 0,.int .i64 0,.int .i64 0,.int .i64 0,.int .i64 0] 48).below hb
  rw [World.size_alloc] at BO
  have HB:Hid (Below w.heap.size w w1):=Lib.hid ((((Below.refl _ _).alloc (Nat.le_refl _) _).alloc (by simp) _).trans (hb.mono (by simp;omega)))
  clear hb HH
  have HLc:=Lib.hid BL
  have HO:=Lib.hid BO
  obtain⟨xl,yl,zl⟩:=BL
  obtain⟨xo,yo,zo⟩:=BO
  go_wp2_with fail
  refine abs_post (F:=fun W=>Blk W (w.heap.size+1) #[.int .i64 0,.int .i64 0,.int .i64 0,.int .i64 0,.int .i64 0,.int .i64 0,.int .i64 0,.int .i64 0]∧Below w.heap.size w W) ⟨?_,?_⟩ ?_
  ·exact((((((((HO.out.set 0 (by simp) _).set 1 (by simp) _).set 2 (by simp) _).set 3 (by simp) _).set 4 (by simp) _).set 5 (by simp) _).set 6 (by simp) _).set 7 (by simp) _)
  ·repeat (with_reducible first|exact HB.out|refine bel_drewN ?_ _|refine bel_drew ?_|refine Below.alloc ?_ (by have:=HB.out.size;simp [World.setCell];omega) _|refine Below.setCell ?_ (by first|(simp;done)|(simp;omega)) _)
  rintro V ⟨B6,hbv⟩
  exact bodyPost_ret (v:=.tuple #[.agg #[.int .i64 0,.int .i64 0,.int .i64 0,.int .i64 0,.int .i64 0,.int .i64 0,.int .i64 0,.int .i64 0],.int .i64 2]) (by simp [results,Tryz.results82,go_sem,B6.cell]) rfl ⟨by rw [HR.out];try rfl,hbv⟩
 | true=>
  have h0:=inB_iff.1 hi
  have hf2:=hf s.toNat
  have HTB:Hid (t+1≤140737488355329∧0≤t):=Lib.hid (by omega)
  have hr:cmpR ls cc s t=compF ls s t cc (wordsI 7 cc):=by unfold cmpR;rw [hi];rfl
  unfold compF at hr
  have HR:=Lib.hid hr
  have HWL:=Lib.hid hwl
  rw [hi] at HH
  clear hi hr h0 hf2 hf hwl
  generalize wordsI 7 cc=n at *
  generalize decP (wordV ls s t)=q at *
  generalize wordV ls s t=x at *
  go_enter Tryz.func82,Tryz.ntmps82
  go_wp2_with fail
  refine(HL.out _ ((HT.out.alloc _).alloc _)).mono ?_
  rintro e w' ⟨rfl,rfl⟩
  go_wp2_with fail
  refine(HH.out _ ((Hs.out.alloc _).alloc _)).mono ?_
  rintro e w1 ⟨rfl,hb⟩
  have BL:=((Blk.fresh w #[.slice A ls.length c,.int .i64 k,.int .i64 o,.int .i64 d,.int .i64 p,.int .i64 el,.int .i64 cc,.bool db,.int .i64 pa,.int .u32 pg,.int .u32 lo,.int .i64 s,.int .i64 t] 101).alloc _).below hb
  have BO:=(Blk.fresh (w.alloc (.cells #[.slice A ls.length c,.int .i64 k,.int .i64 o,.int .i64 d,.int .i64 p,.int .i64 el,.int .i64 cc,.bool db,.int .i64 pa,.int .u32 pg,.int .u32 lo,.int .i64 s,.int .i64 t] 101)) #[.int .i64 0,.int .i64 0,.int .i64 0,.int .i64 0,.int .i64 0,.int .i64 0,.int .i64 0,.int .i64 0] 48).below hb
  rw [World.size_alloc] at BO
  have HB:Hid (Below w.heap.size w w1):=Lib.hid ((((Below.refl _ _).alloc (Nat.le_refl _) _).alloc (by simp) _).trans (hb.mono (by simp;omega)))
  clear hb HH
  have HLc:=Lib.hid BL
  have HO:=Lib.hid BO
  obtain⟨xl,yl,zl⟩:=BL
  obtain⟨xo,yo,zo⟩:=BO
  go_wp2_with fail
  refine(HA.out _ (Hs.out.below HB.out (Nat.le_refl _))).mono ?_
  rintro e w' ⟨rfl,rfl⟩
  go_wp2_with fail
  refine(HD.out _).mono ?_
  rintro e w2 ⟨rfl,hb⟩
  have BL:=HLc.out.below hb
  have BO:=HO.out.below hb
  have hsz:=HB.out.size
  have HB:Hid (Below w.heap.size w w2):=Lib.hid (HB.out.trans (hb.mono hsz))
  clear hb hsz HA HD HL HLc HO xl yl zl xo yo zo
  have HLc:=Lib.hid BL
  have HO:=Lib.hid BO
  obtain⟨xl,yl,zl⟩:=BL
  obtain⟨xo,yo,zo⟩:=BO
  have hq2:0≤q.d∧q.d≤65535∧0≤q.p∧q.p≤65535∧-536870912≤q.o∧q.o≤536870911:=by omega
  clear hq
  obtain⟨b1,b2,b3,b4,b5,b6⟩:=hq2
  have htb:=HTB.out
  have hwl:=HWL.out
  by_cases h1:q.k=0
  ·have t5:(q.k != 0)=false:=by simpa using h1
   have H0:=Lib.hid h1
   clear h1
   by_cases h2:q.o<0
   ·have H1:=Lib.hid h2
    go_wp2_with fail
    refine abs_post (F:=fun W=>Blk W (w.heap.size+1) #[.int .i64 0,.int .i64 0,.int .i64 0,.int .i64 0,.int .i64 0,.int .i64 0,.int .i64 0,.int .i64 0]∧Below w.heap.size w W) ⟨?_,?_⟩ ?_
    ·exact((((((((HO.out.set 0 (by simp) _).set 1 (by simp) _).set 2 (by simp) _).set 3 (by simp) _).set 4 (by simp) _).set 5 (by simp) _).set 6 (by simp) _).set 7 (by simp) _).alloc _
    ·repeat (with_reducible first|exact HB.out|refine bel_drewN ?_ _|refine bel_drew ?_|refine Below.alloc ?_ (by have:=HB.out.size;simp [World.setCell];omega) _|refine Below.setCell ?_ (by first|(simp;done)|(simp;omega)) _)
    rintro V ⟨B6,hbv⟩
    exact bodyPost_ret (v:=.tuple #[.agg #[.int .i64 0,.int .i64 0,.int .i64 0,.int .i64 0,.int .i64 0,.int .i64 0,.int .i64 0,.int .i64 0],.int .i64 5]) (by simp [results,Tryz.results82,go_sem,B6.cell]) rfl ⟨by rw [HR.out,if_pos (Or.inr (Or.inl H1.out))];try rfl,hbv⟩
   have m0:0≤q.o*(q.d+q.p):=Int.mul_nonneg (by omega) (by omega)
   have m1:q.o*(q.d+q.p)≤536870911*131070:=Int.mul_le_mul (by omega) (by omega) (by omega) (by omega)
   by_cases h3:cc<q.o*(q.d+q.p)
   ·have H1:=Lib.hid h3
    go_wp2_with fail
    refine abs_post (F:=fun W=>Blk W (w.heap.size+1) #[.int .i64 0,.int .i64 0,.int .i64 0,.int .i64 0,.int .i64 0,.int .i64 0,.int .i64 0,.int .i64 0]∧Below w.heap.size w W) ⟨?_,?_⟩ ?_
    ·exact((((((((HO.out.set 0 (by simp) _).set 1 (by simp) _).set 2 (by simp) _).set 3 (by simp) _).set 4 (by simp) _).set 5 (by simp) _).set 6 (by simp) _).set 7 (by simp) _).alloc _
    ·repeat (with_reducible first|exact HB.out|refine bel_drewN ?_ _|refine bel_drew ?_|refine Below.alloc ?_ (by have:=HB.out.size;simp [World.setCell];omega) _|refine Below.setCell ?_ (by first|(simp;done)|(simp;omega)) _)
    rintro V ⟨B6,hbv⟩
    exact bodyPost_ret (v:=.tuple #[.agg #[.int .i64 0,.int .i64 0,.int .i64 0,.int .i64 0,.int .i64 0,.int .i64 0,.int .i64 0,.int .i64 0],.int .i64 5]) (by simp [results,Tryz.results82,go_sem,B6.cell]) rfl ⟨by rw [HR.out,if_pos (Or.inr (Or.inr H1.out))];try rfl,hbv⟩
   have HN:Hid (¬(q.k≠0∨q.o<0∨cc<q.o*(q.d+q.p))):=Lib.hid (by have:=H0.out;rintro(h|h|h)<;>omega)
   rw [if_neg HN.out] at HR
   clear HN
   by_cases h4:q.d+q.p=0
   ·have t4:(q.d+q.p==0)=true:=by simpa using h4
    rw [if_pos h4] at HR
    clear h4
    go_wp2_with fail
    refine abs_post (F:=fun W=>Blk W (w.heap.size+1) #[.int .i64 2,.int .i64 s,.int .i64 (t+1),.int .i64 q.d,.int .i64 q.p,.int .i64 7,.int .i64 q.o,.int .i64 (n+q.o)]∧Below w.heap.size w W) ⟨?_,?_⟩ ?_
    ·exact((((((((HO.out.set 0 (by simp) _).set 1 (by simp) _).set 2 (by simp) _).set 3 (by simp) _).set 4 (by simp) _).set 5 (by simp) _).set 6 (by simp) _).set 7 (by simp) _).alloc _
    ·repeat (with_reducible first|exact HB.out|refine bel_drewN ?_ _|refine bel_drew ?_|refine Below.alloc ?_ (by have:=HB.out.size;simp [World.setCell];omega) _|refine Below.setCell ?_ (by first|(simp;done)|(simp;omega)) _)
    rintro V ⟨B6,hbv⟩
    exact bodyPost_ret (v:=.tuple #[.agg #[.int .i64 2,.int .i64 s,.int .i64 (t+1),.int .i64 q.d,.int .i64 q.p,.int .i64 7,.int .i64 q.o,.int .i64 (n+q.o)],.int .i64 0]) (by simp [results,Tryz.results82,go_sem,B6.cell]) rfl ⟨by rw [HR.out];try rfl,hbv⟩
   ·have t4:(q.d+q.p==0)=false:=by simpa using h4
    rw [if_neg h4] at HR
    clear h4
    go_wp2_with fail
    refine abs_post (F:=fun W=>Blk W (w.heap.size+1) #[.int .i64 2,.int .i64 s,.int .i64 (t+1),.int .i64 q.d,.int .i64 q.p,.int .i64 7,.int .i64 q.o,.int .i64 n]∧Below w.heap.size w W) ⟨?_,?_⟩ ?_
    ·exact((((((((HO.out.set 0 (by simp) _).set 1 (by simp) _).set 2 (by simp) _).set 3 (by simp) _).set 4 (by simp) _).set 5 (by simp) _).set 6 (by simp) _).set 7 (by simp) _).alloc _
    ·repeat (with_reducible first|exact HB.out|refine bel_drewN ?_ _|refine bel_drew ?_|refine Below.alloc ?_ (by have:=HB.out.size;simp [World.setCell];omega) _|refine Below.setCell ?_ (by first|(simp;done)|(simp;omega)) _)
    rintro V ⟨B6,hbv⟩
    exact bodyPost_ret (v:=.tuple #[.agg #[.int .i64 2,.int .i64 s,.int .i64 (t+1),.int .i64 q.d,.int .i64 q.p,.int .i64 7,.int .i64 q.o,.int .i64 n],.int .i64 0]) (by simp [results,Tryz.results82,go_sem,B6.cell]) rfl ⟨by rw [HR.out];try rfl,hbv⟩
  ·have t5:(q.k != 0)=true:=by simpa using h1
   have H1:=Lib.hid h1
   clear h1
   go_wp2_with fail
   refine abs_post (F:=fun W=>Blk W (w.heap.size+1) #[.int .i64 0,.int .i64 0,.int .i64 0,.int .i64 0,.int .i64 0,.int .i64 0,.int .i64 0,.int .i64 0]∧Below w.heap.size w W) ⟨?_,?_⟩ ?_
   ·exact((((((((HO.out.set 0 (by simp) _).set 1 (by simp) _).set 2 (by simp) _).set 3 (by simp) _).set 4 (by simp) _).set 5 (by simp) _).set 6 (by simp) _).set 7 (by simp) _).alloc _
   ·repeat (with_reducible first|exact HB.out|refine bel_drewN ?_ _|refine bel_drew ?_|refine Below.alloc ?_ (by have:=HB.out.size;simp [World.setCell];omega) _|refine Below.setCell ?_ (by first|(simp;done)|(simp;omega)) _)
   rintro V ⟨B6,hbv⟩
   exact bodyPost_ret (v:=.tuple #[.agg #[.int .i64 0,.int .i64 0,.int .i64 0,.int .i64 0,.int .i64 0,.int .i64 0,.int .i64 0,.int .i64 0],.int .i64 5]) (by simp [results,Tryz.results82,go_sem,B6.cell]) rfl ⟨by rw [HR.out,if_pos (Or.inl H1.out)];try rfl,hbv⟩
set_option maxRecDepth 100000 in
set_option maxHeartbeats 1000000 in
theorem case0_any (A:Option Addr)(c:Nat)(ls:List (List Int))(k o d p el cc pa pg lo s t:Int)(db:Bool)(w:World)(hT:TabOK w)(d0:0≤d)(d1:d≤65535)(p0:0≤p)(p1:p≤65535)(hs:Sg w A ls)(hw:Wd2 ls)(hm:ls.length≤140737488355328)(hf:∀j,(seg ls j).length≤140737488355328)(hs0:-9223372036854775808≤s)(hs1:s≤9223372036854775807)(ht0:-9223372036854775808≤t)(ht1:t≤9223372036854775807):
  Calls Tryz.prog 79 #[.agg #[.slice A ls.length c,.int .i64 k,.int .i64 o,.int .i64 d,.int .i64 p,.int .i64 el,.int .i64 cc,.bool db,.int .i64 pa,.int .u32 pg,.int .u32 lo,.int .i64 s,.int .i64 t]] w fun e w'=>e=.returned (.tuple #[.agg #[.int .i64 (strR ls d p s t).1.k,.int .i64 (strR ls d p s t).1.sg,.int .i64 (strR ls d p s t).1.at',.int .i64 (strR ls d p s t).1.d,.int .i64 (strR ls d p s t).1.p,.int .i64 (strR ls d p s t).1.el,.int .i64 (strR ls d p s t).1.n,.int .i64 (strR ls d p s t).1.cost],.int .i64 (strR ls d p s t).2])∧Below w.heap.size w w':=by
 have Hs:=Lib.hid hs
 have HT:=Lib.hid hT
 have HH:=Lib.hid (fun w2 (hT2:TabOK w2) hs2=>structure_any A c ls k o d p el cc pa pg lo s t db w2 d0 d1 p0 p1 hs2 hm hs0 hs1 ht0 ht1)
 clear hs hT hw hf
 generalize strR ls d p s t=r at *
 go_enter Tryz.func79,Tryz.ntmps79
 go_wp2_with fail
 refine(HH.out _ ((HT.out.alloc _).alloc _) ((Hs.out.alloc _).alloc _)).mono ?_
 rintro e w1 ⟨rfl,hb⟩
 have BO:=(Blk.fresh (w.alloc (.cells #[.slice A ls.length c,.int .i64 k,.int .i64 o,.int .i64 d,.int .i64 p,.int .i64 el,.int .i64 cc,.bool db,.int .i64 pa,.int .u32 pg,.int .u32 lo,.int .i64 s,.int .i64 t] 101)) #[.int .i64 0,.int .i64 0,.int .i64 0,.int .i64 0,.int .i64 0,.int .i64 0,.int .i64 0,.int .i64 0] 48).below hb
 rw [World.size_alloc] at BO
 have HB:Hid (Below w.heap.size w w1):=Lib.hid ((((Below.refl _ _).alloc (Nat.le_refl _) _).alloc (by simp) _).trans (hb.mono (by simp;omega)))
 clear hb HH
 have HO:=Lib.hid BO
 obtain⟨xo,yo,zo⟩:=BO
 go_wp2_with fail
 refine abs_post (F:=fun W=>Blk W (w.heap.size+1) #[.int .i64 r.1.k,.int .i64 r.1.sg,.int .i64 r.1.at',.int .i64 r.1.d,.int .i64 r.1.p,.int .i64 r.1.el,.int .i64 r.1.n,.int .i64 r.1.cost]∧Below w.heap.size w W) ⟨?_,?_⟩ ?_
 ·exact((((((((HO.out.set 0 (by simp) _).set 1 (by simp) _).set 2 (by simp) _).set 3 (by simp) _).set 4 (by simp) _).set 5 (by simp) _).set 6 (by simp) _).set 7 (by simp) _)
 ·repeat (with_reducible first|exact HB.out|refine bel_drewN ?_ _|refine bel_drew ?_|refine Below.alloc ?_ (by have:=HB.out.size;simp [World.setCell];omega) _|refine Below.setCell ?_ (by first|(simp;done)|(simp;omega)) _)
 rintro V ⟨B6,hbv⟩
 exact bodyPost_ret (v:=.tuple #[.agg #[.int .i64 r.1.k,.int .i64 r.1.sg,.int .i64 r.1.at',.int .i64 r.1.d,.int .i64 r.1.p,.int .i64 r.1.el,.int .i64 r.1.n,.int .i64 r.1.cost],.int .i64 r.2]) (by simp [results,Tryz.results79,go_sem,B6.cell]) rfl ⟨rfl,hbv⟩
set_option maxRecDepth 100000 in
set_option maxHeartbeats 1000000 in
theorem case1c_any (A:Option Addr)(c:Nat)(ls:List (List Int))(k o d p el cc pa pg lo s t:Int)(db:Bool)(w:World)(hT:TabOK w)(h7:el=7)(c0:0≤cc)(c1:cc≤536870911)(hs:Sg w A ls)(hw:Wd2 ls)(hm:ls.length≤140737488355328)(hf:∀j,(seg ls j).length≤140737488355328)(hs0:-9223372036854775808≤s)(hs1:s≤9223372036854775807)(ht0:-9223372036854775808≤t)(ht1:t≤9223372036854775807):
  Calls Tryz.prog 81 #[.agg #[.slice A ls.length c,.int .i64 k,.int .i64 o,.int .i64 d,.int .i64 p,.int .i64 el,.int .i64 cc,.bool db,.int .i64 pa,.int .u32 pg,.int .u32 lo,.int .i64 s,.int .i64 t]] w fun e w'=>e=.returned (.tuple #[.agg #[.int .i64 (cmpR ls cc s t).1.k,.int .i64 (cmpR ls cc s t).1.sg,.int .i64 (cmpR ls cc s t).1.at',.int .i64 (cmpR ls cc s t).1.d,.int .i64 (cmpR ls cc s t).1.p,.int .i64 (cmpR ls cc s t).1.el,.int .i64 (cmpR ls cc s t).1.n,.int .i64 (cmpR ls cc s t).1.cost],.int .i64 (cmpR ls cc s t).2])∧Below w.heap.size w w':=by
 have Hs:=Lib.hid hs
 have HT:=Lib.hid hT
 have HH:=Lib.hid (fun w2 (hT2:TabOK w2) hs2=>composite_any A c ls k o d p el cc pa pg lo s t db w2 hT2 c0 c1 hs2 hw hm hf hs0 hs1 ht0 ht1)
 clear hs hT hw hf
 have t7:(el==7)=true:=by simpa using h7
 clear h7
 generalize cmpR ls cc s t=r at *
 go_enter Tryz.func81,Tryz.ntmps81
 go_wp2_with fail
 refine(HH.out _ ((HT.out.alloc _).alloc _) ((Hs.out.alloc _).alloc _)).mono ?_
 rintro e w1 ⟨rfl,hb⟩
 have BO:=(Blk.fresh (w.alloc (.cells #[.slice A ls.length c,.int .i64 k,.int .i64 o,.int .i64 d,.int .i64 p,.int .i64 el,.int .i64 cc,.bool db,.int .i64 pa,.int .u32 pg,.int .u32 lo,.int .i64 s,.int .i64 t] 101)) #[.int .i64 0,.int .i64 0,.int .i64 0,.int .i64 0,.int .i64 0,.int .i64 0,.int .i64 0,.int .i64 0] 48).below hb
 rw [World.size_alloc] at BO
 have HB:Hid (Below w.heap.size w w1):=Lib.hid ((((Below.refl _ _).alloc (Nat.le_refl _) _).alloc (by simp) _).trans (hb.mono (by simp;omega)))
 clear hb HH
 have HO:=Lib.hid BO
 obtain⟨xo,yo,zo⟩:=BO
 go_wp2_with fail
 refine abs_post (F:=fun W=>Blk W (w.heap.size+1) #[.int .i64 r.1.k,.int .i64 r.1.sg,.int .i64 r.1.at',.int .i64 r.1.d,.int .i64 r.1.p,.int .i64 r.1.el,.int .i64 r.1.n,.int .i64 r.1.cost]∧Below w.heap.size w W) ⟨?_,?_⟩ ?_
 ·exact((((((((HO.out.set 0 (by simp) _).set 1 (by simp) _).set 2 (by simp) _).set 3 (by simp) _).set 4 (by simp) _).set 5 (by simp) _).set 6 (by simp) _).set 7 (by simp) _)
 ·repeat (with_reducible first|exact HB.out|refine bel_drewN ?_ _|refine bel_drew ?_|refine Below.alloc ?_ (by have:=HB.out.size;simp [World.setCell];omega) _|refine Below.setCell ?_ (by first|(simp;done)|(simp;omega)) _)
 rintro V ⟨B6,hbv⟩
 exact bodyPost_ret (v:=.tuple #[.agg #[.int .i64 r.1.k,.int .i64 r.1.sg,.int .i64 r.1.at',.int .i64 r.1.d,.int .i64 r.1.p,.int .i64 r.1.el,.int .i64 r.1.n,.int .i64 r.1.cost],.int .i64 r.2]) (by simp [results,Tryz.results81,go_sem,B6.cell]) rfl ⟨rfl,hbv⟩
set_option maxRecDepth 100000 in
set_option maxHeartbeats 1000000 in
theorem case1l_any (A:Option Addr)(c:Nat)(ls:List (List Int))(k o d p el cc pa pg lo s t:Int)(db:Bool)(w:World)(hT:TabOK w)(h7:¬el=7)(e0:0≤el)(e7:el≤7)(c0:0≤cc)(c1:cc≤536870911)(hs:Sg w A ls)(hw:Wd2 ls)(hm:ls.length≤140737488355328)(hf:∀j,(seg ls j).length≤140737488355328)(hs0:-9223372036854775808≤s)(hs1:s≤9223372036854775807)(ht0:-9223372036854775808≤t)(ht1:t≤9223372036854775807):
  Calls Tryz.prog 81 #[.agg #[.slice A ls.length c,.int .i64 k,.int .i64 o,.int .i64 d,.int .i64 p,.int .i64 el,.int .i64 cc,.bool db,.int .i64 pa,.int .u32 pg,.int .u32 lo,.int .i64 s,.int .i64 t]] w fun e w'=>e=.returned (.tuple #[.agg #[.int .i64 (lstR ls el cc s t).1.k,.int .i64 (lstR ls el cc s t).1.sg,.int .i64 (lstR ls el cc s t).1.at',.int .i64 (lstR ls el cc s t).1.d,.int .i64 (lstR ls el cc s t).1.p,.int .i64 (lstR ls el cc s t).1.el,.int .i64 (lstR ls el cc s t).1.n,.int .i64 (lstR ls el cc s t).1.cost],.int .i64 (lstR ls el cc s t).2])∧Below w.heap.size w w':=by
 have Hs:=Lib.hid hs
 have HT:=Lib.hid hT
 have HH:=Lib.hid (fun w2 (hT2:TabOK w2) hs2=>list_any A c ls k o d p el cc pa pg lo s t db w2 hT2 e0 e7 c0 c1 hs2 hm hs0 hs1 ht0 ht1)
 clear hs hT hw hf
 have t7:(el==7)=false:=by simpa using h7
 clear h7
 generalize lstR ls el cc s t=r at *
 go_enter Tryz.func81,Tryz.ntmps81
 go_wp2_with fail
 refine(HH.out _ ((HT.out.alloc _).alloc _) ((Hs.out.alloc _).alloc _)).mono ?_
 rintro e w1 ⟨rfl,hb⟩
 have BO:=(Blk.fresh (w.alloc (.cells #[.slice A ls.length c,.int .i64 k,.int .i64 o,.int .i64 d,.int .i64 p,.int .i64 el,.int .i64 cc,.bool db,.int .i64 pa,.int .u32 pg,.int .u32 lo,.int .i64 s,.int .i64 t] 101)) #[.int .i64 0,.int .i64 0,.int .i64 0,.int .i64 0,.int .i64 0,.int .i64 0,.int .i64 0,.int .i64 0] 48).below hb
 rw [World.size_alloc] at BO
 have HB:Hid (Below w.heap.size w w1):=Lib.hid ((((Below.refl _ _).alloc (Nat.le_refl _) _).alloc (by simp) _).trans (hb.mono (by simp;omega)))
 clear hb HH
 have HO:=Lib.hid BO
 obtain⟨xo,yo,zo⟩:=BO
 go_wp2_with fail
 refine abs_post (F:=fun W=>Blk W (w.heap.size+1) #[.int .i64 r.1.k,.int .i64 r.1.sg,.int .i64 r.1.at',.int .i64 r.1.d,.int .i64 r.1.p,.int .i64 r.1.el,.int .i64 r.1.n,.int .i64 r.1.cost]∧Below w.heap.size w W) ⟨?_,?_⟩ ?_
 ·exact((((((((HO.out.set 0 (by simp) _).set 1 (by simp) _).set 2 (by simp) _).set 3 (by simp) _).set 4 (by simp) _).set 5 (by simp) _).set 6 (by simp) _).set 7 (by simp) _)
 ·repeat (with_reducible first|exact HB.out|refine bel_drewN ?_ _|refine bel_drew ?_|refine Below.alloc ?_ (by have:=HB.out.size;simp [World.setCell];omega) _|refine Below.setCell ?_ (by first|(simp;done)|(simp;omega)) _)
 rintro V ⟨B6,hbv⟩
 exact bodyPost_ret (v:=.tuple #[.agg #[.int .i64 r.1.k,.int .i64 r.1.sg,.int .i64 r.1.at',.int .i64 r.1.d,.int .i64 r.1.p,.int .i64 r.1.el,.int .i64 r.1.n,.int .i64 r.1.cost],.int .i64 r.2]) (by simp [results,Tryz.results81,go_sem,B6.cell]) rfl ⟨rfl,hbv⟩
def othR (lo:Int):Ob×Int:=(ob0,if lo=0 then 6 else 4)
set_option maxRecDepth 100000 in
set_option maxHeartbeats 1000000 in
theorem case3_any (A:Option Addr)(c:Nat)(ls:List (List Int))(k o d p el cc pa pg lo s t:Int)(db:Bool)(w:World)(hk:k=3):
  Calls Tryz.prog 84 #[.agg #[.slice A ls.length c,.int .i64 k,.int .i64 o,.int .i64 d,.int .i64 p,.int .i64 el,.int .i64 cc,.bool db,.int .i64 pa,.int .u32 pg,.int .u32 lo,.int .i64 s,.int .i64 t]] w fun e w'=>e=.returned (.tuple #[.agg #[.int .i64 (othR lo).1.k,.int .i64 (othR lo).1.sg,.int .i64 (othR lo).1.at',.int .i64 (othR lo).1.d,.int .i64 (othR lo).1.p,.int .i64 (othR lo).1.el,.int .i64 (othR lo).1.n,.int .i64 (othR lo).1.cost],.int .i64 (othR lo).2])∧Below w.heap.size w w':=by
 by_cases hl:lo=0
 ·have HR:Hid (othR lo=(ob0,6)):=Lib.hid (by unfold othR;rw [if_pos hl])
  have tl:(k==3&&lo==0)=true:=by simp [hk,hl]
  clear hl hk
  go_enter Tryz.func84,Tryz.ntmps84
  go_wp2_with fail
  refine(IsCapability_any _ _ _ _ _ _ _ _ _ _ _).mono ?_
  rintro e w1 ⟨rfl,hb⟩
  rw [tl]
  clear tl
  have BO:=(Blk.fresh (w.alloc (.cells #[.slice A ls.length c,.int .i64 k,.int .i64 o,.int .i64 d,.int .i64 p,.int .i64 el,.int .i64 cc,.bool db,.int .i64 pa,.int .u32 pg,.int .u32 lo,.int .i64 s,.int .i64 t] 101)) #[.int .i64 0,.int .i64 0,.int .i64 0,.int .i64 0,.int .i64 0,.int .i64 0,.int .i64 0,.int .i64 0] 48).below hb
  rw [World.size_alloc] at BO
  have HB:Hid (Below w.heap.size w w1):=Lib.hid ((((Below.refl _ _).alloc (Nat.le_refl _) _).alloc (by simp) _).trans (hb.mono (by simp;omega)))
  clear hb
  have HO:=Lib.hid BO
  obtain⟨xo,yo,zo⟩:=BO
  go_wp2_with fail
  refine abs_post (F:=fun W=>Blk W (w.heap.size+1) #[.int .i64 0,.int .i64 0,.int .i64 0,.int .i64 0,.int .i64 0,.int .i64 0,.int .i64 0,.int .i64 0]∧Below w.heap.size w W) ⟨?_,?_⟩ ?_
  ·exact((((((((HO.out.set 0 (by simp) _).set 1 (by simp) _).set 2 (by simp) _).set 3 (by simp) _).set 4 (by simp) _).set 5 (by simp) _).set 6 (by simp) _).set 7 (by simp) _)
  ·repeat (with_reducible first|exact HB.out|refine bel_drewN ?_ _|refine bel_drew ?_|refine Below.alloc ?_ (by have:=HB.out.size;simp [World.setCell];omega) _|refine Below.setCell ?_ (by first|(simp;done)|(simp;omega)) _)
  rintro V ⟨B6,hbv⟩
  exact bodyPost_ret (v:=.tuple #[.agg #[.int .i64 0,.int .i64 0,.int .i64 0,.int .i64 0,.int .i64 0,.int .i64 0,.int .i64 0,.int .i64 0],.int .i64 6]) (by simp [results,Tryz.results84,go_sem,B6.cell]) rfl ⟨by rw [HR.out];try rfl,hbv⟩
 ·have HR:Hid (othR lo=(ob0,4)):=Lib.hid (by unfold othR;rw [if_neg hl])
  have tl:(k==3&&lo==0)=false:=by simp [hk,hl]
  clear hl hk
  go_enter Tryz.func84,Tryz.ntmps84
  go_wp2_with fail
  refine(IsCapability_any _ _ _ _ _ _ _ _ _ _ _).mono ?_
  rintro e w1 ⟨rfl,hb⟩
  rw [tl]
  clear tl
  have BO:=(Blk.fresh (w.alloc (.cells #[.slice A ls.length c,.int .i64 k,.int .i64 o,.int .i64 d,.int .i64 p,.int .i64 el,.int .i64 cc,.bool db,.int .i64 pa,.int .u32 pg,.int .u32 lo,.int .i64 s,.int .i64 t] 101)) #[.int .i64 0,.int .i64 0,.int .i64 0,.int .i64 0,.int .i64 0,.int .i64 0,.int .i64 0,.int .i64 0] 48).below hb
  rw [World.size_alloc] at BO
  have HB:Hid (Below w.heap.size w w1):=Lib.hid ((((Below.refl _ _).alloc (Nat.le_refl _) _).alloc (by simp) _).trans (hb.mono (by simp;omega)))
  clear hb
  have HO:=Lib.hid BO
  obtain⟨xo,yo,zo⟩:=BO
  go_wp2_with fail
  refine abs_post (F:=fun W=>Blk W (w.heap.size+1) #[.int .i64 0,.int .i64 0,.int .i64 0,.int .i64 0,.int .i64 0,.int .i64 0,.int .i64 0,.int .i64 0]∧Below w.heap.size w W) ⟨?_,?_⟩ ?_
  ·exact((((((((HO.out.set 0 (by simp) _).set 1 (by simp) _).set 2 (by simp) _).set 3 (by simp) _).set 4 (by simp) _).set 5 (by simp) _).set 6 (by simp) _).set 7 (by simp) _)
  ·repeat (with_reducible first|exact HB.out|refine bel_drewN ?_ _|refine bel_drew ?_|refine Below.alloc ?_ (by have:=HB.out.size;simp [World.setCell];omega) _|refine Below.setCell ?_ (by first|(simp;done)|(simp;omega)) _)
  rintro V ⟨B6,hbv⟩
  exact bodyPost_ret (v:=.tuple #[.agg #[.int .i64 0,.int .i64 0,.int .i64 0,.int .i64 0,.int .i64 0,.int .i64 0,.int .i64 0,.int .i64 0],.int .i64 4]) (by simp [results,Tryz.results84,go_sem,B6.cell]) rfl ⟨by rw [HR.out];try rfl,hbv⟩
def casesV:Value:=.agg #[.func (.func 79) #[] #[],.func (.func 81) #[] #[],.nilFunc,.func (.func 84) #[] #[]]
theorem cases_any (w:World):Calls Tryz.prog 55 #[] w fun e w'=>e=.returned casesV∧Below w.heap.size w w':=by
 go_enter Tryz.func55,Tryz.ntmps55
 go_wp2
 refine bodyPost_ret (v:=casesV) (by simp [results,Tryz.results55,go_sem,casesV]) rfl ⟨rfl,?_⟩
 repeat (with_reducible first|exact Below.refl _ _|refine Below.alloc ?_ (by first|exact Nat.le_refl _|(simp [World.setCell];omega)) _|refine Below.setCell ?_ (by first|(simp;done)|(simp;omega)) _)
end Go.Proofs.YtfaflahfjgnphaaGreatDoor
