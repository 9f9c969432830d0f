/- The texts Obj08, Obj08b (what is wanted of them), one after the other. -/
import Derived.Test.YtbpmeppdjicmhaaGreatDoorMg17
namespace Go.Proofs.YtbpmeppdjicmhaaGreatDoor
open Go.ChangeShapes Go.WideShapes Go.ChangeAt Go.RowKit
set_option linter.unusedVariables false
set_option linter.unusedSimpArgs false
set_option maxRecDepth 100000
theorem wordsI_lim (e c:Int)(h0:0≤c)(h1:c≤536870911):0≤wordsI e c∧wordsI e c≤536870912:=by
 have h:=bitsI_mul e c h0
 unfold wordsI
 split<;>omega
set_option maxRecDepth 100000 in
set_option maxHeartbeats 2000000 in
theorem Object4 (A:Option Addr)(c:Nat)(ls:List (List Int))(s a:Int)(w:World)(hs:Sg w A ls)(hw:Wd2 ls)(hm:ls.length≤140737488355328)(hf:∀j,(seg ls j).length≤140737488355328)(h1:(followF ls s a).e=0)(h2:¬(followF ls s a).w=0)(h3:(decP (followF ls s a).w).k=0):
  Calls Tryz.prog 40 #[.slice A ls.length c,.int .i64 s,.int .i64 a] w fun e w'=>e=.returned (.tuple #[.agg #[.int .i64 (objF ls s a).1.k,.int .i64 (objF ls s a).1.sg,.int .i64 (objF ls s a).1.at',.int .i64 (objF ls s a).1.d,.int .i64 (objF ls s a).1.p,.int .i64 (objF ls s a).1.el,.int .i64 (objF ls s a).1.n,.int .i64 (objF ls s a).1.cost],.int .i64 (objF ls s a).2])∧Below w.heap.size w w':=by
 have HF:Hid (objF ls s a=if inB ls (followF ls s a).s ((followF ls s a).b+(decP (followF ls s a).w).o) ((decP (followF ls s a).w).d+(decP (followF ls s a).w).p)=true then (⟨1,(followF ls s a).s,(followF ls s a).b+(decP (followF ls s a).w).o,(decP (followF ls s a).w).d,(decP (followF ls s a).w).p,0,0,(decP (followF ls s a).w).d+(decP (followF ls s a).w).p⟩,0) else (ob0,2)):=Lib.hid (by simp [objF,objP,h1,h2,h3])
 have HFOL:=Lib.hid (fun w2 hs2=>RefFollow_any A c ls s a w2 hs2 hw hm hf)
 have hbd:=followF_bd hw hm hf s a
 have HW:=Lib.hid hw
 have Hs:=Lib.hid hs
 have hpd:=decP_bd (followF ls s a).w hbd.1 hbd.2.1
 generalize hq:followF ls s a=q at *
 clear hs hw hf hq
 go_enter Tryz.func40,Tryz.ntmps40
 go_wp2_with fail
 refine(HFOL.out _ ((Hs.out.alloc _).alloc _)).mono ?_
 rintro e w1 ⟨rfl,hb1⟩
 have B6:=(((Blk.fresh w _ _).alloc _).below hb1)
 have B8:=((Blk.fresh (w.alloc _) _ _).below hb1)
 have HB:Hid (Below w.heap.size w w1):=Lib.hid ((((Below.refl _ _).alloc (Nat.le_refl _) _).alloc (by simp) _).trans (hb1.mono (by simp;omega)))
 rw [World.size_alloc] at B8
 clear hb1 HFOL
 have t1:(q.e != 0)=false:=by simpa using h1
 have t2:(q.w==0)=false:=by simpa using h2
 go_wp2_with fail
 refine(RefDecode_any _ _ hbd.1 hbd.2.1).mono ?_
 rintro e w2 ⟨rfl,hb3⟩
 have B6:=B6.below hb3
 have B8:=B8.below hb3
 have hsz:=HB.out.size
 have HB:Hid (Below w.heap.size w w2):=Lib.hid (HB.out.trans (hb3.mono hsz))
 clear hb3 hsz
 have H6:=Lib.hid B6
 have H8:=Lib.hid B8
 obtain⟨x6,y6,z6⟩:=B6
 obtain⟨x8,y8,z8⟩:=B8
 generalize decP q.w=p at *
 go_wp2_with fail
 refine abs_world (F:=fun W=>Blk W w.heap.size #[.int .i64 (0),.int .i64 (0),.int .i64 (0),.int .i64 (0),.int .i64 (0),.int .i64 (0),.int .i64 (0),.int .i64 (0)]∧Blk W (w.heap.size+1) #[.int .i64 (1),.int .i64 (q.s),.int .i64 (q.b+p.o),.int .i64 (p.d),.int .i64 (p.p),.int .i64 (0),.int .i64 (0),.int .i64 (p.d+p.p)]∧Below w.heap.size w W) ⟨?_,?_,?_⟩ ?_
 ·repeat (with_reducible first|exact H6.out|refine Blk.alloc ?_ _|refine Blk.other ?_ (by simp;try omega) _)
 ·exact((((((H8.out.set 1 (by simp) _).set 2 (by simp) _).set 0 (by simp) _).set 3 (by simp) _).set 4 (by simp) _).set 7 (by simp) _).alloc _
 ·repeat (with_reducible first|exact HB.out|refine Below.alloc ?_ (by simp [World.setCell];omega) _|refine Below.setCell ?_ (by simp) _)
 rintro W ⟨B6,B8,hbw⟩
 have HB:=Lib.hid hbw
 clear hbw x6 y6 z6 x8 y8 z8 H6 H8
 cases hin:inB ls q.s (q.b+p.o) (p.d+p.p) with
 | true=>
  refine(RefInB_is _ _ _ _ _ _ _ _ (Hs.out.below HB.out (Nat.le_refl _)) hm hin).mono ?_
  rintro e w' ⟨rfl,rfl⟩
  rw [hin,if_pos rfl] at HF
  clear hin
  have H6:=Lib.hid B6
  have H8:=Lib.hid B8
  obtain⟨x6,y6,z6⟩:=B6
  obtain⟨x8,y8,z8⟩:=B8
  go_wp2_with fail
  refine abs_post (F:=fun W=>Blk W w.heap.size #[.int .i64 (1),.int .i64 (q.s),.int .i64 (q.b+p.o),.int .i64 (p.d),.int .i64 (p.p),.int .i64 (0),.int .i64 (0),.int .i64 (p.d+p.p)]∧Below w.heap.size w W) ⟨?_,?_⟩ ?_
  ·exact((((((((H6.out.set 0 (by simp) _).set 1 (by simp) _).set 2 (by simp) _).set 3 (by simp) _).set 4 (by simp) _).set 5 (by simp) _).set 6 (by simp) _).set 7 (by simp) _)
  ·repeat (with_reducible first|exact HB.out|refine Below.alloc ?_ (by simp [World.setCell];omega) _|refine Below.setCell ?_ (by simp) _)
  rintro V ⟨B6,hbv⟩
  exact bodyPost_ret (v:=.tuple #[.agg #[.int .i64 (1),.int .i64 (q.s),.int .i64 (q.b+p.o),.int .i64 (p.d),.int .i64 (p.p),.int .i64 (0),.int .i64 (0),.int .i64 (p.d+p.p)],.int .i64 0]) (by simp [results,Tryz.results40,go_sem,B6.cell]) rfl ⟨by rw [HF.out];try rfl,hbv⟩
 | false=>
  refine(RefInB_is _ _ _ _ _ _ _ _ (Hs.out.below HB.out (Nat.le_refl _)) hm hin).mono ?_
  rintro e w' ⟨rfl,rfl⟩
  rw [hin,if_neg Bool.false_ne_true] at HF
  clear hin
  have H6:=Lib.hid B6
  have H8:=Lib.hid B8
  obtain⟨x6,y6,z6⟩:=B6
  obtain⟨x8,y8,z8⟩:=B8
  go_wp2_with fail
  refine abs_post (F:=fun W=>Blk W w.heap.size #[.int .i64 (0),.int .i64 (0),.int .i64 (0),.int .i64 (0),.int .i64 (0),.int .i64 (0),.int .i64 (0),.int .i64 (0)]∧Below w.heap.size w W) ⟨?_,?_⟩ ?_
  ·exact((((((((H6.out.set 0 (by simp) _).set 1 (by simp) _).set 2 (by simp) _).set 3 (by simp) _).set 4 (by simp) _).set 5 (by simp) _).set 6 (by simp) _).set 7 (by simp) _)
  ·repeat (with_reducible first|exact HB.out|refine Below.alloc ?_ (by simp [World.setCell];omega) _|refine Below.setCell ?_ (by simp) _)
  rintro V ⟨B6,hbv⟩
  exact bodyPost_ret (v:=.tuple #[.agg #[.int .i64 (0),.int .i64 (0),.int .i64 (0),.int .i64 (0),.int .i64 (0),.int .i64 (0),.int .i64 (0),.int .i64 (0)],.int .i64 2]) (by simp [results,Tryz.results40,go_sem,B6.cell]) rfl ⟨by rw [HF.out];try rfl,hbv⟩
set_option maxRecDepth 100000 in
set_option maxHeartbeats 2000000 in
theorem Object5 (A:Option Addr)(c:Nat)(ls:List (List Int))(s a:Int)(w:World)(hs:Sg w A ls)(hw:Wd2 ls)(hm:ls.length≤140737488355328)(hf:∀j,(seg ls j).length≤140737488355328)(h1:(followF ls s a).e=0)(h2:¬(followF ls s a).w=0)(h3:¬(decP (followF ls s a).w).k=3)(h4:¬(decP (followF ls s a).w).k=0):
  Calls Tryz.prog 40 #[.slice A ls.length c,.int .i64 s,.int .i64 a] w fun e w'=>e=.returned (.tuple #[.agg #[.int .i64 (objF ls s a).1.k,.int .i64 (objF ls s a).1.sg,.int .i64 (objF ls s a).1.at',.int .i64 (objF ls s a).1.d,.int .i64 (objF ls s a).1.p,.int .i64 (objF ls s a).1.el,.int .i64 (objF ls s a).1.n,.int .i64 (objF ls s a).1.cost],.int .i64 (objF ls s a).2])∧Below w.heap.size w w':=by
 have HF:Hid (objF ls s a=if inB ls (followF ls s a).s ((followF ls s a).b+(decP (followF ls s a).w).o) (wordsI (decP (followF ls s a).w).el (decP (followF ls s a).w).c)=false then (ob0,2) else if (decP (followF ls s a).w).el=7 then compF ls (followF ls s a).s ((followF ls s a).b+(decP (followF ls s a).w).o) (decP (followF ls s a).w).c (wordsI (decP (followF ls s a).w).el (decP (followF ls s a).w).c) else (⟨2,(followF ls s a).s,(followF ls s a).b+(decP (followF ls s a).w).o,0,0,(decP (followF ls s a).w).el,(decP (followF ls s a).w).c,wordsI (decP (followF ls s a).w).el (decP (followF ls s a).w).c⟩,0)):=Lib.hid (by simp [objF,objP,h1,h2,h3,h4])
 have HFOL:=Lib.hid (fun w2 hs2=>RefFollow_any A c ls s a w2 hs2 hw hm hf)
 have hbd:=followF_bd hw hm hf s a
 have HW:=Lib.hid hw
 have Hs:=Lib.hid hs
 have hpd:=decP_bd (followF ls s a).w hbd.1 hbd.2.1
 generalize hq:followF ls s a=q at *
 clear hs hw hf hq
 go_enter Tryz.func40,Tryz.ntmps40
 go_wp2_with fail
 refine(HFOL.out _ ((Hs.out.alloc _).alloc _)).mono ?_
 rintro e w1 ⟨rfl,hb1⟩
 have B6:=(((Blk.fresh w _ _).alloc _).below hb1)
 have B8:=((Blk.fresh (w.alloc _) _ _).below hb1)
 have HB:Hid (Below w.heap.size w w1):=Lib.hid ((((Below.refl _ _).alloc (Nat.le_refl _) _).alloc (by simp) _).trans (hb1.mono (by simp;omega)))
 rw [World.size_alloc] at B8
 clear hb1 HFOL
 have t1:(q.e != 0)=false:=by simpa using h1
 have t2:(q.w==0)=false:=by simpa using h2
 go_wp2_with fail
 refine(RefDecode_any _ _ hbd.1 hbd.2.1).mono ?_
 rintro e w2 ⟨rfl,hb3⟩
 have B6:=B6.below hb3
 have B8:=B8.below hb3
 have hsz:=HB.out.size
 have HB:Hid (Below w.heap.size w w2):=Lib.hid (HB.out.trans (hb3.mono hsz))
 clear hb3 hsz
 have H6:=Lib.hid B6
 have H8:=Lib.hid B8
 obtain⟨x6,y6,z6⟩:=B6
 obtain⟨x8,y8,z8⟩:=B8
 generalize decP q.w=p at *
 have t3:(p.k==3)=false:=by rw [beq_eq_false_iff_ne];exact h3
 have t4:(p.k==0)=false:=by rw [beq_eq_false_iff_ne];exact h4
 clear h3 h4
 have hwb:0≤wordsI p.el p.c∧wordsI p.el p.c≤536870912:=wordsI_lim p.el p.c (by omega) (by omega)
 go_wp2_with fail
 refine(RefWords6_any _ _ _ (by omega) (by omega)).mono ?_
 rintro e w' ⟨rfl,rfl⟩
 generalize wordsI p.el p.c=cw at *
 go_wp2_with fail
 refine abs_world (F:=fun W=>Blk W w.heap.size #[.int .i64 (0),.int .i64 (0),.int .i64 (0),.int .i64 (0),.int .i64 (0),.int .i64 (0),.int .i64 (0),.int .i64 (0)]∧Blk W (w.heap.size+1) #[.int .i64 (2),.int .i64 (q.s),.int .i64 (q.b+p.o),.int .i64 (0),.int .i64 (0),.int .i64 (p.el),.int .i64 (p.c),.int .i64 (cw)]∧Blk W w2.heap.size #[.int .i64 p.k,.int .i64 p.o,.int .i64 p.d,.int .i64 p.p,.int .i64 p.el,.int .i64 p.c,.bool p.db,.int .i64 p.pa,.int .u32 p.sg,.int .u32 p.lo]∧Below w.heap.size w W) ⟨?_,?_,?_,?_⟩ ?_
 ·repeat (with_reducible first|exact H6.out|refine Blk.alloc ?_ _|refine Blk.other ?_ (by simp;try omega) _)
 ·exact((((((H8.out.set 1 (by simp) _).set 2 (by simp) _).set 0 (by simp) _).set 5 (by simp) _).set 6 (by simp) _).set 7 (by simp) _).alloc _
 ·exact Blk.new (by simp [World.setCell])
 ·repeat (with_reducible first|exact HB.out|refine Below.alloc ?_ (by simp [World.setCell];omega) _|refine Below.setCell ?_ (by simp) _)
 rintro W ⟨B6,B8,BP,hbw⟩
 have HB:=Lib.hid hbw
 clear hbw x6 y6 x8 y8 H6 H8
 cases hin:inB ls q.s (q.b+p.o) cw with
 | false=>
  refine(RefInB_is _ _ _ _ _ _ _ _ (Hs.out.below HB.out (Nat.le_refl _)) hm hin).mono ?_
  rintro e w' ⟨rfl,rfl⟩
  rw [hin,if_pos rfl] at HF
  clear hin
  have H6:=Lib.hid B6
  have H8:=Lib.hid B8
  obtain⟨x6,y6,z6⟩:=B6
  obtain⟨x8,y8,z8⟩:=B8
  have HP:=Lib.hid BP
  obtain⟨xp,yp,zp⟩:=BP
  go_wp2_with fail
  refine abs_post (F:=fun W=>Blk W w.heap.size #[.int .i64 (0),.int .i64 (0),.int .i64 (0),.int .i64 (0),.int .i64 (0),.int .i64 (0),.int .i64 (0),.int .i64 (0)]∧Below w.heap.size w W) ⟨?_,?_⟩ ?_
  ·exact((((((((H6.out.set 0 (by simp) _).set 1 (by simp) _).set 2 (by simp) _).set 3 (by simp) _).set 4 (by simp) _).set 5 (by simp) _).set 6 (by simp) _).set 7 (by simp) _)
  ·repeat (with_reducible first|exact HB.out|refine Below.alloc ?_ (by simp [World.setCell];omega) _|refine Below.setCell ?_ (by simp) _)
  rintro V ⟨B6,hbv⟩
  exact bodyPost_ret (v:=.tuple #[.agg #[.int .i64 (0),.int .i64 (0),.int .i64 (0),.int .i64 (0),.int .i64 (0),.int .i64 (0),.int .i64 (0),.int .i64 (0)],.int .i64 2]) (by simp [results,Tryz.results40,go_sem,B6.cell]) rfl ⟨by rw [HF.out];try rfl,hbv⟩
 | true=>
  refine(RefInB_is _ _ _ _ _ _ _ _ (Hs.out.below HB.out (Nat.le_refl _)) hm hin).mono ?_
  rintro e w' ⟨rfl,rfl⟩
  rw [hin,if_neg (by simp)] at HF
  clear hin
  have H6:=Lib.hid B6
  have H8:=Lib.hid B8
  obtain⟨x6,y6,z6⟩:=B6
  obtain⟨x8,y8,z8⟩:=B8
  have HP:=Lib.hid BP
  obtain⟨xp,yp,zp⟩:=BP
  by_cases h7:p.el=7
  ·rw [if_pos h7] at HF
   rw [h7] at xp x8
   go_wp2_with fail
   refine(RefWord_any _ _ _ _ _ _ (Hs.out.below HB.out (Nat.le_refl _)) hm).mono ?_
   rintro e w' ⟨rfl,rfl⟩
   have hwd:=wordV_bd HW.out q.s (q.b+p.o)
   have htd:=decP_bd _ hwd.1 hwd.2
   have HG:Hid (objF ls s a=if (decP (wordV ls q.s (q.b+p.o))).k≠0∨(decP (wordV ls q.s (q.b+p.o))).o<0∨p.c<(decP (wordV ls q.s (q.b+p.o))).o*((decP (wordV ls q.s (q.b+p.o))).d+(decP (wordV ls q.s (q.b+p.o))).p) then (ob0,5)
    else (⟨2,q.s,q.b+p.o+1,(decP (wordV ls q.s (q.b+p.o))).d,(decP (wordV ls q.s (q.b+p.o))).p,7,(decP (wordV ls q.s (q.b+p.o))).o,if (decP (wordV ls q.s (q.b+p.o))).d+(decP (wordV ls q.s (q.b+p.o))).p=0 then cw+(decP (wordV ls q.s (q.b+p.o))).o else cw⟩,0)):=Lib.hid (by rw [HF.out];rfl)
   clear HF
   generalize wordV ls q.s (q.b+p.o)=x at *
   go_wp2_with fail
   refine(RefDecode_any _ _ hwd.1 hwd.2).mono ?_
   rintro e w3 ⟨rfl,hb5⟩
   have B6:=H6.out.below hb5
   have B8:=H8.out.below hb5
   have BP:=HP.out.below hb5
   have HB:Hid (Below w.heap.size w w3):=Lib.hid (HB.out.trans (hb5.mono HB.out.size))
   clear hb5 x6 y6 z6 x8 y8 z8 xp yp zp H6 H8 HP
   have H6:=Lib.hid B6
   have H8:=Lib.hid B8
   obtain⟨x6,y6,z6⟩:=B6
   obtain⟨x8,y8,z8⟩:=B8
   obtain⟨xp,yp,zp⟩:=BP
   generalize decP x=t at *
   by_cases hk:t.k=0
   ·have t5:(t.k != 0)=false:=by simpa using hk
    by_cases ho:t.o<0
    ·have HE:Hid (objF ls s a=(ob0,5)):=Lib.hid (by rw [HG.out,if_pos (Or.inr (Or.inl ho))])
     clear hk
     go_wp2_with fail
     refine abs_post (F:=fun W=>Blk W w.heap.size #[.int .i64 (0),.int .i64 (0),.int .i64 (0),.int .i64 (0),.int .i64 (0),.int .i64 (0),.int .i64 (0),.int .i64 (0)]∧Below w.heap.size w W) ⟨?_,?_⟩ ?_
     ·exact((((((((H6.out.set 0 (by simp) _).set 1 (by simp) _).set 2 (by simp) _).set 3 (by simp) _).set 4 (by simp) _).set 5 (by simp) _).set 6 (by simp) _).set 7 (by simp) _).alloc _
     ·repeat (with_reducible first|exact HB.out|refine Below.alloc ?_ (by simp [World.setCell];omega) _|refine Below.setCell ?_ (by simp) _)
     rintro V ⟨B6,hbv⟩
     exact bodyPost_ret (v:=.tuple #[.agg #[.int .i64 (0),.int .i64 (0),.int .i64 (0),.int .i64 (0),.int .i64 (0),.int .i64 (0),.int .i64 (0),.int .i64 (0)],.int .i64 5]) (by simp [results,Tryz.results40,go_sem,B6.cell]) rfl ⟨by rw [HE.out];try rfl,hbv⟩
    ·have hm0:0≤t.o*(t.d+t.p):=Int.mul_nonneg (by omega) (by omega)
     have hm1:t.o*(t.d+t.p)≤536870911*131070:=Int.mul_le_mul (by omega) (by omega) (by omega) (by omega)
     by_cases hp:p.c<t.o*(t.d+t.p)
     ·have HE:Hid (objF ls s a=(ob0,5)):=Lib.hid (by rw [HG.out,if_pos (Or.inr (Or.inr hp))])
      clear hk
      go_wp2_with fail
      refine abs_post (F:=fun W=>Blk W w.heap.size #[.int .i64 (0),.int .i64 (0),.int .i64 (0),.int .i64 (0),.int .i64 (0),.int .i64 (0),.int .i64 (0),.int .i64 (0)]∧Below w.heap.size w W) ⟨?_,?_⟩ ?_
      ·exact((((((((H6.out.set 0 (by simp) _).set 1 (by simp) _).set 2 (by simp) _).set 3 (by simp) _).set 4 (by simp) _).set 5 (by simp) _).set 6 (by simp) _).set 7 (by simp) _).alloc _
      ·repeat (with_reducible first|exact HB.out|refine Below.alloc ?_ (by simp [World.setCell];omega) _|refine Below.setCell ?_ (by simp) _)
      rintro V ⟨B6,hbv⟩
      exact bodyPost_ret (v:=.tuple #[.agg #[.int .i64 (0),.int .i64 (0),.int .i64 (0),.int .i64 (0),.int .i64 (0),.int .i64 (0),.int .i64 (0),.int .i64 (0)],.int .i64 5]) (by simp [results,Tryz.results40,go_sem,B6.cell]) rfl ⟨by rw [HE.out];try rfl,hbv⟩
     ·have HE:Hid (objF ls s a=(⟨2,q.s,q.b+p.o+1,t.d,t.p,7,t.o,if t.d+t.p=0 then cw+t.o else cw⟩,0)):=Lib.hid (by rw [HG.out,if_neg (by omega)])
      clear hk HG
      by_cases hz:t.d+t.p=0
      ·rw [if_pos hz] at HE
       have t6:(t.d+t.p==0)=true:=by simpa using hz
       clear hz
       go_wp2_with fail
       refine abs_post (F:=fun W=>Blk W w.heap.size #[.int .i64 (2),.int .i64 (q.s),.int .i64 (q.b+p.o+1),.int .i64 (t.d),.int .i64 (t.p),.int .i64 (7),.int .i64 (t.o),.int .i64 (cw+t.o)]∧Below w.heap.size w W) ⟨?_,?_⟩ ?_
       ·exact(((((((((((((H6.out.other (by simp) _).other (by simp) _).other (by simp) _).other (by simp) _).other (by simp) _).set 0 (by simp) _).set 1 (by simp) _).set 2 (by simp) _).set 3 (by simp) _).set 4 (by simp) _).set 5 (by simp) _).set 6 (by simp) _).set 7 (by simp) _).alloc _
       ·repeat (with_reducible first|exact HB.out|refine Below.alloc ?_ (by simp [World.setCell];omega) _|refine Below.setCell ?_ (by simp) _)
       rintro V ⟨B6,hbv⟩
       exact bodyPost_ret (v:=.tuple #[.agg #[.int .i64 (2),.int .i64 (q.s),.int .i64 (q.b+p.o+1),.int .i64 (t.d),.int .i64 (t.p),.int .i64 (7),.int .i64 (t.o),.int .i64 (cw+t.o)],.int .i64 0]) (by simp [results,Tryz.results40,go_sem,B6.cell]) rfl ⟨by rw [HE.out];try rfl,hbv⟩
      ·rw [if_neg hz] at HE
       have t6:(t.d+t.p==0)=false:=by simpa using hz
       clear hz
       go_wp2_with fail
       refine abs_post (F:=fun W=>Blk W w.heap.size #[.int .i64 (2),.int .i64 (q.s),.int .i64 (q.b+p.o+1),.int .i64 (t.d),.int .i64 (t.p),.int .i64 (7),.int .i64 (t.o),.int .i64 (cw)]∧Below w.heap.size w W) ⟨?_,?_⟩ ?_
       ·exact((((((((((((H6.out.other (by simp) _).other (by simp) _).other (by simp) _).other (by simp) _).set 0 (by simp) _).set 1 (by simp) _).set 2 (by simp) _).set 3 (by simp) _).set 4 (by simp) _).set 5 (by simp) _).set 6 (by simp) _).set 7 (by simp) _).alloc _
       ·repeat (with_reducible first|exact HB.out|refine Below.alloc ?_ (by simp [World.setCell];omega) _|refine Below.setCell ?_ (by simp) _)
       rintro V ⟨B6,hbv⟩
       exact bodyPost_ret (v:=.tuple #[.agg #[.int .i64 (2),.int .i64 (q.s),.int .i64 (q.b+p.o+1),.int .i64 (t.d),.int .i64 (t.p),.int .i64 (7),.int .i64 (t.o),.int .i64 (cw)],.int .i64 0]) (by simp [results,Tryz.results40,go_sem,B6.cell]) rfl ⟨by rw [HE.out];try rfl,hbv⟩
   ·have t5:(t.k != 0)=true:=by simpa using hk
    have HE:Hid (objF ls s a=(ob0,5)):=Lib.hid (by rw [HG.out,if_pos (Or.inl hk)])
    clear hk
    go_wp2_with fail
    refine abs_post (F:=fun W=>Blk W w.heap.size #[.int .i64 (0),.int .i64 (0),.int .i64 (0),.int .i64 (0),.int .i64 (0),.int .i64 (0),.int .i64 (0),.int .i64 (0)]∧Below w.heap.size w W) ⟨?_,?_⟩ ?_
    ·exact((((((((H6.out.set 0 (by simp) _).set 1 (by simp) _).set 2 (by simp) _).set 3 (by simp) _).set 4 (by simp) _).set 5 (by simp) _).set 6 (by simp) _).set 7 (by simp) _).alloc _
    ·repeat (with_reducible first|exact HB.out|refine Below.alloc ?_ (by simp [World.setCell];omega) _|refine Below.setCell ?_ (by simp) _)
    rintro V ⟨B6,hbv⟩
    exact bodyPost_ret (v:=.tuple #[.agg #[.int .i64 (0),.int .i64 (0),.int .i64 (0),.int .i64 (0),.int .i64 (0),.int .i64 (0),.int .i64 (0),.int .i64 (0)],.int .i64 5]) (by simp [results,Tryz.results40,go_sem,B6.cell]) rfl ⟨by rw [HE.out];try rfl,hbv⟩
  ·rw [if_neg h7] at HF
   have t7:(p.el != 7)=true:=by simpa using h7
   clear h7
   go_wp2_with fail
   refine abs_post (F:=fun W=>Blk W w.heap.size #[.int .i64 (2),.int .i64 (q.s),.int .i64 (q.b+p.o),.int .i64 (0),.int .i64 (0),.int .i64 (p.el),.int .i64 (p.c),.int .i64 (cw)]∧Below w.heap.size w W) ⟨?_,?_⟩ ?_
   ·exact((((((((H6.out.set 0 (by simp) _).set 1 (by simp) _).set 2 (by simp) _).set 3 (by simp) _).set 4 (by simp) _).set 5 (by simp) _).set 6 (by simp) _).set 7 (by simp) _)
   ·repeat (with_reducible first|exact HB.out|refine Below.alloc ?_ (by simp [World.setCell];omega) _|refine Below.setCell ?_ (by simp) _)
   rintro V ⟨B6,hbv⟩
   exact bodyPost_ret (v:=.tuple #[.agg #[.int .i64 (2),.int .i64 (q.s),.int .i64 (q.b+p.o),.int .i64 (0),.int .i64 (0),.int .i64 (p.el),.int .i64 (p.c),.int .i64 (cw)],.int .i64 0]) (by simp [results,Tryz.results40,go_sem,B6.cell]) rfl ⟨by rw [HF.out];try rfl,hbv⟩
def obA (o:Ob):Array Value:=#[.int .i64 o.k,.int .i64 o.sg,.int .i64 o.at',.int .i64 o.d,.int .i64 o.p,.int .i64 o.el,.int .i64 o.n,.int .i64 o.cost]
theorem RefObject_any (A:Option Addr)(c:Nat)(ls:List (List Int))(s a:Int)(w:World)(hs:Sg w A ls)(hw:Wd2 ls)(hm:ls.length≤140737488355328)(hf:∀j,(seg ls j).length≤140737488355328):
  Calls Tryz.prog 40 #[.slice A ls.length c,.int .i64 s,.int .i64 a] w fun e w'=>e=.returned (.tuple #[.agg #[.int .i64 (objF ls s a).1.k,.int .i64 (objF ls s a).1.sg,.int .i64 (objF ls s a).1.at',.int .i64 (objF ls s a).1.d,.int .i64 (objF ls s a).1.p,.int .i64 (objF ls s a).1.el,.int .i64 (objF ls s a).1.n,.int .i64 (objF ls s a).1.cost],.int .i64 (objF ls s a).2])∧Below w.heap.size w w':=by
 by_cases h1:(followF ls s a).e=0
 ·by_cases h2:(followF ls s a).w=0
  ·exact Object2 A c ls s a w hs hw hm hf h1 h2
  ·by_cases h3:(decP (followF ls s a).w).k=3
   ·exact Object3 A c ls s a w hs hw hm hf h1 h2 h3
   ·by_cases h4:(decP (followF ls s a).w).k=0
    ·exact Object4 A c ls s a w hs hw hm hf h1 h2 h4
    ·exact Object5 A c ls s a w hs hw hm hf h1 h2 h3 h4
 ·exact Object1 A c ls s a w hs hw hm hf h1
def eleO (o:Ob)(i:Int):Ob:=⟨1,o.sg,o.at'+i*(o.d+o.p),o.d,o.p,0,0,0⟩
def ptrO (o:Ob):Int×Int:=if o.k=1∧0<o.p then (o.at'+o.d,o.p) else if o.k=2∧o.el=6∧0<o.n then (o.at',o.n) else (0,0)
theorem RefElement_any (o:Ob)(i:Int)(w:World)(h1:-9223372036854775808≤o.d+o.p)(h2:o.d+o.p≤9223372036854775807)(h3:-9223372036854775808≤i*(o.d+o.p))(h4:i*(o.d+o.p)≤9223372036854775807)(h5:-9223372036854775808≤o.at'+i*(o.d+o.p))(h6:o.at'+i*(o.d+o.p)≤9223372036854775807):
  Calls Tryz.prog 46 #[.agg #[.int .i64 o.k,.int .i64 o.sg,.int .i64 o.at',.int .i64 o.d,.int .i64 o.p,.int .i64 o.el,.int .i64 o.n,.int .i64 o.cost],.int .i64 i] w fun e w'=>e=.returned (.agg #[.int .i64 (eleO o i).k,.int .i64 (eleO o i).sg,.int .i64 (eleO o i).at',.int .i64 (eleO o i).d,.int .i64 (eleO o i).p,.int .i64 (eleO o i).el,.int .i64 (eleO o i).n,.int .i64 (eleO o i).cost])∧Below w.heap.size w w':=by
 unfold eleO
 go_enter Tryz.func46,Tryz.ntmps46
 go_wp2
 refine bodyPost_ret (v:=.agg #[.int .i64 1,.int .i64 o.sg,.int .i64 (o.at'+i*(o.d+o.p)),.int .i64 o.d,.int .i64 o.p,.int .i64 0,.int .i64 0,.int .i64 0]) (by simp [results,Tryz.results46,go_sem]) rfl ⟨rfl,?_⟩
 repeat (with_reducible first|exact Below.refl _ _|refine Below.alloc ?_ (by simp;try omega) _|refine Below.setCell ?_ (by simp;try omega) _)
end Go.Proofs.YtbpmeppdjicmhaaGreatDoor
