/- The texts FarW, Far (what is wanted of them), one after the other. -/
import Derived.Test.YtfaflahfjgnphaaGreatDoorMg20
namespace Go.Proofs.YtfaflahfjgnphaaGreatDoor
open Go.ChangeShapes Go.WideShapes Go.ChangeAt Go.RowKit
set_option linter.unusedVariables false
set_option linter.unusedSimpArgs false
set_option maxRecDepth 100000
theorem decP_k (x:Int)(h5:0≤x):(decP x).k=x % 4:=by
 unfold decP
 by_cases c0:x % 4=0
 ·rw [if_pos c0,c0]
 ·by_cases c1:x % 4=1
  ·rw [if_neg c0,if_pos c1,c1]
  ·by_cases c2:x % 4=2
   ·rw [if_neg c0,if_neg c1,if_pos c2,c2]
   ·rw [if_neg c0,if_neg c1,if_neg c2];show 3=x % 4;omega
theorem ptr_kind (k o d p el c pa sg lo:Int)(db:Bool)(w:World):(Instr.field 95 (.agg #[.int .i64 k,.int .i64 o,.int .i64 d,.int .i64 p,.int .i64 el,.int .i64 c,.bool db,.int .i64 pa,.int .u32 sg,.int .u32 lo]) 0).run Tryz.prog w=.ok (.int .i64 k) w:=by kernel_rfl
theorem FTarget_any (k o d p el c pa sg lo:Int)(db:Bool)(w:World)(h1:0≤sg)(h2:sg<4294967296):
  Calls Tryz.prog 112 #[.agg #[.int .i64 k,.int .i64 o,.int .i64 d,.int .i64 p,.int .i64 el,.int .i64 c,.bool db,.int .i64 pa,.int .u32 sg,.int .u32 lo]] w fun e w'=>e=.returned (.tuple #[.int .i64 sg,.int .i64 pa])∧Below w.heap.size w w':=by
 go_enter Tryz.func112,Tryz.ntmps112
 go_wp2
 go_quiet (fail)
 go_wp2
 go_ret2
 exact⟨rfl,bel_drewN ((Below.refl _ _).alloc (Nat.le_refl _) _) _⟩
theorem sg_alloc {w:World}{A:Option Addr}{ls:List (List Int)}(h:Sg w A ls)(o:Obj):Sg (w.alloc o) A ls:=h.below ((Below.refl _ _).alloc (Nat.le_refl _) o) (Nat.le_refl _)
def readF (ls:List (List Int))(s a:Int):Fol:=if hasB ls s a=true then ⟨wordV ls s a,s,a+1,0⟩ else folE 2
theorem hasB_bd {ls:List (List Int)}{s a:Int}(h:hasB ls s a=true)(hf:∀j,(seg ls j).length≤140737488355328):0≤a∧a<140737488355328:=by
 unfold hasB at h
 have h7:=of_decide_eq_true h
 have h8:=hf s.toNat
 omega
theorem FRead_any (A:Option Addr)(c:Nat)(ls:List (List Int))(s a:Int)(w:World)(hs:Sg w A ls)(hm:ls.length≤140737488355328)(hf:∀j,(seg ls j).length≤140737488355328)(hs0:-9223372036854775808≤s)(hs1:s≤9223372036854775807)(ha0:-9223372036854775808≤a)(ha1:a≤9223372036854775807):
  Calls Tryz.prog 101 #[.slice A ls.length c,.int .i64 s,.int .i64 a] w fun e w'=>e=.returned (.tuple #[.agg #[.int .u64 (readF ls s a).w,.int .i64 (readF ls s a).s,.int .i64 (readF ls s a).b],.agg #[.int .i64 (readF ls s a).e]])∧Below w.heap.size w w':=by
 have HW:=Lib.hid (fun w2 hs2=>AWordF_any A c ls s a w2 hs2 hm hs0 hs1 ha0 ha1)
 have Hs:=Lib.hid hs
 cases hb:hasB ls s a with
 | true=>
  have hab:=hasB_bd hb hf
  have HR:Hid (readF ls s a=⟨wordV ls s a,s,a+1,0⟩):=Lib.hid (by unfold readF;rw [if_pos hb])
  rw [hb] at HW
  clear hs hf hb
  generalize wordV ls s a=x at *
  go_enter Tryz.func101,Tryz.ntmps101
  go_wp2_with fail
  refine(HW.out _ (sg_alloc (sg_alloc Hs.out _) _)).mono ?_
  rintro e w' ⟨rfl,rfl⟩
  go_wp2
  refine abs_post (F:=fun W=>Blk W w.heap.size #[.int .u64 x,.int .i64 s,.int .i64 (a+1)]∧Blk W (w.heap.size+1) #[.int .i64 0]∧Below w.heap.size w W) ⟨?_,?_,?_⟩ ?_
  ·exact(Blk.fresh w _ _).alloc _
  ·have h:=Blk.fresh (w.alloc (.cells #[.int .u64 x,.int .i64 s,.int .i64 (a+1)] 131)) #[.int .i64 0] 133
   rw [World.size_alloc] at h
   exact h
  ·exact((Below.refl _ _).alloc (Nat.le_refl _) _).alloc (by simp) _
  rintro V ⟨B6,B7,hbv⟩
  exact bodyPost_ret (v:=.tuple #[.agg #[.int .u64 x,.int .i64 s,.int .i64 (a+1)],.agg #[.int .i64 0]]) (by simp [results,Tryz.results101,go_sem,B6.cell,B7.cell]) rfl ⟨by rw [HR.out];try rfl,hbv⟩
 | false=>
  have HR:Hid (readF ls s a=folE 2):=Lib.hid (by unfold readF;rw [if_neg (by rw [hb];exact Bool.false_ne_true)])
  rw [hb] at HW
  clear hs hf hb
  generalize wordV ls s a=x at *
  go_enter Tryz.func101,Tryz.ntmps101
  go_wp2_with fail
  refine(HW.out _ (sg_alloc (sg_alloc Hs.out _) _)).mono ?_
  rintro e w' ⟨rfl,rfl⟩
  go_wp2
  refine abs_post (F:=fun W=>Blk W w.heap.size #[.int .u64 0,.int .i64 0,.int .i64 0]∧Blk W (w.heap.size+1) #[.int .i64 2]∧Below w.heap.size w W) ⟨?_,?_,?_⟩ ?_
  ·exact(Blk.fresh w _ _).alloc _
  ·have h:=Blk.fresh (w.alloc (.cells #[.int .u64 0,.int .i64 0,.int .i64 0] 131)) #[.int .i64 2] 133
   rw [World.size_alloc] at h
   exact h
  ·exact((Below.refl _ _).alloc (Nat.le_refl _) _).alloc (by simp) _
  rintro V ⟨B6,B7,hbv⟩
  exact bodyPost_ret (v:=.tuple #[.agg #[.int .u64 0,.int .i64 0,.int .i64 0],.agg #[.int .i64 2]]) (by simp [results,Tryz.results101,go_sem,B6.cell,B7.cell]) rfl ⟨by rw [HR.out];try rfl,hbv⟩
theorem decP_far {x:Int}(h:x % 4=2)(h5:0≤x)(h6:x<18446744073709551616):decP x=⟨2,0,0,0,0,0,x / 4 % 2==1,x % 4294967296 / 8,x / 4294967296,0⟩:=by
 unfold decP
 rw [if_neg (by omega),if_neg (by omega),if_pos h,show x / 8 % 536870912=x % 4294967296 / 8 by omega,show x / 4294967296 % 4294967296=x / 4294967296 by omega]
def tagB (y:Int):Bool:=decide (((decP y).k=0∨(decP y).k=1)∧(decP y).o=0)
theorem FTag_any (y:Int)(w:World)(h5:0≤y)(h6:y<18446744073709551616):
  Calls Tryz.prog 125 #[.int .u64 y] w fun e w'=>e=.returned (.bool (tagB y))∧Below w.heap.size w w':=by
 have HD:=Lib.hid (fun w2=>Decode_any y w2 h5 h6)
 have HT:Hid (tagB y=decide (((decP y).k=0∨(decP y).k=1)∧(decP y).o=0)):=Lib.hid rfl
 generalize tagB y=tb at *
 generalize decP y=p at *
 by_cases k0:p.k=0
 ·have t0:(p.k==0)=true:=beq_iff_eq.2 k0
  have HX:Hid (tb=(p.o==0)):=Lib.hid (by rw [HT.out,k0];simp;rfl)
  clear k0 HT
  go_enter Tryz.func125,Tryz.ntmps125
  go_wp2_with fail
  refine(HD.out _).mono ?_
  rintro e w1 ⟨rfl,hb⟩
  have HB:=Lib.hid hb
  clear hb
  go_wp2
  go_ret
  exact⟨by rw [HX.out];rfl,HB.out.alloc HB.out.size _⟩
 by_cases k1:p.k=1
 ·have t0:(p.k==0)=false:=beq_eq_false_iff_ne.2 k0
  have t1:(p.k==1)=true:=beq_iff_eq.2 k1
  have HX:Hid (tb=(p.o==0)):=Lib.hid (by rw [HT.out,k1];simp;rfl)
  clear k0 k1 HT
  go_enter Tryz.func125,Tryz.ntmps125
  go_wp2_with fail
  refine(HD.out _).mono ?_
  rintro e w1 ⟨rfl,hb⟩
  have HB:=Lib.hid hb
  clear hb
  go_wp2
  go_ret
  exact⟨by rw [HX.out];rfl,HB.out.alloc HB.out.size _⟩
 ·have t0:(p.k==0)=false:=beq_eq_false_iff_ne.2 k0
  have t1:(p.k==1)=false:=beq_eq_false_iff_ne.2 k1
  have HX:Hid (tb=false):=Lib.hid (by rw [HT.out];simp [k0,k1])
  clear k0 k1 HT
  go_enter Tryz.func125,Tryz.ntmps125
  go_wp2_with fail
  refine(HD.out _).mono ?_
  rintro e w1 ⟨rfl,hb⟩
  have HB:=Lib.hid hb
  clear hb
  go_wp2
  go_ret
  exact⟨by rw [HX.out];rfl,HB.out.alloc HB.out.size _⟩
def joinF (x y:Int):Fol:=if (x % 4==2)=true∧¬x / 4 % 2=1∧tagB y=true then ⟨y,x / 4294967296,x % 4294967296 / 8,0⟩ else folE 3
set_option maxRecDepth 100000 in
set_option maxHeartbeats 1000000 in
theorem FJoin_any (x y:Int)(w:World)(h5:0≤x)(h6:x<18446744073709551616)(g5:0≤y)(g6:y<18446744073709551616):
  Calls Tryz.prog 113 #[.int .u64 x,.int .u64 y] w fun e w'=>e=.returned (.tuple #[.agg #[.int .u64 (joinF x y).w,.int .i64 (joinF x y).s,.int .i64 (joinF x y).b],.agg #[.int .i64 (joinF x y).e]])∧Below w.heap.size w w':=by
 have HD:=Lib.hid (fun w2=>Decode_any x w2 h5 h6)
 by_cases k2:x % 4=2
 ·have HP:=decP_far k2 h5 h6
  rw [HP] at HD
  clear HP
  have q1:0≤x / 4294967296∧x / 4294967296<4294967296:=by omega
  by_cases d:x / 4 % 2=1
  ·have hd:(x / 4 % 2==1)=true:=beq_iff_eq.2 d
   have HR:Hid (joinF x y=folE 3):=Lib.hid (by unfold joinF;rw [if_neg (by omega)])
   rw [hd] at HD
   clear d hd k2
   go_enter Tryz.func113,Tryz.ntmps113
   go_wp2_with fail
   refine(HD.out _).mono ?_
   rintro e w1 ⟨rfl,hb⟩
   clear HD
   have B4:=((Blk.fresh w #[.int .u64 0,.int .i64 0,.int .i64 0] 131).alloc (.cells #[.int .i64 0] 133)).below hb
   have B5:=(Blk.fresh (w.alloc (.cells #[.int .u64 0,.int .i64 0,.int .i64 0] 131)) #[.int .i64 0] 133).below hb
   rw [World.size_alloc] at B5
   have HB:Hid (Below w.heap.size w w1):=Lib.hid ((((Below.refl _ _).alloc (Nat.le_refl _) _).alloc (by simp) _).trans (hb.mono (by simp;omega)))
   clear hb
   have H4:=Lib.hid B4
   have H5:=Lib.hid B5
   obtain⟨x4,y4,z4⟩:=B4
   obtain⟨x5,y5,z5⟩:=B5
   go_wp2
   refine abs_post (F:=fun W=>Blk W w.heap.size #[.int .u64 0,.int .i64 0,.int .i64 0]∧Blk W (w.heap.size+1) #[.int .i64 3]∧Below w.heap.size w W) ⟨?_,?_,?_⟩ ?_
   ·exact((((H4.out.set 0 (by simp) _).set 1 (by simp) _).set 2 (by simp) _).other (by simp) _).alloc _
   ·exact((((H5.out.other (by simp) _).other (by simp) _).other (by simp) _).set 0 (by simp) _).alloc _
   ·repeat (with_reducible first|exact HB.out|refine bel_drewN ?_ _|refine bel_drew ?_|refine Below.alloc ?_ (by have:=HB.out.size;simp [World.setCell];omega) _|refine Below.setCell ?_ (by first|(simp;done)|(simp;omega)) _)
   rintro V ⟨B6,B7,hbv⟩
   exact bodyPost_ret (v:=.tuple #[.agg #[.int .u64 0,.int .i64 0,.int .i64 0],.agg #[.int .i64 3]]) (by simp [results,Tryz.results113,go_sem,B6.cell,B7.cell]) rfl ⟨by rw [HR.out];try rfl,hbv⟩
  ·have hd:(x / 4 % 2==1)=false:=beq_eq_false_iff_ne.2 d
   rw [hd] at HD
   have HTG:=Lib.hid (fun w2=>FTag_any y w2 g5 g6)
   cases ht:tagB y with
   | true=>
    have HR:Hid (joinF x y=⟨y,x / 4294967296,x % 4294967296 / 8,0⟩):=Lib.hid (by unfold joinF;rw [if_pos ⟨beq_iff_eq.2 k2,d,ht⟩])
    rw [ht] at HTG
    clear d hd k2 ht
    go_enter Tryz.func113,Tryz.ntmps113
    go_wp2_with fail
    refine(HD.out _).mono ?_
    rintro e w1 ⟨rfl,hb⟩
    clear HD
    have B4:=((Blk.fresh w #[.int .u64 0,.int .i64 0,.int .i64 0] 131).alloc (.cells #[.int .i64 0] 133)).below hb
    have B5:=(Blk.fresh (w.alloc (.cells #[.int .u64 0,.int .i64 0,.int .i64 0] 131)) #[.int .i64 0] 133).below hb
    rw [World.size_alloc] at B5
    have HB:Hid (Below w.heap.size w w1):=Lib.hid ((((Below.refl _ _).alloc (Nat.le_refl _) _).alloc (by simp) _).trans (hb.mono (by simp;omega)))
    clear hb
    have H4:=Lib.hid B4
    have H5:=Lib.hid B5
    obtain⟨x4,y4,z4⟩:=B4
    obtain⟨x5,y5,z5⟩:=B5
    go_wp2_with fail
    refine(HTG.out _).mono ?_
    rintro e w2 ⟨rfl,hb⟩
    have B6:=(Blk.fresh w1 #[.int .i64 2,.int .i64 0,.int .i64 0,.int .i64 0,.int .i64 0,.int .i64 0,.bool false,.int .i64 (x % 4294967296 / 8),.int .u32 (x / 4294967296),.int .u32 0] 95).below hb
    have B4:=(H4.out.alloc (.cells #[.int .i64 2,.int .i64 0,.int .i64 0,.int .i64 0,.int .i64 0,.int .i64 0,.bool false,.int .i64 (x % 4294967296 / 8),.int .u32 (x / 4294967296),.int .u32 0] 95)).below hb
    have B5:=(H5.out.alloc (.cells #[.int .i64 2,.int .i64 0,.int .i64 0,.int .i64 0,.int .i64 0,.int .i64 0,.bool false,.int .i64 (x % 4294967296 / 8),.int .u32 (x / 4294967296),.int .u32 0] 95)).below hb
    have HB:Hid (Below w.heap.size w w2):=Lib.hid ((HB.out.alloc HB.out.size _).trans (hb.mono (by have:=HB.out.size;simp;omega)))
    have hz:=HB.out.size
    have z1:=z5
    clear hb H4 H5 x4 x5 y4 y5 z4 z5
    have hz6:w.heap.size+1<w1.heap.size:=z1
    have H6:=Lib.hid B6
    obtain⟨x6,y6,z6⟩:=B6
    have H4:=Lib.hid B4
    have H5:=Lib.hid B5
    obtain⟨x4,y4,z4⟩:=B4
    obtain⟨x5,y5,z5⟩:=B5
    go_wp2_with fail
    refine(FTarget_any _ _ _ _ _ _ _ _ _ _ _ q1.1 q1.2).mono ?_
    rintro e w3 ⟨rfl,hb⟩
    have B4:=H4.out.below hb
    have B5:=H5.out.below hb
    have HB:Hid (Below w.heap.size w w3):=Lib.hid (HB.out.trans (hb.mono HB.out.size))
    clear hb H4 H5 x4 x5 y4 y5 z4 z5
    have H4:=Lib.hid B4
    have H5:=Lib.hid B5
    obtain⟨x4,y4,z4⟩:=B4
    obtain⟨x5,y5,z5⟩:=B5
    go_wp2
    refine abs_post (F:=fun W=>Blk W w.heap.size #[.int .u64 y,.int .i64 (x / 4294967296),.int .i64 (x % 4294967296 / 8)]∧Blk W (w.heap.size+1) #[.int .i64 0]∧Below w.heap.size w W) ⟨?_,?_,?_⟩ ?_
    ·exact((((H4.out.set 0 (by simp) _).set 1 (by simp) _).set 2 (by simp) _).other (by simp) _)
    ·exact((((H5.out.other (by simp) _).other (by simp) _).other (by simp) _).set 0 (by simp) _)
    ·repeat (with_reducible first|exact HB.out|refine bel_drewN ?_ _|refine bel_drew ?_|refine Below.alloc ?_ (by have:=HB.out.size;simp [World.setCell];omega) _|refine Below.setCell ?_ (by first|(simp;done)|(simp;omega)) _)
    rintro V ⟨B6,B7,hbv⟩
    exact bodyPost_ret (v:=.tuple #[.agg #[.int .u64 y,.int .i64 (x / 4294967296),.int .i64 (x % 4294967296 / 8)],.agg #[.int .i64 0]]) (by simp [results,Tryz.results113,go_sem,B6.cell,B7.cell]) rfl ⟨by rw [HR.out];try rfl,hbv⟩
   | false=>
    have HR:Hid (joinF x y=folE 3):=Lib.hid (by unfold joinF;rw [if_neg (by rw [ht];simp)])
    rw [ht] at HTG
    clear d hd k2 ht
    go_enter Tryz.func113,Tryz.ntmps113
    go_wp2_with fail
    refine(HD.out _).mono ?_
    rintro e w1 ⟨rfl,hb⟩
    clear HD
    have B4:=((Blk.fresh w #[.int .u64 0,.int .i64 0,.int .i64 0] 131).alloc (.cells #[.int .i64 0] 133)).below hb
    have B5:=(Blk.fresh (w.alloc (.cells #[.int .u64 0,.int .i64 0,.int .i64 0] 131)) #[.int .i64 0] 133).below hb
    rw [World.size_alloc] at B5
    have HB:Hid (Below w.heap.size w w1):=Lib.hid ((((Below.refl _ _).alloc (Nat.le_refl _) _).alloc (by simp) _).trans (hb.mono (by simp;omega)))
    clear hb
    have H4:=Lib.hid B4
    have H5:=Lib.hid B5
    obtain⟨x4,y4,z4⟩:=B4
    obtain⟨x5,y5,z5⟩:=B5
    go_wp2_with fail
    refine(HTG.out _).mono ?_
    rintro e w2 ⟨rfl,hb⟩
    have B6:=(Blk.fresh w1 #[.int .i64 2,.int .i64 0,.int .i64 0,.int .i64 0,.int .i64 0,.int .i64 0,.bool false,.int .i64 (x % 4294967296 / 8),.int .u32 (x / 4294967296),.int .u32 0] 95).below hb
    have B4:=(H4.out.alloc (.cells #[.int .i64 2,.int .i64 0,.int .i64 0,.int .i64 0,.int .i64 0,.int .i64 0,.bool false,.int .i64 (x % 4294967296 / 8),.int .u32 (x / 4294967296),.int .u32 0] 95)).below hb
    have B5:=(H5.out.alloc (.cells #[.int .i64 2,.int .i64 0,.int .i64 0,.int .i64 0,.int .i64 0,.int .i64 0,.bool false,.int .i64 (x % 4294967296 / 8),.int .u32 (x / 4294967296),.int .u32 0] 95)).below hb
    have HB:Hid (Below w.heap.size w w2):=Lib.hid ((HB.out.alloc HB.out.size _).trans (hb.mono (by have:=HB.out.size;simp;omega)))
    have hz:=HB.out.size
    have z1:=z5
    clear hb H4 H5 x4 x5 y4 y5 z4 z5
    have hz6:w.heap.size+1<w1.heap.size:=z1
    have H6:=Lib.hid B6
    obtain⟨x6,y6,z6⟩:=B6
    have H4:=Lib.hid B4
    have H5:=Lib.hid B5
    obtain⟨x4,y4,z4⟩:=B4
    obtain⟨x5,y5,z5⟩:=B5
    go_wp2
    refine abs_post (F:=fun W=>Blk W w.heap.size #[.int .u64 0,.int .i64 0,.int .i64 0]∧Blk W (w.heap.size+1) #[.int .i64 3]∧Below w.heap.size w W) ⟨?_,?_,?_⟩ ?_
    ·exact((((H4.out.set 0 (by simp) _).set 1 (by simp) _).set 2 (by simp) _).other (by simp) _)
    ·exact((((H5.out.other (by simp) _).other (by simp) _).other (by simp) _).set 0 (by simp) _)
    ·repeat (with_reducible first|exact HB.out|refine bel_drewN ?_ _|refine bel_drew ?_|refine Below.alloc ?_ (by have:=HB.out.size;simp [World.setCell];omega) _|refine Below.setCell ?_ (by first|(simp;done)|(simp;omega)) _)
    rintro V ⟨B6,B7,hbv⟩
    exact bodyPost_ret (v:=.tuple #[.agg #[.int .u64 0,.int .i64 0,.int .i64 0],.agg #[.int .i64 3]]) (by simp [results,Tryz.results113,go_sem,B6.cell,B7.cell]) rfl ⟨by rw [HR.out];try rfl,hbv⟩
 ·have HR:Hid (joinF x y=folE 3):=Lib.hid (by unfold joinF;rw [if_neg (by simp;intro h;exact absurd h k2)])
  have hk:=decP_k x h5
  have t2:(x % 4==2)=false:=beq_eq_false_iff_ne.2 k2
  rw [hk] at HD
  clear hk k2
  generalize decP x=p at *
  go_enter Tryz.func113,Tryz.ntmps113
  go_wp2_with fail
  refine(HD.out _).mono ?_
  rintro e w1 ⟨rfl,hb⟩
  clear HD
  have B4:=((Blk.fresh w #[.int .u64 0,.int .i64 0,.int .i64 0] 131).alloc (.cells #[.int .i64 0] 133)).below hb
  have B5:=(Blk.fresh (w.alloc (.cells #[.int .u64 0,.int .i64 0,.int .i64 0] 131)) #[.int .i64 0] 133).below hb
  rw [World.size_alloc] at B5
  have HB:Hid (Below w.heap.size w w1):=Lib.hid ((((Below.refl _ _).alloc (Nat.le_refl _) _).alloc (by simp) _).trans (hb.mono (by simp;omega)))
  clear hb
  have H4:=Lib.hid B4
  have H5:=Lib.hid B5
  obtain⟨x4,y4,z4⟩:=B4
  obtain⟨x5,y5,z5⟩:=B5
  go_wp2
  refine abs_post (F:=fun W=>Blk W w.heap.size #[.int .u64 0,.int .i64 0,.int .i64 0]∧Blk W (w.heap.size+1) #[.int .i64 3]∧Below w.heap.size w W) ⟨?_,?_,?_⟩ ?_
  ·exact((((H4.out.set 0 (by simp) _).set 1 (by simp) _).set 2 (by simp) _).other (by simp) _).alloc _
  ·exact((((H5.out.other (by simp) _).other (by simp) _).other (by simp) _).set 0 (by simp) _).alloc _
  ·repeat (with_reducible first|exact HB.out|refine bel_drewN ?_ _|refine bel_drew ?_|refine Below.alloc ?_ (by have:=HB.out.size;simp [World.setCell];omega) _|refine Below.setCell ?_ (by first|(simp;done)|(simp;omega)) _)
  rintro V ⟨B6,B7,hbv⟩
  exact bodyPost_ret (v:=.tuple #[.agg #[.int .u64 0,.int .i64 0,.int .i64 0],.agg #[.int .i64 3]]) (by simp [results,Tryz.results113,go_sem,B6.cell,B7.cell]) rfl ⟨by rw [HR.out];try rfl,hbv⟩
def oneF (ls:List (List Int))(sg pa:Int):Fol:=if hasB ls sg pa=true then (if (wordV ls sg pa % 4==2)=true then folE 3 else ⟨wordV ls sg pa,sg,pa+1,0⟩) else folE 2
theorem decP_kB (x:Int)(h:0≤x):Hid ((decP x).k=x % 4):=Lib.hid (decP_k x h)
set_option maxRecDepth 100000 in
set_option maxHeartbeats 1000000 in
theorem FSingle_any (A:Option Addr)(c:Nat)(ls:List (List Int))(k o d p el cc pa sg lo:Int)(db:Bool)(w:World)(hs:Sg w A ls)(hw:Wd2 ls)(hm:ls.length≤140737488355328)(hf:∀j,(seg ls j).length≤140737488355328)(g1:0≤sg)(g2:sg<4294967296)(g3:0≤pa)(g4:pa<536870912):
  Calls Tryz.prog 103 #[.slice A ls.length c,.agg #[.int .i64 k,.int .i64 o,.int .i64 d,.int .i64 p,.int .i64 el,.int .i64 cc,.bool db,.int .i64 pa,.int .u32 sg,.int .u32 lo]] w fun e w'=>e=.returned (.tuple #[.agg #[.int .u64 (oneF ls sg pa).w,.int .i64 (oneF ls sg pa).s,.int .i64 (oneF ls sg pa).b],.agg #[.int .i64 (oneF ls sg pa).e]])∧Below w.heap.size w w':=by
 have HRD:=Lib.hid (fun w2 hs2=>FRead_any A c ls sg pa w2 hs2 hm hf (by omega) (by omega) (by omega) (by omega))
 have Hs:=Lib.hid hs
 have hbd:=wordV_bd hw sg pa
 cases hb:hasB ls sg pa with
 | true=>
  have hrd:readF ls sg pa=⟨wordV ls sg pa,sg,pa+1,0⟩:=by unfold readF;rw [if_pos hb]
  rw [hrd] at HRD
  have HDC:=Lib.hid (fun w2=>Decode_any (wordV ls sg pa) w2 hbd.1 hbd.2)
  have HK:=decP_kB _ hbd.1
  have hfd:=ptr_kind
  cases h2:(wordV ls sg pa % 4==2) with
  | true=>
   have HR:Hid (oneF ls sg pa=folE 3):=Lib.hid (by unfold oneF;rw [if_pos hb,if_pos h2])
   clear hrd hb hs hw hf
   generalize wordV ls sg pa=y at *
   rw [HK.out] at HDC
   clear HK
   generalize decP y=q at *
   go_enter Tryz.func103,Tryz.ntmps103
   go_wp2_with fail
   refine(FTarget_any _ _ _ _ _ _ _ _ _ _ _ g1 g2).mono ?_
   rintro e w1 ⟨rfl,hb⟩
   have B4:=((Blk.fresh (w.alloc (.cells #[.int .i64 k,.int .i64 o,.int .i64 d,.int .i64 p,.int .i64 el,.int .i64 cc,.bool db,.int .i64 pa,.int .u32 sg,.int .u32 lo] 95)) #[.int .u64 0,.int .i64 0,.int .i64 0] 131).alloc (.cells #[.int .i64 0] 133)).below hb
   have B5:=(Blk.fresh ((w.alloc (.cells #[.int .i64 k,.int .i64 o,.int .i64 d,.int .i64 p,.int .i64 el,.int .i64 cc,.bool db,.int .i64 pa,.int .u32 sg,.int .u32 lo] 95)).alloc (.cells #[.int .u64 0,.int .i64 0,.int .i64 0] 131)) #[.int .i64 0] 133).below hb
   rw [World.size_alloc,World.size_alloc] at B5
   rw [World.size_alloc] at B4
   have HB:Hid (Below w.heap.size w w1):=Lib.hid (((((Below.refl _ _).alloc (Nat.le_refl _) _).alloc (by simp) _).alloc (by simp;omega) _).trans (hb.mono (by simp;omega)))
   clear hb
   have H4:=Lib.hid B4
   have H5:=Lib.hid B5
   obtain⟨x4,y4,z4⟩:=B4
   obtain⟨x5,y5,z5⟩:=B5
   go_wp2_with fail
   refine(HRD.out _ (Hs.out.below HB.out (Nat.le_refl _))).mono ?_
   rintro e w2 ⟨rfl,hb⟩
   have B4:=H4.out.below hb
   have B5:=H5.out.below hb
   have HB:Hid (Below w.heap.size w w2):=Lib.hid (HB.out.trans (hb.mono HB.out.size))
   clear hb H4 H5 x4 x5 y4 y5 z4 z5 HRD
   have H4:=Lib.hid B4
   have H5:=Lib.hid B5
   obtain⟨x4,y4,z4⟩:=B4
   obtain⟨x5,y5,z5⟩:=B5
   go_wp2_with fail
   refine(HDC.out _).mono ?_
   rintro e w3 ⟨rfl,hb⟩
   have B8:=((Blk.fresh w2 #[.int .u64 y,.int .i64 sg,.int .i64 (pa+1)] 131).alloc (.cells #[.int .i64 0] 133)).below hb
   have B4:=((H4.out.alloc (.cells #[.int .u64 y,.int .i64 sg,.int .i64 (pa+1)] 131)).alloc (.cells #[.int .i64 0] 133)).below hb
   have B5:=((H5.out.alloc (.cells #[.int .u64 y,.int .i64 sg,.int .i64 (pa+1)] 131)).alloc (.cells #[.int .i64 0] 133)).below hb
   have hz:=HB.out.size
   have z1:=z5
   have HB:Hid (Below w.heap.size w w3):=Lib.hid (((HB.out.alloc HB.out.size _).alloc (by simp;omega) _).trans (hb.mono (by simp;omega)))
   clear hb H4 H5 x4 x5 y4 y5 z4 z5 HDC
   have hz6:w.heap.size+2<w2.heap.size:=z1
   have H8:=Lib.hid B8
   obtain⟨x8,y8,z8⟩:=B8
   have H4:=Lib.hid B4
   have H5:=Lib.hid B5
   obtain⟨x4,y4,z4⟩:=B4
   obtain⟨x5,y5,z5⟩:=B5
   go_wp2
   refine abs_post (F:=fun W=>Blk W (w.heap.size+1) #[.int .u64 0,.int .i64 0,.int .i64 0]∧Blk W (w.heap.size+2) #[.int .i64 3]∧Below w.heap.size w W) ⟨?_,?_,?_⟩ ?_
   ·exact((((H4.out.set 0 (by simp) _).set 1 (by simp) _).set 2 (by simp) _).other (by simp) _)
   ·exact((((H5.out.other (by simp) _).other (by simp) _).other (by simp) _).set 0 (by simp) _)
   ·repeat (with_reducible first|exact HB.out|refine bel_drewN ?_ _|refine bel_drew ?_|refine Below.alloc ?_ (by have:=HB.out.size;simp [World.setCell];omega) _|refine Below.setCell ?_ (by first|(simp;done)|(simp;omega)) _)
   rintro V ⟨B6,B7,hbv⟩
   exact bodyPost_ret (v:=.tuple #[.agg #[.int .u64 0,.int .i64 0,.int .i64 0],.agg #[.int .i64 3]]) (by simp [results,Tryz.results103,go_sem,B6.cell,B7.cell]) rfl ⟨by rw [HR.out];try rfl,hbv⟩
  | false=>
   have HR:Hid (oneF ls sg pa=⟨wordV ls sg pa,sg,pa+1,0⟩):=Lib.hid (by unfold oneF;rw [if_pos hb,if_neg (by rw [h2];exact Bool.false_ne_true)])
   clear hrd hb hs hw hf
   generalize wordV ls sg pa=y at *
   rw [HK.out] at HDC
   clear HK
   generalize decP y=q at *
   go_enter Tryz.func103,Tryz.ntmps103
   go_wp2_with fail
   refine(FTarget_any _ _ _ _ _ _ _ _ _ _ _ g1 g2).mono ?_
   rintro e w1 ⟨rfl,hb⟩
   have B4:=((Blk.fresh (w.alloc (.cells #[.int .i64 k,.int .i64 o,.int .i64 d,.int .i64 p,.int .i64 el,.int .i64 cc,.bool db,.int .i64 pa,.int .u32 sg,.int .u32 lo] 95)) #[.int .u64 0,.int .i64 0,.int .i64 0] 131).alloc (.cells #[.int .i64 0] 133)).below hb
   have B5:=(Blk.fresh ((w.alloc (.cells #[.int .i64 k,.int .i64 o,.int .i64 d,.int .i64 p,.int .i64 el,.int .i64 cc,.bool db,.int .i64 pa,.int .u32 sg,.int .u32 lo] 95)).alloc (.cells #[.int .u64 0,.int .i64 0,.int .i64 0] 131)) #[.int .i64 0] 133).below hb
   rw [World.size_alloc,World.size_alloc] at B5
   rw [World.size_alloc] at B4
   have HB:Hid (Below w.heap.size w w1):=Lib.hid (((((Below.refl _ _).alloc (Nat.le_refl _) _).alloc (by simp) _).alloc (by simp;omega) _).trans (hb.mono (by simp;omega)))
   clear hb
   have H4:=Lib.hid B4
   have H5:=Lib.hid B5
   obtain⟨x4,y4,z4⟩:=B4
   obtain⟨x5,y5,z5⟩:=B5
   go_wp2_with fail
   refine(HRD.out _ (Hs.out.below HB.out (Nat.le_refl _))).mono ?_
   rintro e w2 ⟨rfl,hb⟩
   have B4:=H4.out.below hb
   have B5:=H5.out.below hb
   have HB:Hid (Below w.heap.size w w2):=Lib.hid (HB.out.trans (hb.mono HB.out.size))
   clear hb H4 H5 x4 x5 y4 y5 z4 z5 HRD
   have H4:=Lib.hid B4
   have H5:=Lib.hid B5
   obtain⟨x4,y4,z4⟩:=B4
   obtain⟨x5,y5,z5⟩:=B5
   go_wp2_with fail
   refine(HDC.out _).mono ?_
   rintro e w3 ⟨rfl,hb⟩
   have B8:=((Blk.fresh w2 #[.int .u64 y,.int .i64 sg,.int .i64 (pa+1)] 131).alloc (.cells #[.int .i64 0] 133)).below hb
   have B4:=((H4.out.alloc (.cells #[.int .u64 y,.int .i64 sg,.int .i64 (pa+1)] 131)).alloc (.cells #[.int .i64 0] 133)).below hb
   have B5:=((H5.out.alloc (.cells #[.int .u64 y,.int .i64 sg,.int .i64 (pa+1)] 131)).alloc (.cells #[.int .i64 0] 133)).below hb
   have hz:=HB.out.size
   have z1:=z5
   have HB:Hid (Below w.heap.size w w3):=Lib.hid (((HB.out.alloc HB.out.size _).alloc (by simp;omega) _).trans (hb.mono (by simp;omega)))
   clear hb H4 H5 x4 x5 y4 y5 z4 z5 HDC
   have hz6:w.heap.size+2<w2.heap.size:=z1
   have H8:=Lib.hid B8
   obtain⟨x8,y8,z8⟩:=B8
   have H4:=Lib.hid B4
   have H5:=Lib.hid B5
   obtain⟨x4,y4,z4⟩:=B4
   obtain⟨x5,y5,z5⟩:=B5
   go_wp2
   refine abs_post (F:=fun W=>Blk W (w.heap.size+1) #[.int .u64 y,.int .i64 sg,.int .i64 (pa+1)]∧Blk W (w.heap.size+2) #[.int .i64 0]∧Below w.heap.size w W) ⟨?_,?_,?_⟩ ?_
   ·exact((((H4.out.set 0 (by simp) _).set 1 (by simp) _).set 2 (by simp) _).other (by simp) _)
   ·exact((((H5.out.other (by simp) _).other (by simp) _).other (by simp) _).set 0 (by simp) _)
   ·repeat (with_reducible first|exact HB.out|refine bel_drewN ?_ _|refine bel_drew ?_|refine Below.alloc ?_ (by have:=HB.out.size;simp [World.setCell];omega) _|refine Below.setCell ?_ (by first|(simp;done)|(simp;omega)) _)
   rintro V ⟨B6,B7,hbv⟩
   exact bodyPost_ret (v:=.tuple #[.agg #[.int .u64 y,.int .i64 sg,.int .i64 (pa+1)],.agg #[.int .i64 0]]) (by simp [results,Tryz.results103,go_sem,B6.cell,B7.cell]) rfl ⟨by rw [HR.out];try rfl,hbv⟩
 | false=>
  have hrd:readF ls sg pa=folE 2:=by unfold readF;rw [if_neg (by rw [hb];exact Bool.false_ne_true)]
  rw [hrd] at HRD
  have HR:Hid (oneF ls sg pa=folE 2):=Lib.hid (by unfold oneF;rw [if_neg (by rw [hb];exact Bool.false_ne_true)])
  clear hrd hb hs hw hf
  unfold folE at HRD
  go_enter Tryz.func103,Tryz.ntmps103
  go_wp2_with fail
  refine(FTarget_any _ _ _ _ _ _ _ _ _ _ _ g1 g2).mono ?_
  rintro e w1 ⟨rfl,hb⟩
  have B4:=((Blk.fresh (w.alloc (.cells #[.int .i64 k,.int .i64 o,.int .i64 d,.int .i64 p,.int .i64 el,.int .i64 cc,.bool db,.int .i64 pa,.int .u32 sg,.int .u32 lo] 95)) #[.int .u64 0,.int .i64 0,.int .i64 0] 131).alloc (.cells #[.int .i64 0] 133)).below hb
  have B5:=(Blk.fresh ((w.alloc (.cells #[.int .i64 k,.int .i64 o,.int .i64 d,.int .i64 p,.int .i64 el,.int .i64 cc,.bool db,.int .i64 pa,.int .u32 sg,.int .u32 lo] 95)).alloc (.cells #[.int .u64 0,.int .i64 0,.int .i64 0] 131)) #[.int .i64 0] 133).below hb
  rw [World.size_alloc,World.size_alloc] at B5
  rw [World.size_alloc] at B4
  have HB:Hid (Below w.heap.size w w1):=Lib.hid (((((Below.refl _ _).alloc (Nat.le_refl _) _).alloc (by simp) _).alloc (by simp;omega) _).trans (hb.mono (by simp;omega)))
  clear hb
  have H4:=Lib.hid B4
  have H5:=Lib.hid B5
  obtain⟨x4,y4,z4⟩:=B4
  obtain⟨x5,y5,z5⟩:=B5
  go_wp2_with fail
  refine(HRD.out _ (Hs.out.below HB.out (Nat.le_refl _))).mono ?_
  rintro e w2 ⟨rfl,hb⟩
  have B4:=H4.out.below hb
  have B5:=H5.out.below hb
  have HB:Hid (Below w.heap.size w w2):=Lib.hid (HB.out.trans (hb.mono HB.out.size))
  clear hb H4 H5 x4 x5 y4 y5 z4 z5 HRD
  have H4:=Lib.hid B4
  have H5:=Lib.hid B5
  obtain⟨x4,y4,z4⟩:=B4
  obtain⟨x5,y5,z5⟩:=B5
  go_wp2
  have B8:=(Blk.fresh w2 #[.int .u64 0,.int .i64 0,.int .i64 0] 131).alloc (.cells #[.int .i64 2] 133)
  have B9:=(Blk.fresh (w2.alloc (.cells #[.int .u64 0,.int .i64 0,.int .i64 0] 131)) #[.int .i64 2] 133)
  rw [World.size_alloc] at B9
  have B4:=((H4.out.alloc (.cells #[.int .u64 0,.int .i64 0,.int .i64 0] 131)).alloc (.cells #[.int .i64 2] 133))
  have B5:=((H5.out.alloc (.cells #[.int .u64 0,.int .i64 0,.int .i64 0] 131)).alloc (.cells #[.int .i64 2] 133))
  have hz:=HB.out.size
  have hz6:w.heap.size+2<w2.heap.size:=z5
  have HB:=((HB.out.alloc HB.out.size (.cells #[.int .u64 0,.int .i64 0,.int .i64 0] 131)).alloc (by simp;omega) (.cells #[.int .i64 2] 133))
  clear H4 H5 x4 x5 y4 y5 z4 z5
  generalize (w2.alloc (.cells #[.int .u64 0,.int .i64 0,.int .i64 0] 131)).alloc (.cells #[.int .i64 2] 133)=W at B4 B5 B8 B9 HB ⊢
  have HB:=Lib.hid HB
  have H9:=Lib.hid B9
  obtain⟨x9,y9,z9⟩:=B9
  clear B8
  have H4:=Lib.hid B4
  have H5:=Lib.hid B5
  obtain⟨x4,y4,z4⟩:=B4
  obtain⟨x5,y5,z5⟩:=B5
  go_region
  go_wp2
  refine abs_post (F:=fun W=>Blk W (w.heap.size+1) #[.int .u64 0,.int .i64 0,.int .i64 0]∧Blk W (w.heap.size+2) #[.int .i64 2]∧Below w.heap.size w W) ⟨?_,?_,?_⟩ ?_
  ·exact((((H4.out.set 0 (by simp) _).set 1 (by simp) _).set 2 (by simp) _).other (by simp) _).drew
  ·exact((((H5.out.other (by simp) _).other (by simp) _).other (by simp) _).set 0 (by simp) _).drew
  ·repeat (with_reducible first|exact HB.out|refine bel_drewN ?_ _|refine bel_drew ?_|refine Below.alloc ?_ (by have:=HB.out.size;simp [World.setCell];omega) _|refine Below.setCell ?_ (by first|(simp;done)|(simp;omega)) _)
  rintro V ⟨B6,B7,hbv⟩
  exact bodyPost_ret (v:=.tuple #[.agg #[.int .u64 0,.int .i64 0,.int .i64 0],.agg #[.int .i64 2]]) (by simp [results,Tryz.results103,go_sem,B6.cell,B7.cell]) rfl ⟨by rw [HR.out];try rfl,hbv⟩
def twoF (ls:List (List Int))(sg pa:Int):Fol:=if hasB ls sg pa=true then (if hasB ls sg (pa+1)=true then joinF (wordV ls sg pa) (wordV ls sg (pa+1)) else folE 2) else folE 2
set_option maxRecDepth 100000 in
set_option maxHeartbeats 1000000 in
theorem FDouble_any (A:Option Addr)(c:Nat)(ls:List (List Int))(k o d p el cc pa sg lo:Int)(db:Bool)(w:World)(hs:Sg w A ls)(hw:Wd2 ls)(hm:ls.length≤140737488355328)(hf:∀j,(seg ls j).length≤140737488355328)(g1:0≤sg)(g2:sg<4294967296)(g3:0≤pa)(g4:pa<536870912):
  Calls Tryz.prog 102 #[.slice A ls.length c,.agg #[.int .i64 k,.int .i64 o,.int .i64 d,.int .i64 p,.int .i64 el,.int .i64 cc,.bool db,.int .i64 pa,.int .u32 sg,.int .u32 lo]] w fun e w'=>e=.returned (.tuple #[.agg #[.int .u64 (twoF ls sg pa).w,.int .i64 (twoF ls sg pa).s,.int .i64 (twoF ls sg pa).b],.agg #[.int .i64 (twoF ls sg pa).e]])∧Below w.heap.size w w':=by
 have HRD:=Lib.hid (fun w2 hs2=>FRead_any A c ls sg pa w2 hs2 hm hf (by omega) (by omega) (by omega) (by omega))
 have HRD2:=Lib.hid (fun w2 hs2=>FRead_any A c ls sg (pa+1) w2 hs2 hm hf (by omega) (by omega) (by omega) (by omega))
 have Hs:=Lib.hid hs
 have hbd:=wordV_bd hw sg pa
 have hbd2:=wordV_bd hw sg (pa+1)
 cases hb:hasB ls sg pa with
 | true=>
  have hrd:readF ls sg pa=⟨wordV ls sg pa,sg,pa+1,0⟩:=by unfold readF;rw [if_pos hb]
  rw [hrd] at HRD
  cases hb2:hasB ls sg (pa+1) with
  | true=>
   have hrd2:readF ls sg (pa+1)=⟨wordV ls sg (pa+1),sg,pa+1+1,0⟩:=by unfold readF;rw [if_pos hb2]
   rw [hrd2] at HRD2
   have HJ:=Lib.hid (fun w2=>FJoin_any (wordV ls sg pa) (wordV ls sg (pa+1)) w2 hbd.1 hbd.2 hbd2.1 hbd2.2)
   have HR:Hid (twoF ls sg pa=joinF (wordV ls sg pa) (wordV ls sg (pa+1))):=Lib.hid (by unfold twoF;rw [if_pos hb,if_pos hb2])
   clear hrd hrd2 hb hb2 hs hw hf
   generalize wordV ls sg pa=y at *
   generalize wordV ls sg (pa+1)=z at *
   generalize joinF y z=q at *
   go_enter Tryz.func102,Tryz.ntmps102
   go_wp2_with fail
   refine(FTarget_any _ _ _ _ _ _ _ _ _ _ _ g1 g2).mono ?_
   rintro e w1 ⟨rfl,hb⟩
   have B4:=((Blk.fresh (w.alloc (.cells #[.int .i64 k,.int .i64 o,.int .i64 d,.int .i64 p,.int .i64 el,.int .i64 cc,.bool db,.int .i64 pa,.int .u32 sg,.int .u32 lo] 95)) #[.int .u64 0,.int .i64 0,.int .i64 0] 131).alloc (.cells #[.int .i64 0] 133)).below hb
   have B5:=(Blk.fresh ((w.alloc (.cells #[.int .i64 k,.int .i64 o,.int .i64 d,.int .i64 p,.int .i64 el,.int .i64 cc,.bool db,.int .i64 pa,.int .u32 sg,.int .u32 lo] 95)).alloc (.cells #[.int .u64 0,.int .i64 0,.int .i64 0] 131)) #[.int .i64 0] 133).below hb
   rw [World.size_alloc,World.size_alloc] at B5
   rw [World.size_alloc] at B4
   have HB:Hid (Below w.heap.size w w1):=Lib.hid (((((Below.refl _ _).alloc (Nat.le_refl _) _).alloc (by simp) _).alloc (by simp;omega) _).trans (hb.mono (by simp;omega)))
   clear hb
   have H4:=Lib.hid B4
   have H5:=Lib.hid B5
   obtain⟨x4,y4,z4⟩:=B4
   obtain⟨x5,y5,z5⟩:=B5
   go_wp2_with fail
   refine(HRD.out _ (Hs.out.below HB.out (Nat.le_refl _))).mono ?_
   rintro e w2 ⟨rfl,hb⟩
   have B4:=H4.out.below hb
   have B5:=H5.out.below hb
   have HB:Hid (Below w.heap.size w w2):=Lib.hid (HB.out.trans (hb.mono HB.out.size))
   clear hb H4 H5 x4 x5 y4 y5 z4 z5 HRD
   have H4:=Lib.hid B4
   have H5:=Lib.hid B5
   obtain⟨x4,y4,z4⟩:=B4
   obtain⟨x5,y5,z5⟩:=B5
   go_wp2_with fail
   refine(HRD2.out _ (sg_alloc (sg_alloc (Hs.out.below HB.out (Nat.le_refl _)) _) _)).mono ?_
   rintro e w3 ⟨rfl,hb⟩
   have B8:=((Blk.fresh w2 #[.int .u64 y,.int .i64 sg,.int .i64 (pa+1)] 131).alloc (.cells #[.int .i64 0] 133)).below hb
   have B9:=(Blk.fresh (w2.alloc (.cells #[.int .u64 y,.int .i64 sg,.int .i64 (pa+1)] 131)) #[.int .i64 0] 133).below hb
   rw [World.size_alloc] at B9
   have B4:=((H4.out.alloc (.cells #[.int .u64 y,.int .i64 sg,.int .i64 (pa+1)] 131)).alloc (.cells #[.int .i64 0] 133)).below hb
   have B5:=((H5.out.alloc (.cells #[.int .u64 y,.int .i64 sg,.int .i64 (pa+1)] 131)).alloc (.cells #[.int .i64 0] 133)).below hb
   have hz:=HB.out.size
   have z1:=z5
   have HB:Hid (Below w.heap.size w w3):=Lib.hid (((HB.out.alloc HB.out.size _).alloc (by simp;omega) _).trans (hb.mono (by simp;omega)))
   clear hb H4 H5 x4 x5 y4 y5 z4 z5 HRD2
   have hz6:w.heap.size+2<w2.heap.size:=z1
   have H8:=Lib.hid B8
   obtain⟨x8,y8,z8⟩:=B8
   have H9:=Lib.hid B9
   obtain⟨x9,y9,z9⟩:=B9
   have H4:=Lib.hid B4
   have H5:=Lib.hid B5
   obtain⟨x4,y4,z4⟩:=B4
   obtain⟨x5,y5,z5⟩:=B5
   go_wp2_with fail
   refine(HJ.out _).mono ?_
   rintro e w4 ⟨rfl,hb⟩
   have hz:=HB.out.size
   have B4:=((H4.out.other (p:=⟨w2.heap.size+1,0,none⟩) (by simp;omega) (.int .i64 0)).alloc (.cells #[.int .u64 z,.int .i64 sg,.int .i64 (pa+1+1)] 131))
   have B5:=((H5.out.other (p:=⟨w2.heap.size+1,0,none⟩) (by simp;omega) (.int .i64 0)).alloc (.cells #[.int .u64 z,.int .i64 sg,.int .i64 (pa+1+1)] 131))
   have B9:=((H9.out.set 0 (by simp) (.int .i64 0)).alloc (.cells #[.int .u64 z,.int .i64 sg,.int .i64 (pa+1+1)] 131))
   have hz2:=HB.out.size
   have z1:=z5
   have HB:=((HB.out.setCell (p:=⟨w2.heap.size+1,0,none⟩) (by simp;omega) (.int .i64 0)).alloc (by simp [World.setCell];omega) (.cells #[.int .u64 z,.int .i64 sg,.int .i64 (pa+1+1)] 131))
   clear H4 H5 x4 x5 y4 y5 z4 z5 H9 x9 y9 z9 H8 x8 y8 z8 z1
   have B4:=B4.below hb
   have B5:=B5.below hb
   have HB:=Lib.hid (HB.trans (hb.mono HB.size))
   clear hb B9
   have H4:=Lib.hid B4
   have H5:=Lib.hid B5
   obtain⟨x4,y4,z4⟩:=B4
   obtain⟨x5,y5,z5⟩:=B5
   go_wp2
   refine abs_post (F:=fun W=>Blk W (w.heap.size+1) #[.int .u64 q.w,.int .i64 q.s,.int .i64 q.b]∧Blk W (w.heap.size+2) #[.int .i64 q.e]∧Below w.heap.size w W) ⟨?_,?_,?_⟩ ?_
   ·exact((((H4.out.set 0 (by simp) _).set 1 (by simp) _).set 2 (by simp) _).other (by simp) _)
   ·exact((((H5.out.other (by simp) _).other (by simp) _).other (by simp) _).set 0 (by simp) _)
   ·repeat (with_reducible first|exact HB.out|refine bel_drewN ?_ _|refine bel_drew ?_|refine Below.alloc ?_ (by have:=HB.out.size;simp [World.setCell];omega) _|refine Below.setCell ?_ (by first|(simp;done)|(simp;omega)) _)
   rintro V ⟨B6,B7,hbv⟩
   exact bodyPost_ret (v:=.tuple #[.agg #[.int .u64 q.w,.int .i64 q.s,.int .i64 q.b],.agg #[.int .i64 q.e]]) (by simp [results,Tryz.results102,go_sem,B6.cell,B7.cell]) rfl ⟨by rw [HR.out];try rfl,hbv⟩
  | false=>
   have hrd2:readF ls sg (pa+1)=folE 2:=by unfold readF;rw [if_neg (by rw [hb2];exact Bool.false_ne_true)]
   rw [hrd2] at HRD2
   have HR:Hid (twoF ls sg pa=folE 2):=Lib.hid (by unfold twoF;rw [if_pos hb,if_neg (by rw [hb2];exact Bool.false_ne_true)])
   clear hrd hrd2 hb hb2 hs hw hf
   generalize wordV ls sg pa=y at *
   unfold folE at HRD2
   go_enter Tryz.func102,Tryz.ntmps102
   go_wp2_with fail
   refine(FTarget_any _ _ _ _ _ _ _ _ _ _ _ g1 g2).mono ?_
   rintro e w1 ⟨rfl,hb⟩
   have B4:=((Blk.fresh (w.alloc (.cells #[.int .i64 k,.int .i64 o,.int .i64 d,.int .i64 p,.int .i64 el,.int .i64 cc,.bool db,.int .i64 pa,.int .u32 sg,.int .u32 lo] 95)) #[.int .u64 0,.int .i64 0,.int .i64 0] 131).alloc (.cells #[.int .i64 0] 133)).below hb
   have B5:=(Blk.fresh ((w.alloc (.cells #[.int .i64 k,.int .i64 o,.int .i64 d,.int .i64 p,.int .i64 el,.int .i64 cc,.bool db,.int .i64 pa,.int .u32 sg,.int .u32 lo] 95)).alloc (.cells #[.int .u64 0,.int .i64 0,.int .i64 0] 131)) #[.int .i64 0] 133).below hb
   rw [World.size_alloc,World.size_alloc] at B5
   rw [World.size_alloc] at B4
   have HB:Hid (Below w.heap.size w w1):=Lib.hid (((((Below.refl _ _).alloc (Nat.le_refl _) _).alloc (by simp) _).alloc (by simp;omega) _).trans (hb.mono (by simp;omega)))
   clear hb
   have H4:=Lib.hid B4
   have H5:=Lib.hid B5
   obtain⟨x4,y4,z4⟩:=B4
   obtain⟨x5,y5,z5⟩:=B5
   go_wp2_with fail
   refine(HRD.out _ (Hs.out.below HB.out (Nat.le_refl _))).mono ?_
   rintro e w2 ⟨rfl,hb⟩
   have B4:=H4.out.below hb
   have B5:=H5.out.below hb
   have HB:Hid (Below w.heap.size w w2):=Lib.hid (HB.out.trans (hb.mono HB.out.size))
   clear hb H4 H5 x4 x5 y4 y5 z4 z5 HRD
   have H4:=Lib.hid B4
   have H5:=Lib.hid B5
   obtain⟨x4,y4,z4⟩:=B4
   obtain⟨x5,y5,z5⟩:=B5
   go_wp2_with fail
   refine(HRD2.out _ (sg_alloc (sg_alloc (Hs.out.below HB.out (Nat.le_refl _)) _) _)).mono ?_
   rintro e w3 ⟨rfl,hb⟩
   have B8:=((Blk.fresh w2 #[.int .u64 y,.int .i64 sg,.int .i64 (pa+1)] 131).alloc (.cells #[.int .i64 0] 133)).below hb
   have B9:=(Blk.fresh (w2.alloc (.cells #[.int .u64 y,.int .i64 sg,.int .i64 (pa+1)] 131)) #[.int .i64 0] 133).below hb
   rw [World.size_alloc] at B9
   have B4:=((H4.out.alloc (.cells #[.int .u64 y,.int .i64 sg,.int .i64 (pa+1)] 131)).alloc (.cells #[.int .i64 0] 133)).below hb
   have B5:=((H5.out.alloc (.cells #[.int .u64 y,.int .i64 sg,.int .i64 (pa+1)] 131)).alloc (.cells #[.int .i64 0] 133)).below hb
   have hz:=HB.out.size
   have z1:=z5
   have HB:Hid (Below w.heap.size w w3):=Lib.hid (((HB.out.alloc HB.out.size _).alloc (by simp;omega) _).trans (hb.mono (by simp;omega)))
   clear hb H4 H5 x4 x5 y4 y5 z4 z5 HRD2
   have hz6:w.heap.size+2<w2.heap.size:=z1
   have H8:=Lib.hid B8
   obtain⟨x8,y8,z8⟩:=B8
   have H9:=Lib.hid B9
   obtain⟨x9,y9,z9⟩:=B9
   have H4:=Lib.hid B4
   have H5:=Lib.hid B5
   obtain⟨x4,y4,z4⟩:=B4
   obtain⟨x5,y5,z5⟩:=B5
   go_wp2
   have hz:=HB.out.size
   have B4:=((H4.out.other (p:=⟨w2.heap.size+1,0,none⟩) (by simp;omega) (.int .i64 2)).alloc (.cells #[.int .u64 0,.int .i64 0,.int .i64 0] 131))
   have B5:=((H5.out.other (p:=⟨w2.heap.size+1,0,none⟩) (by simp;omega) (.int .i64 2)).alloc (.cells #[.int .u64 0,.int .i64 0,.int .i64 0] 131))
   have B9:=((H9.out.set 0 (by simp) (.int .i64 2)).alloc (.cells #[.int .u64 0,.int .i64 0,.int .i64 0] 131))
   have hz2:=HB.out.size
   have z1:=z5
   have HB:=((HB.out.setCell (p:=⟨w2.heap.size+1,0,none⟩) (by simp;omega) (.int .i64 2)).alloc (by simp [World.setCell];omega) (.cells #[.int .u64 0,.int .i64 0,.int .i64 0] 131))
   clear H4 H5 x4 x5 y4 y5 z4 z5 H9 x9 y9 z9 H8 x8 y8 z8 z1
   generalize (w3.setCell ⟨w2.heap.size+1,0,none⟩ (.int .i64 2)).alloc (.cells #[.int .u64 0,.int .i64 0,.int .i64 0] 131)=W at B4 B5 B9 HB ⊢
   have HB:=Lib.hid HB
   have H9:=Lib.hid B9
   obtain⟨x9,y9,z9⟩:=B9
   have H4:=Lib.hid B4
   have H5:=Lib.hid B5
   obtain⟨x4,y4,z4⟩:=B4
   obtain⟨x5,y5,z5⟩:=B5
   go_region
   go_wp2
   refine abs_post (F:=fun W=>Blk W (w.heap.size+1) #[.int .u64 0,.int .i64 0,.int .i64 0]∧Blk W (w.heap.size+2) #[.int .i64 2]∧Below w.heap.size w W) ⟨?_,?_,?_⟩ ?_
   ·exact((((H4.out.set 0 (by simp) _).set 1 (by simp) _).set 2 (by simp) _).other (by simp) _).drew
   ·exact((((H5.out.other (by simp) _).other (by simp) _).other (by simp) _).set 0 (by simp) _).drew
   ·repeat (with_reducible first|exact HB.out|refine bel_drewN ?_ _|refine bel_drew ?_|refine Below.alloc ?_ (by have:=HB.out.size;simp [World.setCell];omega) _|refine Below.setCell ?_ (by first|(simp;done)|(simp;omega)) _)
   rintro V ⟨B6,B7,hbv⟩
   exact bodyPost_ret (v:=.tuple #[.agg #[.int .u64 0,.int .i64 0,.int .i64 0],.agg #[.int .i64 2]]) (by simp [results,Tryz.results102,go_sem,B6.cell,B7.cell]) rfl ⟨by rw [HR.out];try rfl,hbv⟩
 | false=>
  have hrd:readF ls sg pa=folE 2:=by unfold readF;rw [if_neg (by rw [hb];exact Bool.false_ne_true)]
  rw [hrd] at HRD
  have HR:Hid (twoF ls sg pa=folE 2):=Lib.hid (by unfold twoF;rw [if_neg (by rw [hb];exact Bool.false_ne_true)])
  clear hrd hb hs hw hf HRD2
  unfold folE at HRD
  go_enter Tryz.func102,Tryz.ntmps102
  go_wp2_with fail
  refine(FTarget_any _ _ _ _ _ _ _ _ _ _ _ g1 g2).mono ?_
  rintro e w1 ⟨rfl,hb⟩
  have B4:=((Blk.fresh (w.alloc (.cells #[.int .i64 k,.int .i64 o,.int .i64 d,.int .i64 p,.int .i64 el,.int .i64 cc,.bool db,.int .i64 pa,.int .u32 sg,.int .u32 lo] 95)) #[.int .u64 0,.int .i64 0,.int .i64 0] 131).alloc (.cells #[.int .i64 0] 133)).below hb
  have B5:=(Blk.fresh ((w.alloc (.cells #[.int .i64 k,.int .i64 o,.int .i64 d,.int .i64 p,.int .i64 el,.int .i64 cc,.bool db,.int .i64 pa,.int .u32 sg,.int .u32 lo] 95)).alloc (.cells #[.int .u64 0,.int .i64 0,.int .i64 0] 131)) #[.int .i64 0] 133).below hb
  rw [World.size_alloc,World.size_alloc] at B5
  rw [World.size_alloc] at B4
  have HB:Hid (Below w.heap.size w w1):=Lib.hid (((((Below.refl _ _).alloc (Nat.le_refl _) _).alloc (by simp) _).alloc (by simp;omega) _).trans (hb.mono (by simp;omega)))
  clear hb
  have H4:=Lib.hid B4
  have H5:=Lib.hid B5
  obtain⟨x4,y4,z4⟩:=B4
  obtain⟨x5,y5,z5⟩:=B5
  go_wp2_with fail
  refine(HRD.out _ (Hs.out.below HB.out (Nat.le_refl _))).mono ?_
  rintro e w2 ⟨rfl,hb⟩
  have B4:=H4.out.below hb
  have B5:=H5.out.below hb
  have HB:Hid (Below w.heap.size w w2):=Lib.hid (HB.out.trans (hb.mono HB.out.size))
  clear hb H4 H5 x4 x5 y4 y5 z4 z5 HRD
  have H4:=Lib.hid B4
  have H5:=Lib.hid B5
  obtain⟨x4,y4,z4⟩:=B4
  obtain⟨x5,y5,z5⟩:=B5
  go_wp2
  have B8:=(Blk.fresh w2 #[.int .u64 0,.int .i64 0,.int .i64 0] 131).alloc (.cells #[.int .i64 2] 133)
  have B9:=(Blk.fresh (w2.alloc (.cells #[.int .u64 0,.int .i64 0,.int .i64 0] 131)) #[.int .i64 2] 133)
  rw [World.size_alloc] at B9
  have B4:=((H4.out.alloc (.cells #[.int .u64 0,.int .i64 0,.int .i64 0] 131)).alloc (.cells #[.int .i64 2] 133))
  have B5:=((H5.out.alloc (.cells #[.int .u64 0,.int .i64 0,.int .i64 0] 131)).alloc (.cells #[.int .i64 2] 133))
  have hz:=HB.out.size
  have hz6:w.heap.size+2<w2.heap.size:=z5
  have HB:=((HB.out.alloc HB.out.size (.cells #[.int .u64 0,.int .i64 0,.int .i64 0] 131)).alloc (by simp;omega) (.cells #[.int .i64 2] 133))
  clear H4 H5 x4 x5 y4 y5 z4 z5
  generalize (w2.alloc (.cells #[.int .u64 0,.int .i64 0,.int .i64 0] 131)).alloc (.cells #[.int .i64 2] 133)=W at B4 B5 B8 B9 HB ⊢
  have HB:=Lib.hid HB
  have H9:=Lib.hid B9
  obtain⟨x9,y9,z9⟩:=B9
  clear B8
  have H4:=Lib.hid B4
  have H5:=Lib.hid B5
  obtain⟨x4,y4,z4⟩:=B4
  obtain⟨x5,y5,z5⟩:=B5
  go_region
  go_wp2
  refine abs_post (F:=fun W=>Blk W (w.heap.size+1) #[.int .u64 0,.int .i64 0,.int .i64 0]∧Blk W (w.heap.size+2) #[.int .i64 2]∧Below w.heap.size w W) ⟨?_,?_,?_⟩ ?_
  ·exact((((H4.out.set 0 (by simp) _).set 1 (by simp) _).set 2 (by simp) _).other (by simp) _).drew
  ·exact((((H5.out.other (by simp) _).other (by simp) _).other (by simp) _).set 0 (by simp) _).drew
  ·repeat (with_reducible first|exact HB.out|refine bel_drewN ?_ _|refine bel_drew ?_|refine Below.alloc ?_ (by have:=HB.out.size;simp [World.setCell];omega) _|refine Below.setCell ?_ (by first|(simp;done)|(simp;omega)) _)
  rintro V ⟨B6,B7,hbv⟩
  exact bodyPost_ret (v:=.tuple #[.agg #[.int .u64 0,.int .i64 0,.int .i64 0],.agg #[.int .i64 2]]) (by simp [results,Tryz.results102,go_sem,B6.cell,B7.cell]) rfl ⟨by rw [HR.out];try rfl,hbv⟩
theorem fol_oneF {ls:List (List Int)}{s a:Int}(h1:hasB ls s a=true)(h2:(wordV ls s a % 4==2)=true)(h3:wordV ls s a / 4 % 2=0):followF ls s a=oneF ls (wordV ls s a / 4294967296) (wordV ls s a % 4294967296 / 8):=by
 unfold followF oneF
 rw [if_neg (by rw [h1];simp),if_neg (by rw [h2];simp)]
 cases h4:hasB ls (wordV ls s a / 4294967296) (wordV ls s a % 4294967296 / 8)
 ·rw [if_pos rfl,if_neg (by simp)]
 ·rw [if_neg (by simp),if_pos rfl,if_pos h3]
theorem fol_twoF {ls:List (List Int)}(hw:Wd2 ls){s a:Int}(h1:hasB ls s a=true)(h2:(wordV ls s a % 4==2)=true)(h3:wordV ls s a / 4 % 2=1):followF ls s a=twoF ls (wordV ls s a / 4294967296) (wordV ls s a % 4294967296 / 8):=by
 unfold followF twoF
 rw [if_neg (by rw [h1];simp),if_neg (by rw [h2];simp)]
 cases h4:hasB ls (wordV ls s a / 4294967296) (wordV ls s a % 4294967296 / 8)
 ·rw [if_pos rfl,if_neg (by simp)]
 rw [if_neg (by simp),if_pos rfl,if_neg (by omega)]
 have b2:=(wordV_bd hw (wordV ls s a / 4294967296) (wordV ls s a % 4294967296 / 8+1)).1
 generalize wordV ls (wordV ls s a / 4294967296) (wordV ls s a % 4294967296 / 8)=y at *
 generalize wordV ls (wordV ls s a / 4294967296) (wordV ls s a % 4294967296 / 8+1)=z at *
 have hk:=decP_k z b2
 cases h5:hasB ls (wordV ls s a / 4294967296) (wordV ls s a % 4294967296 / 8+1)
 ·rw [if_pos rfl,if_neg (by simp)]
 rw [if_neg (by simp),if_pos rfl]
 unfold joinF tagB
 rw [hk]
 by_cases h6:(y % 4==2)=false∨y / 4 % 2=1∨1<z % 4∨(decP z).o≠0
 ·rw [if_pos h6,if_neg]
  rintro⟨g1,g2,g3⟩
  have g4:=of_decide_eq_true g3
  rcases h6 with h|h|h|h
  ·rw [h] at g1;cases g1
  ·exact g2 h
  ·omega
  ·exact h g4.2
 ·rw [if_neg h6,if_pos]
  have c1:¬(y % 4==2)=false:=fun h=>h6 (.inl h)
  have c2:¬y / 4 % 2=1:=fun h=>h6 (.inr (.inl h))
  have c3:¬1<z % 4:=fun h=>h6 (.inr (.inr (.inl h)))
  have c4:(decP z).o=0:=Classical.byContradiction fun h=>h6 (.inr (.inr (.inr h)))
  exact⟨by simpa using c1,c2,decide_eq_true ⟨by omega,c4⟩⟩
set_option maxRecDepth 100000 in
set_option maxHeartbeats 1000000 in
theorem FDescribe_any (A:Option Addr)(c:Nat)(ls:List (List Int))(s a:Int)(w:World)(hs:Sg w A ls)(hw:Wd2 ls)(hm:ls.length≤140737488355328)(hf:∀j,(seg ls j).length≤140737488355328)
  (hs0:-9223372036854775808≤s) (hs1:s≤9223372036854775807) (ha0:-9223372036854775808≤a) (ha1:a≤9223372036854775807) :
  Calls Tryz.prog 77 #[.slice A ls.length c,.int .i64 s,.int .i64 a] w fun e w'=>e=.returned (.tuple #[.agg #[.int .u64 (followF ls s a).w,.int .i64 (followF ls s a).s,.int .i64 (followF ls s a).b],.agg #[.int .i64 (followF ls s a).e]])∧Below w.heap.size w w':=by
 have HRD:=Lib.hid (fun w2 hs2=>FRead_any A c ls s a w2 hs2 hm hf hs0 hs1 ha0 ha1)
 have Hs:=Lib.hid hs
 have hbd:=wordV_bd hw s a
 cases hb:hasB ls s a with
 | true=>
  have hrd:readF ls s a=⟨wordV ls s a,s,a+1,0⟩:=by unfold readF;rw [if_pos hb]
  rw [hrd] at HRD
  have HDC:=Lib.hid (fun w2=>Decode_any (wordV ls s a) w2 hbd.1 hbd.2)
  cases h2:(wordV ls s a % 4==2) with
  | true=>
   have hp:=decP_far (beq_iff_eq.1 h2) hbd.1 hbd.2
   rw [hp] at HDC
   have q1:0≤(wordV ls s a / 4294967296)∧(wordV ls s a / 4294967296)<4294967296:=by omega
   have q2:0≤(wordV ls s a % 4294967296 / 8)∧(wordV ls s a % 4294967296 / 8)<536870912:=by omega
   by_cases h3:wordV ls s a / 4 % 2=1
   ·have HD2:=Lib.hid (fun w2 hs2=>FDouble_any A c ls 2 0 0 0 0 0 (wordV ls s a % 4294967296 / 8) (wordV ls s a / 4294967296) 0 true w2 hs2 hw hm hf q1.1 q1.2 q2.1 q2.2)
    have HR:=Lib.hid (fol_twoF hw hb h2 h3)
    have hd:(wordV ls s a / 4 % 2==1)=true:=beq_iff_eq.2 h3
    rw [hd] at HDC
    clear hrd hb hs hw hf h2 h3 hp hd
    generalize twoF ls (wordV ls s a / 4294967296) (wordV ls s a % 4294967296 / 8)=q at *
    generalize wordV ls s a=x at *
    go_enter Tryz.func77,Tryz.ntmps77
    go_wp2_with fail
    refine(HRD.out _ (sg_alloc (sg_alloc Hs.out _) _)).mono ?_
    rintro e w1 ⟨rfl,hb⟩
    clear HRD
    have B4:=((Blk.fresh w #[.int .u64 0,.int .i64 0,.int .i64 0] 131).alloc (.cells #[.int .i64 0] 133)).below hb
    have B5:=(Blk.fresh (w.alloc (.cells #[.int .u64 0,.int .i64 0,.int .i64 0] 131)) #[.int .i64 0] 133).below hb
    rw [World.size_alloc] at B5
    have HB:Hid (Below w.heap.size w w1):=Lib.hid ((((Below.refl _ _).alloc (Nat.le_refl _) _).alloc (by simp) _).trans (hb.mono (by simp;omega)))
    clear hb
    have H4:=Lib.hid B4
    have H5:=Lib.hid B5
    obtain⟨x4,y4,z4⟩:=B4
    obtain⟨x5,y5,z5⟩:=B5
    go_wp2_with fail
    refine(HDC.out _).mono ?_
    rintro e w2 ⟨rfl,hb⟩
    have B8:=((Blk.fresh w1 #[.int .u64 x,.int .i64 s,.int .i64 (a+1)] 131).alloc (.cells #[.int .i64 0] 133)).below hb
    have B4:=((H4.out.alloc (.cells #[.int .u64 x,.int .i64 s,.int .i64 (a+1)] 131)).alloc (.cells #[.int .i64 0] 133)).below hb
    have B5:=((H5.out.alloc (.cells #[.int .u64 x,.int .i64 s,.int .i64 (a+1)] 131)).alloc (.cells #[.int .i64 0] 133)).below hb
    have hz:=HB.out.size
    have z1:=z5
    have HB:Hid (Below w.heap.size w w2):=Lib.hid (((HB.out.alloc HB.out.size _).alloc (by simp;omega) _).trans (hb.mono (by simp;omega)))
    clear hb H4 H5 x4 x5 y4 y5 z4 z5 HDC
    have hz6:w.heap.size+1<w1.heap.size:=z1
    have H8:=Lib.hid B8
    obtain⟨x8,y8,z8⟩:=B8
    have H4:=Lib.hid B4
    have H5:=Lib.hid B5
    obtain⟨x4,y4,z4⟩:=B4
    obtain⟨x5,y5,z5⟩:=B5
    go_wp2_with fail
    refine(HD2.out _ (sg_alloc (Hs.out.below HB.out (Nat.le_refl _)) _)).mono ?_
    rintro e w3 ⟨rfl,hb⟩
    have B4:=(H4.out.alloc (.cells #[.int .i64 2,.int .i64 0,.int .i64 0,.int .i64 0,.int .i64 0,.int .i64 0,.bool true,.int .i64 (x % 4294967296 / 8),.int .u32 (x / 4294967296),.int .u32 0] 95)).below hb
    have B5:=(H5.out.alloc (.cells #[.int .i64 2,.int .i64 0,.int .i64 0,.int .i64 0,.int .i64 0,.int .i64 0,.bool true,.int .i64 (x % 4294967296 / 8),.int .u32 (x / 4294967296),.int .u32 0] 95)).below hb
    have HB:Hid (Below w.heap.size w w3):=Lib.hid ((HB.out.alloc HB.out.size _).trans (hb.mono (by have:=HB.out.size;simp;omega)))
    clear hb H4 H5 x4 x5 y4 y5 z4 z5 H8 x8 y8 z8
    have H4:=Lib.hid B4
    have H5:=Lib.hid B5
    obtain⟨x4,y4,z4⟩:=B4
    obtain⟨x5,y5,z5⟩:=B5
    go_wp2
    refine abs_post (F:=fun W=>Blk W w.heap.size #[.int .u64 q.w,.int .i64 q.s,.int .i64 q.b]∧Blk W (w.heap.size+1) #[.int .i64 q.e]∧Below w.heap.size w W) ⟨?_,?_,?_⟩ ?_
    ·exact((((H4.out.set 0 (by simp) _).set 1 (by simp) _).set 2 (by simp) _).other (by simp) _)
    ·exact((((H5.out.other (by simp) _).other (by simp) _).other (by simp) _).set 0 (by simp) _)
    ·repeat (with_reducible first|exact HB.out|refine bel_drewN ?_ _|refine bel_drew ?_|refine Below.alloc ?_ (by have:=HB.out.size;simp [World.setCell];omega) _|refine Below.setCell ?_ (by first|(simp;done)|(simp;omega)) _)
    rintro V ⟨B6,B7,hbv⟩
    exact bodyPost_ret (v:=.tuple #[.agg #[.int .u64 q.w,.int .i64 q.s,.int .i64 q.b],.agg #[.int .i64 q.e]]) (by simp [results,Tryz.results77,go_sem,B6.cell,B7.cell]) rfl ⟨by rw [HR.out];try rfl,hbv⟩
   ·have HD2:=Lib.hid (fun w2 hs2=>FSingle_any A c ls 2 0 0 0 0 0 (wordV ls s a % 4294967296 / 8) (wordV ls s a / 4294967296) 0 false w2 hs2 hw hm hf q1.1 q1.2 q2.1 q2.2)
    have HR:=Lib.hid (fol_oneF hb h2 (by omega))
    have hd:(wordV ls s a / 4 % 2==1)=false:=beq_eq_false_iff_ne.2 h3
    rw [hd] at HDC
    clear hrd hb hs hw hf h2 h3 hp hd
    generalize oneF ls (wordV ls s a / 4294967296) (wordV ls s a % 4294967296 / 8)=q at *
    generalize wordV ls s a=x at *
    go_enter Tryz.func77,Tryz.ntmps77
    go_wp2_with fail
    refine(HRD.out _ (sg_alloc (sg_alloc Hs.out _) _)).mono ?_
    rintro e w1 ⟨rfl,hb⟩
    clear HRD
    have B4:=((Blk.fresh w #[.int .u64 0,.int .i64 0,.int .i64 0] 131).alloc (.cells #[.int .i64 0] 133)).below hb
    have B5:=(Blk.fresh (w.alloc (.cells #[.int .u64 0,.int .i64 0,.int .i64 0] 131)) #[.int .i64 0] 133).below hb
    rw [World.size_alloc] at B5
    have HB:Hid (Below w.heap.size w w1):=Lib.hid ((((Below.refl _ _).alloc (Nat.le_refl _) _).alloc (by simp) _).trans (hb.mono (by simp;omega)))
    clear hb
    have H4:=Lib.hid B4
    have H5:=Lib.hid B5
    obtain⟨x4,y4,z4⟩:=B4
    obtain⟨x5,y5,z5⟩:=B5
    go_wp2_with fail
    refine(HDC.out _).mono ?_
    rintro e w2 ⟨rfl,hb⟩
    have B8:=((Blk.fresh w1 #[.int .u64 x,.int .i64 s,.int .i64 (a+1)] 131).alloc (.cells #[.int .i64 0] 133)).below hb
    have B4:=((H4.out.alloc (.cells #[.int .u64 x,.int .i64 s,.int .i64 (a+1)] 131)).alloc (.cells #[.int .i64 0] 133)).below hb
    have B5:=((H5.out.alloc (.cells #[.int .u64 x,.int .i64 s,.int .i64 (a+1)] 131)).alloc (.cells #[.int .i64 0] 133)).below hb
    have hz:=HB.out.size
    have z1:=z5
    have HB:Hid (Below w.heap.size w w2):=Lib.hid (((HB.out.alloc HB.out.size _).alloc (by simp;omega) _).trans (hb.mono (by simp;omega)))
    clear hb H4 H5 x4 x5 y4 y5 z4 z5 HDC
    have hz6:w.heap.size+1<w1.heap.size:=z1
    have H8:=Lib.hid B8
    obtain⟨x8,y8,z8⟩:=B8
    have H4:=Lib.hid B4
    have H5:=Lib.hid B5
    obtain⟨x4,y4,z4⟩:=B4
    obtain⟨x5,y5,z5⟩:=B5
    go_wp2_with fail
    refine(HD2.out _ (sg_alloc (Hs.out.below HB.out (Nat.le_refl _)) _)).mono ?_
    rintro e w3 ⟨rfl,hb⟩
    have B4:=(H4.out.alloc (.cells #[.int .i64 2,.int .i64 0,.int .i64 0,.int .i64 0,.int .i64 0,.int .i64 0,.bool false,.int .i64 (x % 4294967296 / 8),.int .u32 (x / 4294967296),.int .u32 0] 95)).below hb
    have B5:=(H5.out.alloc (.cells #[.int .i64 2,.int .i64 0,.int .i64 0,.int .i64 0,.int .i64 0,.int .i64 0,.bool false,.int .i64 (x % 4294967296 / 8),.int .u32 (x / 4294967296),.int .u32 0] 95)).below hb
    have HB:Hid (Below w.heap.size w w3):=Lib.hid ((HB.out.alloc HB.out.size _).trans (hb.mono (by have:=HB.out.size;simp;omega)))
    clear hb H4 H5 x4 x5 y4 y5 z4 z5 H8 x8 y8 z8
    have H4:=Lib.hid B4
    have H5:=Lib.hid B5
    obtain⟨x4,y4,z4⟩:=B4
    obtain⟨x5,y5,z5⟩:=B5
    go_wp2
    refine abs_post (F:=fun W=>Blk W w.heap.size #[.int .u64 q.w,.int .i64 q.s,.int .i64 q.b]∧Blk W (w.heap.size+1) #[.int .i64 q.e]∧Below w.heap.size w W) ⟨?_,?_,?_⟩ ?_
    ·exact((((H4.out.set 0 (by simp) _).set 1 (by simp) _).set 2 (by simp) _).other (by simp) _)
    ·exact((((H5.out.other (by simp) _).other (by simp) _).other (by simp) _).set 0 (by simp) _)
    ·repeat (with_reducible first|exact HB.out|refine bel_drewN ?_ _|refine bel_drew ?_|refine Below.alloc ?_ (by have:=HB.out.size;simp [World.setCell];omega) _|refine Below.setCell ?_ (by first|(simp;done)|(simp;omega)) _)
    rintro V ⟨B6,B7,hbv⟩
    exact bodyPost_ret (v:=.tuple #[.agg #[.int .u64 q.w,.int .i64 q.s,.int .i64 q.b],.agg #[.int .i64 q.e]]) (by simp [results,Tryz.results77,go_sem,B6.cell,B7.cell]) rfl ⟨by rw [HR.out];try rfl,hbv⟩
  | false=>
   have HR:Hid (followF ls s a=⟨wordV ls s a,s,a+1,0⟩):=Lib.hid (by unfold followF;rw [if_neg (by rw [hb];simp),if_pos h2])
   have HK:=decP_kB _ hbd.1
   clear hrd hb hs hw hf
   generalize wordV ls s a=x at *
   rw [HK.out] at HDC
   clear HK
   generalize decP x=q at *
   go_enter Tryz.func77,Tryz.ntmps77
   go_wp2_with fail
   refine(HRD.out _ (sg_alloc (sg_alloc Hs.out _) _)).mono ?_
   rintro e w1 ⟨rfl,hb⟩
   clear HRD
   have B4:=((Blk.fresh w #[.int .u64 0,.int .i64 0,.int .i64 0] 131).alloc (.cells #[.int .i64 0] 133)).below hb
   have B5:=(Blk.fresh (w.alloc (.cells #[.int .u64 0,.int .i64 0,.int .i64 0] 131)) #[.int .i64 0] 133).below hb
   rw [World.size_alloc] at B5
   have HB:Hid (Below w.heap.size w w1):=Lib.hid ((((Below.refl _ _).alloc (Nat.le_refl _) _).alloc (by simp) _).trans (hb.mono (by simp;omega)))
   clear hb
   have H4:=Lib.hid B4
   have H5:=Lib.hid B5
   obtain⟨x4,y4,z4⟩:=B4
   obtain⟨x5,y5,z5⟩:=B5
   go_wp2_with fail
   refine(HDC.out _).mono ?_
   rintro e w2 ⟨rfl,hb⟩
   have B8:=((Blk.fresh w1 #[.int .u64 x,.int .i64 s,.int .i64 (a+1)] 131).alloc (.cells #[.int .i64 0] 133)).below hb
   have B4:=((H4.out.alloc (.cells #[.int .u64 x,.int .i64 s,.int .i64 (a+1)] 131)).alloc (.cells #[.int .i64 0] 133)).below hb
   have B5:=((H5.out.alloc (.cells #[.int .u64 x,.int .i64 s,.int .i64 (a+1)] 131)).alloc (.cells #[.int .i64 0] 133)).below hb
   have hz:=HB.out.size
   have z1:=z5
   have HB:Hid (Below w.heap.size w w2):=Lib.hid (((HB.out.alloc HB.out.size _).alloc (by simp;omega) _).trans (hb.mono (by simp;omega)))
   clear hb H4 H5 x4 x5 y4 y5 z4 z5 HDC
   have hz6:w.heap.size+1<w1.heap.size:=z1
   have H8:=Lib.hid B8
   obtain⟨x8,y8,z8⟩:=B8
   have H4:=Lib.hid B4
   have H5:=Lib.hid B5
   obtain⟨x4,y4,z4⟩:=B4
   obtain⟨x5,y5,z5⟩:=B5
   go_wp2
   refine abs_post (F:=fun W=>Blk W w.heap.size #[.int .u64 x,.int .i64 s,.int .i64 (a+1)]∧Blk W (w.heap.size+1) #[.int .i64 0]∧Below w.heap.size w W) ⟨?_,?_,?_⟩ ?_
   ·exact((((H4.out.set 0 (by simp) _).set 1 (by simp) _).set 2 (by simp) _).other (by simp) _).alloc _
   ·exact((((H5.out.other (by simp) _).other (by simp) _).other (by simp) _).set 0 (by simp) _).alloc _
   ·repeat (with_reducible first|exact HB.out|refine bel_drewN ?_ _|refine bel_drew ?_|refine Below.alloc ?_ (by have:=HB.out.size;simp [World.setCell];omega) _|refine Below.setCell ?_ (by first|(simp;done)|(simp;omega)) _)
   rintro V ⟨B6,B7,hbv⟩
   exact bodyPost_ret (v:=.tuple #[.agg #[.int .u64 x,.int .i64 s,.int .i64 (a+1)],.agg #[.int .i64 0]]) (by simp [results,Tryz.results77,go_sem,B6.cell,B7.cell]) rfl ⟨by rw [HR.out];try rfl,hbv⟩
 | false=>
  have hrd:readF ls s a=folE 2:=by unfold readF;rw [if_neg (by rw [hb];exact Bool.false_ne_true)]
  rw [hrd] at HRD
  have HR:Hid (followF ls s a=folE 2):=Lib.hid (by unfold followF;rw [if_pos hb])
  clear hrd hb hs hw hf
  unfold folE at HRD
  go_enter Tryz.func77,Tryz.ntmps77
  go_wp2_with fail
  refine(HRD.out _ (sg_alloc (sg_alloc Hs.out _) _)).mono ?_
  rintro e w1 ⟨rfl,hb⟩
  clear HRD
  have B4:=((Blk.fresh w #[.int .u64 0,.int .i64 0,.int .i64 0] 131).alloc (.cells #[.int .i64 0] 133)).below hb
  have B5:=(Blk.fresh (w.alloc (.cells #[.int .u64 0,.int .i64 0,.int .i64 0] 131)) #[.int .i64 0] 133).below hb
  rw [World.size_alloc] at B5
  have HB:Hid (Below w.heap.size w w1):=Lib.hid ((((Below.refl _ _).alloc (Nat.le_refl _) _).alloc (by simp) _).trans (hb.mono (by simp;omega)))
  clear hb
  have H4:=Lib.hid B4
  have H5:=Lib.hid B5
  obtain⟨x4,y4,z4⟩:=B4
  obtain⟨x5,y5,z5⟩:=B5
  go_wp2
  have B8:=(Blk.fresh w1 #[.int .u64 0,.int .i64 0,.int .i64 0] 131).alloc (.cells #[.int .i64 2] 133)
  have B9:=(Blk.fresh (w1.alloc (.cells #[.int .u64 0,.int .i64 0,.int .i64 0] 131)) #[.int .i64 2] 133)
  rw [World.size_alloc] at B9
  have B4:=((H4.out.alloc (.cells #[.int .u64 0,.int .i64 0,.int .i64 0] 131)).alloc (.cells #[.int .i64 2] 133))
  have B5:=((H5.out.alloc (.cells #[.int .u64 0,.int .i64 0,.int .i64 0] 131)).alloc (.cells #[.int .i64 2] 133))
  have hz:=HB.out.size
  have hz6:w.heap.size+1<w1.heap.size:=z5
  have HB:=((HB.out.alloc HB.out.size (.cells #[.int .u64 0,.int .i64 0,.int .i64 0] 131)).alloc (by simp;omega) (.cells #[.int .i64 2] 133))
  clear H4 H5 x4 x5 y4 y5 z4 z5
  generalize (w1.alloc (.cells #[.int .u64 0,.int .i64 0,.int .i64 0] 131)).alloc (.cells #[.int .i64 2] 133)=W at B4 B5 B8 B9 HB ⊢
  have HB:=Lib.hid HB
  have H9:=Lib.hid B9
  obtain⟨x9,y9,z9⟩:=B9
  clear B8
  have H4:=Lib.hid B4
  have H5:=Lib.hid B5
  obtain⟨x4,y4,z4⟩:=B4
  obtain⟨x5,y5,z5⟩:=B5
  go_region
  go_wp2
  refine abs_post (F:=fun W=>Blk W w.heap.size #[.int .u64 0,.int .i64 0,.int .i64 0]∧Blk W (w.heap.size+1) #[.int .i64 2]∧Below w.heap.size w W) ⟨?_,?_,?_⟩ ?_
  ·exact((((H4.out.set 0 (by simp) _).set 1 (by simp) _).set 2 (by simp) _).other (by simp) _).drew
  ·exact((((H5.out.other (by simp) _).other (by simp) _).other (by simp) _).set 0 (by simp) _).drew
  ·repeat (with_reducible first|exact HB.out|refine bel_drewN ?_ _|refine bel_drew ?_|refine Below.alloc ?_ (by have:=HB.out.size;simp [World.setCell];omega) _|refine Below.setCell ?_ (by first|(simp;done)|(simp;omega)) _)
  rintro V ⟨B6,B7,hbv⟩
  exact bodyPost_ret (v:=.tuple #[.agg #[.int .u64 0,.int .i64 0,.int .i64 0],.agg #[.int .i64 2]]) (by simp [results,Tryz.results77,go_sem,B6.cell,B7.cell]) rfl ⟨by rw [HR.out];try rfl,hbv⟩
theorem fol_E (ls:List (List Int))(s a:Int):(followF ls s a).e=0∨followF ls s a=folE 2∨followF ls s a=folE 3:=by
 unfold followF
 repeat' split
 all_goals first
  | exact .inl rfl
  | exact .inr (.inl rfl)
  | exact .inr (.inr rfl)
theorem FFollow_any (A:Option Addr)(c:Nat)(ls:List (List Int))(s a:Int)(w:World)(hs:Sg w A ls)(hw:Wd2 ls)(hm:ls.length≤140737488355328)(hf:∀j,(seg ls j).length≤140737488355328)
  (hs0:-9223372036854775808≤s) (hs1:s≤9223372036854775807) (ha0:-9223372036854775808≤a) (ha1:a≤9223372036854775807) :
  Calls Tryz.prog 52 #[.slice A ls.length c,.int .i64 s,.int .i64 a] w fun e w'=>e=.returned (.tuple #[.int .u64 (followF ls s a).w,.int .i64 (followF ls s a).s,.int .i64 (followF ls s a).b,.int .i64 (followF ls s a).e])∧Below w.heap.size w w':=by
 have HD:=Lib.hid (FDescribe_any A c ls s a w hs hw hm hf hs0 hs1 ha0 ha1)
 rcases fol_E ls s a with h0|h1|h1
 ·have t0:((followF ls s a).e != 0)=false:=by rw [h0];rfl
  have H0:=Lib.hid h0
  clear hs hw hf h0
  generalize followF ls s a=q at *
  rw [H0.out] at HD
  clear t0
  go_enter Tryz.func52,Tryz.ntmps52
  go_wp2_with fail
  refine HD.out.mono ?_
  rintro e w1 ⟨rfl,hb⟩
  have HB:=Lib.hid hb
  clear hb HD
  go_wp2
  go_quiet (fail)
  go_wp2
  refine bodyPost_ret (v:=.tuple #[.int .u64 q.w,.int .i64 q.s,.int .i64 q.b,.int .i64 0]) (by simp [results,Tryz.results52,go_sem]) rfl ⟨by rw [H0.out],?_⟩
  exact bel_drewN ((HB.out.alloc HB.out.size _).alloc (by have:=HB.out.size;simp;omega) _) _
 ·have H1:=Lib.hid h1
  rw [h1] at HD
  clear hs hw hf h1
  generalize followF ls s a=q at *
  unfold folE at HD
  go_enter Tryz.func52,Tryz.ntmps52
  go_wp2_with fail
  refine HD.out.mono ?_
  rintro e w1 ⟨rfl,hb⟩
  have HB:=Lib.hid hb
  clear hb HD
  go_wp2
  go_quiet (fail)
  go_wp2
  refine bodyPost_ret (v:=.tuple #[.int .u64 0,.int .i64 0,.int .i64 0,.int .i64 2]) (by simp [results,Tryz.results52,go_sem]) rfl ⟨by rw [H1.out];rfl,?_⟩
  exact bel_drewN ((HB.out.alloc HB.out.size _).alloc (by have:=HB.out.size;simp;omega) _) _
 ·have H1:=Lib.hid h1
  rw [h1] at HD
  clear hs hw hf h1
  generalize followF ls s a=q at *
  unfold folE at HD
  go_enter Tryz.func52,Tryz.ntmps52
  go_wp2_with fail
  refine HD.out.mono ?_
  rintro e w1 ⟨rfl,hb⟩
  have HB:=Lib.hid hb
  clear hb HD
  go_wp2
  go_quiet (fail)
  go_wp2
  refine bodyPost_ret (v:=.tuple #[.int .u64 0,.int .i64 0,.int .i64 0,.int .i64 3]) (by simp [results,Tryz.results52,go_sem]) rfl ⟨by rw [H1.out];rfl,?_⟩
  exact bel_drewN ((HB.out.alloc HB.out.size _).alloc (by have:=HB.out.size;simp;omega) _) _
end Go.Proofs.YtfaflahfjgnphaaGreatDoor
