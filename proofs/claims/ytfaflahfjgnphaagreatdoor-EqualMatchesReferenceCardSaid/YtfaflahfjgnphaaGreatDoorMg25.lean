/- The texts Res1 (what is wanted of them), one after the other. -/
import Derived.Test.YtfaflahfjgnphaaGreatDoorMg20
namespace Go.Proofs.YtfaflahfjgnphaaGreatDoor
open Go.ChangeShapes Go.WideShapes Go.ChangeAt Go.RowKit
set_option linter.unusedVariables false
set_option linter.unusedSimpArgs false
set_option maxRecDepth 100000
def strR (ls:List (List Int))(d p s t:Int):Ob×Int:=if inB ls s t (d+p)=true then (⟨1,s,t,d,p,0,0,d+p⟩,0) else (ob0,2)
def lstR (ls:List (List Int))(el cc s t:Int):Ob×Int:=if inB ls s t (wordsI el cc)=true then (⟨2,s,t,0,0,el,cc,wordsI el cc⟩,0) else (ob0,2)
def cmpR (ls:List (List Int))(cc s t:Int):Ob×Int:=if inB ls s t (wordsI 7 cc)=true then compF ls s t cc (wordsI 7 cc) else (ob0,2)
theorem holds_any (A:Option Addr)(c:Nat)(ls:List (List Int))(k o d p el cc pa pg lo s t:Int)(db:Bool)(w:World)(n:Int)(hs:Sg w A ls)(hm:ls.length≤140737488355328)(hs0:-9223372036854775808≤s)(hs1:s≤9223372036854775807)(ht0:-9223372036854775808≤t)(ht1:t≤9223372036854775807)(hn0:-9223372036854775808≤n)(hn1:n≤9223372036854775807):
  Calls Tryz.prog 106 #[.agg #[.slice A ls.length c,.int .i64 k,.int .i64 o,.int .i64 d,.int .i64 p,.int .i64 el,.int .i64 cc,.bool db,.int .i64 pa,.int .u32 pg,.int .u32 lo,.int .i64 s,.int .i64 t],.int .i64 n] w fun e w'=>e=.returned (.bool (inB ls s t n))∧Below w.heap.size w w':=by
 have HI:=Lib.hid (fun w2 hs2=>AInF_any A c ls s t n w2 hs2 hm hs0 hs1 ht0 ht1 hn0 hn1)
 have Hs:=Lib.hid hs
 clear hs
 go_enter Tryz.func106,Tryz.ntmps106
 go_wp2_with fail
 refine(HI.out _ (Hs.out.alloc _)).mono ?_
 rintro e w' ⟨rfl,rfl⟩
 go_wp2
 go_ret
 exact⟨rfl,(Below.refl _ _).alloc (Nat.le_refl _) _⟩
set_option maxRecDepth 100000 in
set_option maxHeartbeats 1000000 in
theorem structure_any (A:Option Addr)(c:Nat)(ls:List (List Int))(k o d p el cc pa pg lo s t:Int)(db:Bool)(w:World)(d0:0≤d)(d1:d≤65535)(p0:0≤p)(p1:p≤65535)(hs:Sg w A ls)(hm:ls.length≤140737488355328)(hs0:-9223372036854775808≤s)(hs1:s≤9223372036854775807)(ht0:-9223372036854775808≤t)(ht1:t≤9223372036854775807):
  Calls Tryz.prog 80 #[.agg #[.slice A ls.length c,.int .i64 k,.int .i64 o,.int .i64 d,.int .i64 p,.int .i64 el,.int .i64 cc,.bool db,.int .i64 pa,.int .u32 pg,.int .u32 lo,.int .i64 s,.int .i64 t]] w fun e w'=>e=.returned (.tuple #[.agg #[.int .i64 (strR ls d p s t).1.k,.int .i64 (strR ls d p s t).1.sg,.int .i64 (strR ls d p s t).1.at',.int .i64 (strR ls d p s t).1.d,.int .i64 (strR ls d p s t).1.p,.int .i64 (strR ls d p s t).1.el,.int .i64 (strR ls d p s t).1.n,.int .i64 (strR ls d p s t).1.cost],.int .i64 (strR ls d p s t).2])∧Below w.heap.size w w':=by
 have HH:=Lib.hid (fun w2 hs2=>holds_any A c ls k o d p el cc pa pg lo s t db w2 (d+p) hs2 hm hs0 hs1 ht0 ht1 (by omega) (by omega))
 have Hs:=Lib.hid hs
 clear hs
 cases hi:inB ls s t (d+p) with
 | true=>
  have HR:Hid (strR ls d p s t=(⟨1,s,t,d,p,0,0,d+p⟩,0)):=Lib.hid (by unfold strR;rw [hi];rfl)
  rw [hi] at HH
  clear hi
  go_enter Tryz.func80,Tryz.ntmps80
  go_wp2_with fail
  refine(HH.out _ (((Hs.out.alloc _).alloc _).alloc _)).mono ?_
  rintro e w1 ⟨rfl,hb⟩
  have BL:=(((Blk.fresh w #[.slice A ls.length c,.int .i64 k,.int .i64 o,.int .i64 d,.int .i64 p,.int .i64 el,.int .i64 cc,.bool db,.int .i64 pa,.int .u32 pg,.int .u32 lo,.int .i64 s,.int .i64 t] 101).alloc _).alloc _).below hb
  have BO:=((Blk.fresh (w.alloc (.cells #[.slice A ls.length c,.int .i64 k,.int .i64 o,.int .i64 d,.int .i64 p,.int .i64 el,.int .i64 cc,.bool db,.int .i64 pa,.int .u32 pg,.int .u32 lo,.int .i64 s,.int .i64 t] 101)) #[.int .i64 0,.int .i64 0,.int .i64 0,.int .i64 0,.int .i64 0,.int .i64 0,.int .i64 0,.int .i64 0] 48).alloc _).below hb
  have BP:=(Blk.fresh ((w.alloc (.cells #[.slice A ls.length c,.int .i64 k,.int .i64 o,.int .i64 d,.int .i64 p,.int .i64 el,.int .i64 cc,.bool db,.int .i64 pa,.int .u32 pg,.int .u32 lo,.int .i64 s,.int .i64 t] 101)).alloc (.cells #[.int .i64 0,.int .i64 0,.int .i64 0,.int .i64 0,.int .i64 0,.int .i64 0,.int .i64 0,.int .i64 0] 48)) #[.int .i64 k,.int .i64 o,.int .i64 d,.int .i64 p,.int .i64 el,.int .i64 cc,.bool db,.int .i64 pa,.int .u32 pg,.int .u32 lo] 95).below hb
  rw [World.size_alloc] at BO BP
  rw [World.size_alloc] at BP
  have HB:Hid (Below w.heap.size w w1):=Lib.hid (((((Below.refl _ _).alloc (Nat.le_refl _) _).alloc (by simp) _).alloc (by simp;omega) _).trans (hb.mono (by simp;omega)))
  clear hb HH
  have HO:=Lib.hid BO
  obtain⟨xl,yl,zl⟩:=BL
  obtain⟨xo,yo,zo⟩:=BO
  obtain⟨xp,yp,zp⟩:=BP
  go_wp2_with fail
  refine abs_post (F:=fun W=>Blk W (w.heap.size+1) #[.int .i64 1,.int .i64 s,.int .i64 t,.int .i64 d,.int .i64 p,.int .i64 0,.int .i64 0,.int .i64 (d+p)]∧Below w.heap.size w W) ⟨?_,?_⟩ ?_
  ·exact((((((((HO.out.set 0 (by simp) _).set 1 (by simp) _).set 2 (by simp) _).set 3 (by simp) _).set 4 (by simp) _).set 5 (by simp) _).set 6 (by simp) _).set 7 (by simp) _)
  ·repeat (with_reducible first|exact HB.out|refine bel_drewN ?_ _|refine bel_drew ?_|refine Below.alloc ?_ (by have:=HB.out.size;simp [World.setCell];omega) _|refine Below.setCell ?_ (by first|(simp;done)|(simp;omega)) _)
  rintro V ⟨B6,hbv⟩
  exact bodyPost_ret (v:=.tuple #[.agg #[.int .i64 1,.int .i64 s,.int .i64 t,.int .i64 d,.int .i64 p,.int .i64 0,.int .i64 0,.int .i64 (d+p)],.int .i64 0]) (by simp [results,Tryz.results80,go_sem,B6.cell]) rfl ⟨by rw [HR.out];try rfl,hbv⟩
 | false=>
  have HR:Hid (strR ls d p s t=(ob0,2)):=Lib.hid (by unfold strR;rw [hi];rfl)
  rw [hi] at HH
  clear hi
  go_enter Tryz.func80,Tryz.ntmps80
  go_wp2_with fail
  refine(HH.out _ (((Hs.out.alloc _).alloc _).alloc _)).mono ?_
  rintro e w1 ⟨rfl,hb⟩
  have BL:=(((Blk.fresh w #[.slice A ls.length c,.int .i64 k,.int .i64 o,.int .i64 d,.int .i64 p,.int .i64 el,.int .i64 cc,.bool db,.int .i64 pa,.int .u32 pg,.int .u32 lo,.int .i64 s,.int .i64 t] 101).alloc _).alloc _).below hb
  have BO:=((Blk.fresh (w.alloc (.cells #[.slice A ls.length c,.int .i64 k,.int .i64 o,.int .i64 d,.int .i64 p,.int .i64 el,.int .i64 cc,.bool db,.int .i64 pa,.int .u32 pg,.int .u32 lo,.int .i64 s,.int .i64 t] 101)) #[.int .i64 0,.int .i64 0,.int .i64 0,.int .i64 0,.int .i64 0,.int .i64 0,.int .i64 0,.int .i64 0] 48).alloc _).below hb
  have BP:=(Blk.fresh ((w.alloc (.cells #[.slice A ls.length c,.int .i64 k,.int .i64 o,.int .i64 d,.int .i64 p,.int .i64 el,.int .i64 cc,.bool db,.int .i64 pa,.int .u32 pg,.int .u32 lo,.int .i64 s,.int .i64 t] 101)).alloc (.cells #[.int .i64 0,.int .i64 0,.int .i64 0,.int .i64 0,.int .i64 0,.int .i64 0,.int .i64 0,.int .i64 0] 48)) #[.int .i64 k,.int .i64 o,.int .i64 d,.int .i64 p,.int .i64 el,.int .i64 cc,.bool db,.int .i64 pa,.int .u32 pg,.int .u32 lo] 95).below hb
  rw [World.size_alloc] at BO BP
  rw [World.size_alloc] at BP
  have HB:Hid (Below w.heap.size w w1):=Lib.hid (((((Below.refl _ _).alloc (Nat.le_refl _) _).alloc (by simp) _).alloc (by simp;omega) _).trans (hb.mono (by simp;omega)))
  clear hb HH
  have HO:=Lib.hid BO
  obtain⟨xl,yl,zl⟩:=BL
  obtain⟨xo,yo,zo⟩:=BO
  obtain⟨xp,yp,zp⟩:=BP
  go_wp2_with fail
  refine abs_post (F:=fun W=>Blk W (w.heap.size+1) #[.int .i64 0,.int .i64 0,.int .i64 0,.int .i64 0,.int .i64 0,.int .i64 0,.int .i64 0,.int .i64 0]∧Below w.heap.size w W) ⟨?_,?_⟩ ?_
  ·exact((((((((HO.out.set 0 (by simp) _).set 1 (by simp) _).set 2 (by simp) _).set 3 (by simp) _).set 4 (by simp) _).set 5 (by simp) _).set 6 (by simp) _).set 7 (by simp) _)
  ·repeat (with_reducible first|exact HB.out|refine bel_drewN ?_ _|refine bel_drew ?_|refine Below.alloc ?_ (by have:=HB.out.size;simp [World.setCell];omega) _|refine Below.setCell ?_ (by first|(simp;done)|(simp;omega)) _)
  rintro V ⟨B6,hbv⟩
  exact bodyPost_ret (v:=.tuple #[.agg #[.int .i64 0,.int .i64 0,.int .i64 0,.int .i64 0,.int .i64 0,.int .i64 0,.int .i64 0,.int .i64 0],.int .i64 2]) (by simp [results,Tryz.results80,go_sem,B6.cell]) rfl ⟨by rw [HR.out];try rfl,hbv⟩
set_option maxRecDepth 100000 in
set_option maxHeartbeats 1000000 in
theorem list_any (A:Option Addr)(c:Nat)(ls:List (List Int))(k o d p el cc pa pg lo s t:Int)(db:Bool)(w:World)(hT:TabOK w)(e0:0≤el)(e7:el≤7)(c0:0≤cc)(c1:cc≤536870911)(hs:Sg w A ls)(hm:ls.length≤140737488355328)(hs0:-9223372036854775808≤s)(hs1:s≤9223372036854775807)(ht0:-9223372036854775808≤t)(ht1:t≤9223372036854775807):
  Calls Tryz.prog 83 #[.agg #[.slice A ls.length c,.int .i64 k,.int .i64 o,.int .i64 d,.int .i64 p,.int .i64 el,.int .i64 cc,.bool db,.int .i64 pa,.int .u32 pg,.int .u32 lo,.int .i64 s,.int .i64 t]] w fun e w'=>e=.returned (.tuple #[.agg #[.int .i64 (lstR ls el cc s t).1.k,.int .i64 (lstR ls el cc s t).1.sg,.int .i64 (lstR ls el cc s t).1.at',.int .i64 (lstR ls el cc s t).1.d,.int .i64 (lstR ls el cc s t).1.p,.int .i64 (lstR ls el cc s t).1.el,.int .i64 (lstR ls el cc s t).1.n,.int .i64 (lstR ls el cc s t).1.cost],.int .i64 (lstR ls el cc s t).2])∧Below w.heap.size w w':=by
 have HH:=Lib.hid (fun w2 hs2=>holds_any A c ls k o d p el cc pa pg lo s t db w2 (wordsI el cc) hs2 hm hs0 hs1 ht0 ht1 (by have:=wordsI_lim el cc c0 c1;omega) (by have:=wordsI_lim el cc c0 c1;omega))
 have Hs:=Lib.hid hs
 have HT:=Lib.hid hT
 have HL:=Lib.hid (fun w2 hT2=>LWords_any el cc w2 hT2 e0 e7 c0 c1)
 clear hT
 clear hs
 cases hi:inB ls s t (wordsI el cc) with
 | true=>
  have HR:Hid (lstR ls el cc s t=(⟨2,s,t,0,0,el,cc,wordsI el cc⟩,0)):=Lib.hid (by unfold lstR;rw [hi];rfl)
  rw [hi] at HH
  clear hi
  generalize wordsI el cc=n at *
  go_enter Tryz.func83,Tryz.ntmps83
  go_wp2_with fail
  refine(HL.out _ (((HT.out.alloc _).alloc _).alloc _)).mono ?_
  rintro e w' ⟨rfl,rfl⟩
  go_wp2_with fail
  refine(HH.out _ (((Hs.out.alloc _).alloc _).alloc _)).mono ?_
  rintro e w1 ⟨rfl,hb⟩
  have BL:=(((Blk.fresh w #[.slice A ls.length c,.int .i64 k,.int .i64 o,.int .i64 d,.int .i64 p,.int .i64 el,.int .i64 cc,.bool db,.int .i64 pa,.int .u32 pg,.int .u32 lo,.int .i64 s,.int .i64 t] 101).alloc _).alloc _).below hb
  have BO:=((Blk.fresh (w.alloc (.cells #[.slice A ls.length c,.int .i64 k,.int .i64 o,.int .i64 d,.int .i64 p,.int .i64 el,.int .i64 cc,.bool db,.int .i64 pa,.int .u32 pg,.int .u32 lo,.int .i64 s,.int .i64 t] 101)) #[.int .i64 0,.int .i64 0,.int .i64 0,.int .i64 0,.int .i64 0,.int .i64 0,.int .i64 0,.int .i64 0] 48).alloc _).below hb
  have BP:=(Blk.fresh ((w.alloc (.cells #[.slice A ls.length c,.int .i64 k,.int .i64 o,.int .i64 d,.int .i64 p,.int .i64 el,.int .i64 cc,.bool db,.int .i64 pa,.int .u32 pg,.int .u32 lo,.int .i64 s,.int .i64 t] 101)).alloc (.cells #[.int .i64 0,.int .i64 0,.int .i64 0,.int .i64 0,.int .i64 0,.int .i64 0,.int .i64 0,.int .i64 0] 48)) #[.int .i64 k,.int .i64 o,.int .i64 d,.int .i64 p,.int .i64 el,.int .i64 cc,.bool db,.int .i64 pa,.int .u32 pg,.int .u32 lo] 95).below hb
  rw [World.size_alloc] at BO BP
  rw [World.size_alloc] at BP
  have HB:Hid (Below w.heap.size w w1):=Lib.hid (((((Below.refl _ _).alloc (Nat.le_refl _) _).alloc (by simp) _).alloc (by simp;omega) _).trans (hb.mono (by simp;omega)))
  clear hb HH
  have HO:=Lib.hid BO
  obtain⟨xl,yl,zl⟩:=BL
  obtain⟨xo,yo,zo⟩:=BO
  obtain⟨xp,yp,zp⟩:=BP
  go_wp2_with fail
  refine abs_post (F:=fun W=>Blk W (w.heap.size+1) #[.int .i64 2,.int .i64 s,.int .i64 t,.int .i64 0,.int .i64 0,.int .i64 el,.int .i64 cc,.int .i64 n]∧Below w.heap.size w W) ⟨?_,?_⟩ ?_
  ·exact((((((((HO.out.set 0 (by simp) _).set 1 (by simp) _).set 2 (by simp) _).set 3 (by simp) _).set 4 (by simp) _).set 5 (by simp) _).set 6 (by simp) _).set 7 (by simp) _)
  ·repeat (with_reducible first|exact HB.out|refine bel_drewN ?_ _|refine bel_drew ?_|refine Below.alloc ?_ (by have:=HB.out.size;simp [World.setCell];omega) _|refine Below.setCell ?_ (by first|(simp;done)|(simp;omega)) _)
  rintro V ⟨B6,hbv⟩
  exact bodyPost_ret (v:=.tuple #[.agg #[.int .i64 2,.int .i64 s,.int .i64 t,.int .i64 0,.int .i64 0,.int .i64 el,.int .i64 cc,.int .i64 n],.int .i64 0]) (by simp [results,Tryz.results83,go_sem,B6.cell]) rfl ⟨by rw [HR.out];try rfl,hbv⟩
 | false=>
  have HR:Hid (lstR ls el cc s t=(ob0,2)):=Lib.hid (by unfold lstR;rw [hi];rfl)
  rw [hi] at HH
  clear hi
  generalize wordsI el cc=n at *
  go_enter Tryz.func83,Tryz.ntmps83
  go_wp2_with fail
  refine(HL.out _ (((HT.out.alloc _).alloc _).alloc _)).mono ?_
  rintro e w' ⟨rfl,rfl⟩
  go_wp2_with fail
  refine(HH.out _ (((Hs.out.alloc _).alloc _).alloc _)).mono ?_
  rintro e w1 ⟨rfl,hb⟩
  have BL:=(((Blk.fresh w #[.slice A ls.length c,.int .i64 k,.int .i64 o,.int .i64 d,.int .i64 p,.int .i64 el,.int .i64 cc,.bool db,.int .i64 pa,.int .u32 pg,.int .u32 lo,.int .i64 s,.int .i64 t] 101).alloc _).alloc _).below hb
  have BO:=((Blk.fresh (w.alloc (.cells #[.slice A ls.length c,.int .i64 k,.int .i64 o,.int .i64 d,.int .i64 p,.int .i64 el,.int .i64 cc,.bool db,.int .i64 pa,.int .u32 pg,.int .u32 lo,.int .i64 s,.int .i64 t] 101)) #[.int .i64 0,.int .i64 0,.int .i64 0,.int .i64 0,.int .i64 0,.int .i64 0,.int .i64 0,.int .i64 0] 48).alloc _).below hb
  have BP:=(Blk.fresh ((w.alloc (.cells #[.slice A ls.length c,.int .i64 k,.int .i64 o,.int .i64 d,.int .i64 p,.int .i64 el,.int .i64 cc,.bool db,.int .i64 pa,.int .u32 pg,.int .u32 lo,.int .i64 s,.int .i64 t] 101)).alloc (.cells #[.int .i64 0,.int .i64 0,.int .i64 0,.int .i64 0,.int .i64 0,.int .i64 0,.int .i64 0,.int .i64 0] 48)) #[.int .i64 k,.int .i64 o,.int .i64 d,.int .i64 p,.int .i64 el,.int .i64 cc,.bool db,.int .i64 pa,.int .u32 pg,.int .u32 lo] 95).below hb
  rw [World.size_alloc] at BO BP
  rw [World.size_alloc] at BP
  have HB:Hid (Below w.heap.size w w1):=Lib.hid (((((Below.refl _ _).alloc (Nat.le_refl _) _).alloc (by simp) _).alloc (by simp;omega) _).trans (hb.mono (by simp;omega)))
  clear hb HH
  have HO:=Lib.hid BO
  obtain⟨xl,yl,zl⟩:=BL
  obtain⟨xo,yo,zo⟩:=BO
  obtain⟨xp,yp,zp⟩:=BP
  go_wp2_with fail
  refine abs_post (F:=fun W=>Blk W (w.heap.size+1) #[.int .i64 0,.int .i64 0,.int .i64 0,.int .i64 0,.int .i64 0,.int .i64 0,.int .i64 0,.int .i64 0]∧Below w.heap.size w W) ⟨?_,?_⟩ ?_
  ·exact((((((((HO.out.set 0 (by simp) _).set 1 (by simp) _).set 2 (by simp) _).set 3 (by simp) _).set 4 (by simp) _).set 5 (by simp) _).set 6 (by simp) _).set 7 (by simp) _)
  ·repeat (with_reducible first|exact HB.out|refine bel_drewN ?_ _|refine bel_drew ?_|refine Below.alloc ?_ (by have:=HB.out.size;simp [World.setCell];omega) _|refine Below.setCell ?_ (by first|(simp;done)|(simp;omega)) _)
  rintro V ⟨B6,hbv⟩
  exact bodyPost_ret (v:=.tuple #[.agg #[.int .i64 0,.int .i64 0,.int .i64 0,.int .i64 0,.int .i64 0,.int .i64 0,.int .i64 0,.int .i64 0],.int .i64 2]) (by simp [results,Tryz.results83,go_sem,B6.cell]) rfl ⟨by rw [HR.out];try rfl,hbv⟩
end Go.Proofs.YtfaflahfjgnphaaGreatDoor
