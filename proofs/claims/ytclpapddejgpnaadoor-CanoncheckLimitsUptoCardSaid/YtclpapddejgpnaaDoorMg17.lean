/- The texts Ref08, Obj08, Obj08b, ObjNum, Den, Ref12 (what is wanted of them), one after the other. -/
import Derived.Test.YtclpapddejgpnaaDoorMg16
namespace Go.Proofs.YtclpapddejgpnaaDoor
open Go.ChangeShapes Go.WideShapes Go.ChangeAt Go.RowKit
set_option linter.unusedVariables false
set_option linter.unusedSimpArgs false
set_option maxRecDepth 100000
theorem decP_bd (x:Int)(h0:0≤x)(h1:x<18446744073709551616):0≤(decP x).k∧(decP x).k≤3∧-536870912≤(decP x).o∧(decP x).o≤536870911∧0≤(decP x).d∧(decP x).d≤65535∧0≤(decP x).p∧(decP x).p≤65535∧0≤(decP x).el∧(decP x).el≤7∧0≤(decP x).c∧(decP x).c≤536870911∧0≤(decP x).lo:=by
 rcases decP_vld x h0 h1 with ⟨k0,a1,a2,a3,a4,a5,a6,a7,a8,a9,a10,a11,a12⟩|⟨k0,a1,a2,a3,a4,a5,a6,a7,a8,a9,a10,a11,a12⟩|⟨k0,a1,a2,a3,a4,a5,a6,a7,a8,a9,a10⟩|⟨k0,a1,a2,a3,a4,a5,a6,a7,a8,a9,a10,a11⟩<;>omega
theorem followF_bd {ls:List (List Int)}(hw:Wd2 ls)(hm:ls.length≤140737488355328)(hf:∀j,(seg ls j).length≤140737488355328)(s a:Int):
  0≤(followF ls s a).w∧(followF ls s a).w<18446744073709551616∧0≤(followF ls s a).s∧(followF ls s a).s≤140737488355328∧0≤(followF ls s a).b∧(followF ls s a).b≤140737488355329:=by
 have q1:=wordV_bd hw s a
 have q2:=wordV_bd hw (wordV ls s a / 4294967296) (wordV ls s a % 4294967296 / 8)
 have q3:=wordV_bd hw (wordV ls s a / 4294967296) (wordV ls s a % 4294967296 / 8+1)
 unfold followF
 split
 ·simp [folE]
 ·rename_i h1
  have h1':hasB ls s a=true:=by simpa using h1
  unfold hasB at h1'
  have h7:=of_decide_eq_true h1'
  have h8:=hf s.toNat
  split
  ·simp only;omega
  ·split
   ·simp [folE]
   ·split
    ·split
     ·simp [folE]
     ·simp only;omega
    ·split
     ·simp [folE]
     ·split
      ·simp [folE]
      ·simp only;omega
structure Ob where
 k:Int
 sg:Int
 at':Int
 d:Int
 p:Int
 el:Int
 n:Int
 cost:Int
def ob0:Ob:=⟨0,0,0,0,0,0,0,0⟩
def compF (ls:List (List Int))(s st c cost:Int):Ob×Int:=
 if (decP (wordV ls s st)).k≠0∨(decP (wordV ls s st)).o<0∨c<(decP (wordV ls s st)).o*((decP (wordV ls s st)).d+(decP (wordV ls s st)).p) then (ob0,5)
 else (⟨2,s,st+1,(decP (wordV ls s st)).d,(decP (wordV ls s st)).p,7,(decP (wordV ls s st)).o,if (decP (wordV ls s st)).d+(decP (wordV ls s st)).p=0 then cost+(decP (wordV ls s st)).o else cost⟩,0)
def objP (ls:List (List Int))(q:Ptr)(s b:Int):Ob×Int:=
 if q.k=3 then (ob0,if q.lo=0 then 6 else 4)
 else if q.k=0 then (if inB ls s (b+q.o) (q.d+q.p)=true then (⟨1,s,b+q.o,q.d,q.p,0,0,q.d+q.p⟩,0) else (ob0,2))
 else if inB ls s (b+q.o) (wordsI q.el q.c)=false then (ob0,2)
 else if q.el=7 then compF ls s (b+q.o) q.c (wordsI q.el q.c)
 else (⟨2,s,b+q.o,0,0,q.el,q.c,wordsI q.el q.c⟩,0)
def objF (ls:List (List Int))(s a:Int):Ob×Int:=
 if (followF ls s a).e≠0∨(followF ls s a).w=0 then (ob0,(followF ls s a).e)
 else objP ls (decP (followF ls s a).w) (followF ls s a).s (followF ls s a).b
theorem Sg.alloc {w:World}{A:Option Addr}{ls:List (List Int)}(h:Sg w A ls)(o:Obj):Sg (w.alloc o) A ls:=h.below ((Below.refl _ _).alloc (Nat.le_refl _) o) (Nat.le_refl _)
theorem two_new {w w1:World}{cs ds:Array Value}{T U:TypeId}(hb:Below ((w.alloc (.cells cs T)).alloc (.cells ds U)).heap.size ((w.alloc (.cells cs T)).alloc (.cells ds U)) w1):
  (∀o,w1.cell? ⟨w.heap.size,o,none⟩=cs[o]?)∧(∀o,w1.cell? ⟨w.heap.size+1,o,none⟩=ds[o]?)∧(∀o,w1.frozen? ⟨w.heap.size,o,none⟩=false)∧(∀o,w1.frozen? ⟨w.heap.size+1,o,none⟩=false)∧w.heap.size+2≤w1.heap.size∧Below w.heap.size w w1:=by
 refine⟨blk_below (blk_alloc (blk_new w cs T) (by simp) _) hb (by simp;omega),?_,fun o=>?_,fun o=>?_,?_,?_⟩
 ·have h:=blk_below (blk_new (w.alloc (.cells cs T)) ds U) hb (by simp)
  simpa using h
 ·rw [hb.frozen (p:=⟨w.heap.size,o,none⟩) (by simp;omega)]
  simp
 ·rw [hb.frozen (p:=⟨w.heap.size+1,o,none⟩) (by simp)]
  simp
 ·have h:=hb.size
  simpa using h
 ·exact((Below.refl _ _).alloc (Nat.le_refl _) _).alloc (by simp) _|>.trans (hb.mono (by simp;omega))
theorem two_on {w w1 w2:World}{cs ds:Array Value}(x6:∀o,w1.cell? ⟨w.heap.size,o,none⟩=cs[o]?)(x8:∀o,w1.cell? ⟨w.heap.size+1,o,none⟩=ds[o]?)(y6:∀o,w1.frozen? ⟨w.heap.size,o,none⟩=false)(y8:∀o,w1.frozen? ⟨w.heap.size+1,o,none⟩=false)(hz:w.heap.size+2≤w1.heap.size)(hB:Below w.heap.size w w1)(hb:Below w1.heap.size w1 w2):
  (∀o,w2.cell? ⟨w.heap.size,o,none⟩=cs[o]?)∧(∀o,w2.cell? ⟨w.heap.size+1,o,none⟩=ds[o]?)∧(∀o,w2.frozen? ⟨w.heap.size,o,none⟩=false)∧(∀o,w2.frozen? ⟨w.heap.size+1,o,none⟩=false)∧w.heap.size<w2.heap.size∧w.heap.size+1<w2.heap.size∧Below w.heap.size w w2:=by
 have h:=hb.size
 refine⟨blk_below x6 hb (by omega),blk_below x8 hb (by omega),fun o=>?_,fun o=>?_,by omega,by omega,hB.trans (hb.mono (by omega))⟩
 ·rw [hb.frozen (p:=⟨w.heap.size,o,none⟩) (by show w.heap.size<_;omega)]
  exact y6 o
 ·rw [hb.frozen (p:=⟨w.heap.size+1,o,none⟩) (by show w.heap.size+1<_;omega)]
  exact y8 o
theorem blk_set {W:World}{b:Nat}{cs:Array Value}(x:∀o,W.cell? ⟨b,o,none⟩=cs[o]?)(k:Nat)(hk:k<cs.size)(v:Value):∀o,(W.setCell ⟨b,k,none⟩ v).cell? ⟨b,o,none⟩=(cs.setIfInBounds k v)[o]?:=by
 intro o
 by_cases e:k=o
 ·subst e
  rw [World.cell?_setCell_same' _ _ _ (by rw [x k];simp [hk])]
  simp [hk]
 ·rw [World.cell?_setCell_other W ⟨b,k,none⟩ ⟨b,o,none⟩ v (by intro h;injection h with _ h2;exact e h2),x o]
  simp [Array.getElem?_setIfInBounds_ne e]
theorem RefInB_is (A:Option Addr)(c:Nat)(ls:List (List Int))(s a n:Int)(b:Bool)(w:World)(hs:Sg w A ls)(hm:ls.length≤140737488355328)(hb:inB ls s a n=b):
  Calls Tryd.prog 69 #[.slice A ls.length c,.int .i64 s,.int .i64 a,.int .i64 n] w fun e w'=>e=.returned (.bool b)∧w=w':=by
 subst hb
 exact RefInBounds_any A c ls s a n w hs hm
set_option maxRecDepth 100000 in
set_option maxHeartbeats 2000000 in
theorem Object1 (A:Option Addr)(c:Nat)(ls:List (List Int))(s a:Int)(w:World)(hs:Sg w A ls)(hw:Wd2 ls)(hm:ls.length≤140737488355328)(hf:∀j,(seg ls j).length≤140737488355328)(h1:(followF ls s a).e≠0):
  Calls Tryd.prog 42 #[.slice A ls.length c,.int .i64 s,.int .i64 a] w fun e w'=>e=.returned (.tuple #[.agg #[.int .i64 (objF ls s a).1.k,.int .i64 (objF ls s a).1.sg,.int .i64 (objF ls s a).1.at',.int .i64 (objF ls s a).1.d,.int .i64 (objF ls s a).1.p,.int .i64 (objF ls s a).1.el,.int .i64 (objF ls s a).1.n,.int .i64 (objF ls s a).1.cost],.int .i64 (objF ls s a).2])∧Below w.heap.size w w':=by
 have HF:Hid (objF ls s a=(ob0,(followF ls s a).e)):=Lib.hid (by simp [objF,h1])
 have HFOL:=Lib.hid (fun w2 hs2=>RefFollow_any A c ls s a w2 hs2 hw hm hf)
 have hbd:=followF_bd hw hm hf s a
 have HW:=Lib.hid hw
 have Hs:=Lib.hid hs
 have hpd:=decP_bd (followF ls s a).w hbd.1 hbd.2.1
 generalize hq:followF ls s a=q at *
 clear hs hw hf hq
 go_enter Tryd.func42,Tryd.ntmps42
 go_wp2_with fail
 refine(HFOL.out _ ((Hs.out.alloc _).alloc _)).mono ?_
 rintro e w1 ⟨rfl,hb1⟩
 obtain⟨x6,x8,y6,y8,hz1,hb2⟩:=two_new hb1
 have HB:=Lib.hid hb2
 clear hb1 hb2 HFOL
 have t1:(q.e != 0)=true:=by simpa using h1
 go_wp2
 refine bodyPost_ret (v:=.tuple #[.agg #[.int .i64 (0),.int .i64 (0),.int .i64 (0),.int .i64 (0),.int .i64 (0),.int .i64 (0),.int .i64 (0),.int .i64 (0)],.int .i64 q.e]) (by simp [results,Tryd.results42,go_sem,x6]) rfl ⟨by rw [HF.out];rfl,?_⟩
 repeat with_reducible refine Below.setCell ?_ (by simp) _
 exact HB.out
set_option maxRecDepth 100000 in
set_option maxHeartbeats 2000000 in
theorem Object2 (A:Option Addr)(c:Nat)(ls:List (List Int))(s a:Int)(w:World)(hs:Sg w A ls)(hw:Wd2 ls)(hm:ls.length≤140737488355328)(hf:∀j,(seg ls j).length≤140737488355328)(h1:(followF ls s a).e=0)(h2:(followF ls s a).w=0):
  Calls Tryd.prog 42 #[.slice A ls.length c,.int .i64 s,.int .i64 a] w fun e w'=>e=.returned (.tuple #[.agg #[.int .i64 (objF ls s a).1.k,.int .i64 (objF ls s a).1.sg,.int .i64 (objF ls s a).1.at',.int .i64 (objF ls s a).1.d,.int .i64 (objF ls s a).1.p,.int .i64 (objF ls s a).1.el,.int .i64 (objF ls s a).1.n,.int .i64 (objF ls s a).1.cost],.int .i64 (objF ls s a).2])∧Below w.heap.size w w':=by
 have HF:Hid (objF ls s a=(ob0,0)):=Lib.hid (by simp [objF,h1,h2])
 have HFOL:=Lib.hid (fun w2 hs2=>RefFollow_any A c ls s a w2 hs2 hw hm hf)
 have hbd:=followF_bd hw hm hf s a
 have HW:=Lib.hid hw
 have Hs:=Lib.hid hs
 have hpd:=decP_bd (followF ls s a).w hbd.1 hbd.2.1
 generalize hq:followF ls s a=q at *
 clear hs hw hf hq
 go_enter Tryd.func42,Tryd.ntmps42
 go_wp2_with fail
 refine(HFOL.out _ ((Hs.out.alloc _).alloc _)).mono ?_
 rintro e w1 ⟨rfl,hb1⟩
 obtain⟨x6,x8,y6,y8,hz1,hb2⟩:=two_new hb1
 have HB:=Lib.hid hb2
 clear hb1 hb2 HFOL
 have t1:(q.e != 0)=false:=by simpa using h1
 have t2:(q.w==0)=true:=by simpa using h2
 go_wp2
 refine bodyPost_ret (v:=.tuple #[.agg #[.int .i64 (0),.int .i64 (0),.int .i64 (0),.int .i64 (0),.int .i64 (0),.int .i64 (0),.int .i64 (0),.int .i64 (0)],.int .i64 0]) (by simp [results,Tryd.results42,go_sem,x6]) rfl ⟨by rw [HF.out];rfl,?_⟩
 repeat with_reducible refine Below.setCell ?_ (by simp) _
 exact HB.out
set_option maxRecDepth 100000 in
set_option maxHeartbeats 2000000 in
theorem Object3 (A:Option Addr)(c:Nat)(ls:List (List Int))(s a:Int)(w:World)(hs:Sg w A ls)(hw:Wd2 ls)(hm:ls.length≤140737488355328)(hf:∀j,(seg ls j).length≤140737488355328)(h1:(followF ls s a).e=0)(h2:¬(followF ls s a).w=0)(h3:(decP (followF ls s a).w).k=3):
  Calls Tryd.prog 42 #[.slice A ls.length c,.int .i64 s,.int .i64 a] w fun e w'=>e=.returned (.tuple #[.agg #[.int .i64 (objF ls s a).1.k,.int .i64 (objF ls s a).1.sg,.int .i64 (objF ls s a).1.at',.int .i64 (objF ls s a).1.d,.int .i64 (objF ls s a).1.p,.int .i64 (objF ls s a).1.el,.int .i64 (objF ls s a).1.n,.int .i64 (objF ls s a).1.cost],.int .i64 (objF ls s a).2])∧Below w.heap.size w w':=by
 have HF:Hid (objF ls s a=(ob0,if (decP (followF ls s a).w).lo=0 then 6 else 4)):=Lib.hid (by simp [objF,objP,h1,h2,h3])
 have HFOL:=Lib.hid (fun w2 hs2=>RefFollow_any A c ls s a w2 hs2 hw hm hf)
 have hbd:=followF_bd hw hm hf s a
 have HW:=Lib.hid hw
 have Hs:=Lib.hid hs
 have hpd:=decP_bd (followF ls s a).w hbd.1 hbd.2.1
 generalize hq:followF ls s a=q at *
 clear hs hw hf hq
 go_enter Tryd.func42,Tryd.ntmps42
 go_wp2_with fail
 refine(HFOL.out _ ((Hs.out.alloc _).alloc _)).mono ?_
 rintro e w1 ⟨rfl,hb1⟩
 obtain⟨x6,x8,y6,y8,hz1,hb2⟩:=two_new hb1
 have HB:=Lib.hid hb2
 clear hb1 hb2 HFOL
 have t1:(q.e != 0)=false:=by simpa using h1
 have t2:(q.w==0)=false:=by simpa using h2
 go_wp2_with fail
 refine(RefDecode_any _ _ hbd.1 hbd.2.1).mono ?_
 rintro e w2 ⟨rfl,hb3⟩
 obtain⟨u6,u8,v6,v8,hz2,hz3,hb4⟩:=two_on x6 x8 y6 y8 hz1 HB.out hb3
 have HB2:=Lib.hid hb4
 clear hb3 hb4 HB x6 x8 y6 y8 hz1
 go_wp2_with fail
 ·rename_i hlo
  have hlo':(decP q.w).lo=0:=by simpa using hlo
  rw [hlo'] at HF
  have k8:∀o,((((((((w2.setCell ⟨w.heap.size,0,none⟩ (.int .i64 (0))).setCell ⟨w.heap.size,1,none⟩ (.int .i64 (0))).setCell ⟨w.heap.size,2,none⟩ (.int .i64 (0))).setCell ⟨w.heap.size,3,none⟩ (.int .i64 (0))).setCell ⟨w.heap.size,4,none⟩ (.int .i64 (0))).setCell ⟨w.heap.size,5,none⟩ (.int .i64 (0))).setCell ⟨w.heap.size,6,none⟩ (.int .i64 (0))).setCell ⟨w.heap.size,7,none⟩ (.int .i64 (0))).cell? ⟨w.heap.size,o,none⟩=(#[.int .i64 (0),.int .i64 (0),.int .i64 (0),.int .i64 (0),.int .i64 (0),.int .i64 (0),.int .i64 (0),.int .i64 (0)]:Array Value)[o]?:=(blk_set (blk_set (blk_set (blk_set (blk_set (blk_set (blk_set (blk_set u6 0 (by simp) (.int .i64 (0))) 1 (by simp) (.int .i64 (0))) 2 (by simp) (.int .i64 (0))) 3 (by simp) (.int .i64 (0))) 4 (by simp) (.int .i64 (0))) 5 (by simp) (.int .i64 (0))) 6 (by simp) (.int .i64 (0))) 7 (by simp) (.int .i64 (0)))
  have B8:Below w.heap.size w ((((((((w2.setCell ⟨w.heap.size,0,none⟩ (.int .i64 (0))).setCell ⟨w.heap.size,1,none⟩ (.int .i64 (0))).setCell ⟨w.heap.size,2,none⟩ (.int .i64 (0))).setCell ⟨w.heap.size,3,none⟩ (.int .i64 (0))).setCell ⟨w.heap.size,4,none⟩ (.int .i64 (0))).setCell ⟨w.heap.size,5,none⟩ (.int .i64 (0))).setCell ⟨w.heap.size,6,none⟩ (.int .i64 (0))).setCell ⟨w.heap.size,7,none⟩ (.int .i64 (0))):=((((((((HB2.out.setCell (Nat.le_refl _) _).setCell (Nat.le_refl _) _).setCell (Nat.le_refl _) _).setCell (Nat.le_refl _) _).setCell (Nat.le_refl _) _).setCell (Nat.le_refl _) _).setCell (Nat.le_refl _) _).setCell (Nat.le_refl _) _)
  have k8:=blk_alloc k8 (by simp [World.setCell];omega) (.cells #[.int .i64 3,.int .i64 (decP q.w).o,.int .i64 (decP q.w).d,.int .i64 (decP q.w).p,.int .i64 (decP q.w).el,.int .i64 (decP q.w).c,.bool (decP q.w).db,.int .i64 (decP q.w).pa,.int .u32 (decP q.w).sg,.int .u32 (decP q.w).lo] 65)
  have B8:=B8.alloc (by simp [World.setCell];omega) (.cells #[.int .i64 3,.int .i64 (decP q.w).o,.int .i64 (decP q.w).d,.int .i64 (decP q.w).p,.int .i64 (decP q.w).el,.int .i64 (decP q.w).c,.bool (decP q.w).db,.int .i64 (decP q.w).pa,.int .u32 (decP q.w).sg,.int .u32 (decP q.w).lo] 65)
  generalize (((((((((w2.setCell ⟨w.heap.size,0,none⟩ (.int .i64 (0))).setCell ⟨w.heap.size,1,none⟩ (.int .i64 (0))).setCell ⟨w.heap.size,2,none⟩ (.int .i64 (0))).setCell ⟨w.heap.size,3,none⟩ (.int .i64 (0))).setCell ⟨w.heap.size,4,none⟩ (.int .i64 (0))).setCell ⟨w.heap.size,5,none⟩ (.int .i64 (0))).setCell ⟨w.heap.size,6,none⟩ (.int .i64 (0))).setCell ⟨w.heap.size,7,none⟩ (.int .i64 (0))).alloc (.cells #[.int .i64 3,.int .i64 (decP q.w).o,.int .i64 (decP q.w).d,.int .i64 (decP q.w).p,.int .i64 (decP q.w).el,.int .i64 (decP q.w).c,.bool (decP q.w).db,.int .i64 (decP q.w).pa,.int .u32 (decP q.w).sg,.int .u32 (decP q.w).lo] 65))=V at *
  exact bodyPost_ret (v:=.tuple #[.agg #[.int .i64 (0),.int .i64 (0),.int .i64 (0),.int .i64 (0),.int .i64 (0),.int .i64 (0),.int .i64 (0),.int .i64 (0)],.int .i64 6]) (by simp [results,Tryd.results42,go_sem,k8]) rfl ⟨by rw [HF.out];rfl,B8⟩
 ·rename_i hlo
  have hlo':¬(decP q.w).lo=0:=by simpa using hlo
  rw [if_neg hlo'] at HF
  have k8:∀o,((((((((w2.setCell ⟨w.heap.size,0,none⟩ (.int .i64 (0))).setCell ⟨w.heap.size,1,none⟩ (.int .i64 (0))).setCell ⟨w.heap.size,2,none⟩ (.int .i64 (0))).setCell ⟨w.heap.size,3,none⟩ (.int .i64 (0))).setCell ⟨w.heap.size,4,none⟩ (.int .i64 (0))).setCell ⟨w.heap.size,5,none⟩ (.int .i64 (0))).setCell ⟨w.heap.size,6,none⟩ (.int .i64 (0))).setCell ⟨w.heap.size,7,none⟩ (.int .i64 (0))).cell? ⟨w.heap.size,o,none⟩=(#[.int .i64 (0),.int .i64 (0),.int .i64 (0),.int .i64 (0),.int .i64 (0),.int .i64 (0),.int .i64 (0),.int .i64 (0)]:Array Value)[o]?:=(blk_set (blk_set (blk_set (blk_set (blk_set (blk_set (blk_set (blk_set u6 0 (by simp) (.int .i64 (0))) 1 (by simp) (.int .i64 (0))) 2 (by simp) (.int .i64 (0))) 3 (by simp) (.int .i64 (0))) 4 (by simp) (.int .i64 (0))) 5 (by simp) (.int .i64 (0))) 6 (by simp) (.int .i64 (0))) 7 (by simp) (.int .i64 (0)))
  have B8:Below w.heap.size w ((((((((w2.setCell ⟨w.heap.size,0,none⟩ (.int .i64 (0))).setCell ⟨w.heap.size,1,none⟩ (.int .i64 (0))).setCell ⟨w.heap.size,2,none⟩ (.int .i64 (0))).setCell ⟨w.heap.size,3,none⟩ (.int .i64 (0))).setCell ⟨w.heap.size,4,none⟩ (.int .i64 (0))).setCell ⟨w.heap.size,5,none⟩ (.int .i64 (0))).setCell ⟨w.heap.size,6,none⟩ (.int .i64 (0))).setCell ⟨w.heap.size,7,none⟩ (.int .i64 (0))):=((((((((HB2.out.setCell (Nat.le_refl _) _).setCell (Nat.le_refl _) _).setCell (Nat.le_refl _) _).setCell (Nat.le_refl _) _).setCell (Nat.le_refl _) _).setCell (Nat.le_refl _) _).setCell (Nat.le_refl _) _).setCell (Nat.le_refl _) _)
  have k8:=blk_alloc k8 (by simp [World.setCell];omega) (.cells #[.int .i64 3,.int .i64 (decP q.w).o,.int .i64 (decP q.w).d,.int .i64 (decP q.w).p,.int .i64 (decP q.w).el,.int .i64 (decP q.w).c,.bool (decP q.w).db,.int .i64 (decP q.w).pa,.int .u32 (decP q.w).sg,.int .u32 (decP q.w).lo] 65)
  have B8:=B8.alloc (by simp [World.setCell];omega) (.cells #[.int .i64 3,.int .i64 (decP q.w).o,.int .i64 (decP q.w).d,.int .i64 (decP q.w).p,.int .i64 (decP q.w).el,.int .i64 (decP q.w).c,.bool (decP q.w).db,.int .i64 (decP q.w).pa,.int .u32 (decP q.w).sg,.int .u32 (decP q.w).lo] 65)
  generalize (((((((((w2.setCell ⟨w.heap.size,0,none⟩ (.int .i64 (0))).setCell ⟨w.heap.size,1,none⟩ (.int .i64 (0))).setCell ⟨w.heap.size,2,none⟩ (.int .i64 (0))).setCell ⟨w.heap.size,3,none⟩ (.int .i64 (0))).setCell ⟨w.heap.size,4,none⟩ (.int .i64 (0))).setCell ⟨w.heap.size,5,none⟩ (.int .i64 (0))).setCell ⟨w.heap.size,6,none⟩ (.int .i64 (0))).setCell ⟨w.heap.size,7,none⟩ (.int .i64 (0))).alloc (.cells #[.int .i64 3,.int .i64 (decP q.w).o,.int .i64 (decP q.w).d,.int .i64 (decP q.w).p,.int .i64 (decP q.w).el,.int .i64 (decP q.w).c,.bool (decP q.w).db,.int .i64 (decP q.w).pa,.int .u32 (decP q.w).sg,.int .u32 (decP q.w).lo] 65))=V at *
  exact bodyPost_ret (v:=.tuple #[.agg #[.int .i64 (0),.int .i64 (0),.int .i64 (0),.int .i64 (0),.int .i64 (0),.int .i64 (0),.int .i64 (0),.int .i64 (0)],.int .i64 4]) (by simp [results,Tryd.results42,go_sem,k8]) rfl ⟨by rw [HF.out];rfl,B8⟩
theorem wordsI_lim (e c:Int)(h0:0≤c)(h1:c≤536870911):0≤wordsI e c∧wordsI e c≤536870912:=by
 have h:=bitsI_mul e c h0
 unfold wordsI
 split<;>omega
set_option maxRecDepth 100000 in
set_option maxHeartbeats 2000000 in
theorem Object4 (A:Option Addr)(c:Nat)(ls:List (List Int))(s a:Int)(w:World)(hs:Sg w A ls)(hw:Wd2 ls)(hm:ls.length≤140737488355328)(hf:∀j,(seg ls j).length≤140737488355328)(h1:(followF ls s a).e=0)(h2:¬(followF ls s a).w=0)(h3:(decP (followF ls s a).w).k=0):
  Calls Tryd.prog 42 #[.slice A ls.length c,.int .i64 s,.int .i64 a] w fun e w'=>e=.returned (.tuple #[.agg #[.int .i64 (objF ls s a).1.k,.int .i64 (objF ls s a).1.sg,.int .i64 (objF ls s a).1.at',.int .i64 (objF ls s a).1.d,.int .i64 (objF ls s a).1.p,.int .i64 (objF ls s a).1.el,.int .i64 (objF ls s a).1.n,.int .i64 (objF ls s a).1.cost],.int .i64 (objF ls s a).2])∧Below w.heap.size w w':=by
 have HF:Hid (objF ls s a=if inB ls (followF ls s a).s ((followF ls s a).b+(decP (followF ls s a).w).o) ((decP (followF ls s a).w).d+(decP (followF ls s a).w).p)=true then (⟨1,(followF ls s a).s,(followF ls s a).b+(decP (followF ls s a).w).o,(decP (followF ls s a).w).d,(decP (followF ls s a).w).p,0,0,(decP (followF ls s a).w).d+(decP (followF ls s a).w).p⟩,0) else (ob0,2)):=Lib.hid (by simp [objF,objP,h1,h2,h3])
 have HFOL:=Lib.hid (fun w2 hs2=>RefFollow_any A c ls s a w2 hs2 hw hm hf)
 have hbd:=followF_bd hw hm hf s a
 have HW:=Lib.hid hw
 have Hs:=Lib.hid hs
 have hpd:=decP_bd (followF ls s a).w hbd.1 hbd.2.1
 generalize hq:followF ls s a=q at *
 clear hs hw hf hq
 go_enter Tryd.func42,Tryd.ntmps42
 go_wp2_with fail
 refine(HFOL.out _ ((Hs.out.alloc _).alloc _)).mono ?_
 rintro e w1 ⟨rfl,hb1⟩
 have B6:=(((Blk.fresh w _ _).alloc _).below hb1)
 have B8:=((Blk.fresh (w.alloc _) _ _).below hb1)
 have HB:Hid (Below w.heap.size w w1):=Lib.hid ((((Below.refl _ _).alloc (Nat.le_refl _) _).alloc (by simp) _).trans (hb1.mono (by simp;omega)))
 rw [World.size_alloc] at B8
 clear hb1 HFOL
 have t1:(q.e != 0)=false:=by simpa using h1
 have t2:(q.w==0)=false:=by simpa using h2
 go_wp2_with fail
 refine(RefDecode_any _ _ hbd.1 hbd.2.1).mono ?_
 rintro e w2 ⟨rfl,hb3⟩
 have B6:=B6.below hb3
 have B8:=B8.below hb3
 have hsz:=HB.out.size
 have HB:Hid (Below w.heap.size w w2):=Lib.hid (HB.out.trans (hb3.mono hsz))
 clear hb3 hsz
 have H6:=Lib.hid B6
 have H8:=Lib.hid B8
 obtain⟨x6,y6,z6⟩:=B6
 obtain⟨x8,y8,z8⟩:=B8
 generalize decP q.w=p at *
 go_wp2_with fail
 refine abs_world (F:=fun W=>Blk W w.heap.size #[.int .i64 (0),.int .i64 (0),.int .i64 (0),.int .i64 (0),.int .i64 (0),.int .i64 (0),.int .i64 (0),.int .i64 (0)]∧Blk W (w.heap.size+1) #[.int .i64 (1),.int .i64 (q.s),.int .i64 (q.b+p.o),.int .i64 (p.d),.int .i64 (p.p),.int .i64 (0),.int .i64 (0),.int .i64 (p.d+p.p)]∧Below w.heap.size w W) ⟨?_,?_,?_⟩ ?_
 ·repeat (with_reducible first|exact H6.out|refine Blk.alloc ?_ _|refine Blk.other ?_ (by simp;try omega) _)
 ·exact((((((H8.out.set 1 (by simp) _).set 2 (by simp) _).set 0 (by simp) _).set 3 (by simp) _).set 4 (by simp) _).set 7 (by simp) _).alloc _
 ·repeat (with_reducible first|exact HB.out|refine Below.alloc ?_ (by simp [World.setCell];omega) _|refine Below.setCell ?_ (by simp) _)
 rintro W ⟨B6,B8,hbw⟩
 have HB:=Lib.hid hbw
 clear hbw x6 y6 z6 x8 y8 z8 H6 H8
 cases hin:inB ls q.s (q.b+p.o) (p.d+p.p) with
 | true=>
  refine(RefInB_is _ _ _ _ _ _ _ _ (Hs.out.below HB.out (Nat.le_refl _)) hm hin).mono ?_
  rintro e w' ⟨rfl,rfl⟩
  rw [hin,if_pos rfl] at HF
  clear hin
  have H6:=Lib.hid B6
  have H8:=Lib.hid B8
  obtain⟨x6,y6,z6⟩:=B6
  obtain⟨x8,y8,z8⟩:=B8
  go_wp2_with fail
  refine abs_post (F:=fun W=>Blk W w.heap.size #[.int .i64 (1),.int .i64 (q.s),.int .i64 (q.b+p.o),.int .i64 (p.d),.int .i64 (p.p),.int .i64 (0),.int .i64 (0),.int .i64 (p.d+p.p)]∧Below w.heap.size w W) ⟨?_,?_⟩ ?_
  ·exact((((((((H6.out.set 0 (by simp) _).set 1 (by simp) _).set 2 (by simp) _).set 3 (by simp) _).set 4 (by simp) _).set 5 (by simp) _).set 6 (by simp) _).set 7 (by simp) _)
  ·repeat (with_reducible first|exact HB.out|refine Below.alloc ?_ (by simp [World.setCell];omega) _|refine Below.setCell ?_ (by simp) _)
  rintro V ⟨B6,hbv⟩
  exact bodyPost_ret (v:=.tuple #[.agg #[.int .i64 (1),.int .i64 (q.s),.int .i64 (q.b+p.o),.int .i64 (p.d),.int .i64 (p.p),.int .i64 (0),.int .i64 (0),.int .i64 (p.d+p.p)],.int .i64 0]) (by simp [results,Tryd.results42,go_sem,B6.cell]) rfl ⟨by rw [HF.out];try rfl,hbv⟩
 | false=>
  refine(RefInB_is _ _ _ _ _ _ _ _ (Hs.out.below HB.out (Nat.le_refl _)) hm hin).mono ?_
  rintro e w' ⟨rfl,rfl⟩
  rw [hin,if_neg Bool.false_ne_true] at HF
  clear hin
  have H6:=Lib.hid B6
  have H8:=Lib.hid B8
  obtain⟨x6,y6,z6⟩:=B6
  obtain⟨x8,y8,z8⟩:=B8
  go_wp2_with fail
  refine abs_post (F:=fun W=>Blk W w.heap.size #[.int .i64 (0),.int .i64 (0),.int .i64 (0),.int .i64 (0),.int .i64 (0),.int .i64 (0),.int .i64 (0),.int .i64 (0)]∧Below w.heap.size w W) ⟨?_,?_⟩ ?_
  ·exact((((((((H6.out.set 0 (by simp) _).set 1 (by simp) _).set 2 (by simp) _).set 3 (by simp) _).set 4 (by simp) _).set 5 (by simp) _).set 6 (by simp) _).set 7 (by simp) _)
  ·repeat (with_reducible first|exact HB.out|refine Below.alloc ?_ (by simp [World.setCell];omega) _|refine Below.setCell ?_ (by simp) _)
  rintro V ⟨B6,hbv⟩
  exact bodyPost_ret (v:=.tuple #[.agg #[.int .i64 (0),.int .i64 (0),.int .i64 (0),.int .i64 (0),.int .i64 (0),.int .i64 (0),.int .i64 (0),.int .i64 (0)],.int .i64 2]) (by simp [results,Tryd.results42,go_sem,B6.cell]) rfl ⟨by rw [HF.out];try rfl,hbv⟩
set_option maxRecDepth 100000 in
set_option maxHeartbeats 2000000 in
theorem Object5 (A:Option Addr)(c:Nat)(ls:List (List Int))(s a:Int)(w:World)(hs:Sg w A ls)(hw:Wd2 ls)(hm:ls.length≤140737488355328)(hf:∀j,(seg ls j).length≤140737488355328)(h1:(followF ls s a).e=0)(h2:¬(followF ls s a).w=0)(h3:¬(decP (followF ls s a).w).k=3)(h4:¬(decP (followF ls s a).w).k=0):
  Calls Tryd.prog 42 #[.slice A ls.length c,.int .i64 s,.int .i64 a] w fun e w'=>e=.returned (.tuple #[.agg #[.int .i64 (objF ls s a).1.k,.int .i64 (objF ls s a).1.sg,.int .i64 (objF ls s a).1.at',.int .i64 (objF ls s a).1.d,.int .i64 (objF ls s a).1.p,.int .i64 (objF ls s a).1.el,.int .i64 (objF ls s a).1.n,.int .i64 (objF ls s a).1.cost],.int .i64 (objF ls s a).2])∧Below w.heap.size w w':=by
 have HF:Hid (objF ls s a=if inB ls (followF ls s a).s ((followF ls s a).b+(decP (followF ls s a).w).o) (wordsI (decP (followF ls s a).w).el (decP (followF ls s a).w).c)=false then (ob0,2) else if (decP (followF ls s a).w).el=7 then compF ls (followF ls s a).s ((followF ls s a).b+(decP (followF ls s a).w).o) (decP (followF ls s a).w).c (wordsI (decP (followF ls s a).w).el (decP (followF ls s a).w).c) else (⟨2,(followF ls s a).s,(followF ls s a).b+(decP (followF ls s a).w).o,0,0,(decP (followF ls s a).w).el,(decP (followF ls s a).w).c,wordsI (decP (followF ls s a).w).el (decP (followF ls s a).w).c⟩,0)):=Lib.hid (by simp [objF,objP,h1,h2,h3,h4])
 have HFOL:=Lib.hid (fun w2 hs2=>RefFollow_any A c ls s a w2 hs2 hw hm hf)
 have hbd:=followF_bd hw hm hf s a
 have HW:=Lib.hid hw
 have Hs:=Lib.hid hs
 have hpd:=decP_bd (followF ls s a).w hbd.1 hbd.2.1
 generalize hq:followF ls s a=q at *
 clear hs hw hf hq
 go_enter Tryd.func42,Tryd.ntmps42
 go_wp2_with fail
 refine(HFOL.out _ ((Hs.out.alloc _).alloc _)).mono ?_
 rintro e w1 ⟨rfl,hb1⟩
 have B6:=(((Blk.fresh w _ _).alloc _).below hb1)
 have B8:=((Blk.fresh (w.alloc _) _ _).below hb1)
 have HB:Hid (Below w.heap.size w w1):=Lib.hid ((((Below.refl _ _).alloc (Nat.le_refl _) _).alloc (by simp) _).trans (hb1.mono (by simp;omega)))
 rw [World.size_alloc] at B8
 clear hb1 HFOL
 have t1:(q.e != 0)=false:=by simpa using h1
 have t2:(q.w==0)=false:=by simpa using h2
 go_wp2_with fail
 refine(RefDecode_any _ _ hbd.1 hbd.2.1).mono ?_
 rintro e w2 ⟨rfl,hb3⟩
 have B6:=B6.below hb3
 have B8:=B8.below hb3
 have hsz:=HB.out.size
 have HB:Hid (Below w.heap.size w w2):=Lib.hid (HB.out.trans (hb3.mono hsz))
 clear hb3 hsz
 have H6:=Lib.hid B6
 have H8:=Lib.hid B8
 obtain⟨x6,y6,z6⟩:=B6
 obtain⟨x8,y8,z8⟩:=B8
 generalize decP q.w=p at *
 have t3:(p.k==3)=false:=by rw [beq_eq_false_iff_ne];exact h3
 have t4:(p.k==0)=false:=by rw [beq_eq_false_iff_ne];exact h4
 clear h3 h4
 have hwb:0≤wordsI p.el p.c∧wordsI p.el p.c≤536870912:=wordsI_lim p.el p.c (by omega) (by omega)
 go_wp2_with fail
 refine(RefWords6_any _ _ _ (by omega) (by omega)).mono ?_
 rintro e w' ⟨rfl,rfl⟩
 generalize wordsI p.el p.c=cw at *
 go_wp2_with fail
 refine abs_world (F:=fun W=>Blk W w.heap.size #[.int .i64 (0),.int .i64 (0),.int .i64 (0),.int .i64 (0),.int .i64 (0),.int .i64 (0),.int .i64 (0),.int .i64 (0)]∧Blk W (w.heap.size+1) #[.int .i64 (2),.int .i64 (q.s),.int .i64 (q.b+p.o),.int .i64 (0),.int .i64 (0),.int .i64 (p.el),.int .i64 (p.c),.int .i64 (cw)]∧Blk W w2.heap.size #[.int .i64 p.k,.int .i64 p.o,.int .i64 p.d,.int .i64 p.p,.int .i64 p.el,.int .i64 p.c,.bool p.db,.int .i64 p.pa,.int .u32 p.sg,.int .u32 p.lo]∧Below w.heap.size w W) ⟨?_,?_,?_,?_⟩ ?_
 ·repeat (with_reducible first|exact H6.out|refine Blk.alloc ?_ _|refine Blk.other ?_ (by simp;try omega) _)
 ·exact((((((H8.out.set 1 (by simp) _).set 2 (by simp) _).set 0 (by simp) _).set 5 (by simp) _).set 6 (by simp) _).set 7 (by simp) _).alloc _
 ·exact Blk.new (by simp [World.setCell])
 ·repeat (with_reducible first|exact HB.out|refine Below.alloc ?_ (by simp [World.setCell];omega) _|refine Below.setCell ?_ (by simp) _)
 rintro W ⟨B6,B8,BP,hbw⟩
 have HB:=Lib.hid hbw
 clear hbw x6 y6 x8 y8 H6 H8
 cases hin:inB ls q.s (q.b+p.o) cw with
 | false=>
  refine(RefInB_is _ _ _ _ _ _ _ _ (Hs.out.below HB.out (Nat.le_refl _)) hm hin).mono ?_
  rintro e w' ⟨rfl,rfl⟩
  rw [hin,if_pos rfl] at HF
  clear hin
  have H6:=Lib.hid B6
  have H8:=Lib.hid B8
  obtain⟨x6,y6,z6⟩:=B6
  obtain⟨x8,y8,z8⟩:=B8
  have HP:=Lib.hid BP
  obtain⟨xp,yp,zp⟩:=BP
  go_wp2_with fail
  refine abs_post (F:=fun W=>Blk W w.heap.size #[.int .i64 (0),.int .i64 (0),.int .i64 (0),.int .i64 (0),.int .i64 (0),.int .i64 (0),.int .i64 (0),.int .i64 (0)]∧Below w.heap.size w W) ⟨?_,?_⟩ ?_
  ·exact((((((((H6.out.set 0 (by simp) _).set 1 (by simp) _).set 2 (by simp) _).set 3 (by simp) _).set 4 (by simp) _).set 5 (by simp) _).set 6 (by simp) _).set 7 (by simp) _)
  ·repeat (with_reducible first|exact HB.out|refine Below.alloc ?_ (by simp [World.setCell];omega) _|refine Below.setCell ?_ (by simp) _)
  rintro V ⟨B6,hbv⟩
  exact bodyPost_ret (v:=.tuple #[.agg #[.int .i64 (0),.int .i64 (0),.int .i64 (0),.int .i64 (0),.int .i64 (0),.int .i64 (0),.int .i64 (0),.int .i64 (0)],.int .i64 2]) (by simp [results,Tryd.results42,go_sem,B6.cell]) rfl ⟨by rw [HF.out];try rfl,hbv⟩
 | true=>
  refine(RefInB_is _ _ _ _ _ _ _ _ (Hs.out.below HB.out (Nat.le_refl _)) hm hin).mono ?_
  rintro e w' ⟨rfl,rfl⟩
  rw [hin,if_neg (by simp)] at HF
  clear hin
  have H6:=Lib.hid B6
  have H8:=Lib.hid B8
  obtain⟨x6,y6,z6⟩:=B6
  obtain⟨x8,y8,z8⟩:=B8
  have HP:=Lib.hid BP
  obtain⟨xp,yp,zp⟩:=BP
  by_cases h7:p.el=7
  ·rw [if_pos h7] at HF
   rw [h7] at xp x8
   go_wp2_with fail
   refine(RefWord_any _ _ _ _ _ _ (Hs.out.below HB.out (Nat.le_refl _)) hm).mono ?_
   rintro e w' ⟨rfl,rfl⟩
   have hwd:=wordV_bd HW.out q.s (q.b+p.o)
   have htd:=decP_bd _ hwd.1 hwd.2
   have HG:Hid (objF ls s a=if (decP (wordV ls q.s (q.b+p.o))).k≠0∨(decP (wordV ls q.s (q.b+p.o))).o<0∨p.c<(decP (wordV ls q.s (q.b+p.o))).o*((decP (wordV ls q.s (q.b+p.o))).d+(decP (wordV ls q.s (q.b+p.o))).p) then (ob0,5)
    else (⟨2,q.s,q.b+p.o+1,(decP (wordV ls q.s (q.b+p.o))).d,(decP (wordV ls q.s (q.b+p.o))).p,7,(decP (wordV ls q.s (q.b+p.o))).o,if (decP (wordV ls q.s (q.b+p.o))).d+(decP (wordV ls q.s (q.b+p.o))).p=0 then cw+(decP (wordV ls q.s (q.b+p.o))).o else cw⟩,0)):=Lib.hid (by rw [HF.out];rfl)
   clear HF
   generalize wordV ls q.s (q.b+p.o)=x at *
   go_wp2_with fail
   refine(RefDecode_any _ _ hwd.1 hwd.2).mono ?_
   rintro e w3 ⟨rfl,hb5⟩
   have B6:=H6.out.below hb5
   have B8:=H8.out.below hb5
   have BP:=HP.out.below hb5
   have HB:Hid (Below w.heap.size w w3):=Lib.hid (HB.out.trans (hb5.mono HB.out.size))
   clear hb5 x6 y6 z6 x8 y8 z8 xp yp zp H6 H8 HP
   have H6:=Lib.hid B6
   have H8:=Lib.hid B8
   obtain⟨x6,y6,z6⟩:=B6
   obtain⟨x8,y8,z8⟩:=B8
   obtain⟨xp,yp,zp⟩:=BP
   generalize decP x=t at *
   by_cases hk:t.k=0
   ·have t5:(t.k != 0)=false:=by simpa using hk
    by_cases ho:t.o<0
    ·have HE:Hid (objF ls s a=(ob0,5)):=Lib.hid (by rw [HG.out,if_pos (Or.inr (Or.inl ho))])
     clear hk
     go_wp2_with fail
     refine abs_post (F:=fun W=>Blk W w.heap.size #[.int .i64 (0),.int .i64 (0),.int .i64 (0),.int .i64 (0),.int .i64 (0),.int .i64 (0),.int .i64 (0),.int .i64 (0)]∧Below w.heap.size w W) ⟨?_,?_⟩ ?_
     ·exact((((((((H6.out.set 0 (by simp) _).set 1 (by simp) _).set 2 (by simp) _).set 3 (by simp) _).set 4 (by simp) _).set 5 (by simp) _).set 6 (by simp) _).set 7 (by simp) _).alloc _
     ·repeat (with_reducible first|exact HB.out|refine Below.alloc ?_ (by simp [World.setCell];omega) _|refine Below.setCell ?_ (by simp) _)
     rintro V ⟨B6,hbv⟩
     exact bodyPost_ret (v:=.tuple #[.agg #[.int .i64 (0),.int .i64 (0),.int .i64 (0),.int .i64 (0),.int .i64 (0),.int .i64 (0),.int .i64 (0),.int .i64 (0)],.int .i64 5]) (by simp [results,Tryd.results42,go_sem,B6.cell]) rfl ⟨by rw [HE.out];try rfl,hbv⟩
    ·have hm0:0≤t.o*(t.d+t.p):=Int.mul_nonneg (by omega) (by omega)
     have hm1:t.o*(t.d+t.p)≤536870911*131070:=Int.mul_le_mul (by omega) (by omega) (by omega) (by omega)
     by_cases hp:p.c<t.o*(t.d+t.p)
     ·have HE:Hid (objF ls s a=(ob0,5)):=Lib.hid (by rw [HG.out,if_pos (Or.inr (Or.inr hp))])
      clear hk
      go_wp2_with fail
      refine abs_post (F:=fun W=>Blk W w.heap.size #[.int .i64 (0),.int .i64 (0),.int .i64 (0),.int .i64 (0),.int .i64 (0),.int .i64 (0),.int .i64 (0),.int .i64 (0)]∧Below w.heap.size w W) ⟨?_,?_⟩ ?_
      ·exact((((((((H6.out.set 0 (by simp) _).set 1 (by simp) _).set 2 (by simp) _).set 3 (by simp) _).set 4 (by simp) _).set 5 (by simp) _).set 6 (by simp) _).set 7 (by simp) _).alloc _
      ·repeat (with_reducible first|exact HB.out|refine Below.alloc ?_ (by simp [World.setCell];omega) _|refine Below.setCell ?_ (by simp) _)
      rintro V ⟨B6,hbv⟩
      exact bodyPost_ret (v:=.tuple #[.agg #[.int .i64 (0),.int .i64 (0),.int .i64 (0),.int .i64 (0),.int .i64 (0),.int .i64 (0),.int .i64 (0),.int .i64 (0)],.int .i64 5]) (by simp [results,Tryd.results42,go_sem,B6.cell]) rfl ⟨by rw [HE.out];try rfl,hbv⟩
     ·have HE:Hid (objF ls s a=(⟨2,q.s,q.b+p.o+1,t.d,t.p,7,t.o,if t.d+t.p=0 then cw+t.o else cw⟩,0)):=Lib.hid (by rw [HG.out,if_neg (by omega)])
      clear hk HG
      by_cases hz:t.d+t.p=0
      ·rw [if_pos hz] at HE
       have t6:(t.d+t.p==0)=true:=by simpa using hz
       clear hz
       go_wp2_with fail
       refine abs_post (F:=fun W=>Blk W w.heap.size #[.int .i64 (2),.int .i64 (q.s),.int .i64 (q.b+p.o+1),.int .i64 (t.d),.int .i64 (t.p),.int .i64 (7),.int .i64 (t.o),.int .i64 (cw+t.o)]∧Below w.heap.size w W) ⟨?_,?_⟩ ?_
       ·exact(((((((((((((H6.out.other (by simp) _).other (by simp) _).other (by simp) _).other (by simp) _).other (by simp) _).set 0 (by simp) _).set 1 (by simp) _).set 2 (by simp) _).set 3 (by simp) _).set 4 (by simp) _).set 5 (by simp) _).set 6 (by simp) _).set 7 (by simp) _).alloc _
       ·repeat (with_reducible first|exact HB.out|refine Below.alloc ?_ (by simp [World.setCell];omega) _|refine Below.setCell ?_ (by simp) _)
       rintro V ⟨B6,hbv⟩
       exact bodyPost_ret (v:=.tuple #[.agg #[.int .i64 (2),.int .i64 (q.s),.int .i64 (q.b+p.o+1),.int .i64 (t.d),.int .i64 (t.p),.int .i64 (7),.int .i64 (t.o),.int .i64 (cw+t.o)],.int .i64 0]) (by simp [results,Tryd.results42,go_sem,B6.cell]) rfl ⟨by rw [HE.out];try rfl,hbv⟩
      ·rw [if_neg hz] at HE
       have t6:(t.d+t.p==0)=false:=by simpa using hz
       clear hz
       go_wp2_with fail
       refine abs_post (F:=fun W=>Blk W w.heap.size #[.int .i64 (2),.int .i64 (q.s),.int .i64 (q.b+p.o+1),.int .i64 (t.d),.int .i64 (t.p),.int .i64 (7),.int .i64 (t.o),.int .i64 (cw)]∧Below w.heap.size w W) ⟨?_,?_⟩ ?_
       ·exact((((((((((((H6.out.other (by simp) _).other (by simp) _).other (by simp) _).other (by simp) _).set 0 (by simp) _).set 1 (by simp) _).set 2 (by simp) _).set 3 (by simp) _).set 4 (by simp) _).set 5 (by simp) _).set 6 (by simp) _).set 7 (by simp) _).alloc _
       ·repeat (with_reducible first|exact HB.out|refine Below.alloc ?_ (by simp [World.setCell];omega) _|refine Below.setCell ?_ (by simp) _)
       rintro V ⟨B6,hbv⟩
       exact bodyPost_ret (v:=.tuple #[.agg #[.int .i64 (2),.int .i64 (q.s),.int .i64 (q.b+p.o+1),.int .i64 (t.d),.int .i64 (t.p),.int .i64 (7),.int .i64 (t.o),.int .i64 (cw)],.int .i64 0]) (by simp [results,Tryd.results42,go_sem,B6.cell]) rfl ⟨by rw [HE.out];try rfl,hbv⟩
   ·have t5:(t.k != 0)=true:=by simpa using hk
    have HE:Hid (objF ls s a=(ob0,5)):=Lib.hid (by rw [HG.out,if_pos (Or.inl hk)])
    clear hk
    go_wp2_with fail
    refine abs_post (F:=fun W=>Blk W w.heap.size #[.int .i64 (0),.int .i64 (0),.int .i64 (0),.int .i64 (0),.int .i64 (0),.int .i64 (0),.int .i64 (0),.int .i64 (0)]∧Below w.heap.size w W) ⟨?_,?_⟩ ?_
    ·exact((((((((H6.out.set 0 (by simp) _).set 1 (by simp) _).set 2 (by simp) _).set 3 (by simp) _).set 4 (by simp) _).set 5 (by simp) _).set 6 (by simp) _).set 7 (by simp) _).alloc _
    ·repeat (with_reducible first|exact HB.out|refine Below.alloc ?_ (by simp [World.setCell];omega) _|refine Below.setCell ?_ (by simp) _)
    rintro V ⟨B6,hbv⟩
    exact bodyPost_ret (v:=.tuple #[.agg #[.int .i64 (0),.int .i64 (0),.int .i64 (0),.int .i64 (0),.int .i64 (0),.int .i64 (0),.int .i64 (0),.int .i64 (0)],.int .i64 5]) (by simp [results,Tryd.results42,go_sem,B6.cell]) rfl ⟨by rw [HE.out];try rfl,hbv⟩
  ·rw [if_neg h7] at HF
   have t7:(p.el != 7)=true:=by simpa using h7
   clear h7
   go_wp2_with fail
   refine abs_post (F:=fun W=>Blk W w.heap.size #[.int .i64 (2),.int .i64 (q.s),.int .i64 (q.b+p.o),.int .i64 (0),.int .i64 (0),.int .i64 (p.el),.int .i64 (p.c),.int .i64 (cw)]∧Below w.heap.size w W) ⟨?_,?_⟩ ?_
   ·exact((((((((H6.out.set 0 (by simp) _).set 1 (by simp) _).set 2 (by simp) _).set 3 (by simp) _).set 4 (by simp) _).set 5 (by simp) _).set 6 (by simp) _).set 7 (by simp) _)
   ·repeat (with_reducible first|exact HB.out|refine Below.alloc ?_ (by simp [World.setCell];omega) _|refine Below.setCell ?_ (by simp) _)
   rintro V ⟨B6,hbv⟩
   exact bodyPost_ret (v:=.tuple #[.agg #[.int .i64 (2),.int .i64 (q.s),.int .i64 (q.b+p.o),.int .i64 (0),.int .i64 (0),.int .i64 (p.el),.int .i64 (p.c),.int .i64 (cw)],.int .i64 0]) (by simp [results,Tryd.results42,go_sem,B6.cell]) rfl ⟨by rw [HF.out];try rfl,hbv⟩
theorem RefObject_any (A:Option Addr)(c:Nat)(ls:List (List Int))(s a:Int)(w:World)(hs:Sg w A ls)(hw:Wd2 ls)(hm:ls.length≤140737488355328)(hf:∀j,(seg ls j).length≤140737488355328):
  Calls Tryd.prog 42 #[.slice A ls.length c,.int .i64 s,.int .i64 a] w fun e w'=>e=.returned (.tuple #[.agg #[.int .i64 (objF ls s a).1.k,.int .i64 (objF ls s a).1.sg,.int .i64 (objF ls s a).1.at',.int .i64 (objF ls s a).1.d,.int .i64 (objF ls s a).1.p,.int .i64 (objF ls s a).1.el,.int .i64 (objF ls s a).1.n,.int .i64 (objF ls s a).1.cost],.int .i64 (objF ls s a).2])∧Below w.heap.size w w':=by
 by_cases h1:(followF ls s a).e=0
 ·by_cases h2:(followF ls s a).w=0
  ·exact Object2 A c ls s a w hs hw hm hf h1 h2
  ·by_cases h3:(decP (followF ls s a).w).k=3
   ·exact Object3 A c ls s a w hs hw hm hf h1 h2 h3
   ·by_cases h4:(decP (followF ls s a).w).k=0
    ·exact Object4 A c ls s a w hs hw hm hf h1 h2 h4
    ·exact Object5 A c ls s a w hs hw hm hf h1 h2 h3 h4
 ·exact Object1 A c ls s a w hs hw hm hf h1
def eleO (o:Ob)(i:Int):Ob:=⟨1,o.sg,o.at'+i*(o.d+o.p),o.d,o.p,0,0,0⟩
theorem RefElement_any (o:Ob)(i:Int)(w:World)(h1:-9223372036854775808≤o.d+o.p)(h2:o.d+o.p≤9223372036854775807)(h3:-9223372036854775808≤i*(o.d+o.p))(h4:i*(o.d+o.p)≤9223372036854775807)(h5:-9223372036854775808≤o.at'+i*(o.d+o.p))(h6:o.at'+i*(o.d+o.p)≤9223372036854775807):
  Calls Tryd.prog 43 #[.agg #[.int .i64 o.k,.int .i64 o.sg,.int .i64 o.at',.int .i64 o.d,.int .i64 o.p,.int .i64 o.el,.int .i64 o.n,.int .i64 o.cost],.int .i64 i] w fun e w'=>e=.returned (.agg #[.int .i64 (eleO o i).k,.int .i64 (eleO o i).sg,.int .i64 (eleO o i).at',.int .i64 (eleO o i).d,.int .i64 (eleO o i).p,.int .i64 (eleO o i).el,.int .i64 (eleO o i).n,.int .i64 (eleO o i).cost])∧Below w.heap.size w w':=by
 unfold eleO
 go_enter Tryd.func43,Tryd.ntmps43
 go_wp2
 refine bodyPost_ret (v:=.agg #[.int .i64 1,.int .i64 o.sg,.int .i64 (o.at'+i*(o.d+o.p)),.int .i64 o.d,.int .i64 o.p,.int .i64 0,.int .i64 0,.int .i64 0]) (by simp [results,Tryd.results43,go_sem]) rfl ⟨rfl,?_⟩
 repeat (with_reducible first|exact Below.refl _ _|refine Below.alloc ?_ (by simp;try omega) _|refine Below.setCell ?_ (by simp;try omega) _)
theorem inB_iff {ls:List (List Int)}{s a n:Int}:inB ls s a n=true↔0≤s∧s<ls.length∧0≤a∧0≤n∧a+n≤(seg ls s.toNat).length:=by
 unfold inB
 rw [decide_eq_true_iff]
 constructor<;>intro h<;>omega
theorem objF_cases {ls:List (List Int)}(hw:Wd2 ls)(hm:ls.length≤140737488355328)(hf:∀j,(seg ls j).length≤140737488355328)(s a:Int):
  ((objF ls s a).1=ob0∧((objF ls s a).2=0∨2≤(objF ls s a).2∧(objF ls s a).2≤6)) ∨
  ((objF ls s a).2=0∧(objF ls s a).1.k=1∧(objF ls s a).1.el=0∧(objF ls s a).1.n=0∧0≤(objF ls s a).1.d∧(objF ls s a).1.d≤65535∧0≤(objF ls s a).1.p∧(objF ls s a).1.p≤65535∧(objF ls s a).1.cost=(objF ls s a).1.d+(objF ls s a).1.p∧inB ls (objF ls s a).1.sg (objF ls s a).1.at' ((objF ls s a).1.d+(objF ls s a).1.p)=true) ∨
  ((objF ls s a).2=0∧(objF ls s a).1.k=2∧0≤(objF ls s a).1.el∧(objF ls s a).1.el≤6∧0≤(objF ls s a).1.n∧(objF ls s a).1.n≤536870911∧(objF ls s a).1.d=0∧(objF ls s a).1.p=0∧(objF ls s a).1.cost=wordsI (objF ls s a).1.el (objF ls s a).1.n∧inB ls (objF ls s a).1.sg (objF ls s a).1.at' (objF ls s a).1.cost=true) ∨
  ((objF ls s a).2=0∧(objF ls s a).1.k=2∧(objF ls s a).1.el=7∧0≤(objF ls s a).1.n∧(objF ls s a).1.n≤536870911∧0≤(objF ls s a).1.d∧(objF ls s a).1.d≤65535∧0≤(objF ls s a).1.p∧(objF ls s a).1.p≤65535 ∧
   ∃c,0≤c∧c≤536870911∧(objF ls s a).1.n*((objF ls s a).1.d+(objF ls s a).1.p)≤c∧inB ls (objF ls s a).1.sg ((objF ls s a).1.at'-1) (c+1)=true∧(objF ls s a).1.cost=c+1+if (objF ls s a).1.d+(objF ls s a).1.p=0 then (objF ls s a).1.n else 0):=by
 have hbd:=followF_bd hw hm hf s a
 have hpd:=decP_bd (followF ls s a).w hbd.1 hbd.2.1
 have he:(followF ls s a).e=0∨2≤(followF ls s a).e∧(followF ls s a).e≤3:=by
  unfold followF
  repeat' split
  all_goals simp [folE]
 unfold objF
 generalize followF ls s a=q at *
 by_cases h1:q.e≠0∨q.w=0
 ·rw [if_pos h1]
  exact .inl ⟨rfl,by show q.e=0∨2≤q.e∧q.e≤6;omega⟩
 rw [if_neg h1]
 unfold objP
 generalize decP q.w=p at *
 by_cases h3:p.k=3
 ·rw [if_pos h3]
  refine .inl ⟨rfl,.inr ?_⟩
  show 2≤(if p.lo=0 then (6:Int) else 4)∧(if p.lo=0 then (6:Int) else 4)≤6
  split<;>omega
 rw [if_neg h3]
 by_cases h4:p.k=0
 ·rw [if_pos h4]
  by_cases h5:inB ls q.s (q.b+p.o) (p.d+p.p)=true
  ·rw [if_pos h5]
   exact .inr (.inl ⟨rfl,rfl,rfl,rfl,by show 0≤p.d;omega,by show p.d≤65535;omega,by show 0≤p.p;omega,by show p.p≤65535;omega,rfl,h5⟩)
  ·rw [if_neg h5]
   exact .inl ⟨rfl,.inr ⟨by show (2:Int)≤2;omega,by show (2:Int)≤6;omega⟩⟩
 rw [if_neg h4]
 by_cases h5:inB ls q.s (q.b+p.o) (wordsI p.el p.c)=false
 ·rw [if_pos h5]
  exact .inl ⟨rfl,.inr ⟨by show (2:Int)≤2;omega,by show (2:Int)≤6;omega⟩⟩
 rw [if_neg h5]
 have h5':inB ls q.s (q.b+p.o) (wordsI p.el p.c)=true:=by simpa using h5
 by_cases h7:p.el=7
 ·rw [if_pos h7]
  have hwd:=wordV_bd hw q.s (q.b+p.o)
  have htd:=decP_bd _ hwd.1 hwd.2
  unfold compF
  generalize decP (wordV ls q.s (q.b+p.o))=t at *
  by_cases h8:t.k≠0∨t.o<0∨p.c<t.o*(t.d+t.p)
  ·rw [if_pos h8]
   exact .inl ⟨rfl,.inr ⟨by show (2:Int)≤5;omega,by show (5:Int)≤6;omega⟩⟩
  ·rw [if_neg h8]
   rw [h7] at h5'
   refine .inr (.inr (.inr ⟨rfl,rfl,rfl,by show 0≤t.o;omega,by show t.o≤536870911;omega,by show 0≤t.d;omega,by show t.d≤65535;omega,by show 0≤t.p;omega,by show t.p≤65535;omega,p.c,by omega,by omega,by show t.o*(t.d+t.p)≤p.c;omega,?_,?_⟩))
   ·show inB ls q.s (q.b+p.o+1-1) (p.c+1)=true
    rw [show q.b+p.o+1-1=q.b+p.o by omega]
    exact h5'
   ·show (if t.d+t.p=0 then wordsI p.el p.c+t.o else wordsI p.el p.c)=p.c+1+if t.d+t.p=0 then t.o else 0
    rw [h7]
    show (if t.d+t.p=0 then p.c+1+t.o else p.c+1)=_
    split<;>omega
 ·rw [if_neg h7]
  exact .inr (.inr (.inl ⟨rfl,rfl,by show 0≤p.el;omega,by show p.el≤6;omega,by show 0≤p.c;omega,by show p.c≤536870911;omega,rfl,rfl,rfl,h5'⟩))
structure Val where
 n:Nd
 m:Int
 e:Int
def errV (m e:Int):Val:=⟨nd0,m,e⟩
structure Vls where
 ks:List Nd
 m:Int
 e:Int
def runK (f:Int→Nat→Val)(m:Int):Nat→Vls
 | 0=>⟨[],m,0⟩
 | i+1=>if (runK f m i).e≠0 then runK f m i else if (f (runK f m i).m i).e≠0 then ⟨[],(f (runK f m i).m i).m,(f (runK f m i).m i).e⟩ else ⟨(runK f m i).ks++[(f (runK f m i).m i).n],(f (runK f m i).m i).m,0⟩
def datW (ls:List (List Int))(s a n:Int):List Int:=if inB ls s a n=true then sliceL ls s a n else []
def structV (val:Int→Int→Int→Val)(ls:List (List Int))(m:Int)(o:Ob):Val:=
 if (runK (fun m i=>val m o.sg (o.at'+o.d+i)) m o.p.toNat).e≠0 then errV (runK (fun m i=>val m o.sg (o.at'+o.d+i)) m o.p.toNat).m (runK (fun m i=>val m o.sg (o.at'+o.d+i)) m o.p.toNat).e
 else ⟨.mk 1 0 0 (bytesOf (datW ls o.sg o.at' o.d)) (runK (fun m i=>val m o.sg (o.at'+o.d+i)) m o.p.toNat).ks,(runK (fun m i=>val m o.sg (o.at'+o.d+i)) m o.p.toNat).m,0⟩
def elemV (val:Int→Int→Int→Val)(ls:List (List Int))(o:Ob)(m:Int)(i:Nat):Val:=if o.el=6 then val m o.sg (o.at'+i) else structV val ls m (eleO o i)
def listV (val:Int→Int→Int→Val)(ls:List (List Int))(m:Int)(o:Ob):Val:=
 if (runK (elemV val ls o) m o.n.toNat).e≠0 then errV (runK (elemV val ls o) m o.n.toNat).m (runK (elemV val ls o) m o.n.toNat).e
 else ⟨.mk 2 o.el o.n [] (runK (elemV val ls o) m o.n.toNat).ks,(runK (elemV val ls o) m o.n.toNat).m,0⟩
def bodyV (val:Int→Int→Int→Val)(ls:List (List Int))(m:Int)(q:Ob×Int):Val:=
 if q.2≠0 then errV m q.2
 else if m<q.1.cost then errV m 8
 else if q.1.k=1 then structV val ls (m-q.1.cost) q.1
 else if q.1.el<6 then ⟨.mk 2 q.1.el q.1.n (trimL (bytesOf (datW ls q.1.sg q.1.at' q.1.cost)) q.1.el q.1.n) [],m-q.1.cost,0⟩
 else listV val ls (m-q.1.cost) q.1
def valV (ls:List (List Int)):Nat→Int→Int→Int→Val
 | 0,m,s,a=>if (followF ls s a).e≠0∨(followF ls s a).w=0 then errV m (followF ls s a).e else errV m 7
 | r+1,m,s,a=>if (followF ls s a).e≠0∨(followF ls s a).w=0 then errV m (followF ls s a).e else bodyV (valV ls r) ls m (objF ls s a)
theorem runK_keep {f:Int→Nat→Val}{m:Int}{i j:Nat}(h:(runK f m i).e≠0)(hij:i≤j):runK f m j=runK f m i:=by
  induction j with
  | zero => obtain rfl : i = 0 := by omega
            rfl
  | succ j ih=>
    by_cases e:i=j+1
    · subst e;rfl
    · have:=ih (by omega)
      show (if (runK f m j).e≠0 then runK f m j else _)=_
      rw [this,if_pos h]
theorem runK_ok {f:Int→Nat→Val}{m:Int}{i:Nat}(h:(runK f m i).e=0)(hf:(f (runK f m i).m i).e=0):runK f m (i+1)=⟨(runK f m i).ks++[(f (runK f m i).m i).n],(f (runK f m i).m i).m,0⟩:=by
 show (if (runK f m i).e≠0 then runK f m i else if (f (runK f m i).m i).e≠0 then _ else _)=_
 rw [if_neg (by rw [h];simp),if_neg (by rw [hf];simp)]
theorem runK_no {f:Int→Nat→Val}{m:Int}{i:Nat}(h:(runK f m i).e=0)(hf:(f (runK f m i).m i).e≠0):runK f m (i+1)=⟨[],(f (runK f m i).m i).m,(f (runK f m i).m i).e⟩:=by
 show (if (runK f m i).e≠0 then runK f m i else if (f (runK f m i).m i).e≠0 then _ else _)=_
 rw [if_neg (by rw [h];simp),if_pos hf]
theorem runK_length {f:Int→Nat→Val}{m:Int}:∀{i:Nat},(runK f m i).e=0→(runK f m i).ks.length=i
 | 0,_=>rfl
 | i+1,h=>by
  by_cases h1:(runK f m i).e=0
  ·by_cases h2:(f (runK f m i).m i).e=0
   ·rw [runK_ok h1 h2]
    simp [runK_length h1]
   ·rw [runK_no h1 h2] at h
    exact absurd h h2
  ·rw [runK_keep h1 (Nat.le_succ i)] at h
   exact absurd h h1
theorem runK_ind {f:Int→Nat→Val}{m:Int}(P:Int→Prop)(h0:P m):∀n,(∀m i,i<n→P m→P (f m i).m)→P (runK f m n).m
 | 0,_=>h0
 | n+1,hs=>by
  have ih:=runK_ind P h0 n (fun m i hi=>hs m i (by omega))
  by_cases h1:(runK f m n).e=0
  ·have h3:=hs _ n (by omega) ih
   by_cases h2:(f (runK f m n).m n).e=0
   ·rw [runK_ok h1 h2];exact h3
   ·rw [runK_no h1 h2];exact h3
  ·rw [runK_keep h1 (Nat.le_succ n)];exact ih
theorem structV_m {val:Int→Int→Int→Val}(hv:∀m s a,0≤m→0≤(val m s a).m∧(val m s a).m≤m)(ls:List (List Int))(m:Int)(o:Ob)(h:0≤m):0≤(structV val ls m o).m∧(structV val ls m o).m≤m:=by
 have h1:=runK_ind (f:=fun m i=>val m o.sg (o.at'+o.d+i)) (m:=m) (fun x=>0≤x∧x≤m) ⟨h,Int.le_refl _⟩ o.p.toNat (fun m' i _ hm=>by
  have:=hv m' o.sg (o.at'+o.d+i) hm.1
  show 0≤(val m' o.sg (o.at'+o.d+i)).m∧_
  omega)
 unfold structV
 split
 ·exact h1
 ·exact h1
theorem listV_m {val:Int→Int→Int→Val}(hv:∀m s a,0≤m→0≤(val m s a).m∧(val m s a).m≤m)(ls:List (List Int))(m:Int)(o:Ob)(h:0≤m):0≤(listV val ls m o).m∧(listV val ls m o).m≤m:=by
 have h1:=runK_ind (f:=elemV val ls o) (m:=m) (fun x=>0≤x∧x≤m) ⟨h,Int.le_refl _⟩ o.n.toNat (fun m' i _ hm=>by
  unfold elemV
  split
  ·have:=hv m' o.sg (o.at'+i) hm.1;omega
  ·have:=structV_m hv ls m' (eleO o i) hm.1;omega)
 unfold listV
 split
 ·exact h1
 ·exact h1
theorem objF_bd2 {ls:List (List Int)}(hw:Wd2 ls)(hm:ls.length≤40)(hf:∀j,(seg ls j).length≤20000000)(s a k sg at' d p el n cost e:Int)(hq:objF ls s a=(⟨k,sg,at',d,p,el,n,cost⟩,e)):
  0≤k∧k≤2∧0≤sg∧sg≤40∧0≤at'∧at'≤20000001∧0≤d∧d≤65535∧0≤p∧p≤65535∧0≤el∧el≤7∧0≤n∧n≤536870911∧0≤cost∧cost≤1073741824∧0≤e∧e≤6∧0≤n*(d+p)∧n*(d+p)≤20000000:=by
 have h:=objF_cases hw (by omega) (fun j=>by have:=hf j;omega) s a
 rw [hq] at h
 simp only [ob0,Ob.mk.injEq] at h
 rcases h with ⟨⟨rfl,rfl,rfl,rfl,rfl,rfl,rfl,rfl⟩,h2⟩|⟨rfl,rfl,rfl,rfl,h1,h2,h3,h4,rfl,h5⟩|⟨rfl,rfl,h1,h2,h3,h4,rfl,rfl,rfl,h5⟩|⟨rfl,rfl,rfl,h1,h2,h3,h4,h5,h6,c,h7,h8,h9,h10,rfl⟩
 ·omega
 ·have h6:=inB_iff.1 h5
  have h7:=hf sg.toNat
  have h8:(0:Int)*(d+p)=0:=Int.zero_mul _
  omega
 ·have h6:=inB_iff.1 h5
  have h7:=hf sg.toNat
  have h8:n*(0+0)=0:=Int.mul_zero _
  have h9:=wordsI_lim el n h3 h4
  omega
 ·have h11:=inB_iff.1 h10
  have h12:=hf sg.toNat
  have h13:0≤n*(d+p):=Int.mul_nonneg (by omega) (by omega)
  split<;>omega
theorem objF_num {ls:List (List Int)}(hw:Wd2 ls)(hm:ls.length≤40)(hf:∀j,(seg ls j).length≤20000000)(s a:Int){q:Ob×Int}(hq:objF ls s a=q):
  0≤q.1.k∧q.1.k≤2∧0≤q.1.sg∧q.1.sg≤40∧0≤q.1.at'∧q.1.at'≤20000001∧0≤q.1.d∧q.1.d≤65535∧0≤q.1.p∧q.1.p≤65535∧0≤q.1.el∧q.1.el≤7∧0≤q.1.n∧q.1.n≤536870911∧0≤q.1.cost∧q.1.cost≤1073741824∧0≤q.2∧q.2≤6∧0≤q.1.n*(q.1.d+q.1.p)∧q.1.n*(q.1.d+q.1.p)≤20000000:=by
 obtain⟨⟨k,sg,at',d,p,el,n,cost⟩,e⟩:=q
 exact objF_bd2 hw hm hf s a k sg at' d p el n cost e hq
theorem valV_m {ls:List (List Int)}(hw:Wd2 ls)(hm:ls.length≤40)(hf:∀j,(seg ls j).length≤20000000):∀r m s a,0≤m→0≤(valV ls r m s a).m∧(valV ls r m s a).m≤m
 | 0,m,s,a,h=>by
  unfold valV
  split<;>exact⟨h,Int.le_refl _⟩
 | r+1,m,s,a,h=>by
  have ih:=fun m s a h=>valV_m hw hm hf r m s a h
  unfold valV
  split
  ·exact⟨h,Int.le_refl _⟩
  ·have hc:0≤(objF ls s a).1.cost:=(objF_num hw hm hf s a rfl).2.2.2.2.2.2.2.2.2.2.2.2.2.2.1
   unfold bodyV
   generalize objF ls s a=q at *
   split
   ·exact⟨h,Int.le_refl _⟩
   ·split
    ·exact⟨h,Int.le_refl _⟩
    ·split
     ·have:=structV_m ih ls (m-q.1.cost) q.1 (by omega);omega
     ·split
      ·show 0≤m-q.1.cost∧m-q.1.cost≤m;omega
      ·have:=listV_m ih ls (m-q.1.cost) q.1 (by omega);omega
def ValC (A:Option Addr)(c:Nat)(ls:List (List Int))(D X O:Int)(r:Nat):Prop:=∀(m s a dep:Int) (w:World),Sg w A ls→0≤m→m≤4611686018427387904→0≤dep→dep≤1000→(D-dep+1).toNat=r →
 Calls Tryd.prog 26 #[.slice A ls.length c,.agg #[.int .i64 D,.int .i64 X,.int .i64 O],.agg #[.int .i64 m],.int .i64 s,.int .i64 a,.int .i64 dep] w fun e w'=>∃v,e=.returned (.tuple #[v,.agg #[.int .i64 (valV ls r m s a).m],.int .i64 (valV ls r m s a).e])∧NodF w.heap.size (valV ls r m s a).n v w'∧Below w.heap.size w w'
theorem OwnN.blk {base:Nat}{w:World}{v:Value}{ts:List Nd}(h:OwnN base w v ts):∀g,v.ownBlock=some g→base≤g∧g<w.heap.size:=by
 obtain⟨vs,h1,-⟩:=h
 exact h1.lt
theorem nod_zero (lo:Nat)(w:World):NodF lo nd0 (.agg #[.int .i64 0,.int .i64 0,.int .i64 0,.slice none 0 0,.slice none 0 0]) w:=⟨none,0,none,0,0,rfl,Nat.zero_le _,fun W _=>nd0_here W 0 (by decide)⟩
theorem sliceW {ls:List (List Int)}{A:Option Addr}{c:Nat}(hm:ls.length≤40)(hf:∀j,(seg ls j).length≤20000000)(s a n:Int)(w:World)(hs:Sg w A ls):
  Calls Tryd.prog 56 #[.slice A ls.length c,.int .i64 s,.int .i64 a,.int .i64 n] w fun e w'=>∃v b,e=.returned (.tuple #[v,.bool b])∧Got w' w.heap.size 32 .u64 v (datW ls s a n)∧Below w.heap.size w w':=by
 cases h:inB ls s a n with
 | false=>
  refine(RefSlice_no A c ls s a n w hs (by omega) h).mono ?_
  rintro e w' ⟨rfl,rfl⟩
  refine⟨_,_,rfl,?_,Below.refl _ _⟩
  unfold datW
  rw [if_neg (by rw [h];simp)]
  exact Got.empty _ _ _ _
 | true=>
  obtain⟨h1,h2,h3,h4,h5⟩:=inB_iff.1 h
  obtain⟨S,rfl⟩:=Int.eq_ofNat_of_zero_le h1
  obtain⟨K,rfl⟩:=Int.eq_ofNat_of_zero_le h3
  obtain⟨N,rfl⟩:=Int.eq_ofNat_of_zero_le h4
  have hl:=hf S
  rw [Int.toNat_natCast] at h5
  refine(RefSlice_yes A c ls S K N w hs (by omega) (by omega) (by omega) (by omega) h).mono ?_
  rintro e w' ⟨v,rfl,h6,h7⟩
  refine⟨_,_,rfl,?_,h7⟩
  unfold datW
  rw [if_pos h]
  exact h6
theorem datW_wds {ls:List (List Int)}(hw:Wd2 ls)(s a n:Int):Wds (datW ls s a n):=by
 unfold datW
 split
 ·intro z hz
  exact(hw.at s.toNat) z (List.mem_of_mem_drop (List.mem_of_mem_take hz))
 ·intro z hz;cases hz
theorem datW_length {ls:List (List Int)}(hf:∀j,(seg ls j).length≤20000000)(s a n:Int):(datW ls s a n).length≤20000000:=by
 unfold datW
 split
 ·unfold sliceL
  rw [List.length_take,List.length_drop]
  have:=hf s.toNat
  omega
 ·simp
set_option maxHeartbeats 8000000 in
set_option maxRecDepth 100000 in
theorem RefStruct12 (A:Option Addr)(c:Nat)(ls:List (List Int))(D X O:Int)(r:Nat)(hV:ValC A c ls D X O r)(hw:Wd2 ls)(hm:ls.length≤40)(hf:∀j,(seg ls j).length≤20000000)(m:Int)(o:Ob)(dep:Int)(w:World)(hs:Sg w A ls)(hm0:0≤m)(hm1:m≤4611686018427387904)
  (hd0:0≤dep) (hd1:dep≤999) (hr:(D-dep).toNat=r) (ho1:0≤o.at') (ho2:o.at'≤100000000000) (ho3:0≤o.d) (ho4:o.d≤65535) (ho5:0≤o.p) (ho6:o.p≤65535) :
  Calls Tryd.prog 55 #[.slice A ls.length c,.agg #[.int .i64 D,.int .i64 X,.int .i64 O],.agg #[.int .i64 m],.agg #[.int .i64 o.k,.int .i64 o.sg,.int .i64 o.at',.int .i64 o.d,.int .i64 o.p,.int .i64 o.el,.int .i64 o.n,.int .i64 o.cost],.int .i64 dep] w fun e w'=>∃v,e=.returned (.tuple #[v,.agg #[.int .i64 (structV (valV ls r) ls m o).m],.int .i64 (structV (valV ls r) ls m o).e])∧NodF w.heap.size (structV (valV ls r) ls m o).n v w'∧Below w.heap.size w w':=by
 have Hs:=Lib.hid hs
 have HV:=Lib.hid hV
 have HR:Hid ((D-(dep+1)+1).toNat=r):=Lib.hid (by omega)
 obtain⟨P,hP⟩:=Int.eq_ofNat_of_zero_le ho5
 have hPl:P≤65535:=by omega
 have HPE:=Lib.hid hP
 obtain⟨f,hfe⟩:∃f:Int→Nat→Val,f=fun (m:Int) (i:Nat)=>valV ls r m o.sg (o.at'+o.d+(i:Int)):=⟨_,rfl⟩
 have HFE:=Lib.hid hfe
 have HMB:=Lib.hid (fun (i:Nat)=>runK_ind (f:=f) (m:=m) (fun x=>0≤x∧x≤m) ⟨hm0,Int.le_refl _⟩ i (fun m' i _ hh=>by
  have h:=valV_m hw hm hf r m' o.sg (o.at'+o.d+i) hh.1
  rw [hfe]
  show 0≤(valV ls r m' o.sg (o.at'+o.d+i)).m∧(valV ls r m' o.sg (o.at'+o.d+i)).m≤m
  omega))
 have HSV:Hid (structV (valV ls r) ls m o=if (runK f m P).e≠0 then errV (runK f m P).m (runK f m P).e else ⟨.mk 1 0 0 (bytesOf (datW ls o.sg o.at' o.d)) (runK f m P).ks,(runK f m P).m,0⟩):=Lib.hid (by unfold structV;rw [hP,Int.toNat_natCast,hfe])
 have HSL:=Lib.hid (fun w' hs'=>sliceW (A:=A) (c:=c) hm hf o.sg o.at' o.d w' hs')
 have HDW:=Lib.hid (datW_wds hw o.sg o.at' o.d)
 have HDL:=Lib.hid (datW_length hf o.sg o.at' o.d)
 clear hs hV hfe hP hw hf
 generalize hsv:structV (valV ls r) ls m o=sv at *
 clear hsv
 generalize datW ls o.sg o.at' o.d=dw at *
 go_enter Tryd.func55,Tryd.ntmps55
 go_wp2_with fail
 refine abs_world (F:=fun W=>Blk W w.heap.size #[.int .i64 D,.int .i64 X,.int .i64 O]∧Blk W (w.heap.size+1) #[.int .i64 m]∧Blk W (w.heap.size+1+1) #[.int .i64 o.k,.int .i64 o.sg,.int .i64 o.at',.int .i64 o.d,.int .i64 o.p,.int .i64 o.el,.int .i64 o.n,.int .i64 o.cost]∧Blk W (w.heap.size+1+1+1) #[.int .i64 0,.int .i64 0,.int .i64 0,.slice none 0 0,.slice none 0 0]∧Blk W (w.heap.size+1+1+1+1) #[.int .i64 0]∧Blk W (w.heap.size+1+1+1+1+1) #[.int .i64 1,.int .i64 0,.int .i64 0,.slice none 0 0,.slice none 0 0]∧Below w.heap.size w W∧W.heap.size=w.heap.size+6) ⟨?_,?_,?_,?_,?_,?_,?_,?_⟩ ?_
 ·exact(((((Blk.fresh _ _ _).alloc _).alloc _).alloc _).alloc _).alloc _
 ·exact((((Blk.new (by simp)).alloc _).alloc _).alloc _).alloc _
 ·exact(((Blk.new (by simp)).alloc _).alloc _).alloc _
 ·exact((Blk.new (by simp)).alloc _).alloc _
 ·exact(Blk.new (by simp)).alloc _
 ·exact Blk.new (by simp)
 ·exact((((((Below.refl _ _).alloc (Nat.le_refl _) _).alloc (by simp) _).alloc (by simp;omega) _).alloc (by simp;omega) _).alloc (by simp;omega) _).alloc (by simp;omega) _
 ·simp
 rintro W ⟨h0,h1,h2,h3,h4,h5,hb,hsz⟩
 refine(HSL.out W (Hs.out.below hb (Nat.le_refl _))).mono ?_
 rintro e w1 ⟨v1,b1,rfl,hg1,hb1⟩
 obtain⟨A3,c3,rfl,hcl3,hcm3,hri3,hcn3⟩:=hg1.full
 have K0:=Lib.hid (h0.below hb1)
 have K1:=Lib.hid (h1.below hb1)
 have K2:=Lib.hid (h2.below hb1)
 have K3:=Lib.hid (h3.below hb1)
 have K4:=Lib.hid (h4.below hb1)
 have K5:=Lib.hid (h5.below hb1)
 have HB:=Lib.hid (bel_on hb hb1)
 have HBY:=Lib.hid (RefBytes_any A3 c3 dw w1 hri3 HDW.out (by have:=HDL.out;omega))
 have hsz1:w.heap.size+6≤w1.heap.size:=by have:=hb1.size;omega
 clear h0 h1 h2 h3 h4 h5 hb hsz hb1 hg1 hcl3 hcm3 hri3 hcn3
 go_wp2_with fail
 refine HBY.out.mono ?_
 rintro e w2 ⟨v2,rfl,hg2,hb2⟩
 obtain⟨A2,c2,rfl,hcl2,hcm2,hri2,hcn2⟩:=hg2.full
 have K0n:=Lib.hid (K0.out.below hb2)
 have k1:=K1.out.below hb2
 have K2n:=Lib.hid (K2.out.below hb2)
 have K3n:=Lib.hid (K3.out.below hb2)
 have K4n:=Lib.hid (K4.out.below hb2)
 have k5:=K5.out.below hb2
 have HBn:=Lib.hid (bel_on HB.out hb2)
 have HDT:=Lib.hid (hg2.mono (base':=w.heap.size+6) hsz1)
 have hsz2:w.heap.size+6≤w2.heap.size:=by have:=hb2.size;omega
 clear K0 K1 K2 K3 K4 K5 HB hb2 hg2 hcl2 hcm2 hri2 hcn2 HBY HDW
 have K0:=K0n
 have K1:=Lib.hid k1
 have K2:=K2n
 have K3:=K3n
 have K4:=K4n
 have K5:=Lib.hid k5
 have HB:=HBn
 clear K0n K2n K3n K4n HBn
 obtain⟨x1,y1,z1⟩:=k1
 obtain⟨x5,y5,z5⟩:=k5
 generalize hdl:(bytesOf dw).length=dl at *
 have HDLE:=Lib.hid hdl
 clear hdl
 go_wp2
 go_loopw [17] (fun i wr=>∃(j:Nat) (v:Value),j≤P∧i=.int .i64 j∧(runK f m j).e=0∧Blk wr w.heap.size #[.int .i64 D,.int .i64 X,.int .i64 O]∧Blk wr (w.heap.size+1+1) #[.int .i64 o.k,.int .i64 o.sg,.int .i64 o.at',.int .i64 o.d,.int .i64 o.p,.int .i64 o.el,.int .i64 o.n,.int .i64 o.cost]∧Blk wr (w.heap.size+1+1+1) #[.int .i64 0,.int .i64 0,.int .i64 0,.slice none 0 0,.slice none 0 0]∧Blk wr (w.heap.size+1+1+1+1) #[.int .i64 0]∧Blk wr (w.heap.size+1+1+1+1+1) #[.int .i64 1,.int .i64 0,.int .i64 0,.slice A2 dl c2,v]∧Blk wr w2.heap.size #[.int .i64 (runK f m j).m]∧OwnN (w2.heap.size+1) wr v (runK f m j).ks∧(∀q,w.heap.size+6≤q→q<w2.heap.size→wr.heap[q]?=w2.heap[q]?)∧w2.heap.size+1≤wr.heap.size∧Below w.heap.size w wr) (fun i _=>P-(intOf i).toNat)
 case atStart=>
  refine⟨0,.slice none 0 0,Nat.zero_le _,rfl,rfl,?_,?_,?_,?_,?_,?_,OwnN.empty _ _,?_,?_,?_⟩
  ·exact(K0.out.other (by simp;omega) _).alloc _
  ·exact(K2.out.other (by simp;omega) _).alloc _
  ·exact(K3.out.other (by simp;omega) _).alloc _
  ·exact(K4.out.other (by simp) _).alloc _
  ·exact(K5.out.set 3 (by simp) _).alloc _
  ·exact Blk.new (by simp [World.setCell])
  ·intro q h1 h2
   rw [Below.heap_alloc _ _ _ (by simp [World.setCell];omega),Below.heap_setCell _ _ _ _ (by show q≠w.heap.size+1+1+1+1+1;omega)]
  ·simp [World.setCell]
  ·exact(HB.out.setCell (by show w.heap.size≤w.heap.size+1+1+1+1+1;omega) _).alloc (by have:=HB.out.size;simp [World.setCell];omega) _
 case round=>
  obtain⟨j,v,hj,rfl,hej,h0,h2,h3,h4,h5,hq,hown,hdat,hszr,hbr⟩:=hrel
  clear K0 K1 K2 K3 K4 K5 HB x1 y1 z1 x5 y5 z5
  have K0:=Lib.hid h0
  have K2:=Lib.hid h2
  have K3:=Lib.hid h3
  have K4:=Lib.hid h4
  have K5:=Lib.hid h5
  have KQ:=Lib.hid hq
  have HOW:=Lib.hid hown
  have HDA:=Lib.hid hdat
  have HB:=Lib.hid hbr
  have HEJ:=Lib.hid hej
  clear h3 h4 h5 hown hdat hbr hej
  obtain⟨x0,y0,z0⟩:=h0
  obtain⟨x2,y2,z2⟩:=h2
  obtain⟨xq,yq,zq⟩:=hq
  have hmb:=HMB.out j
  by_cases hlt:j<P
  ·have hpi:(j:Int)<o.p:=by rw [HPE.out];omega
   generalize hrj:runK f m j=rj at *
   have HRJ:=Lib.hid hrj
   clear hrj
   have HVJ:=Lib.hid (HV.out rj.m o.sg (o.at'+o.d+j) (dep+1) wr (Hs.out.below HB.out (Nat.le_refl _)) hmb.1 (by omega) (by omega) (by omega) HR.out)
   have HFJ:Hid (valV ls r rj.m o.sg (o.at'+o.d+j)=f rj.m j):=Lib.hid (by rw [HFE.out])
   rw [HFJ.out] at HVJ
   generalize hfj:f rj.m j=fj at *
   have HFQ:=Lib.hid hfj
   clear HFJ hfj
   go_wp2_with fail
   refine HVJ.out.mono ?_
   rintro e w4 ⟨v4,rfl,⟨Ak,ck,Bk,ek,hik,rfl,hhk,hok⟩,hb4⟩
   have hvb:=(OwnN.blk HOW.out)
   have K0n:=Lib.hid (K0.out.below hb4)
   have K2n:=Lib.hid (K2.out.below hb4)
   have K3n:=Lib.hid (K3.out.below hb4)
   have K4n:=Lib.hid (K4.out.below hb4)
   have K5n:=Lib.hid (K5.out.below hb4)
   have KQn:=Lib.hid (KQ.out.below hb4)
   have HOWn:=Lib.hid (HOW.out.below hb4 (Nat.le_refl _))
   have HDAn:Hid (∀q,w.heap.size+6≤q→q<w2.heap.size→w4.heap[q]?=w2.heap[q]?):=Lib.hid (fun q h1 h2=>(hb4.block q (by omega)).trans (HDA.out q h1 h2))
   have HBn:=Lib.hid (bel_on HB.out hb4)
   have hsz4:=hb4.size
   have HNK:=Lib.hid hok
   clear K0 K2 K3 K4 K5 KQ HOW HDA HB hb4 hok x0 y0 z0 x2 y2 z2 xq yq zq HVJ
   have K0:=K0n
   have K2:=K2n
   have K3:=K3n
   have K4:=K4n
   have K5:=K5n
   have KQ:=KQn
   have HOW:=HOWn
   have HDA:=HDAn
   have HB:=HBn
   clear K0n K2n K3n K4n K5n KQn HOWn HDAn HBn
   by_cases hfe:fj.e=0
   ·have HFE0:=Lib.hid hfe
    have t20:(fj.e != 0)=false:=by rw [hfe];rfl
    clear hfe
    have yq:=(KQ.out.alloc (.cells #[.int .i64 fj.n.k,.int .i64 fj.n.e,.int .i64 fj.n.n,.slice Ak fj.n.d.length ck,.slice Bk fj.n.ks.length ek] 37)).cell
    have yf:=(KQ.out.alloc (.cells #[.int .i64 fj.n.k,.int .i64 fj.n.e,.int .i64 fj.n.n,.slice Ak fj.n.d.length ck,.slice Bk fj.n.ks.length ek] 37)).free
    have zq:=((KQ.out.alloc (.cells #[.int .i64 fj.n.k,.int .i64 fj.n.e,.int .i64 fj.n.n,.slice Ak fj.n.d.length ck,.slice Bk fj.n.ks.length ek] 37)).alloc (.cells #[.int .i64 fj.m] 51)).cell
    have zf:=((KQ.out.alloc (.cells #[.int .i64 fj.n.k,.int .i64 fj.n.e,.int .i64 fj.n.n,.slice Ak fj.n.d.length ck,.slice Bk fj.n.ks.length ek] 37)).alloc (.cells #[.int .i64 fj.m] 51)).free
    have z5:=((K5.out.alloc (.cells #[.int .i64 fj.n.k,.int .i64 fj.n.e,.int .i64 fj.n.n,.slice Ak fj.n.d.length ck,.slice Bk fj.n.ks.length ek] 37)).alloc (.cells #[.int .i64 fj.m] 51)).cell
    go_wp2_with (at_builtin;refine hold_it ?_)
    refine Lib.hid ?_
    refine abs_list (F:=fun W=>Blk W w.heap.size #[.int .i64 D,.int .i64 X,.int .i64 O]∧Blk W (w.heap.size+1+1) #[.int .i64 o.k,.int .i64 o.sg,.int .i64 o.at',.int .i64 o.d,.int .i64 o.p,.int .i64 o.el,.int .i64 o.n,.int .i64 o.cost]∧Blk W (w.heap.size+1+1+1) #[.int .i64 0,.int .i64 0,.int .i64 0,.slice none 0 0,.slice none 0 0]∧Blk W (w.heap.size+1+1+1+1) #[.int .i64 0]∧Blk W (w.heap.size+1+1+1+1+1) #[.int .i64 1,.int .i64 0,.int .i64 0,.slice A2 dl c2,v]∧Blk W w2.heap.size #[.int .i64 fj.m]∧OwnN (w2.heap.size+1) W v rj.ks∧(∀q,w.heap.size+6≤q→q<w2.heap.size→W.heap[q]?=w2.heap[q]?)∧Blk W (w4.heap.size+1+1) #[.int .i64 fj.n.k,.int .i64 fj.n.e,.int .i64 fj.n.n,.slice Ak fj.n.d.length ck,.slice Bk fj.n.ks.length ek]∧NdO wr.heap.size hik W Ak ck Bk ek fj.n∧Below w.heap.size w W∧W.heap.size=w4.heap.size+1+1+1) ⟨?_,?_,?_,?_,?_,?_,?_,?_,?_,?_,?_,?_⟩ ?_
    ·exact(((K0.out.alloc _).alloc _).other (by simp;omega) _).alloc _
    ·exact(((K2.out.alloc _).alloc _).other (by simp;omega) _).alloc _
    ·exact(((K3.out.alloc _).alloc _).other (by simp;omega) _).alloc _
    ·exact(((K4.out.alloc _).alloc _).other (by simp;omega) _).alloc _
    ·exact(((K5.out.alloc _).alloc _).other (by simp;omega) _).alloc _
    ·exact(((KQ.out.alloc _).alloc _).set 0 (by simp) _).alloc _
    ·exact OwnN.below (OwnN.far (p:=⟨w2.heap.size,0,none⟩) (OwnN.below HOW.out (((Below.refl _ _).alloc (Nat.le_refl _) _).alloc (by simp) _) (Nat.le_refl _)) (by show w2.heap.size<w2.heap.size+1;omega) _) ((Below.refl _ _).alloc (Nat.le_refl _) _) (Nat.le_refl _)
    ·intro q h1 h2
     rw [Below.heap_alloc _ _ _ (by simp [World.setCell];omega),Below.heap_setCell _ _ _ _ (by show q≠w2.heap.size;omega),Below.heap_alloc _ _ _ (by simp;omega),Below.heap_alloc _ _ _ (by omega)]
     exact HDA.out q h1 h2
    ·exact Blk.new (by simp [World.setCell])
    ·refine HNK.out.to fun q h1 h2=>?_
     rw [Below.heap_alloc _ _ _ (by simp [World.setCell];omega),Below.heap_setCell _ _ _ _ (by show q≠w2.heap.size;omega),Below.heap_alloc _ _ _ (by simp;omega),Below.heap_alloc _ _ _ (by omega)]
    ·have:=HB.out.size
     exact(((HB.out.alloc HB.out.size _).alloc (by simp;omega) _).setCell (by show w.heap.size≤w2.heap.size;omega) _).alloc (by simp [World.setCell];omega) _
    ·simp [World.setCell]
    clear K0 K2 K3 K4 K5 KQ HOW HDA HB HNK yq yf zq zf z5
    rintro W ⟨h0,h2,h3,h4,h5,hq,hown,hdat,h9,hnk,hbw,hsW⟩
    have hjl:rj.ks.length=j:=by rw [←HRJ.out];exact runK_length (by rw [HRJ.out];exact HEJ.out)
    refine wpList_appO rfl (.tmp 69) (.tmp 71) 35 rfl Tryd.underlying35 rfl hown rfl (fun o ho=>by rw [h9.cell];simp [fiveC]) (lo:=wr.heap.size) (hi:=hik) hszr (by omega) (fun g hg=>(hvb g hg).2) hnk (by omega) (by omega) ?_
    intro v' w' hown' hgr
    obtain⟨B9,c9,rfl,-⟩:=hown'.slice
    have hl9:(rj.ks++[fj.n]).length=j+1:=by rw [List.length_append,hjl];rfl
    rw [hl9] at hown'
    rw [hl9]
    have hb':Below (w2.heap.size+1) W w':=(Below.refl _ _).grown hgr (by omega) (fun g hg=>(OwnN.blk hown g hg).1)
    have hszb:=hb'.size
    have K0:=Lib.hid (h0.belowN hb' (by omega))
    have K2:=Lib.hid (h2.belowN hb' (by omega))
    have K3:=Lib.hid (h3.belowN hb' (by omega))
    have K4:=Lib.hid (h4.belowN hb' (by omega))
    have k5:=h5.belowN hb' (by omega)
    have K5:=Lib.hid k5
    have KQ:=Lib.hid (hq.belowN hb' (by omega))
    have HOW:=Lib.hid hown'
    have HDA:Hid (∀q,w.heap.size+6≤q→q<w2.heap.size→w'.heap[q]?=w2.heap[q]?):=Lib.hid (fun q g1 g2=>(hb'.block q (by omega)).trans (hdat q g1 g2))
    have HB:=Lib.hid (hbw.trans (hb'.mono (by omega)))
    clear h0 h2 h3 h4 h5 hq hown hdat h9 hnk hbw hgr hb' hown'
    obtain⟨x5,y5,z5⟩:=k5
    have HRS:Hid (runK f m (j+1)=⟨rj.ks++[fj.n],fj.m,0⟩):=Lib.hid (by
     rw [runK_ok (by rw [HRJ.out];exact HEJ.out) (by rw [HRJ.out,HFQ.out];exact HFE0.out),HRJ.out,HFQ.out])
    go_wp2
    go_roundw
    case rel=>
     refine⟨j+1,.slice B9 (j+1) c9,by omega,by go_num,by rw [HRS.out],?_,?_,?_,?_,?_,?_,?_,?_,?_,?_⟩
     ·exact K0.out.other (by simp;omega) _
     ·exact K2.out.other (by simp;omega) _
     ·exact K3.out.other (by simp;omega) _
     ·exact K4.out.other (by simp) _
     ·exact K5.out.set 4 (by simp) _
     ·rw [HRS.out];exact KQ.out.other (by simp;omega) _
     ·rw [HRS.out];exact OwnN.far HOW.out (by show w.heap.size+1+1+1+1+1<w2.heap.size+1;omega) _
     ·intro q h1 h2
      rw [Below.heap_setCell _ _ _ _ (by show q≠w.heap.size+1+1+1+1+1;omega)]
      exact HDA.out q h1 h2
     ·simp [World.setCell];omega
     ·exact HB.out.setCell (by show w.heap.size≤w.heap.size+1+1+1+1+1;omega) _
    case measure=>simp [intOf];omega
   ·have HFE0:=Lib.hid hfe
    have t20:(fj.e != 0)=true:=bne_iff_ne.2 hfe
    clear hfe
    go_wp2
    have k3:=(K3.out.alloc (.cells #[.int .i64 fj.n.k,.int .i64 fj.n.e,.int .i64 fj.n.n,.slice Ak fj.n.d.length ck,.slice Bk fj.n.ks.length ek] 37)).alloc (.cells #[.int .i64 fj.m] 51)
    have k4:=(K4.out.alloc (.cells #[.int .i64 fj.n.k,.int .i64 fj.n.e,.int .i64 fj.n.n,.slice Ak fj.n.d.length ck,.slice Bk fj.n.ks.length ek] 37)).alloc (.cells #[.int .i64 fj.m] 51)
    have k9:=Blk.fresh (w4.alloc (.cells #[.int .i64 fj.n.k,.int .i64 fj.n.e,.int .i64 fj.n.n,.slice Ak fj.n.d.length ck,.slice Bk fj.n.ks.length ek] 37)) #[.int .i64 fj.m] 51
    rw [World.size_alloc] at k9
    have hz4:=HB.out.size
    have hbv:=(HB.out.alloc HB.out.size (.cells #[.int .i64 fj.n.k,.int .i64 fj.n.e,.int .i64 fj.n.n,.slice Ak fj.n.d.length ck,.slice Bk fj.n.ks.length ek] 37)).alloc (by simp;omega) (.cells #[.int .i64 fj.m] 51)
    generalize (w4.alloc (.cells #[.int .i64 fj.n.k,.int .i64 fj.n.e,.int .i64 fj.n.n,.slice Ak fj.n.d.length ck,.slice Bk fj.n.ks.length ek] 37)).alloc (.cells #[.int .i64 fj.m] 51)=V at k3 k4 k9 hbv ⊢
    have K3:=Lib.hid k3
    have K4:=Lib.hid k4
    have HBV:=Lib.hid hbv
    clear hbv
    obtain⟨x3,y3,z3⟩:=k3
    obtain⟨x4,y4,z4⟩:=k4
    obtain⟨x9,y9,z9⟩:=k9
    go_region
    go_wp2
    have HSE:Hid (sv=errV fj.m fj.e):=Lib.hid (by
     have h1:runK f m (j+1)=⟨[],fj.m,fj.e⟩:=by
      rw [runK_no (by rw [HRJ.out];exact HEJ.out) (by rw [HRJ.out,HFQ.out];exact HFE0.out),HRJ.out,HFQ.out]
     have h2:runK f m P=⟨[],fj.m,fj.e⟩:=by
      rw [runK_keep (i:=j+1) (by rw [h1];exact HFE0.out) (by omega),h1]
     rw [HSV.out,h2,if_pos HFE0.out])
    refine abs_post (F:=fun W=>Blk W (w.heap.size+1+1+1) #[.int .i64 0,.int .i64 0,.int .i64 0,.slice none 0 0,.slice none 0 0]∧Blk W (w.heap.size+1+1+1+1) #[.int .i64 fj.m]∧Below w.heap.size w W) ⟨?_,?_,?_⟩ ?_
    ·exact((((((K3.out.set 0 (by simp) _).set 1 (by simp) _).set 2 (by simp) _).set 3 (by simp) _).set 4 (by simp) _).other (by simp) _).drew
    ·exact((((((K4.out.other (by simp) _).other (by simp) _).other (by simp) _).other (by simp) _).other (by simp) _).set 0 (by simp) _).drew
    ·refine bel_drew (Below.setCell (Below.setCell (Below.setCell (Below.setCell (Below.setCell (Below.setCell HBV.out ?_ _) ?_ _) ?_ _) ?_ _) ?_ _) ?_ _)<;>(simp;omega)
    rintro W5 ⟨B6,B7,hbw⟩
    exact bodyPost_ret (v:=.tuple #[.agg #[.int .i64 0,.int .i64 0,.int .i64 0,.slice none 0 0,.slice none 0 0],.agg #[.int .i64 fj.m],.int .i64 fj.e]) (by simp [results,Tryd.results55,go_sem,B6.cell,B7.cell]) rfl ⟨_,by rw [HSE.out];rfl,by rw [HSE.out];exact nod_zero _ _,hbw⟩
  ·have hPj:P=j:=by omega
   have hpi:¬(j:Int)<o.p:=by rw [HPE.out];omega
   have hpe:(o.p:Int)=j:=by rw [HPE.out,hPj]
   have HPJ:=Lib.hid hPj
   clear hPj hpe
   have hjl:=runK_length HEJ.out
   obtain⟨B9,c9,rfl,hl9,hm9,hn9⟩:=HOW.out.slice
   have hgd:Got wr (w.heap.size+6) 5 .u8 (.slice A2 (bytesOf dw).length c2) (bytesOf dw):=got_agree (HDT.out.cast (by rw [HDLE.out]) rfl) fun g h1 h2=>HDA.out g h1 h2
   have HN:=Lib.hid ((HOW.out.mono (base':=w.heap.size+6) (by omega)).node (k:=1) (e:=0) (n:=0) (by decide) (by decide) (by decide) hgd (bytesOf_bts dw))
   have HSE:Hid (sv=⟨.mk 1 0 0 (bytesOf dw) (runK f m j).ks,(runK f m j).m,0⟩):=Lib.hid (by
    rw [HSV.out,HPJ.out,if_neg (by rw [HEJ.out];simp)])
   clear hgd
   obtain⟨x5,y5,z5⟩:=K5.out
   obtain⟨x3,y3,z3⟩:=K3.out
   obtain⟨x4,y4,z4⟩:=K4.out
   rw [hjl] at x5
   go_wp2
   go_region
   go_wp2
   refine abs_post (F:=fun W=>Blk W (w.heap.size+1+1+1) #[.int .i64 1,.int .i64 0,.int .i64 0,.slice A2 dl c2,.slice B9 j c9]∧Blk W (w.heap.size+1+1+1+1) #[.int .i64 (runK f m j).m]∧NdO (w.heap.size+6) W.heap.size W A2 c2 B9 c9 (.mk 1 0 0 (bytesOf dw) (runK f m j).ks)∧Below w.heap.size w W) ⟨?_,?_,?_,?_⟩ ?_
   ·exact((((((K3.out.set 0 (by simp) _).set 1 (by simp) _).set 2 (by simp) _).set 3 (by simp) _).set 4 (by simp) _).other (by simp) _).drew
   ·exact((((((K4.out.other (by simp) _).other (by simp) _).other (by simp) _).other (by simp) _).other (by simp) _).set 0 (by simp) _).drew
   ·refine(HN.out.to fun q q1 _=>?_).wide (Nat.le_refl _) (by simp [World.setCell,World.drew])
    show (((((((wr.setCell _ _).setCell _ _).setCell _ _).setCell _ _).setCell _ _).setCell _ _).drew).heap[q]?=wr.heap[q]?
    rw [show ∀W:World,W.drew.heap=W.heap from fun _=>rfl,Below.heap_setCell _ _ _ _ (by simp;omega),Below.heap_setCell _ _ _ _ (by simp;omega),Below.heap_setCell _ _ _ _ (by simp;omega),Below.heap_setCell _ _ _ _ (by simp;omega),Below.heap_setCell _ _ _ _ (by simp;omega),Below.heap_setCell _ _ _ _ (by simp;omega)]
   ·refine bel_drew (Below.setCell (Below.setCell (Below.setCell (Below.setCell (Below.setCell (Below.setCell HB.out ?_ _) ?_ _) ?_ _) ?_ _) ?_ _) ?_ _)<;>(simp;omega)
   rintro W5 ⟨B6,B7,hN,hbw⟩
   have hve:Value.agg #[.int .i64 1,.int .i64 0,.int .i64 0,.slice A2 dl c2,.slice B9 j c9]=.agg #[.int .i64 (Nd.mk 1 0 0 (bytesOf dw) (runK f m j).ks).k,.int .i64 (Nd.mk 1 0 0 (bytesOf dw) (runK f m j).ks).e,.int .i64 (Nd.mk 1 0 0 (bytesOf dw) (runK f m j).ks).n,.slice A2 (Nd.mk 1 0 0 (bytesOf dw) (runK f m j).ks).d.length c2,.slice B9 (Nd.mk 1 0 0 (bytesOf dw) (runK f m j).ks).ks.length c9]:=by
    simp only [Nd.k,Nd.e,Nd.n,Nd.d,Nd.ks,HDLE.out,hjl]
   exact bodyPost_ret (v:=.tuple #[.agg #[.int .i64 1,.int .i64 0,.int .i64 0,.slice A2 dl c2,.slice B9 j c9],.agg #[.int .i64 (runK f m j).m],.int .i64 0]) (by simp [results,Tryd.results55,go_sem,B6.cell,B7.cell]) rfl ⟨_,by rw [HSE.out],by rw [HSE.out];exact⟨A2,c2,B9,c9,_,hve,Nat.le_refl _,hN.wide (by omega) (Nat.le_refl _)⟩,hbw⟩
end Go.Proofs.YtclpapddejgpnaaDoor
