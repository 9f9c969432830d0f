/- The texts Ref12n (what is wanted of them), one after the other. -/
import Derived.Test.YtbpmeppdjicmhaaGreatDoorMg25
namespace Go.Proofs.YtbpmeppdjicmhaaGreatDoor
open Go.ChangeShapes Go.WideShapes Go.ChangeAt Go.RowKit
set_option linter.unusedVariables false
set_option linter.unusedSimpArgs false
set_option maxRecDepth 100000
def measV (ls:List (List Int))(D X:Int):Int×Int:=if 0<ls.length∧(seg ls 0).length=0 then (0,0) else if (valV ls D.toNat (startI X) 0 0).e≠0 then (0,(valV ls D.toNat (startI X) 0 0).e) else (startI X-(valV ls D.toNat (startI X) 0 0).m,0)
set_option maxHeartbeats 2000000 in
set_option maxRecDepth 100000 in
theorem RefMeasure12_some (A:Option Addr)(c:Nat)(ls:List (List Int))(D X O:Int)(hw:Wd2 ls)(hm:ls.length≤40)(hf:∀j,(seg ls j).length≤20000000)(hD:D≤900)(hX:X≤1000000)(w:World)(hs:Sg w A ls)(hz:¬(seg ls 0).length=0)(hl:0<ls.length):
  Calls Tryz.prog 17 #[.slice A ls.length c,.agg #[.int .i64 D,.int .i64 X,.int .i64 O]] w fun e w'=>e=.returned (.tuple #[.int .i64 (measV ls D X).1,.int .i64 (measV ls D X).2])∧Below w.heap.size w w':=by
 have hx0:0≤startI X∧startI X≤1000000:=by unfold startI;split<;>omega
 have Hs:=Lib.hid hs
 have HVC:=Lib.hid (fun w' hs'=>RefValue12 A c ls D X O hw hm hf hD D.toNat (startI X) 0 0 1 w' hs' hx0.1 (by omega) (by omega) (by omega) (by congr 1;omega))
 have HVM:=Lib.hid (valV_m hw hm hf D.toNat (startI X) 0 0 hx0.1)
 have HMS:Hid (measV ls D X=if (valV ls D.toNat (startI X) 0 0).e≠0 then (0,(valV ls D.toNat (startI X) 0 0).e) else (startI X-(valV ls D.toNat (startI X) 0 0).m,0)):=Lib.hid (by unfold measV;rw [if_neg (by omega)])
 generalize valV ls D.toNat (startI X) 0 0=sv at *
 generalize measV ls D X=mv at *
 obtain⟨b,off,A',c',rfl,hc,-,-,-,-⟩:=((Hs.out.below ((Below.refl _ _).alloc (Nat.le_refl _) (.cells #[.int .i64 D,.int .i64 X,.int .i64 O] 24)) (Nat.le_refl _))).one hl
 simp only [Nat.add_zero] at hc
 have t1:decide ((0:Int)<ls.length)=true:=decide_eq_true (by omega)
 have t2:(((seg ls 0).length:Int)==0)=false:=beq_eq_false_iff_ne.2 (by omega)
 clear hs hw hf
 generalize (seg ls 0).length=l0 at *
 go_enter Tryz.func17,Tryz.ntmps17
 go_wp2_with fail
 refine(RefStart_any D X O _).mono ?_
 rintro e w1 ⟨rfl,hb⟩
 have B0:=(Blk.fresh w #[.int .i64 D,.int .i64 X,.int .i64 O] 24).below hb
 have HB:Hid (Below w.heap.size w w1):=Lib.hid (((Below.refl _ _).alloc (Nat.le_refl _) _).trans (hb.mono (by simp)))
 clear hb
 have H0:=Lib.hid B0
 obtain⟨x0,y0,z0⟩:=B0
 go_wp2_with fail
 refine(HVC.out _ ((Hs.out.below HB.out (Nat.le_refl _)).alloc _)).mono ?_
 rintro e w2 ⟨v,rfl,⟨Ak,ck,Bk,ek,hik,rfl,-,-⟩,hb⟩
 have B6:=(Blk.fresh w1 #[.int .i64 (startI X)] 56).below hb
 have hz1:=HB.out.size
 have HB:Hid (Below w.heap.size w w2):=Lib.hid ((HB.out.alloc hz1 _).trans (hb.mono (by simp;omega)))
 clear hb x0 y0 z0 H0
 obtain⟨x6,y6,z6⟩:=B6
 have hvm:=HVM.out
 by_cases he:sv.e=0
 ·have t3:(sv.e != 0)=false:=by rw [he];rfl
  rw [if_neg (by rw [he];simp)] at HMS
  clear he
  go_wp2_with fail
  go_ret2
  refine⟨by rw [HMS.out];rfl,?_⟩
  repeat (with_reducible first|exact HB.out|refine bel_drewN ?_ _|refine bel_drew ?_|refine Below.alloc ?_ (by have:=HB.out.size;simp [World.setCell];try omega) _|refine Below.setCell ?_ (by have:=HB.out.size;first|(simp;done)|(simp;omega)) _)
 ·have t3:(sv.e != 0)=true:=bne_iff_ne.2 he
  rw [if_pos he] at HMS
  clear he
  go_wp2_with fail
  go_ret2
  refine⟨by rw [HMS.out];rfl,?_⟩
  repeat (with_reducible first|exact HB.out|refine bel_drewN ?_ _|refine bel_drew ?_|refine Below.alloc ?_ (by have:=HB.out.size;simp [World.setCell];try omega) _|refine Below.setCell ?_ (by have:=HB.out.size;first|(simp;done)|(simp;omega)) _)
set_option maxHeartbeats 2000000 in
set_option maxRecDepth 100000 in
theorem RefMeasure12_none (A:Option Addr)(c:Nat)(ls:List (List Int))(D X O:Int)(hw:Wd2 ls)(hm:ls.length≤40)(hf:∀j,(seg ls j).length≤20000000)(hD:D≤900)(hX:X≤1000000)(w:World)(hs:Sg w A ls)(hl:ls.length=0):
  Calls Tryz.prog 17 #[.slice A ls.length c,.agg #[.int .i64 D,.int .i64 X,.int .i64 O]] w fun e w'=>e=.returned (.tuple #[.int .i64 (measV ls D X).1,.int .i64 (measV ls D X).2])∧Below w.heap.size w w':=by
 have hx0:0≤startI X∧startI X≤1000000:=by unfold startI;split<;>omega
 have Hs:=Lib.hid hs
 have HVC:=Lib.hid (fun w' hs'=>RefValue12 A c ls D X O hw hm hf hD D.toNat (startI X) 0 0 1 w' hs' hx0.1 (by omega) (by omega) (by omega) (by congr 1;omega))
 have HVM:=Lib.hid (valV_m hw hm hf D.toNat (startI X) 0 0 hx0.1)
 have HMS:Hid (measV ls D X=if (valV ls D.toNat (startI X) 0 0).e≠0 then (0,(valV ls D.toNat (startI X) 0 0).e) else (startI X-(valV ls D.toNat (startI X) 0 0).m,0)):=Lib.hid (by unfold measV;rw [if_neg (by omega)])
 generalize valV ls D.toNat (startI X) 0 0=sv at *
 generalize measV ls D X=mv at *
 have t1:¬((0:Int)<ls.length):=by omega
 clear hs hw hf hl
 go_enter Tryz.func17,Tryz.ntmps17
 go_wp2_with fail
 refine(RefStart_any D X O _).mono ?_
 rintro e w1 ⟨rfl,hb⟩
 have B0:=(Blk.fresh w #[.int .i64 D,.int .i64 X,.int .i64 O] 24).below hb
 have HB:Hid (Below w.heap.size w w1):=Lib.hid (((Below.refl _ _).alloc (Nat.le_refl _) _).trans (hb.mono (by simp)))
 clear hb
 have H0:=Lib.hid B0
 obtain⟨x0,y0,z0⟩:=B0
 go_wp2_with fail
 refine(HVC.out _ ((Hs.out.below HB.out (Nat.le_refl _)).alloc _)).mono ?_
 rintro e w2 ⟨v,rfl,⟨Ak,ck,Bk,ek,hik,rfl,-,-⟩,hb⟩
 have B6:=(Blk.fresh w1 #[.int .i64 (startI X)] 56).below hb
 have hz1:=HB.out.size
 have HB:Hid (Below w.heap.size w w2):=Lib.hid ((HB.out.alloc hz1 _).trans (hb.mono (by simp;omega)))
 clear hb x0 y0 z0 H0
 obtain⟨x6,y6,z6⟩:=B6
 have hvm:=HVM.out
 by_cases he:sv.e=0
 ·have t3:(sv.e != 0)=false:=by rw [he];rfl
  rw [if_neg (by rw [he];simp)] at HMS
  clear he
  go_wp2_with fail
  go_ret2
  refine⟨by rw [HMS.out];rfl,?_⟩
  repeat (with_reducible first|exact HB.out|refine bel_drewN ?_ _|refine bel_drew ?_|refine Below.alloc ?_ (by have:=HB.out.size;simp [World.setCell];try omega) _|refine Below.setCell ?_ (by have:=HB.out.size;first|(simp;done)|(simp;omega)) _)
 ·have t3:(sv.e != 0)=true:=bne_iff_ne.2 he
  rw [if_pos he] at HMS
  clear he
  go_wp2_with fail
  go_ret2
  refine⟨by rw [HMS.out];rfl,?_⟩
  repeat (with_reducible first|exact HB.out|refine bel_drewN ?_ _|refine bel_drew ?_|refine Below.alloc ?_ (by have:=HB.out.size;simp [World.setCell];try omega) _|refine Below.setCell ?_ (by have:=HB.out.size;first|(simp;done)|(simp;omega)) _)
set_option maxRecDepth 100000 in
theorem RefMeasure12_nul (A:Option Addr)(c:Nat)(ls:List (List Int))(D X O:Int)(w:World)(hs:Sg w A ls)(hz:(seg ls 0).length=0)(hl:0<ls.length):
  Calls Tryz.prog 17 #[.slice A ls.length c,.agg #[.int .i64 D,.int .i64 X,.int .i64 O]] w fun e w'=>e=.returned (.tuple #[.int .i64 (measV ls D X).1,.int .i64 (measV ls D X).2])∧Below w.heap.size w w':=by
 have HMS:Hid (measV ls D X=(0,0)):=Lib.hid (by unfold measV;rw [if_pos ⟨hl,hz⟩])
 generalize measV ls D X=mv at *
 obtain⟨b,off,A',c',rfl,hc,-,-,-,-⟩:=((hs.below ((Below.refl _ _).alloc (Nat.le_refl _) (.cells #[.int .i64 D,.int .i64 X,.int .i64 O] 24)) (Nat.le_refl _))).one hl
 simp only [Nat.add_zero] at hc
 have t1:decide ((0:Int)<ls.length)=true:=decide_eq_true (by omega)
 rw [hz] at hc
 clear hs hz
 go_enter Tryz.func17,Tryz.ntmps17
 go_wp2_with fail
 go_ret2
 exact⟨by rw [HMS.out];rfl,(Below.refl _ _).alloc (Nat.le_refl _) _⟩
theorem RefMeasure12 (A:Option Addr)(c:Nat)(ls:List (List Int))(D X O:Int)(w:World)(hs:Sg w A ls)(hw:Wd2 ls)(hm:ls.length≤40)(hf:∀j,(seg ls j).length≤20000000)(hD:D≤900)(hX:X≤1000000):
  Calls Tryz.prog 17 #[.slice A ls.length c,.agg #[.int .i64 D,.int .i64 X,.int .i64 O]] w fun e w'=>e=.returned (.tuple #[.int .i64 (measV ls D X).1,.int .i64 (measV ls D X).2])∧Below w.heap.size w w':=by
 by_cases hl:ls.length=0
 ·exact RefMeasure12_none A c ls D X O hw hm hf hD hX w hs hl
 ·by_cases hz:(seg ls 0).length=0
  ·exact RefMeasure12_nul A c ls D X O w hs hz (by omega)
  ·exact RefMeasure12_some A c ls D X O hw hm hf hD hX w hs hz (by omega)
end Go.Proofs.YtbpmeppdjicmhaaGreatDoor
