/- The texts Ref14 (what is wanted of them), one after the other. -/
import Derived.Test.YtfaflahfjgnphaaGreatDoorMg14
namespace Go.Proofs.YtfaflahfjgnphaaGreatDoor
open Go.ChangeShapes Go.WideShapes Go.ChangeAt Go.RowKit
set_option linter.unusedVariables false
set_option linter.unusedSimpArgs false
set_option maxRecDepth 100000
theorem rep_snoc (b:List Int)(j:Nat):(b++List.replicate j 0)++[0]=b++List.replicate (j+1) 0:=by
 rw [List.append_assoc,List.replicate_succ']
set_option maxRecDepth 100000 in
theorem RefPadded14 (A:Option Addr)(c:Nat)(b:List Int)(n:Nat)(w:World)(hr:Ri w .u8 A b)(hb:Bts b)(hnil:A=none→c=0)(hbn:b.length≤8*n)(hm:n≤1099511627776):
  Calls Tryz.prog 93 #[.slice A b.length c,.int .i64 n] w fun e w'=>∃v,e=.returned v∧Got w' w.heap.size 39 .u64 v (padW b n)∧Below w.heap.size w w':=by
 obtain⟨i0,hi,hz0,hz1,hz2⟩:=info_parts int8_info
 have HR1:=Lib.hid (hr.alloc (.cells #[] 5))
 have HBT:=Lib.hid hb
 have HPW:Hid (padW b n=wordsOf (b++List.replicate (8*n-b.length) 0)):=Lib.hid rfl
 have HBZ:Hid (∀j,Bts (b++List.replicate j 0)):=Lib.hid (fun j z hz=>by
  rcases List.mem_append.1 hz with hz|hz
  ·exact hb z hz
  ·rw [List.eq_of_mem_replicate hz];omega)
 have HNL:=Lib.hid hnil
 clear hr hb hnil
 go_enter Tryz.func93,Tryz.ntmps93
 go_wp2_with (at_builtin;refine wpList_appN rfl (.tmp 8) (.tmp 9) 50 rfl Tryz.underlying50 hi hz0 hz1 hz2 rfl (Got.empty_made w 5 .u8 (base:=w.heap.size) (Nat.le_refl _)) rfl HR1.out HNL.out (by unfold maxLen;simp;omega) (by simp;omega) (by simp) ?_;intro v2 w2 hg2 hb2)
 have hB0:Below w.heap.size w w2:=((Below.refl _ _).alloc (Nat.le_refl _) _).trans hb2
 go_loopw [5] (fun v wr=>∃j:Nat,b.length+j≤8*n∧Got wr w.heap.size 5 .u8 v (b++List.replicate j 0)∧Below w.heap.size w wr) (fun v _=>match v with|.slice _ l _=>8*n-l|_=>0)
 case atStart=>exact⟨0,by omega,by simpa using hg2,hB0⟩
 case round=>
  clear hg2 hb2 hB0
  obtain⟨j,hj,hg,hbr⟩:=hrel
  obtain⟨A5,c5,rfl,hl5,hm5,hr5⟩:=hg.slice
  have HG:=Lib.hid hg
  have HR:=Lib.hid hbr
  have hsz:=hbr.size
  have hL:(b++List.replicate j 0).length=b.length+j:=by rw [List.length_append,List.length_replicate]
  have HL:=Lib.hid hL
  have HR5:=Lib.hid hr5
  have HBJ:=Lib.hid (HBZ.out j)
  have HS:=Lib.hid (rep_snoc b j)
  have HEND:Hid (b.length+j=8*n→b++List.replicate j 0=b++List.replicate (8*n-b.length) 0):=Lib.hid (fun h=>by congr 2;omega)
  clear hg hbr hr5 hl5 hm5
  by_cases hlt:b.length+j<8*n
  ·have t1:(((b++List.replicate j 0).length:Nat):Int)<8*(n:Int):=by rw [hL];omega
   generalize b++List.replicate j 0=cur at *
   go_wp2_with (at_builtin;refine wpList_app1 rfl (.tmp 16) (.tmp 17) 50 rfl Tryz.underlying50 hi hz0 hz1 hz2 rfl HG.out rfl (by rw [HL.out];unfold maxLen;omega) (by rw [HL.out];omega) hsz ?_;intro v1 w1 hg1 hb1)
   rw [HS.out] at hg1
   obtain⟨A6,c6,rfl,-⟩:=hg1.slice
   have hl6:(b++List.replicate (j+1) 0).length=b.length+(j+1):=by rw [List.length_append,List.length_replicate]
   go_roundw
   case rel=>exact⟨j+1,by omega,hg1,HR.out.trans hb1⟩
   case measure=>
    simp only [hl6]
    have:=HL.out
    simp
    omega
  ·have he:=HEND.out (by omega)
   have t1:¬((((b++List.replicate j 0).length:Nat):Int)<8*(n:Int)):=by rw [hL];omega
   rw [←he] at HPW
   have h8:(b++List.replicate j 0).length % 8=0:=by rw [hL];omega
   clear he HEND HS
   have hcl:(b++List.replicate j 0).length≤140737488355328:=by rw [hL];omega
   clear hL
   generalize b++List.replicate j 0=cur at *
   have HWD:=Lib.hid (RefWords_yes A5 c5 cur wr HR5.out HBJ.out hcl h8)
   go_wp2_with fail
   refine HWD.out.mono ?_
   rintro e w3 ⟨v3,rfl,hg3,hb3⟩
   have HG3:=Lib.hid (hg3.mono hsz)
   have HB3:=Lib.hid (bel_on HR.out hb3)
   clear hg3 hb3
   go_wp2
   go_ret
   exact⟨_,rfl,by rw [HPW.out];exact HG3.out,HB3.out⟩
end Go.Proofs.YtfaflahfjgnphaaGreatDoor
