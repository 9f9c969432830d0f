/- The texts EqA (what is wanted of them), one after the other. -/
import Derived.Test.YtfaflahfjgnphaaGreatDoorMg30
namespace Go.Proofs.YtfaflahfjgnphaaGreatDoor
open Go.ChangeShapes Go.WideShapes Go.ChangeAt Go.RowKit
set_option linter.unusedVariables false
set_option linter.unusedSimpArgs false
set_option maxRecDepth 100000
theorem AllZeroLit (z:Int)(v:Bool)(w:World)(hv:(z != 0)=v):Calls Tryz.prog 39 #[.int .u64 z] w fun r w'=>r=.returned (.bool v)∧w=w':=by
 go_enter Tryz.func39,Tryz.ntmps39
 go_wp2
 go_ret
 exact⟨rfl,rfl⟩
def allZ (a:List Int):Bool:=a.all (·==0)
theorem allZ_iff {a:List Int}:allZ a=true↔∀i,zat a i=0:=by
 unfold allZ
 rw [List.all_eq_true]
 constructor
 ·intro h i
  by_cases hi:i<a.length
  ·simpa using h _ (zat_mem hi)
  ·exact zat_out (by omega)
 ·intro h x hx
  obtain⟨i,hi,rfl⟩:=List.getElem_of_mem hx
  have:=h i
  rw [zat,List.getD_eq_getElem?_getD,List.getElem?_eq_getElem hi] at this
  simpa using this
theorem dataE_parts (a b:List Int)(n:Nat)(hn:n=min a.length b.length):dataE a b=(sameB (a.take n) (b.take n)&&allZ (a.drop n)&&allZ (b.drop n)):=by
 have hl:∀l:List Int,n≤l.length→(l.take n).length=n:=fun l h=>by rw [List.length_take];omega
 rw [Bool.eq_iff_iff,dataE_iff,Bool.and_eq_true,Bool.and_eq_true,allZ_iff,allZ_iff]
 unfold sameB
 rw [decide_eq_true_iff]
 constructor
 ·intro h
  refine⟨⟨?_,fun i=>?_⟩,fun i=>?_⟩
  ·apply ext_zat
   ·rw [hl a (by omega),hl b (by omega)]
   ·intro i hi
    rw [hl a (by omega)] at hi
    rw [zat_take _ _ _ hi,zat_take _ _ _ hi,h]
  ·rw [zat_drop]
   by_cases h1:n+i<a.length
   ·rw [h,zat_out (by omega)]
   ·exact zat_out (by omega)
  ·rw [zat_drop]
   by_cases h1:n+i<b.length
   ·rw [←h,zat_out (by omega)]
   ·exact zat_out (by omega)
 ·rintro⟨⟨h1,h2⟩,h3⟩ i
  by_cases hi:i<n
  ·rw [←zat_take a n i hi,h1,zat_take _ _ _ hi]
  ·have e:i=n+(i-n):=by omega
   rw [e,←zat_drop,←zat_drop,h2,h3]
theorem IndexZ_any (A:Option Addr)(c:Nat)(a:List Int)(w:World)(ha:Ri w .u64 A a)(hl:a.length≤1099511627776):
  Calls Tryz.prog 66 #[.slice A a.length c,.func (.func 39) #[] #[]] w fun r w'=>(∃v:Int,r=.returned (.int .i64 v)∧-1≤v∧(0≤v↔allZ a=false))∧w=w':=by
 have HA:=Lib.hid ha
 clear ha
 have HN:Hid (∀j,zat a j≠0→allZ a=false):=Lib.hid (fun j h=>by
  cases hz:allZ a with
  | false=>rfl
  | true=>exact absurd (allZ_iff.1 hz j) h)
 have HY:Hid ((∀j,j<a.length→zat a j=0)→allZ a=true):=Lib.hid (fun h=>allZ_iff.2 fun i=>by
  by_cases hi:i<a.length
  ·exact h i hi
  ·exact zat_out (by omega))
 go_enter Tryz.func66,Tryz.ntmps66
 go_wp2
 go_loop [8] (fun i=>∃j:Nat,j≤a.length∧i=.int .i64 j∧(∀k,k<j→zat a k=0)) (fun i=>a.length-(intOf i).toNat)
 case atStart=>exact⟨0,by omega,rfl,fun k hk=>absurd hk (Nat.not_lt_zero _)⟩
 case round=>
  obtain⟨j,hj,rfl,hal⟩:=hrel
  have HAL:=Lib.hid hal
  clear hal
  by_cases hlt2:j<a.length
  ·have hj1:(j:Int)<(a.length:Int):=by omega
   obtain⟨b,off,rfl,hc⟩:=HA.out.at hlt2
   have hcj:=hc j hlt2
   have HNJ:=Lib.hid (HN.out j)
   clear hc
   by_cases hz:zat a j=0
   ·have HZ:Hid (∀k,k<j+1→zat a k=0):=Lib.hid (fun k hk=>by
     by_cases e:k=j
     ·subst e;exact hz
     ·exact HAL.out k (by omega))
    rw [hz] at hcj
    clear hz
    go_wp2_with fail
    refine(AllZeroLit 0 false _ rfl).mono ?_
    rintro r w2 ⟨rfl,rfl⟩
    go_wp2
    go_round
    case rel=>exact⟨j+1,by omega,by go_num,HZ.out⟩
    case measure=>simp [intOf];omega
   ·have HF:=Lib.hid (HNJ.out hz)
    generalize zat a j=z at *
    go_wp2_with fail
    refine(AllZeroLit z true _ (by simp [hz])).mono ?_
    rintro r w2 ⟨rfl,rfl⟩
    clear hz
    go_wp2
    go_ret
    exact⟨⟨(j:Int),rfl,by omega,⟨fun _=>HF.out,fun _=>by omega⟩⟩,rfl⟩
  ·obtain rfl:j=a.length:=by omega
   have HAA:=Lib.hid (HY.out HAL.out)
   go_wp2
   go_ret
   exact⟨⟨-1,rfl,by omega,⟨fun h=>by omega,fun h=>by rw [HAA.out] at h;cases h⟩⟩,rfl⟩
theorem ContainsZ_any (A:Option Addr)(c:Nat)(a:List Int)(w:World)(ha:Ri w .u64 A a)(hl:a.length≤1099511627776):
  Calls Tryz.prog 38 #[.slice A a.length c,.func (.func 39) #[] #[]] w fun r w'=>r=.returned (.bool (!allZ a))∧w=w':=by
 have HI:=Lib.hid (IndexZ_any A c a w ha hl)
 clear ha
 go_enter Tryz.func38,Tryz.ntmps38
 go_wp2_with fail
 refine HI.out.mono ?_
 rintro r w1 ⟨⟨v,rfl,hv1,hv2⟩,rfl⟩
 have HV:=Lib.hid hv2
 clear hv2
 by_cases h0:0≤v
 ·have HA:=Lib.hid (HV.out.1 h0)
  go_wp2
  go_ret
  exact⟨by rw [HA.out];first|rfl|(congr 2;simp;omega),rfl⟩
 ·have HA:Hid (allZ a=true):=Lib.hid (by
   cases hx:allZ a
   ·exact absurd (HV.out.2 hx) h0
   ·rfl)
  go_wp2
  go_ret
  exact⟨by rw [HA.out];first|rfl|(congr 2;simp;omega),rfl⟩
theorem AllZero_any (A:Option Addr)(c n:Nat)(a:List Int)(v:Bool)(w:World)(hn:a.length=n)(ha:Ri w .u64 A a)(hl:n≤1099511627776)(hv:allZ a=v):
  Calls Tryz.prog 20 #[.slice A n c] w fun r w'=>r=.returned (.bool v)∧w=w':=by
 subst hn
 have HC:=Lib.hid (ContainsZ_any A c a w ha hl)
 rw [hv] at HC
 clear ha hv
 go_enter Tryz.func20,Tryz.ntmps20
 go_wp2_with fail
 refine HC.out.mono ?_
 rintro r w1 ⟨rfl,rfl⟩
 cases v <;>
 (go_wp2
  go_ret
  exact⟨rfl,rfl⟩)
set_option maxHeartbeats 2000000 in
theorem SlicesEqual_any (A B:Option Addr)(c d n m:Nat)(a b:List Int)(v:Bool)(w:World)(hna:a.length=n)(hnb:b.length=m)(ha:Ri w .u64 A a)(hb:Ri w .u64 B b)(hm:n≤9223372036854775807)(hm2:m≤9223372036854775807)(hv:sameB a b=v):
  Calls Tryz.prog 19 #[.slice A n c,.slice B m d] w fun e w'=>e=.returned (.bool v)∧∃m,w'=w.drewN m:=by
 subst hna hnb hv
 have Ha:=Lib.hid ha
 have Hb:=Lib.hid hb
 clear ha hb
 by_cases hl:a.length=b.length
 ·have HL:=Lib.hid hl
  have hlen:((a.length:Int) != (b.length:Int))=false:=by simp [hl]
  clear hl
  go_enter Tryz.func19,Tryz.ntmps19
  go_wp2
  go_loopw [13] (fun i wr=>∃k:Nat,k≤a.length∧i=.int .i64 k∧(∀j,j<k→zat a j=zat b j)∧∃m,wr=w.drewN m) (fun i _=>a.length-(intOf i).toNat)
  case atStart=>exact⟨0,by omega,rfl,by intro j hj;omega,0,rfl⟩
  case round=>
   obtain⟨k,hk,rfl,hsame,m,rfl⟩:=hrel
   have HS:=Lib.hid hsame
   clear hsame
   by_cases hlt:k<a.length
   ·obtain⟨g,off,rfl,hc1⟩:=Ha.out.at hlt
    have hc1k:=hc1 k hlt
    have hltb:k<b.length:=by rw [←HL.out];exact hlt
    obtain⟨g',off',rfl,hc2⟩:=Hb.out.at hltb
    have hc2k:=hc2 k hltb
    clear hc1 hc2
    have hi1:(k:Int)<(a.length:Int):=by omega
    have hi2:(k:Int)<(b.length:Int):=by omega
    by_cases hz:zat a k=zat b k
    ·have hz1:(zat a k != zat b k)=false:=by simp [hz]
     have HZ:=Lib.hid hz
     clear hz
     go_wp2
     go_quiet (fail)
     go_wp2
     go_roundw
     case rel=>exact⟨k+1,by omega,by go_num,fun j hj=>by
      by_cases e:j=k
      ·subst e;exact HZ.out
      ·exact HS.out j (by omega),_,rfl⟩
     case measure=>simp [intOf];omega
    ·have hz1:(zat a k != zat b k)=true:=by simp [hz]
     have HF:Hid (sameB a b=false):=Lib.hid (by unfold sameB;simp;intro h;exact hz (by rw [h]))
     clear hz
     go_wp2
     go_quiet (fail)
     go_wp2
     go_ret
     exact⟨by rw [HF.out];rfl,_,World.drewN_drewN _ _ _⟩
   ·obtain rfl:k=a.length:=by omega
    have HT:Hid (sameB a b=true):=Lib.hid (by unfold sameB;rw [decide_eq_true_iff];exact ext_zat HL.out HS.out)
    go_wp2
    go_ret
    exact⟨by rw [HT.out];rfl,_,rfl⟩
 ·have hlen:((a.length:Int) != (b.length:Int))=true:=by simp;omega
  have HF:Hid (sameB a b=false):=Lib.hid (by unfold sameB;simp;intro h;exact hl (by rw [h]))
  clear hl
  go_enter Tryz.func19,Tryz.ntmps19
  go_wp2
  go_ret
  exact⟨by rw [HF.out];rfl,0,rfl⟩
end Go.Proofs.YtfaflahfjgnphaaGreatDoor
