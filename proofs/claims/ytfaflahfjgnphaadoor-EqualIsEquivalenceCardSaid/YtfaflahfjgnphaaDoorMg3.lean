/- The texts Ref01, Ref06 (what is wanted of them), one after the other. -/
import Derived.Test.YtfaflahfjgnphaaDoorMg1
import Derived.Test.YtfaflahfjgnphaaDoorRows
import Derived.ProofKit
import Derived.OpenShut
import Derived.Deep.DeepFit
import Derived.RegionTactic
import Derived.Deep.QuietTactic
import Derived.BigQuiet
namespace Go.Proofs.YtfaflahfjgnphaaDoor
open Go.ChangeShapes Go.WideShapes Go.ChangeAt Go.RowKit
set_option linter.unusedVariables false
set_option linter.unusedSimpArgs false
set_option maxRecDepth 100000
def sameB (a b:List Int):Bool:=decide (a=b)
theorem sameB_no (a b:List Int)(k:Nat)(h:zat a k≠zat b k):sameB a b=false:=by
 unfold sameB
 simp
 rintro rfl
 exact h rfl
theorem sameB_len (a b:List Int)(h:a.length≠b.length):sameB a b=false:=by
 unfold sameB
 simp
 rintro rfl
 exact h rfl
theorem sameB_yes (a b:List Int)(hl:a.length=b.length)(h:∀i,i<a.length→zat a i=zat b i):sameB a b=true:=by
 unfold sameB
 simp [ext_zat hl h]
theorem sameB_self (a:List Int):sameB a a=true:=by simp [sameB]
theorem SameWords_any (A B:Option Addr)(c d:Nat)(a b:List Int)(w:World)(ha:Ri w .u64 A a)(hb:Ri w .u64 B b)(hm:a.length≤9223372036854775807)(hm2:b.length≤9223372036854775807):
  Calls Tryd.prog 17 #[.slice A a.length c,.slice B b.length d] w fun e w'=>e=.returned (.bool (sameB a b))∧∃m,w'=w.drewN m:=by
 have Ha:=Lib.hid ha
 have Hb:=Lib.hid hb
 clear ha hb
 by_cases hl:a.length=b.length
 ·have HL:=Lib.hid hl
  have hlen:((a.length:Int) != (b.length:Int))=false:=by simp [hl]
  have hlen2:((a.length:Int)==(b.length:Int))=true:=by simp [hl]
  clear hl
  go_enter Tryd.func17,Tryd.ntmps17
  go_wp2
  go_loopw [5] (fun i wr=>∃k:Nat,k≤a.length∧i=.int .i64 k∧(∀j,j<k→zat a j=zat b j)∧∃m,wr=w.drewN m) (fun i _=>a.length-(intOf i).toNat)
  case atStart=>exact⟨0,by omega,rfl,by intro j hj;omega,0,rfl⟩
  case round=>
   obtain⟨k,hk,rfl,hsame,m,rfl⟩:=hrel
   have HS:=Lib.hid hsame
   clear hsame
   by_cases hlt:k<a.length
   ·obtain⟨g,off,rfl,hc1⟩:=Ha.out.at hlt
    have hc1k:=hc1 k hlt
    have hltb:k<b.length:=by rw [←HL.out];exact hlt
    obtain⟨g',off',rfl,hc2⟩:=Hb.out.at hltb
    have hc2k:=hc2 k hltb
    clear hc1 hc2
    have hi1:(k:Int)<(a.length:Int):=by omega
    have hi2:(k:Int)<(b.length:Int):=by omega
    by_cases hz:zat a k=zat b k
    ·have hz1:(zat a k != zat b k)=false:=by simp [hz]
     have hz2:(zat a k==zat b k)=true:=by simp [hz]
     have HZ:=Lib.hid hz
     clear hz
     go_wp2
     go_quiet (fail)
     go_wp2
     go_roundw
     case rel=>exact⟨k+1,by omega,by go_num,fun j hj=>by
      by_cases e:j=k
      ·subst e;exact HZ.out
      ·exact HS.out j (by omega),_,rfl⟩
     case measure=>simp [intOf];omega
    ·have hz1:(zat a k != zat b k)=true:=by simp [hz]
     have hz2:(zat a k==zat b k)=false:=by simp [hz]
     have HZ:=Lib.hid hz
     clear hz
     go_wp2
     go_quiet (fail)
     go_wp2
     go_ret
     exact⟨by rw [sameB_no a b k HZ.out];rfl,_,World.drewN_drewN _ _ _⟩
   ·obtain rfl:k=a.length:=by omega
    go_wp2
    go_ret
    exact⟨by rw [sameB_yes a b HL.out HS.out];rfl,_,rfl⟩
 ·have HL:=Lib.hid (sameB_len a b hl)
  have hlen:((a.length:Int) != (b.length:Int))=true:=by simp;omega
  have hlen2:((a.length:Int)==(b.length:Int))=false:=by simp;omega
  clear hl
  go_enter Tryd.func17,Tryd.ntmps17
  go_wp2
  go_ret
  exact⟨by rw [HL.out];rfl,0,rfl⟩
def p2 (n:Int):Int:=2 ^ n.toNat
theorem p2_pos (n:Int):1≤p2 n:=by
 have:(0:Int)<2 ^ n.toNat:=Int.pow_pos (by decide)
 unfold p2;omega
theorem p2_bd (n:Int)(h:n≤63):p2 n≤9223372036854775808:=by
 have:=Nat.pow_le_pow_right (n:=2) (by decide) (show n.toNat≤63 by omega)
 have e:(2:Int) ^ n.toNat=((2 ^ n.toNat:Nat):Int):=by simp
 unfold p2
 rw [e];omega
theorem fld_lt63 (x a n:Int)(h:n≤63):fld x a n<9223372036854775808:=by
 have h1:=fld_lt x a n
 have h2:=p2_bd n h
 unfold p2 at h2
 omega
section
def bitsI (e:Int):Int:=if e=1 then 1 else if e=2 then 8 else if e=3 then 16 else if e=4 then 32 else if e=5∨e=6 then 64 else 0
def wordsI (e c:Int):Int:=if e=7 then c+1 else (bitsI e*c+63) / 64
def bytesI (e c:Int):Int:=(bitsI e*c+7) / 8
theorem bitsI_cases (e:Int):bitsI e=0∨bitsI e=1∨bitsI e=8∨bitsI e=16∨bitsI e=32∨bitsI e=64:=by
 unfold bitsI
 repeat' split
 all_goals simp
theorem bitsI_mul (e c:Int)(h0:0≤c):0≤bitsI e*c∧bitsI e*c≤64*c:=by
 rcases bitsI_cases e with h|h|h|h|h|h<;>rw [h]<;>omega
def trimAt (b:List Int)(e c:Int)(i:Nat):Int:=if e=1∧c<8*(i:Int)+8 then zat b i % p2 (c-8*i) else zat b i
def trimL (b:List Int)(e c:Int):List Int:=(List.range (bytesI e c).toNat).map (trimAt b e c)
theorem trimL_length (b:List Int)(e c:Int):(trimL b e c).length=(bytesI e c).toNat:=by simp [trimL]
theorem trimL_zat (b:List Int)(e c:Int)(i:Nat)(h:i<(bytesI e c).toNat):zat (trimL b e c) i=trimAt b e c i:=by
 simp [trimL,zat,List.getD_eq_getElem?_getD,h]
theorem trimAt_bd {b:List Int}(hb:Bts b)(e c:Int)(i:Nat):0≤trimAt b e c i∧trimAt b e c i<256:=by
 have hz:=hb.at i
 unfold trimAt
 split
 ·have hp:=p2_pos (c-8*i)
  have h1:=Int.emod_nonneg (zat b i) (show p2 (c-8*(i:Int))≠0 by omega)
  have h2:zat b i % p2 (c-8*(i:Int))≤zat b i:=by
   rw [Int.emod_def]
   have:=Int.mul_nonneg (show 0≤p2 (c-8*(i:Int)) by omega) (Int.ediv_nonneg hz.1 (show 0≤p2 (c-8*(i:Int)) by omega))
   omega
  omega
 ·exact hz
theorem trimL_bts {b:List Int}(hb:Bts b)(e c:Int):Bts (trimL b e c):=by
 intro z hz
 simp only [trimL,List.mem_map] at hz
 obtain⟨i,_,rfl⟩:=hz
 exact trimAt_bd hb e c i
attribute [local irreducible] p2
end
end Go.Proofs.YtfaflahfjgnphaaDoor
