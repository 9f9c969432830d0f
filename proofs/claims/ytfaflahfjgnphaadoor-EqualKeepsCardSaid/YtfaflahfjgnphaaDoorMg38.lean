/- The texts Ref04 (what is wanted of them), one after the other. -/
import Derived.Test.YtfaflahfjgnphaaDoorMg32
namespace Go.Proofs.YtfaflahfjgnphaaDoor
open Go.ChangeShapes Go.WideShapes Go.ChangeAt Go.RowKit
set_option linter.unusedVariables false
set_option linter.unusedSimpArgs false
set_option maxRecDepth 100000
section
def sameS (a b:List (List Int)):Bool:=decide (a=b)
theorem sameS_self (a:List (List Int)):sameS a a=true:=by simp [sameS]
theorem sameS_no (a b:List (List Int))(k:Nat)(h:sameB (seg a k) (seg b k)=false):sameS a b=false:=by
 unfold sameS
 simp
 rintro rfl
 rw [sameB_self] at h
 cases h
theorem sameS_len (a b:List (List Int))(h:a.length≠b.length):sameS a b=false:=by
 unfold sameS
 simp
 rintro rfl
 exact h rfl
theorem sameS_yes (a b:List (List Int))(hl:a.length=b.length)(h:∀i,i<a.length→sameB (seg a i) (seg b i)=true):sameS a b=true:=by
 unfold sameS
 simp
 exact ext_seg hl fun i hi=>of_decide_eq_true (h i hi)
theorem SameWords_is (A B:Option Addr)(c d:Nat)(a b:List Int)(w:World)(ha:Ri w .u64 A a)(hb:Ri w .u64 B b)(hm:a.length≤9223372036854775807)(hm2:b.length≤9223372036854775807){x:Bool}(hx:sameB a b=x):
  Calls Tryd.prog 17 #[.slice A a.length c,.slice B b.length d] w fun e w'=>e=.returned (.bool x)∧∃m,w'=w.drewN m:=by
 subst hx
 exact SameWords_any A B c d a b w ha hb hm hm2
theorem Sg.drewN {w:World}{A:Option Addr}{ls:List (List Int)}(h:Sg w A ls)(n:Nat):Sg (w.drewN n) A ls:=h
theorem Same4_any (A B:Option Addr)(c d:Nat)(a b:List (List Int))(w:World)(ha:Sg w A a)(hb:Sg w B b)(hm:a.length≤9223372036854775807)(hm2:b.length≤9223372036854775807):
  Calls Tryd.prog 10 #[.slice A a.length c,.slice B b.length d] w fun e w'=>e=.returned (.bool (sameS a b))∧∃m,w'=w.drewN m:=by
 have Ha:=Lib.hid ha
 have Hb:=Lib.hid hb
 clear ha hb
 by_cases hl:a.length=b.length
 ·have HL:=Lib.hid hl
  have hlen:((a.length:Int) != (b.length:Int))=false:=by simp [hl]
  have hlen2:((a.length:Int)==(b.length:Int))=true:=by simp [hl]
  clear hl
  go_enter Tryd.func10,Tryd.ntmps10
  go_wp2
  go_loopw [5] (fun i wr=>∃k:Nat,k≤a.length∧i=.int .i64 k∧(∀j,j<k→sameB (seg a j) (seg b j)=true)∧∃m,wr=w.drewN m) (fun i _=>a.length-(intOf i).toNat)
  case atStart=>exact⟨0,by omega,rfl,by intro j hj;omega,0,rfl⟩
  case round=>
   obtain⟨k,hk,rfl,hsame,hwr⟩:=hrel
   have HS:=Lib.hid hsame
   have HW:=Lib.hid hwr
   have HA2:Hid (Sg wr A a):=Lib.hid (by obtain⟨m,rfl⟩:=hwr;exact Ha.out.drewN m)
   have HB2:Hid (Sg wr B b):=Lib.hid (by obtain⟨m,rfl⟩:=hwr;exact Hb.out.drewN m)
   clear hsame hwr
   by_cases hlt:k<a.length
   ·obtain⟨g,off,A1,c1,rfl,hc1,hr1,-,hd1,hd2⟩:=HA2.out.one hlt
    have hltb:k<b.length:=by rw [←HL.out];exact hlt
    obtain⟨g',off',A2,c2,rfl,hc2,hr2,-,he1,he2⟩:=HB2.out.one hltb
    have hi1:(k:Int)<(a.length:Int):=by omega
    have hi2:(k:Int)<(b.length:Int):=by omega
    have HR1:=Lib.hid hr1
    have HR2:=Lib.hid hr2
    clear hr1 hr2
    cases hx:sameB (seg a k) (seg b k)
    ·have HX:=Lib.hid hx
     clear hx
     go_wp2
     go_quiet ((go_at_call 17;exact Calls.quiet_of (SameWords_is _ _ _ _ _ _ _ (HR1.out.drewN _) (HR2.out.drewN _) (by omega) (by omega) HX.out)))
     go_wp2
     go_ret
     exact⟨by rw [sameS_no a b k HX.out];rfl,by obtain⟨m,h⟩:=HW.out;exact⟨_,by rw [h,World.drewN_drewN]⟩⟩
    ·have HX:=Lib.hid hx
     clear hx
     go_wp2
     go_quiet ((go_at_call 17;exact Calls.quiet_of (SameWords_is _ _ _ _ _ _ _ (HR1.out.drewN _) (HR2.out.drewN _) (by omega) (by omega) HX.out)))
     go_wp2
     go_roundw
     case rel=>exact⟨k+1,by omega,by go_num,fun j hj=>by
      by_cases e:j=k
      ·subst e;exact HX.out
      ·exact HS.out j (by omega),by obtain⟨m,h⟩:=HW.out;exact⟨_,by rw [h,World.drewN_drewN]⟩⟩
     case measure=>simp [intOf];omega
   ·obtain rfl:k=a.length:=by omega
    go_wp2
    go_ret
    exact⟨by rw [sameS_yes a b HL.out HS.out];rfl,HW.out⟩
 ·have HL:=Lib.hid (sameS_len a b hl)
  have hlen:((a.length:Int) != (b.length:Int))=true:=by simp;omega
  have hlen2:((a.length:Int)==(b.length:Int))=false:=by simp;omega
  clear hl
  go_enter Tryd.func10,Tryd.ntmps10
  go_wp2
  go_ret
  exact⟨by rw [HL.out];rfl,0,rfl⟩
def entN (b:List Int)(i:Nat):Nat:=(ent b i).toNat
def atN (b:List Int)(k:Nat):Nat:=(atF b k).toNat
attribute [local irreducible] atN entN
end
end Go.Proofs.YtfaflahfjgnphaaDoor
