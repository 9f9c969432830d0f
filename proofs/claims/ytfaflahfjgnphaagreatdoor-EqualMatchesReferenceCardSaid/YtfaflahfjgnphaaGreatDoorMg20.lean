/- The texts Ref07, Ref08, Obj08 (what is wanted of them), one after the other. -/
import Derived.Test.YtfaflahfjgnphaaGreatDoorMg8
import Derived.Test.YtfaflahfjgnphaaGreatDoorMg9
import Derived.Test.YtfaflahfjgnphaaGreatDoorMg11
namespace Go.Proofs.YtfaflahfjgnphaaGreatDoor
open Go.ChangeShapes Go.WideShapes Go.ChangeAt Go.RowKit
set_option linter.unusedVariables false
set_option linter.unusedSimpArgs false
set_option maxRecDepth 100000
theorem wordV_bd {ls:List (List Int)}(h:Wd2 ls)(s a:Int):0≤wordV ls s a∧wordV ls s a<18446744073709551616:=by
 unfold wordV
 split
 ·exact(h.at s.toNat).at a.toNat
 ·omega
theorem IsFar_any (x:Int)(w:World)(h5:0≤x)(h6:x<18446744073709551616):
  Calls Tryz.prog 87 #[.int .u64 x] w fun e w'=>e=.returned (.bool (x % 4==2))∧w=w':=by
 go_enter Tryz.func87,Tryz.ntmps87
 go_wp2
 go_ret
 exact⟨rfl,rfl⟩
theorem IsFar_is (x:Int)(b:Bool)(w:World)(h5:0≤x)(h6:x<18446744073709551616)(hb:(x % 4==2)=b):
  Calls Tryz.prog 87 #[.int .u64 x] w fun e w'=>e=.returned (.bool b)∧w=w':=by
 subst hb
 exact IsFar_any x w h5 h6
theorem Landing_any (x:Int)(w:World)(h5:0≤x)(h6:x<18446744073709551616):
  Calls Tryz.prog 88 #[.int .u64 x] w fun e w'=>e=.returned (.tuple #[.int .i64 (x / 4294967296),.int .i64 (x % 4294967296 / 8)])∧w=w':=by
 have h7:x / 4294967296<4294967296:=by omega
 go_enter Tryz.func88,Tryz.ntmps88
 go_wp2
 go_ret2
 exact⟨rfl,rfl⟩
structure Fol where
 w:Int
 s:Int
 b:Int
 e:Int
def folE (e:Int):Fol:=⟨0,0,0,e⟩
def followF (ls:List (List Int))(s a:Int):Fol:=
 if hasB ls s a=false then folE 2
 else if (wordV ls s a % 4==2)=false then ⟨wordV ls s a,s,a+1,0⟩
 else if hasB ls (wordV ls s a / 4294967296) (wordV ls s a % 4294967296 / 8)=false then folE 2
 else if wordV ls s a / 4 % 2=0 then
  if (wordV ls (wordV ls s a / 4294967296) (wordV ls s a % 4294967296 / 8) % 4==2)=true then folE 3
  else ⟨wordV ls (wordV ls s a / 4294967296) (wordV ls s a % 4294967296 / 8),wordV ls s a / 4294967296,wordV ls s a % 4294967296 / 8+1,0⟩
 else if hasB ls (wordV ls s a / 4294967296) (wordV ls s a % 4294967296 / 8+1)=false then folE 2
 else if (wordV ls (wordV ls s a / 4294967296) (wordV ls s a % 4294967296 / 8) % 4==2)=false∨wordV ls (wordV ls s a / 4294967296) (wordV ls s a % 4294967296 / 8) / 4 % 2=1 ∨
   1<(decP (wordV ls (wordV ls s a / 4294967296) (wordV ls s a % 4294967296 / 8+1))).k∨(decP (wordV ls (wordV ls s a / 4294967296) (wordV ls s a % 4294967296 / 8+1))).o≠0 then folE 3
 else ⟨wordV ls (wordV ls s a / 4294967296) (wordV ls s a % 4294967296 / 8+1),wordV ls (wordV ls s a / 4294967296) (wordV ls s a % 4294967296 / 8) / 4294967296,wordV ls (wordV ls s a / 4294967296) (wordV ls s a % 4294967296 / 8) % 4294967296 / 8,0⟩
theorem RefWord_is (A:Option Addr)(c:Nat)(ls:List (List Int))(s a:Int)(b:Bool)(w:World)(hs:Sg w A ls)(hm:ls.length≤140737488355328)(hb:hasB ls s a=b):
  Calls Tryz.prog 86 #[.slice A ls.length c,.int .i64 s,.int .i64 a] w fun e w'=>e=.returned (.tuple #[.int .u64 (wordV ls s a),.bool b])∧w=w':=by
 subst hb
 exact RefWord_any A c ls s a w hs hm
set_option maxHeartbeats 1000000 in
theorem Follow1 (A:Option Addr)(c:Nat)(ls:List (List Int))(s a:Int)(w:World)(hs:Sg w A ls)(hw:Wd2 ls)(hm:ls.length≤140737488355328)(hf:∀j,(seg ls j).length≤140737488355328)(h1:hasB ls s a=false):
  Calls Tryz.prog 56 #[.slice A ls.length c,.int .i64 s,.int .i64 a] w fun e w'=>e=.returned (.tuple #[.int .u64 (followF ls s a).w,.int .i64 (followF ls s a).s,.int .i64 (followF ls s a).b,.int .i64 (followF ls s a).e])∧Below w.heap.size w w':=by
 have HF:Hid (followF ls s a=folE 2):=Lib.hid (by simp [followF,folE,h1])
 have Hs:=Lib.hid hs
 have bx:=wordV_bd hw s a
 have bone:=wordV_bd hw (wordV ls s a / 4294967296) (wordV ls s a % 4294967296 / 8)
 have btwo:=wordV_bd hw (wordV ls s a / 4294967296) (wordV ls s a % 4294967296 / 8+1)
 have q1:0≤wordV ls s a / 4294967296∧wordV ls s a / 4294967296<4294967296:=by omega
 have q2:0≤wordV ls s a % 4294967296 / 8∧wordV ls s a % 4294967296 / 8<536870912:=by omega
 clear hs hw hf
 go_enter Tryz.func56,Tryz.ntmps56
 go_wp2_with fail
 refine(RefWord_is _ _ _ _ _ false _ Hs.out hm h1).mono ?_
 rintro e w' ⟨rfl,rfl⟩
 go_wp2
 refine bodyPost_ret (v:=.tuple #[.int .u64 0,.int .i64 0,.int .i64 0,.int .i64 2]) (by simp [results,Tryz.results56,go_sem]) rfl ⟨by rw [HF.out];rfl,Below.refl _ _⟩
set_option maxHeartbeats 1000000 in
theorem Follow2 (A:Option Addr)(c:Nat)(ls:List (List Int))(s a:Int)(w:World)(hs:Sg w A ls)(hw:Wd2 ls)(hm:ls.length≤140737488355328)(hf:∀j,(seg ls j).length≤140737488355328)(h1:hasB ls s a=true)(h2:(wordV ls s a % 4==2)=false):
  Calls Tryz.prog 56 #[.slice A ls.length c,.int .i64 s,.int .i64 a] w fun e w'=>e=.returned (.tuple #[.int .u64 (followF ls s a).w,.int .i64 (followF ls s a).s,.int .i64 (followF ls s a).b,.int .i64 (followF ls s a).e])∧Below w.heap.size w w':=by
 have HF:Hid (followF ls s a=⟨wordV ls s a,s,a+1,0⟩):=Lib.hid (by simp [followF,folE,h1,h2])
 have Hs:=Lib.hid hs
 have bx:=wordV_bd hw s a
 have bone:=wordV_bd hw (wordV ls s a / 4294967296) (wordV ls s a % 4294967296 / 8)
 have btwo:=wordV_bd hw (wordV ls s a / 4294967296) (wordV ls s a % 4294967296 / 8+1)
 have q1:0≤wordV ls s a / 4294967296∧wordV ls s a / 4294967296<4294967296:=by omega
 have q2:0≤wordV ls s a % 4294967296 / 8∧wordV ls s a % 4294967296 / 8<536870912:=by omega
 have hab:0≤a∧a≤140737488355328:=by
  unfold hasB at h1
  have h7:=of_decide_eq_true h1
  have h8:=hf s.toNat
  omega
 clear hs hw hf
 go_enter Tryz.func56,Tryz.ntmps56
 go_wp2_with fail
 refine(RefWord_is _ _ _ _ _ true _ Hs.out hm h1).mono ?_
 rintro e w' ⟨rfl,rfl⟩
 go_wp2_with fail
 refine(IsFar_is _ false _ bx.1 bx.2 h2).mono ?_
 rintro e w' ⟨rfl,rfl⟩
 go_wp2
 refine bodyPost_ret (v:=.tuple #[.int .u64 (wordV ls s a),.int .i64 s,.int .i64 (a+1),.int .i64 0]) (by simp [results,Tryz.results56,go_sem]) rfl ⟨by rw [HF.out],Below.refl _ _⟩
set_option maxHeartbeats 1000000 in
theorem Follow3 (A:Option Addr)(c:Nat)(ls:List (List Int))(s a:Int)(w:World)(hs:Sg w A ls)(hw:Wd2 ls)(hm:ls.length≤140737488355328)(hf:∀j,(seg ls j).length≤140737488355328)(h1:hasB ls s a=true)(h2:(wordV ls s a % 4==2)=true)(h3:hasB ls (wordV ls s a / 4294967296) (wordV ls s a % 4294967296 / 8)=false):
  Calls Tryz.prog 56 #[.slice A ls.length c,.int .i64 s,.int .i64 a] w fun e w'=>e=.returned (.tuple #[.int .u64 (followF ls s a).w,.int .i64 (followF ls s a).s,.int .i64 (followF ls s a).b,.int .i64 (followF ls s a).e])∧Below w.heap.size w w':=by
 have HF:Hid (followF ls s a=folE 2):=Lib.hid (by simp [followF,folE,h1,h2,h3])
 have Hs:=Lib.hid hs
 have bx:=wordV_bd hw s a
 have bone:=wordV_bd hw (wordV ls s a / 4294967296) (wordV ls s a % 4294967296 / 8)
 have btwo:=wordV_bd hw (wordV ls s a / 4294967296) (wordV ls s a % 4294967296 / 8+1)
 have q1:0≤wordV ls s a / 4294967296∧wordV ls s a / 4294967296<4294967296:=by omega
 have q2:0≤wordV ls s a % 4294967296 / 8∧wordV ls s a % 4294967296 / 8<536870912:=by omega
 clear hs hw hf
 go_enter Tryz.func56,Tryz.ntmps56
 go_wp2_with fail
 refine(RefWord_is _ _ _ _ _ true _ Hs.out hm h1).mono ?_
 rintro e w' ⟨rfl,rfl⟩
 go_wp2_with fail
 refine(IsFar_is _ true _ bx.1 bx.2 h2).mono ?_
 rintro e w' ⟨rfl,rfl⟩
 go_wp2_with fail
 refine(Landing_any _ _ bx.1 bx.2).mono ?_
 rintro e w' ⟨rfl,rfl⟩
 go_wp2_with fail
 refine(RefWord_is _ _ _ _ _ false _ Hs.out hm h3).mono ?_
 rintro e w' ⟨rfl,rfl⟩
 go_wp2
 refine bodyPost_ret (v:=.tuple #[.int .u64 0,.int .i64 0,.int .i64 0,.int .i64 2]) (by simp [results,Tryz.results56,go_sem]) rfl ⟨by rw [HF.out];rfl,Below.refl _ _⟩
set_option maxHeartbeats 1000000 in
theorem Follow4 (A:Option Addr)(c:Nat)(ls:List (List Int))(s a:Int)(w:World)(hs:Sg w A ls)(hw:Wd2 ls)(hm:ls.length≤140737488355328)(hf:∀j,(seg ls j).length≤140737488355328)(h1:hasB ls s a=true)(h2:(wordV ls s a % 4==2)=true)(h3:hasB ls (wordV ls s a / 4294967296) (wordV ls s a % 4294967296 / 8)=true)(h4:wordV ls s a / 4 % 2=0)(h5:(wordV ls (wordV ls s a / 4294967296) (wordV ls s a % 4294967296 / 8) % 4==2)=true):
  Calls Tryz.prog 56 #[.slice A ls.length c,.int .i64 s,.int .i64 a] w fun e w'=>e=.returned (.tuple #[.int .u64 (followF ls s a).w,.int .i64 (followF ls s a).s,.int .i64 (followF ls s a).b,.int .i64 (followF ls s a).e])∧Below w.heap.size w w':=by
 have HF:Hid (followF ls s a=folE 3):=Lib.hid (by simp [followF,folE,h1,h2,h3,h4,h5])
 have Hs:=Lib.hid hs
 have bx:=wordV_bd hw s a
 have bone:=wordV_bd hw (wordV ls s a / 4294967296) (wordV ls s a % 4294967296 / 8)
 have btwo:=wordV_bd hw (wordV ls s a / 4294967296) (wordV ls s a % 4294967296 / 8+1)
 have q1:0≤wordV ls s a / 4294967296∧wordV ls s a / 4294967296<4294967296:=by omega
 have q2:0≤wordV ls s a % 4294967296 / 8∧wordV ls s a % 4294967296 / 8<536870912:=by omega
 have t4:(wordV ls s a / 4 % 2==0)=true:=by rw [beq_iff_eq];exact h4
 clear hs hw hf
 go_enter Tryz.func56,Tryz.ntmps56
 go_wp2_with fail
 refine(RefWord_is _ _ _ _ _ true _ Hs.out hm h1).mono ?_
 rintro e w' ⟨rfl,rfl⟩
 go_wp2_with fail
 refine(IsFar_is _ true _ bx.1 bx.2 h2).mono ?_
 rintro e w' ⟨rfl,rfl⟩
 go_wp2_with fail
 refine(Landing_any _ _ bx.1 bx.2).mono ?_
 rintro e w' ⟨rfl,rfl⟩
 go_wp2_with fail
 refine(RefWord_is _ _ _ _ _ true _ Hs.out hm h3).mono ?_
 rintro e w' ⟨rfl,rfl⟩
 go_wp2_with fail
 refine(IsFar_is _ true _ bone.1 bone.2 h5).mono ?_
 rintro e w' ⟨rfl,rfl⟩
 go_wp2
 refine bodyPost_ret (v:=.tuple #[.int .u64 0,.int .i64 0,.int .i64 0,.int .i64 3]) (by simp [results,Tryz.results56,go_sem]) rfl ⟨by rw [HF.out];rfl,Below.refl _ _⟩
set_option maxHeartbeats 1000000 in
theorem Follow5 (A:Option Addr)(c:Nat)(ls:List (List Int))(s a:Int)(w:World)(hs:Sg w A ls)(hw:Wd2 ls)(hm:ls.length≤140737488355328)(hf:∀j,(seg ls j).length≤140737488355328)(h1:hasB ls s a=true)(h2:(wordV ls s a % 4==2)=true)(h3:hasB ls (wordV ls s a / 4294967296) (wordV ls s a % 4294967296 / 8)=true)(h4:wordV ls s a / 4 % 2=0)(h5:(wordV ls (wordV ls s a / 4294967296) (wordV ls s a % 4294967296 / 8) % 4==2)=false):
  Calls Tryz.prog 56 #[.slice A ls.length c,.int .i64 s,.int .i64 a] w fun e w'=>e=.returned (.tuple #[.int .u64 (followF ls s a).w,.int .i64 (followF ls s a).s,.int .i64 (followF ls s a).b,.int .i64 (followF ls s a).e])∧Below w.heap.size w w':=by
 have HF:Hid (followF ls s a=⟨wordV ls (wordV ls s a / 4294967296) (wordV ls s a % 4294967296 / 8),(wordV ls s a / 4294967296),(wordV ls s a % 4294967296 / 8)+1,0⟩):=Lib.hid (by simp [followF,folE,h1,h2,h3,h4,h5])
 have Hs:=Lib.hid hs
 have bx:=wordV_bd hw s a
 have bone:=wordV_bd hw (wordV ls s a / 4294967296) (wordV ls s a % 4294967296 / 8)
 have btwo:=wordV_bd hw (wordV ls s a / 4294967296) (wordV ls s a % 4294967296 / 8+1)
 have q1:0≤wordV ls s a / 4294967296∧wordV ls s a / 4294967296<4294967296:=by omega
 have q2:0≤wordV ls s a % 4294967296 / 8∧wordV ls s a % 4294967296 / 8<536870912:=by omega
 have t4:(wordV ls s a / 4 % 2==0)=true:=by rw [beq_iff_eq];exact h4
 clear hs hw hf
 go_enter Tryz.func56,Tryz.ntmps56
 go_wp2_with fail
 refine(RefWord_is _ _ _ _ _ true _ Hs.out hm h1).mono ?_
 rintro e w' ⟨rfl,rfl⟩
 go_wp2_with fail
 refine(IsFar_is _ true _ bx.1 bx.2 h2).mono ?_
 rintro e w' ⟨rfl,rfl⟩
 go_wp2_with fail
 refine(Landing_any _ _ bx.1 bx.2).mono ?_
 rintro e w' ⟨rfl,rfl⟩
 go_wp2_with fail
 refine(RefWord_is _ _ _ _ _ true _ Hs.out hm h3).mono ?_
 rintro e w' ⟨rfl,rfl⟩
 go_wp2_with fail
 refine(IsFar_is _ false _ bone.1 bone.2 h5).mono ?_
 rintro e w' ⟨rfl,rfl⟩
 go_wp2
 refine bodyPost_ret (v:=.tuple #[.int .u64 (wordV ls (wordV ls s a / 4294967296) (wordV ls s a % 4294967296 / 8)),.int .i64 (wordV ls s a / 4294967296),.int .i64 (wordV ls s a % 4294967296 / 8+1),.int .i64 0]) (by simp [results,Tryz.results56,go_sem]) rfl ⟨by rw [HF.out],Below.refl _ _⟩
set_option maxHeartbeats 1000000 in
theorem Follow6 (A:Option Addr)(c:Nat)(ls:List (List Int))(s a:Int)(w:World)(hs:Sg w A ls)(hw:Wd2 ls)(hm:ls.length≤140737488355328)(hf:∀j,(seg ls j).length≤140737488355328)(h1:hasB ls s a=true)(h2:(wordV ls s a % 4==2)=true)(h3:hasB ls (wordV ls s a / 4294967296) (wordV ls s a % 4294967296 / 8)=true)(h4:¬wordV ls s a / 4 % 2=0)(h6:hasB ls (wordV ls s a / 4294967296) (wordV ls s a % 4294967296 / 8+1)=false):
  Calls Tryz.prog 56 #[.slice A ls.length c,.int .i64 s,.int .i64 a] w fun e w'=>e=.returned (.tuple #[.int .u64 (followF ls s a).w,.int .i64 (followF ls s a).s,.int .i64 (followF ls s a).b,.int .i64 (followF ls s a).e])∧Below w.heap.size w w':=by
 have HF:Hid (followF ls s a=folE 2):=Lib.hid (by simp [followF,folE,h1,h2,h3,h4,h6])
 have Hs:=Lib.hid hs
 have bx:=wordV_bd hw s a
 have bone:=wordV_bd hw (wordV ls s a / 4294967296) (wordV ls s a % 4294967296 / 8)
 have btwo:=wordV_bd hw (wordV ls s a / 4294967296) (wordV ls s a % 4294967296 / 8+1)
 have q1:0≤wordV ls s a / 4294967296∧wordV ls s a / 4294967296<4294967296:=by omega
 have q2:0≤wordV ls s a % 4294967296 / 8∧wordV ls s a % 4294967296 / 8<536870912:=by omega
 have t4:(wordV ls s a / 4 % 2==0)=false:=by rw [beq_eq_false_iff_ne];exact h4
 clear hs hw hf
 go_enter Tryz.func56,Tryz.ntmps56
 go_wp2_with fail
 refine(RefWord_is _ _ _ _ _ true _ Hs.out hm h1).mono ?_
 rintro e w' ⟨rfl,rfl⟩
 go_wp2_with fail
 refine(IsFar_is _ true _ bx.1 bx.2 h2).mono ?_
 rintro e w' ⟨rfl,rfl⟩
 go_wp2_with fail
 refine(Landing_any _ _ bx.1 bx.2).mono ?_
 rintro e w' ⟨rfl,rfl⟩
 go_wp2_with fail
 refine(RefWord_is _ _ _ _ _ true _ Hs.out hm h3).mono ?_
 rintro e w' ⟨rfl,rfl⟩
 go_wp2_with fail
 refine(RefWord_is _ _ _ _ _ false _ Hs.out hm h6).mono ?_
 rintro e w' ⟨rfl,rfl⟩
 go_wp2
 refine bodyPost_ret (v:=.tuple #[.int .u64 0,.int .i64 0,.int .i64 0,.int .i64 2]) (by simp [results,Tryz.results56,go_sem]) rfl ⟨by rw [HF.out];rfl,Below.refl _ _⟩
set_option maxHeartbeats 1000000 in
theorem Follow7 (A:Option Addr)(c:Nat)(ls:List (List Int))(s a:Int)(w:World)(hs:Sg w A ls)(hw:Wd2 ls)(hm:ls.length≤140737488355328)(hf:∀j,(seg ls j).length≤140737488355328)(h1:hasB ls s a=true)(h2:(wordV ls s a % 4==2)=true)(h3:hasB ls (wordV ls s a / 4294967296) (wordV ls s a % 4294967296 / 8)=true)(h4:¬wordV ls s a / 4 % 2=0)(h6:hasB ls (wordV ls s a / 4294967296) (wordV ls s a % 4294967296 / 8+1)=true)(h5:(wordV ls (wordV ls s a / 4294967296) (wordV ls s a % 4294967296 / 8) % 4==2)=false):
  Calls Tryz.prog 56 #[.slice A ls.length c,.int .i64 s,.int .i64 a] w fun e w'=>e=.returned (.tuple #[.int .u64 (followF ls s a).w,.int .i64 (followF ls s a).s,.int .i64 (followF ls s a).b,.int .i64 (followF ls s a).e])∧Below w.heap.size w w':=by
 have HF:Hid (followF ls s a=folE 3):=Lib.hid (by simp [followF,folE,h1,h2,h3,h4,h5,h6])
 have Hs:=Lib.hid hs
 have bx:=wordV_bd hw s a
 have bone:=wordV_bd hw (wordV ls s a / 4294967296) (wordV ls s a % 4294967296 / 8)
 have btwo:=wordV_bd hw (wordV ls s a / 4294967296) (wordV ls s a % 4294967296 / 8+1)
 have q1:0≤wordV ls s a / 4294967296∧wordV ls s a / 4294967296<4294967296:=by omega
 have q2:0≤wordV ls s a % 4294967296 / 8∧wordV ls s a % 4294967296 / 8<536870912:=by omega
 have t4:(wordV ls s a / 4 % 2==0)=false:=by rw [beq_eq_false_iff_ne];exact h4
 clear hs hw hf
 go_enter Tryz.func56,Tryz.ntmps56
 go_wp2_with fail
 refine(RefWord_is _ _ _ _ _ true _ Hs.out hm h1).mono ?_
 rintro e w' ⟨rfl,rfl⟩
 go_wp2_with fail
 refine(IsFar_is _ true _ bx.1 bx.2 h2).mono ?_
 rintro e w' ⟨rfl,rfl⟩
 go_wp2_with fail
 refine(Landing_any _ _ bx.1 bx.2).mono ?_
 rintro e w' ⟨rfl,rfl⟩
 go_wp2_with fail
 refine(RefWord_is _ _ _ _ _ true _ Hs.out hm h3).mono ?_
 rintro e w' ⟨rfl,rfl⟩
 go_wp2_with fail
 refine(RefWord_is _ _ _ _ _ true _ Hs.out hm h6).mono ?_
 rintro e w' ⟨rfl,rfl⟩
 go_wp2_with fail
 refine(RefDecode_any _ _ btwo.1 btwo.2).mono ?_
 rintro e w1 ⟨rfl,hb1⟩
 have hz1:=hb1.size
 have HB:=Lib.hid (hb1.alloc hz1 (.cells #[.int .i64 (decP (wordV ls (wordV ls s a / 4294967296) (wordV ls s a % 4294967296 / 8+1))).k,.int .i64 (decP (wordV ls (wordV ls s a / 4294967296) (wordV ls s a % 4294967296 / 8+1))).o,.int .i64 (decP (wordV ls (wordV ls s a / 4294967296) (wordV ls s a % 4294967296 / 8+1))).d,.int .i64 (decP (wordV ls (wordV ls s a / 4294967296) (wordV ls s a % 4294967296 / 8+1))).p,.int .i64 (decP (wordV ls (wordV ls s a / 4294967296) (wordV ls s a % 4294967296 / 8+1))).el,.int .i64 (decP (wordV ls (wordV ls s a / 4294967296) (wordV ls s a % 4294967296 / 8+1))).c,.bool (decP (wordV ls (wordV ls s a / 4294967296) (wordV ls s a % 4294967296 / 8+1))).db,.int .i64 (decP (wordV ls (wordV ls s a / 4294967296) (wordV ls s a % 4294967296 / 8+1))).pa,.int .u32 (decP (wordV ls (wordV ls s a / 4294967296) (wordV ls s a % 4294967296 / 8+1))).sg,.int .u32 (decP (wordV ls (wordV ls s a / 4294967296) (wordV ls s a % 4294967296 / 8+1))).lo] 95))
 clear hb1
 go_wp2_with fail
 refine(IsFar_is _ false _ bone.1 bone.2 h5).mono ?_
 rintro e w' ⟨rfl,rfl⟩
 go_wp2
 refine bodyPost_ret (v:=.tuple #[.int .u64 0,.int .i64 0,.int .i64 0,.int .i64 3]) (by simp [results,Tryz.results56,go_sem]) rfl ⟨by rw [HF.out];rfl,HB.out⟩
set_option maxHeartbeats 1000000 in
theorem Follow8 (A:Option Addr)(c:Nat)(ls:List (List Int))(s a:Int)(w:World)(hs:Sg w A ls)(hw:Wd2 ls)(hm:ls.length≤140737488355328)(hf:∀j,(seg ls j).length≤140737488355328)(h1:hasB ls s a=true)(h2:(wordV ls s a % 4==2)=true)(h3:hasB ls (wordV ls s a / 4294967296) (wordV ls s a % 4294967296 / 8)=true)(h4:¬wordV ls s a / 4 % 2=0)(h6:hasB ls (wordV ls s a / 4294967296) (wordV ls s a % 4294967296 / 8+1)=true)(h5:(wordV ls (wordV ls s a / 4294967296) (wordV ls s a % 4294967296 / 8) % 4==2)=true)(h7:wordV ls (wordV ls s a / 4294967296) (wordV ls s a % 4294967296 / 8) / 4 % 2=1):
  Calls Tryz.prog 56 #[.slice A ls.length c,.int .i64 s,.int .i64 a] w fun e w'=>e=.returned (.tuple #[.int .u64 (followF ls s a).w,.int .i64 (followF ls s a).s,.int .i64 (followF ls s a).b,.int .i64 (followF ls s a).e])∧Below w.heap.size w w':=by
 have HF:Hid (followF ls s a=folE 3):=Lib.hid (by simp [followF,folE,h1,h2,h3,h4,h5,h6,h7])
 have Hs:=Lib.hid hs
 have bx:=wordV_bd hw s a
 have bone:=wordV_bd hw (wordV ls s a / 4294967296) (wordV ls s a % 4294967296 / 8)
 have btwo:=wordV_bd hw (wordV ls s a / 4294967296) (wordV ls s a % 4294967296 / 8+1)
 have q1:0≤wordV ls s a / 4294967296∧wordV ls s a / 4294967296<4294967296:=by omega
 have q2:0≤wordV ls s a % 4294967296 / 8∧wordV ls s a % 4294967296 / 8<536870912:=by omega
 have t4:(wordV ls s a / 4 % 2==0)=false:=by rw [beq_eq_false_iff_ne];exact h4
 have t7:(wordV ls (wordV ls s a / 4294967296) (wordV ls s a % 4294967296 / 8) / 4 % 2==1)=true:=by rw [beq_iff_eq];exact h7
 clear hs hw hf
 go_enter Tryz.func56,Tryz.ntmps56
 go_wp2_with fail
 refine(RefWord_is _ _ _ _ _ true _ Hs.out hm h1).mono ?_
 rintro e w' ⟨rfl,rfl⟩
 go_wp2_with fail
 refine(IsFar_is _ true _ bx.1 bx.2 h2).mono ?_
 rintro e w' ⟨rfl,rfl⟩
 go_wp2_with fail
 refine(Landing_any _ _ bx.1 bx.2).mono ?_
 rintro e w' ⟨rfl,rfl⟩
 go_wp2_with fail
 refine(RefWord_is _ _ _ _ _ true _ Hs.out hm h3).mono ?_
 rintro e w' ⟨rfl,rfl⟩
 go_wp2_with fail
 refine(RefWord_is _ _ _ _ _ true _ Hs.out hm h6).mono ?_
 rintro e w' ⟨rfl,rfl⟩
 go_wp2_with fail
 refine(RefDecode_any _ _ btwo.1 btwo.2).mono ?_
 rintro e w1 ⟨rfl,hb1⟩
 have hz1:=hb1.size
 have HB:=Lib.hid (hb1.alloc hz1 (.cells #[.int .i64 (decP (wordV ls (wordV ls s a / 4294967296) (wordV ls s a % 4294967296 / 8+1))).k,.int .i64 (decP (wordV ls (wordV ls s a / 4294967296) (wordV ls s a % 4294967296 / 8+1))).o,.int .i64 (decP (wordV ls (wordV ls s a / 4294967296) (wordV ls s a % 4294967296 / 8+1))).d,.int .i64 (decP (wordV ls (wordV ls s a / 4294967296) (wordV ls s a % 4294967296 / 8+1))).p,.int .i64 (decP (wordV ls (wordV ls s a / 4294967296) (wordV ls s a % 4294967296 / 8+1))).el,.int .i64 (decP (wordV ls (wordV ls s a / 4294967296) (wordV ls s a % 4294967296 / 8+1))).c,.bool (decP (wordV ls (wordV ls s a / 4294967296) (wordV ls s a % 4294967296 / 8+1))).db,.int .i64 (decP (wordV ls (wordV ls s a / 4294967296) (wordV ls s a % 4294967296 / 8+1))).pa,.int .u32 (decP (wordV ls (wordV ls s a / 4294967296) (wordV ls s a % 4294967296 / 8+1))).sg,.int .u32 (decP (wordV ls (wordV ls s a / 4294967296) (wordV ls s a % 4294967296 / 8+1))).lo] 95))
 clear hb1
 go_wp2_with fail
 refine(IsFar_is _ true _ bone.1 bone.2 h5).mono ?_
 rintro e w' ⟨rfl,rfl⟩
 go_wp2
 refine bodyPost_ret (v:=.tuple #[.int .u64 0,.int .i64 0,.int .i64 0,.int .i64 3]) (by simp [results,Tryz.results56,go_sem]) rfl ⟨by rw [HF.out];rfl,HB.out⟩
set_option maxHeartbeats 1000000 in
theorem Follow9 (A:Option Addr)(c:Nat)(ls:List (List Int))(s a:Int)(w:World)(hs:Sg w A ls)(hw:Wd2 ls)(hm:ls.length≤140737488355328)(hf:∀j,(seg ls j).length≤140737488355328)(h1:hasB ls s a=true)(h2:(wordV ls s a % 4==2)=true)(h3:hasB ls (wordV ls s a / 4294967296) (wordV ls s a % 4294967296 / 8)=true)(h4:¬wordV ls s a / 4 % 2=0)(h6:hasB ls (wordV ls s a / 4294967296) (wordV ls s a % 4294967296 / 8+1)=true)(h5:(wordV ls (wordV ls s a / 4294967296) (wordV ls s a % 4294967296 / 8) % 4==2)=true)(h7:¬wordV ls (wordV ls s a / 4294967296) (wordV ls s a % 4294967296 / 8) / 4 % 2=1)(h8:1<(decP (wordV ls (wordV ls s a / 4294967296) (wordV ls s a % 4294967296 / 8+1))).k):
  Calls Tryz.prog 56 #[.slice A ls.length c,.int .i64 s,.int .i64 a] w fun e w'=>e=.returned (.tuple #[.int .u64 (followF ls s a).w,.int .i64 (followF ls s a).s,.int .i64 (followF ls s a).b,.int .i64 (followF ls s a).e])∧Below w.heap.size w w':=by
 have HF:Hid (followF ls s a=folE 3):=Lib.hid (by simp [followF,folE,h1,h2,h3,h4,h5,h6,h7,h8])
 have Hs:=Lib.hid hs
 have bx:=wordV_bd hw s a
 have bone:=wordV_bd hw (wordV ls s a / 4294967296) (wordV ls s a % 4294967296 / 8)
 have btwo:=wordV_bd hw (wordV ls s a / 4294967296) (wordV ls s a % 4294967296 / 8+1)
 have q1:0≤wordV ls s a / 4294967296∧wordV ls s a / 4294967296<4294967296:=by omega
 have q2:0≤wordV ls s a % 4294967296 / 8∧wordV ls s a % 4294967296 / 8<536870912:=by omega
 have t4:(wordV ls s a / 4 % 2==0)=false:=by rw [beq_eq_false_iff_ne];exact h4
 have t7:(wordV ls (wordV ls s a / 4294967296) (wordV ls s a % 4294967296 / 8) / 4 % 2==1)=false:=by rw [beq_eq_false_iff_ne];exact h7
 clear hs hw hf
 go_enter Tryz.func56,Tryz.ntmps56
 go_wp2_with fail
 refine(RefWord_is _ _ _ _ _ true _ Hs.out hm h1).mono ?_
 rintro e w' ⟨rfl,rfl⟩
 go_wp2_with fail
 refine(IsFar_is _ true _ bx.1 bx.2 h2).mono ?_
 rintro e w' ⟨rfl,rfl⟩
 go_wp2_with fail
 refine(Landing_any _ _ bx.1 bx.2).mono ?_
 rintro e w' ⟨rfl,rfl⟩
 go_wp2_with fail
 refine(RefWord_is _ _ _ _ _ true _ Hs.out hm h3).mono ?_
 rintro e w' ⟨rfl,rfl⟩
 go_wp2_with fail
 refine(RefWord_is _ _ _ _ _ true _ Hs.out hm h6).mono ?_
 rintro e w' ⟨rfl,rfl⟩
 go_wp2_with fail
 refine(RefDecode_any _ _ btwo.1 btwo.2).mono ?_
 rintro e w1 ⟨rfl,hb1⟩
 have hz1:=hb1.size
 have HB:=Lib.hid (hb1.alloc hz1 (.cells #[.int .i64 (decP (wordV ls (wordV ls s a / 4294967296) (wordV ls s a % 4294967296 / 8+1))).k,.int .i64 (decP (wordV ls (wordV ls s a / 4294967296) (wordV ls s a % 4294967296 / 8+1))).o,.int .i64 (decP (wordV ls (wordV ls s a / 4294967296) (wordV ls s a % 4294967296 / 8+1))).d,.int .i64 (decP (wordV ls (wordV ls s a / 4294967296) (wordV ls s a % 4294967296 / 8+1))).p,.int .i64 (decP (wordV ls (wordV ls s a / 4294967296) (wordV ls s a % 4294967296 / 8+1))).el,.int .i64 (decP (wordV ls (wordV ls s a / 4294967296) (wordV ls s a % 4294967296 / 8+1))).c,.bool (decP (wordV ls (wordV ls s a / 4294967296) (wordV ls s a % 4294967296 / 8+1))).db,.int .i64 (decP (wordV ls (wordV ls s a / 4294967296) (wordV ls s a % 4294967296 / 8+1))).pa,.int .u32 (decP (wordV ls (wordV ls s a / 4294967296) (wordV ls s a % 4294967296 / 8+1))).sg,.int .u32 (decP (wordV ls (wordV ls s a / 4294967296) (wordV ls s a % 4294967296 / 8+1))).lo] 95))
 clear hb1
 go_wp2_with fail
 refine(IsFar_is _ true _ bone.1 bone.2 h5).mono ?_
 rintro e w' ⟨rfl,rfl⟩
 go_wp2
 refine bodyPost_ret (v:=.tuple #[.int .u64 0,.int .i64 0,.int .i64 0,.int .i64 3]) (by simp [results,Tryz.results56,go_sem]) rfl ⟨by rw [HF.out];rfl,HB.out⟩
set_option maxHeartbeats 1000000 in
theorem Follow10 (A:Option Addr)(c:Nat)(ls:List (List Int))(s a:Int)(w:World)(hs:Sg w A ls)(hw:Wd2 ls)(hm:ls.length≤140737488355328)(hf:∀j,(seg ls j).length≤140737488355328)(h1:hasB ls s a=true)(h2:(wordV ls s a % 4==2)=true)(h3:hasB ls (wordV ls s a / 4294967296) (wordV ls s a % 4294967296 / 8)=true)(h4:¬wordV ls s a / 4 % 2=0)(h6:hasB ls (wordV ls s a / 4294967296) (wordV ls s a % 4294967296 / 8+1)=true)(h5:(wordV ls (wordV ls s a / 4294967296) (wordV ls s a % 4294967296 / 8) % 4==2)=true)(h7:¬wordV ls (wordV ls s a / 4294967296) (wordV ls s a % 4294967296 / 8) / 4 % 2=1)(h8:¬1<(decP (wordV ls (wordV ls s a / 4294967296) (wordV ls s a % 4294967296 / 8+1))).k)(h9:(decP (wordV ls (wordV ls s a / 4294967296) (wordV ls s a % 4294967296 / 8+1))).o≠0):
  Calls Tryz.prog 56 #[.slice A ls.length c,.int .i64 s,.int .i64 a] w fun e w'=>e=.returned (.tuple #[.int .u64 (followF ls s a).w,.int .i64 (followF ls s a).s,.int .i64 (followF ls s a).b,.int .i64 (followF ls s a).e])∧Below w.heap.size w w':=by
 have HF:Hid (followF ls s a=folE 3):=Lib.hid (by simp [followF,folE,h1,h2,h3,h4,h5,h6,h7,h8,h9])
 have Hs:=Lib.hid hs
 have bx:=wordV_bd hw s a
 have bone:=wordV_bd hw (wordV ls s a / 4294967296) (wordV ls s a % 4294967296 / 8)
 have btwo:=wordV_bd hw (wordV ls s a / 4294967296) (wordV ls s a % 4294967296 / 8+1)
 have q1:0≤wordV ls s a / 4294967296∧wordV ls s a / 4294967296<4294967296:=by omega
 have q2:0≤wordV ls s a % 4294967296 / 8∧wordV ls s a % 4294967296 / 8<536870912:=by omega
 have t4:(wordV ls s a / 4 % 2==0)=false:=by rw [beq_eq_false_iff_ne];exact h4
 have t7:(wordV ls (wordV ls s a / 4294967296) (wordV ls s a % 4294967296 / 8) / 4 % 2==1)=false:=by rw [beq_eq_false_iff_ne];exact h7
 have t9:((decP (wordV ls (wordV ls s a / 4294967296) (wordV ls s a % 4294967296 / 8+1))).o != 0)=true:=by rw [bne_iff_ne];exact h9
 clear hs hw hf
 go_enter Tryz.func56,Tryz.ntmps56
 go_wp2_with fail
 refine(RefWord_is _ _ _ _ _ true _ Hs.out hm h1).mono ?_
 rintro e w' ⟨rfl,rfl⟩
 go_wp2_with fail
 refine(IsFar_is _ true _ bx.1 bx.2 h2).mono ?_
 rintro e w' ⟨rfl,rfl⟩
 go_wp2_with fail
 refine(Landing_any _ _ bx.1 bx.2).mono ?_
 rintro e w' ⟨rfl,rfl⟩
 go_wp2_with fail
 refine(RefWord_is _ _ _ _ _ true _ Hs.out hm h3).mono ?_
 rintro e w' ⟨rfl,rfl⟩
 go_wp2_with fail
 refine(RefWord_is _ _ _ _ _ true _ Hs.out hm h6).mono ?_
 rintro e w' ⟨rfl,rfl⟩
 go_wp2_with fail
 refine(RefDecode_any _ _ btwo.1 btwo.2).mono ?_
 rintro e w1 ⟨rfl,hb1⟩
 have hz1:=hb1.size
 have HB:=Lib.hid (hb1.alloc hz1 (.cells #[.int .i64 (decP (wordV ls (wordV ls s a / 4294967296) (wordV ls s a % 4294967296 / 8+1))).k,.int .i64 (decP (wordV ls (wordV ls s a / 4294967296) (wordV ls s a % 4294967296 / 8+1))).o,.int .i64 (decP (wordV ls (wordV ls s a / 4294967296) (wordV ls s a % 4294967296 / 8+1))).d,.int .i64 (decP (wordV ls (wordV ls s a / 4294967296) (wordV ls s a % 4294967296 / 8+1))).p,.int .i64 (decP (wordV ls (wordV ls s a / 4294967296) (wordV ls s a % 4294967296 / 8+1))).el,.int .i64 (decP (wordV ls (wordV ls s a / 4294967296) (wordV ls s a % 4294967296 / 8+1))).c,.bool (decP (wordV ls (wordV ls s a / 4294967296) (wordV ls s a % 4294967296 / 8+1))).db,.int .i64 (decP (wordV ls (wordV ls s a / 4294967296) (wordV ls s a % 4294967296 / 8+1))).pa,.int .u32 (decP (wordV ls (wordV ls s a / 4294967296) (wordV ls s a % 4294967296 / 8+1))).sg,.int .u32 (decP (wordV ls (wordV ls s a / 4294967296) (wordV ls s a % 4294967296 / 8+1))).lo] 95))
 clear hb1
 go_wp2_with fail
 refine(IsFar_is _ true _ bone.1 bone.2 h5).mono ?_
 rintro e w' ⟨rfl,rfl⟩
 go_wp2
 refine bodyPost_ret (v:=.tuple #[.int .u64 0,.int .i64 0,.int .i64 0,.int .i64 3]) (by simp [results,Tryz.results56,go_sem]) rfl ⟨by rw [HF.out];rfl,HB.out⟩
set_option maxHeartbeats 1000000 in
theorem Follow11 (A:Option Addr)(c:Nat)(ls:List (List Int))(s a:Int)(w:World)(hs:Sg w A ls)(hw:Wd2 ls)(hm:ls.length≤140737488355328)(hf:∀j,(seg ls j).length≤140737488355328)(h1:hasB ls s a=true)(h2:(wordV ls s a % 4==2)=true)(h3:hasB ls (wordV ls s a / 4294967296) (wordV ls s a % 4294967296 / 8)=true)(h4:¬wordV ls s a / 4 % 2=0)(h6:hasB ls (wordV ls s a / 4294967296) (wordV ls s a % 4294967296 / 8+1)=true)(h5:(wordV ls (wordV ls s a / 4294967296) (wordV ls s a % 4294967296 / 8) % 4==2)=true)(h7:¬wordV ls (wordV ls s a / 4294967296) (wordV ls s a % 4294967296 / 8) / 4 % 2=1)(h8:¬1<(decP (wordV ls (wordV ls s a / 4294967296) (wordV ls s a % 4294967296 / 8+1))).k)(h9:(decP (wordV ls (wordV ls s a / 4294967296) (wordV ls s a % 4294967296 / 8+1))).o=0):
  Calls Tryz.prog 56 #[.slice A ls.length c,.int .i64 s,.int .i64 a] w fun e w'=>e=.returned (.tuple #[.int .u64 (followF ls s a).w,.int .i64 (followF ls s a).s,.int .i64 (followF ls s a).b,.int .i64 (followF ls s a).e])∧Below w.heap.size w w':=by
 have HF:Hid (followF ls s a=⟨wordV ls (wordV ls s a / 4294967296) (wordV ls s a % 4294967296 / 8+1),wordV ls (wordV ls s a / 4294967296) (wordV ls s a % 4294967296 / 8) / 4294967296,wordV ls (wordV ls s a / 4294967296) (wordV ls s a % 4294967296 / 8) % 4294967296 / 8,0⟩):=Lib.hid (by simp [followF,folE,h1,h2,h3,h4,h5,h6,h7,h8,h9])
 have Hs:=Lib.hid hs
 have bx:=wordV_bd hw s a
 have bone:=wordV_bd hw (wordV ls s a / 4294967296) (wordV ls s a % 4294967296 / 8)
 have btwo:=wordV_bd hw (wordV ls s a / 4294967296) (wordV ls s a % 4294967296 / 8+1)
 have q1:0≤wordV ls s a / 4294967296∧wordV ls s a / 4294967296<4294967296:=by omega
 have q2:0≤wordV ls s a % 4294967296 / 8∧wordV ls s a % 4294967296 / 8<536870912:=by omega
 have t4:(wordV ls s a / 4 % 2==0)=false:=by rw [beq_eq_false_iff_ne];exact h4
 have t7:(wordV ls (wordV ls s a / 4294967296) (wordV ls s a % 4294967296 / 8) / 4 % 2==1)=false:=by rw [beq_eq_false_iff_ne];exact h7
 have t9:((decP (wordV ls (wordV ls s a / 4294967296) (wordV ls s a % 4294967296 / 8+1))).o != 0)=false:=by rw [h9];rfl
 clear h9
 clear hs hw hf
 go_enter Tryz.func56,Tryz.ntmps56
 go_wp2_with fail
 refine(RefWord_is _ _ _ _ _ true _ Hs.out hm h1).mono ?_
 rintro e w' ⟨rfl,rfl⟩
 go_wp2_with fail
 refine(IsFar_is _ true _ bx.1 bx.2 h2).mono ?_
 rintro e w' ⟨rfl,rfl⟩
 go_wp2_with fail
 refine(Landing_any _ _ bx.1 bx.2).mono ?_
 rintro e w' ⟨rfl,rfl⟩
 go_wp2_with fail
 refine(RefWord_is _ _ _ _ _ true _ Hs.out hm h3).mono ?_
 rintro e w' ⟨rfl,rfl⟩
 go_wp2_with fail
 refine(RefWord_is _ _ _ _ _ true _ Hs.out hm h6).mono ?_
 rintro e w' ⟨rfl,rfl⟩
 go_wp2_with fail
 refine(RefDecode_any _ _ btwo.1 btwo.2).mono ?_
 rintro e w1 ⟨rfl,hb1⟩
 have hz1:=hb1.size
 have HB:=Lib.hid (hb1.alloc hz1 (.cells #[.int .i64 (decP (wordV ls (wordV ls s a / 4294967296) (wordV ls s a % 4294967296 / 8+1))).k,.int .i64 (decP (wordV ls (wordV ls s a / 4294967296) (wordV ls s a % 4294967296 / 8+1))).o,.int .i64 (decP (wordV ls (wordV ls s a / 4294967296) (wordV ls s a % 4294967296 / 8+1))).d,.int .i64 (decP (wordV ls (wordV ls s a / 4294967296) (wordV ls s a % 4294967296 / 8+1))).p,.int .i64 (decP (wordV ls (wordV ls s a / 4294967296) (wordV ls s a % 4294967296 / 8+1))).el,.int .i64 (decP (wordV ls (wordV ls s a / 4294967296) (wordV ls s a % 4294967296 / 8+1))).c,.bool (decP (wordV ls (wordV ls s a / 4294967296) (wordV ls s a % 4294967296 / 8+1))).db,.int .i64 (decP (wordV ls (wordV ls s a / 4294967296) (wordV ls s a % 4294967296 / 8+1))).pa,.int .u32 (decP (wordV ls (wordV ls s a / 4294967296) (wordV ls s a % 4294967296 / 8+1))).sg,.int .u32 (decP (wordV ls (wordV ls s a / 4294967296) (wordV ls s a % 4294967296 / 8+1))).lo] 95))
 clear hb1
 go_wp2_with fail
 refine(IsFar_is _ true _ bone.1 bone.2 h5).mono ?_
 rintro e w' ⟨rfl,rfl⟩
 go_wp2_with fail
 refine(Landing_any _ _ bone.1 bone.2).mono ?_
 rintro e w' ⟨rfl,rfl⟩
 go_wp2
 refine bodyPost_ret (v:=.tuple #[.int .u64 (wordV ls (wordV ls s a / 4294967296) (wordV ls s a % 4294967296 / 8+1)),.int .i64 (wordV ls (wordV ls s a / 4294967296) (wordV ls s a % 4294967296 / 8) / 4294967296),.int .i64 (wordV ls (wordV ls s a / 4294967296) (wordV ls s a % 4294967296 / 8) % 4294967296 / 8),.int .i64 0]) (by simp [results,Tryz.results56,go_sem]) rfl ⟨by rw [HF.out],HB.out⟩
theorem RefFollow_any (A:Option Addr)(c:Nat)(ls:List (List Int))(s a:Int)(w:World)(hs:Sg w A ls)(hw:Wd2 ls)(hm:ls.length≤140737488355328)(hf:∀j,(seg ls j).length≤140737488355328):
  Calls Tryz.prog 56 #[.slice A ls.length c,.int .i64 s,.int .i64 a] w fun e w'=>e=.returned (.tuple #[.int .u64 (followF ls s a).w,.int .i64 (followF ls s a).s,.int .i64 (followF ls s a).b,.int .i64 (followF ls s a).e])∧Below w.heap.size w w':=by
 cases h1:hasB ls s a
 ·exact Follow1 A c ls s a w hs hw hm hf h1
 cases h2:(wordV ls s a % 4==2)
 ·exact Follow2 A c ls s a w hs hw hm hf h1 h2
 cases h3:hasB ls (wordV ls s a / 4294967296) (wordV ls s a % 4294967296 / 8)
 ·exact Follow3 A c ls s a w hs hw hm hf h1 h2 h3
 by_cases h4:wordV ls s a / 4 % 2=0
 ·cases h5:(wordV ls (wordV ls s a / 4294967296) (wordV ls s a % 4294967296 / 8) % 4==2)
  ·exact Follow5 A c ls s a w hs hw hm hf h1 h2 h3 h4 h5
  ·exact Follow4 A c ls s a w hs hw hm hf h1 h2 h3 h4 h5
 cases h6:hasB ls (wordV ls s a / 4294967296) (wordV ls s a % 4294967296 / 8+1)
 ·exact Follow6 A c ls s a w hs hw hm hf h1 h2 h3 h4 h6
 cases h5:(wordV ls (wordV ls s a / 4294967296) (wordV ls s a % 4294967296 / 8) % 4==2)
 ·exact Follow7 A c ls s a w hs hw hm hf h1 h2 h3 h4 h6 h5
 by_cases h7:wordV ls (wordV ls s a / 4294967296) (wordV ls s a % 4294967296 / 8) / 4 % 2=1
 ·exact Follow8 A c ls s a w hs hw hm hf h1 h2 h3 h4 h6 h5 h7
 by_cases h8:1<(decP (wordV ls (wordV ls s a / 4294967296) (wordV ls s a % 4294967296 / 8+1))).k
 ·exact Follow9 A c ls s a w hs hw hm hf h1 h2 h3 h4 h6 h5 h7 h8
 by_cases h9:(decP (wordV ls (wordV ls s a / 4294967296) (wordV ls s a % 4294967296 / 8+1))).o=0
 ·exact Follow11 A c ls s a w hs hw hm hf h1 h2 h3 h4 h6 h5 h7 h8 h9
 ·exact Follow10 A c ls s a w hs hw hm hf h1 h2 h3 h4 h6 h5 h7 h8 h9
theorem decP_bd (x:Int)(h0:0≤x)(h1:x<18446744073709551616):0≤(decP x).k∧(decP x).k≤3∧-536870912≤(decP x).o∧(decP x).o≤536870911∧0≤(decP x).d∧(decP x).d≤65535∧0≤(decP x).p∧(decP x).p≤65535∧0≤(decP x).el∧(decP x).el≤7∧0≤(decP x).c∧(decP x).c≤536870911∧0≤(decP x).lo:=by
 rcases decP_vld x h0 h1 with ⟨k0,a1,a2,a3,a4,a5,a6,a7,a8,a9,a10,a11,a12⟩|⟨k0,a1,a2,a3,a4,a5,a6,a7,a8,a9,a10,a11,a12⟩|⟨k0,a1,a2,a3,a4,a5,a6,a7,a8,a9,a10⟩|⟨k0,a1,a2,a3,a4,a5,a6,a7,a8,a9,a10,a11⟩<;>omega
theorem followF_bd {ls:List (List Int)}(hw:Wd2 ls)(hm:ls.length≤140737488355328)(hf:∀j,(seg ls j).length≤140737488355328)(s a:Int):
  0≤(followF ls s a).w∧(followF ls s a).w<18446744073709551616∧0≤(followF ls s a).s∧(followF ls s a).s≤140737488355328∧0≤(followF ls s a).b∧(followF ls s a).b≤140737488355329:=by
 have q1:=wordV_bd hw s a
 have q2:=wordV_bd hw (wordV ls s a / 4294967296) (wordV ls s a % 4294967296 / 8)
 have q3:=wordV_bd hw (wordV ls s a / 4294967296) (wordV ls s a % 4294967296 / 8+1)
 unfold followF
 split
 ·simp [folE]
 ·rename_i h1
  have h1':hasB ls s a=true:=by simpa using h1
  unfold hasB at h1'
  have h7:=of_decide_eq_true h1'
  have h8:=hf s.toNat
  split
  ·simp only;omega
  ·split
   ·simp [folE]
   ·split
    ·split
     ·simp [folE]
     ·simp only;omega
    ·split
     ·simp [folE]
     ·split
      ·simp [folE]
      ·simp only;omega
structure Ob where
 k:Int
 sg:Int
 at':Int
 d:Int
 p:Int
 el:Int
 n:Int
 cost:Int
def ob0:Ob:=⟨0,0,0,0,0,0,0,0⟩
def compF (ls:List (List Int))(s st c cost:Int):Ob×Int:=
 if (decP (wordV ls s st)).k≠0∨(decP (wordV ls s st)).o<0∨c<(decP (wordV ls s st)).o*((decP (wordV ls s st)).d+(decP (wordV ls s st)).p) then (ob0,5)
 else (⟨2,s,st+1,(decP (wordV ls s st)).d,(decP (wordV ls s st)).p,7,(decP (wordV ls s st)).o,if (decP (wordV ls s st)).d+(decP (wordV ls s st)).p=0 then cost+(decP (wordV ls s st)).o else cost⟩,0)
def objP (ls:List (List Int))(q:Ptr)(s b:Int):Ob×Int:=
 if q.k=3 then (ob0,if q.lo=0 then 6 else 4)
 else if q.k=0 then (if inB ls s (b+q.o) (q.d+q.p)=true then (⟨1,s,b+q.o,q.d,q.p,0,0,q.d+q.p⟩,0) else (ob0,2))
 else if inB ls s (b+q.o) (wordsI q.el q.c)=false then (ob0,2)
 else if q.el=7 then compF ls s (b+q.o) q.c (wordsI q.el q.c)
 else (⟨2,s,b+q.o,0,0,q.el,q.c,wordsI q.el q.c⟩,0)
def objF (ls:List (List Int))(s a:Int):Ob×Int:=
 if (followF ls s a).e≠0∨(followF ls s a).w=0 then (ob0,(followF ls s a).e)
 else objP ls (decP (followF ls s a).w) (followF ls s a).s (followF ls s a).b
theorem Sg.alloc {w:World}{A:Option Addr}{ls:List (List Int)}(h:Sg w A ls)(o:Obj):Sg (w.alloc o) A ls:=h.below ((Below.refl _ _).alloc (Nat.le_refl _) o) (Nat.le_refl _)
theorem two_new {w w1:World}{cs ds:Array Value}{T U:TypeId}(hb:Below ((w.alloc (.cells cs T)).alloc (.cells ds U)).heap.size ((w.alloc (.cells cs T)).alloc (.cells ds U)) w1):
  (∀o,w1.cell? ⟨w.heap.size,o,none⟩=cs[o]?)∧(∀o,w1.cell? ⟨w.heap.size+1,o,none⟩=ds[o]?)∧(∀o,w1.frozen? ⟨w.heap.size,o,none⟩=false)∧(∀o,w1.frozen? ⟨w.heap.size+1,o,none⟩=false)∧w.heap.size+2≤w1.heap.size∧Below w.heap.size w w1:=by
 refine⟨blk_below (blk_alloc (blk_new w cs T) (by simp) _) hb (by simp;omega),?_,fun o=>?_,fun o=>?_,?_,?_⟩
 ·have h:=blk_below (blk_new (w.alloc (.cells cs T)) ds U) hb (by simp)
  simpa using h
 ·rw [hb.frozen (p:=⟨w.heap.size,o,none⟩) (by simp;omega)]
  simp
 ·rw [hb.frozen (p:=⟨w.heap.size+1,o,none⟩) (by simp)]
  simp
 ·have h:=hb.size
  simpa using h
 ·exact((Below.refl _ _).alloc (Nat.le_refl _) _).alloc (by simp) _|>.trans (hb.mono (by simp;omega))
theorem two_on {w w1 w2:World}{cs ds:Array Value}(x6:∀o,w1.cell? ⟨w.heap.size,o,none⟩=cs[o]?)(x8:∀o,w1.cell? ⟨w.heap.size+1,o,none⟩=ds[o]?)(y6:∀o,w1.frozen? ⟨w.heap.size,o,none⟩=false)(y8:∀o,w1.frozen? ⟨w.heap.size+1,o,none⟩=false)(hz:w.heap.size+2≤w1.heap.size)(hB:Below w.heap.size w w1)(hb:Below w1.heap.size w1 w2):
  (∀o,w2.cell? ⟨w.heap.size,o,none⟩=cs[o]?)∧(∀o,w2.cell? ⟨w.heap.size+1,o,none⟩=ds[o]?)∧(∀o,w2.frozen? ⟨w.heap.size,o,none⟩=false)∧(∀o,w2.frozen? ⟨w.heap.size+1,o,none⟩=false)∧w.heap.size<w2.heap.size∧w.heap.size+1<w2.heap.size∧Below w.heap.size w w2:=by
 have h:=hb.size
 refine⟨blk_below x6 hb (by omega),blk_below x8 hb (by omega),fun o=>?_,fun o=>?_,by omega,by omega,hB.trans (hb.mono (by omega))⟩
 ·rw [hb.frozen (p:=⟨w.heap.size,o,none⟩) (by show w.heap.size<_;omega)]
  exact y6 o
 ·rw [hb.frozen (p:=⟨w.heap.size+1,o,none⟩) (by show w.heap.size+1<_;omega)]
  exact y8 o
theorem blk_set {W:World}{b:Nat}{cs:Array Value}(x:∀o,W.cell? ⟨b,o,none⟩=cs[o]?)(k:Nat)(hk:k<cs.size)(v:Value):∀o,(W.setCell ⟨b,k,none⟩ v).cell? ⟨b,o,none⟩=(cs.setIfInBounds k v)[o]?:=by
 intro o
 by_cases e:k=o
 ·subst e
  rw [World.cell?_setCell_same' _ _ _ (by rw [x k];simp [hk])]
  simp [hk]
 ·rw [World.cell?_setCell_other W ⟨b,k,none⟩ ⟨b,o,none⟩ v (by intro h;injection h with _ h2;exact e h2),x o]
  simp [Array.getElem?_setIfInBounds_ne e]
theorem RefInB_is (A:Option Addr)(c:Nat)(ls:List (List Int))(s a n:Int)(b:Bool)(w:World)(hs:Sg w A ls)(hm:ls.length≤140737488355328)(hb:inB ls s a n=b):
  Calls Tryz.prog 90 #[.slice A ls.length c,.int .i64 s,.int .i64 a,.int .i64 n] w fun e w'=>e=.returned (.bool b)∧w=w':=by
 subst hb
 exact RefInBounds_any A c ls s a n w hs hm
set_option maxRecDepth 100000 in
set_option maxHeartbeats 2000000 in
theorem Object1 (A:Option Addr)(c:Nat)(ls:List (List Int))(s a:Int)(w:World)(hs:Sg w A ls)(hw:Wd2 ls)(hm:ls.length≤140737488355328)(hf:∀j,(seg ls j).length≤140737488355328)(h1:(followF ls s a).e≠0):
  Calls Tryz.prog 57 #[.slice A ls.length c,.int .i64 s,.int .i64 a] w fun e w'=>e=.returned (.tuple #[.agg #[.int .i64 (objF ls s a).1.k,.int .i64 (objF ls s a).1.sg,.int .i64 (objF ls s a).1.at',.int .i64 (objF ls s a).1.d,.int .i64 (objF ls s a).1.p,.int .i64 (objF ls s a).1.el,.int .i64 (objF ls s a).1.n,.int .i64 (objF ls s a).1.cost],.int .i64 (objF ls s a).2])∧Below w.heap.size w w':=by
 have HF:Hid (objF ls s a=(ob0,(followF ls s a).e)):=Lib.hid (by simp [objF,h1])
 have HFOL:=Lib.hid (fun w2 hs2=>RefFollow_any A c ls s a w2 hs2 hw hm hf)
 have hbd:=followF_bd hw hm hf s a
 have HW:=Lib.hid hw
 have Hs:=Lib.hid hs
 have hpd:=decP_bd (followF ls s a).w hbd.1 hbd.2.1
 generalize hq:followF ls s a=q at *
 clear hs hw hf hq
 go_enter Tryz.func57,Tryz.ntmps57
 go_wp2_with fail
 refine(HFOL.out _ ((Hs.out.alloc _).alloc _)).mono ?_
 rintro e w1 ⟨rfl,hb1⟩
 obtain⟨x6,x8,y6,y8,hz1,hb2⟩:=two_new hb1
 have HB:=Lib.hid hb2
 clear hb1 hb2 HFOL
 have t1:(q.e != 0)=true:=by simpa using h1
 go_wp2
 refine bodyPost_ret (v:=.tuple #[.agg #[.int .i64 (0),.int .i64 (0),.int .i64 (0),.int .i64 (0),.int .i64 (0),.int .i64 (0),.int .i64 (0),.int .i64 (0)],.int .i64 q.e]) (by simp [results,Tryz.results57,go_sem,x6]) rfl ⟨by rw [HF.out];rfl,?_⟩
 repeat with_reducible refine Below.setCell ?_ (by simp) _
 exact HB.out
set_option maxRecDepth 100000 in
set_option maxHeartbeats 2000000 in
theorem Object2 (A:Option Addr)(c:Nat)(ls:List (List Int))(s a:Int)(w:World)(hs:Sg w A ls)(hw:Wd2 ls)(hm:ls.length≤140737488355328)(hf:∀j,(seg ls j).length≤140737488355328)(h1:(followF ls s a).e=0)(h2:(followF ls s a).w=0):
  Calls Tryz.prog 57 #[.slice A ls.length c,.int .i64 s,.int .i64 a] w fun e w'=>e=.returned (.tuple #[.agg #[.int .i64 (objF ls s a).1.k,.int .i64 (objF ls s a).1.sg,.int .i64 (objF ls s a).1.at',.int .i64 (objF ls s a).1.d,.int .i64 (objF ls s a).1.p,.int .i64 (objF ls s a).1.el,.int .i64 (objF ls s a).1.n,.int .i64 (objF ls s a).1.cost],.int .i64 (objF ls s a).2])∧Below w.heap.size w w':=by
 have HF:Hid (objF ls s a=(ob0,0)):=Lib.hid (by simp [objF,h1,h2])
 have HFOL:=Lib.hid (fun w2 hs2=>RefFollow_any A c ls s a w2 hs2 hw hm hf)
 have hbd:=followF_bd hw hm hf s a
 have HW:=Lib.hid hw
 have Hs:=Lib.hid hs
 have hpd:=decP_bd (followF ls s a).w hbd.1 hbd.2.1
 generalize hq:followF ls s a=q at *
 clear hs hw hf hq
 go_enter Tryz.func57,Tryz.ntmps57
 go_wp2_with fail
 refine(HFOL.out _ ((Hs.out.alloc _).alloc _)).mono ?_
 rintro e w1 ⟨rfl,hb1⟩
 obtain⟨x6,x8,y6,y8,hz1,hb2⟩:=two_new hb1
 have HB:=Lib.hid hb2
 clear hb1 hb2 HFOL
 have t1:(q.e != 0)=false:=by simpa using h1
 have t2:(q.w==0)=true:=by simpa using h2
 go_wp2
 refine bodyPost_ret (v:=.tuple #[.agg #[.int .i64 (0),.int .i64 (0),.int .i64 (0),.int .i64 (0),.int .i64 (0),.int .i64 (0),.int .i64 (0),.int .i64 (0)],.int .i64 0]) (by simp [results,Tryz.results57,go_sem,x6]) rfl ⟨by rw [HF.out];rfl,?_⟩
 repeat with_reducible refine Below.setCell ?_ (by simp) _
 exact HB.out
set_option maxRecDepth 100000 in
set_option maxHeartbeats 2000000 in
theorem Object3 (A:Option Addr)(c:Nat)(ls:List (List Int))(s a:Int)(w:World)(hs:Sg w A ls)(hw:Wd2 ls)(hm:ls.length≤140737488355328)(hf:∀j,(seg ls j).length≤140737488355328)(h1:(followF ls s a).e=0)(h2:¬(followF ls s a).w=0)(h3:(decP (followF ls s a).w).k=3):
  Calls Tryz.prog 57 #[.slice A ls.length c,.int .i64 s,.int .i64 a] w fun e w'=>e=.returned (.tuple #[.agg #[.int .i64 (objF ls s a).1.k,.int .i64 (objF ls s a).1.sg,.int .i64 (objF ls s a).1.at',.int .i64 (objF ls s a).1.d,.int .i64 (objF ls s a).1.p,.int .i64 (objF ls s a).1.el,.int .i64 (objF ls s a).1.n,.int .i64 (objF ls s a).1.cost],.int .i64 (objF ls s a).2])∧Below w.heap.size w w':=by
 have HF:Hid (objF ls s a=(ob0,if (decP (followF ls s a).w).lo=0 then 6 else 4)):=Lib.hid (by simp [objF,objP,h1,h2,h3])
 have HFOL:=Lib.hid (fun w2 hs2=>RefFollow_any A c ls s a w2 hs2 hw hm hf)
 have hbd:=followF_bd hw hm hf s a
 have HW:=Lib.hid hw
 have Hs:=Lib.hid hs
 have hpd:=decP_bd (followF ls s a).w hbd.1 hbd.2.1
 generalize hq:followF ls s a=q at *
 clear hs hw hf hq
 go_enter Tryz.func57,Tryz.ntmps57
 go_wp2_with fail
 refine(HFOL.out _ ((Hs.out.alloc _).alloc _)).mono ?_
 rintro e w1 ⟨rfl,hb1⟩
 obtain⟨x6,x8,y6,y8,hz1,hb2⟩:=two_new hb1
 have HB:=Lib.hid hb2
 clear hb1 hb2 HFOL
 have t1:(q.e != 0)=false:=by simpa using h1
 have t2:(q.w==0)=false:=by simpa using h2
 go_wp2_with fail
 refine(RefDecode_any _ _ hbd.1 hbd.2.1).mono ?_
 rintro e w2 ⟨rfl,hb3⟩
 obtain⟨u6,u8,v6,v8,hz2,hz3,hb4⟩:=two_on x6 x8 y6 y8 hz1 HB.out hb3
 have HB2:=Lib.hid hb4
 clear hb3 hb4 HB x6 x8 y6 y8 hz1
 go_wp2_with fail
 ·rename_i hlo
  have hlo':(decP q.w).lo=0:=by simpa using hlo
  rw [hlo'] at HF
  have k8:∀o,((((((((w2.setCell ⟨w.heap.size,0,none⟩ (.int .i64 (0))).setCell ⟨w.heap.size,1,none⟩ (.int .i64 (0))).setCell ⟨w.heap.size,2,none⟩ (.int .i64 (0))).setCell ⟨w.heap.size,3,none⟩ (.int .i64 (0))).setCell ⟨w.heap.size,4,none⟩ (.int .i64 (0))).setCell ⟨w.heap.size,5,none⟩ (.int .i64 (0))).setCell ⟨w.heap.size,6,none⟩ (.int .i64 (0))).setCell ⟨w.heap.size,7,none⟩ (.int .i64 (0))).cell? ⟨w.heap.size,o,none⟩=(#[.int .i64 (0),.int .i64 (0),.int .i64 (0),.int .i64 (0),.int .i64 (0),.int .i64 (0),.int .i64 (0),.int .i64 (0)]:Array Value)[o]?:=(blk_set (blk_set (blk_set (blk_set (blk_set (blk_set (blk_set (blk_set u6 0 (by simp) (.int .i64 (0))) 1 (by simp) (.int .i64 (0))) 2 (by simp) (.int .i64 (0))) 3 (by simp) (.int .i64 (0))) 4 (by simp) (.int .i64 (0))) 5 (by simp) (.int .i64 (0))) 6 (by simp) (.int .i64 (0))) 7 (by simp) (.int .i64 (0)))
  have B8:Below w.heap.size w ((((((((w2.setCell ⟨w.heap.size,0,none⟩ (.int .i64 (0))).setCell ⟨w.heap.size,1,none⟩ (.int .i64 (0))).setCell ⟨w.heap.size,2,none⟩ (.int .i64 (0))).setCell ⟨w.heap.size,3,none⟩ (.int .i64 (0))).setCell ⟨w.heap.size,4,none⟩ (.int .i64 (0))).setCell ⟨w.heap.size,5,none⟩ (.int .i64 (0))).setCell ⟨w.heap.size,6,none⟩ (.int .i64 (0))).setCell ⟨w.heap.size,7,none⟩ (.int .i64 (0))):=((((((((HB2.out.setCell (Nat.le_refl _) _).setCell (Nat.le_refl _) _).setCell (Nat.le_refl _) _).setCell (Nat.le_refl _) _).setCell (Nat.le_refl _) _).setCell (Nat.le_refl _) _).setCell (Nat.le_refl _) _).setCell (Nat.le_refl _) _)
  have k8:=blk_alloc k8 (by simp [World.setCell];omega) (.cells #[.int .i64 3,.int .i64 (decP q.w).o,.int .i64 (decP q.w).d,.int .i64 (decP q.w).p,.int .i64 (decP q.w).el,.int .i64 (decP q.w).c,.bool (decP q.w).db,.int .i64 (decP q.w).pa,.int .u32 (decP q.w).sg,.int .u32 (decP q.w).lo] 95)
  have B8:=B8.alloc (by simp [World.setCell];omega) (.cells #[.int .i64 3,.int .i64 (decP q.w).o,.int .i64 (decP q.w).d,.int .i64 (decP q.w).p,.int .i64 (decP q.w).el,.int .i64 (decP q.w).c,.bool (decP q.w).db,.int .i64 (decP q.w).pa,.int .u32 (decP q.w).sg,.int .u32 (decP q.w).lo] 95)
  generalize (((((((((w2.setCell ⟨w.heap.size,0,none⟩ (.int .i64 (0))).setCell ⟨w.heap.size,1,none⟩ (.int .i64 (0))).setCell ⟨w.heap.size,2,none⟩ (.int .i64 (0))).setCell ⟨w.heap.size,3,none⟩ (.int .i64 (0))).setCell ⟨w.heap.size,4,none⟩ (.int .i64 (0))).setCell ⟨w.heap.size,5,none⟩ (.int .i64 (0))).setCell ⟨w.heap.size,6,none⟩ (.int .i64 (0))).setCell ⟨w.heap.size,7,none⟩ (.int .i64 (0))).alloc (.cells #[.int .i64 3,.int .i64 (decP q.w).o,.int .i64 (decP q.w).d,.int .i64 (decP q.w).p,.int .i64 (decP q.w).el,.int .i64 (decP q.w).c,.bool (decP q.w).db,.int .i64 (decP q.w).pa,.int .u32 (decP q.w).sg,.int .u32 (decP q.w).lo] 95))=V at *
  exact bodyPost_ret (v:=.tuple #[.agg #[.int .i64 (0),.int .i64 (0),.int .i64 (0),.int .i64 (0),.int .i64 (0),.int .i64 (0),.int .i64 (0),.int .i64 (0)],.int .i64 6]) (by simp [results,Tryz.results57,go_sem,k8]) rfl ⟨by rw [HF.out];rfl,B8⟩
 ·rename_i hlo
  have hlo':¬(decP q.w).lo=0:=by simpa using hlo
  rw [if_neg hlo'] at HF
  have k8:∀o,((((((((w2.setCell ⟨w.heap.size,0,none⟩ (.int .i64 (0))).setCell ⟨w.heap.size,1,none⟩ (.int .i64 (0))).setCell ⟨w.heap.size,2,none⟩ (.int .i64 (0))).setCell ⟨w.heap.size,3,none⟩ (.int .i64 (0))).setCell ⟨w.heap.size,4,none⟩ (.int .i64 (0))).setCell ⟨w.heap.size,5,none⟩ (.int .i64 (0))).setCell ⟨w.heap.size,6,none⟩ (.int .i64 (0))).setCell ⟨w.heap.size,7,none⟩ (.int .i64 (0))).cell? ⟨w.heap.size,o,none⟩=(#[.int .i64 (0),.int .i64 (0),.int .i64 (0),.int .i64 (0),.int .i64 (0),.int .i64 (0),.int .i64 (0),.int .i64 (0)]:Array Value)[o]?:=(blk_set (blk_set (blk_set (blk_set (blk_set (blk_set (blk_set (blk_set u6 0 (by simp) (.int .i64 (0))) 1 (by simp) (.int .i64 (0))) 2 (by simp) (.int .i64 (0))) 3 (by simp) (.int .i64 (0))) 4 (by simp) (.int .i64 (0))) 5 (by simp) (.int .i64 (0))) 6 (by simp) (.int .i64 (0))) 7 (by simp) (.int .i64 (0)))
  have B8:Below w.heap.size w ((((((((w2.setCell ⟨w.heap.size,0,none⟩ (.int .i64 (0))).setCell ⟨w.heap.size,1,none⟩ (.int .i64 (0))).setCell ⟨w.heap.size,2,none⟩ (.int .i64 (0))).setCell ⟨w.heap.size,3,none⟩ (.int .i64 (0))).setCell ⟨w.heap.size,4,none⟩ (.int .i64 (0))).setCell ⟨w.heap.size,5,none⟩ (.int .i64 (0))).setCell ⟨w.heap.size,6,none⟩ (.int .i64 (0))).setCell ⟨w.heap.size,7,none⟩ (.int .i64 (0))):=((((((((HB2.out.setCell (Nat.le_refl _) _).setCell (Nat.le_refl _) _).setCell (Nat.le_refl _) _).setCell (Nat.le_refl _) _).setCell (Nat.le_refl _) _).setCell (Nat.le_refl _) _).setCell (Nat.le_refl _) _).setCell (Nat.le_refl _) _)
  have k8:=blk_alloc k8 (by simp [World.setCell];omega) (.cells #[.int .i64 3,.int .i64 (decP q.w).o,.int .i64 (decP q.w).d,.int .i64 (decP q.w).p,.int .i64 (decP q.w).el,.int .i64 (decP q.w).c,.bool (decP q.w).db,.int .i64 (decP q.w).pa,.int .u32 (decP q.w).sg,.int .u32 (decP q.w).lo] 95)
  have B8:=B8.alloc (by simp [World.setCell];omega) (.cells #[.int .i64 3,.int .i64 (decP q.w).o,.int .i64 (decP q.w).d,.int .i64 (decP q.w).p,.int .i64 (decP q.w).el,.int .i64 (decP q.w).c,.bool (decP q.w).db,.int .i64 (decP q.w).pa,.int .u32 (decP q.w).sg,.int .u32 (decP q.w).lo] 95)
  generalize (((((((((w2.setCell ⟨w.heap.size,0,none⟩ (.int .i64 (0))).setCell ⟨w.heap.size,1,none⟩ (.int .i64 (0))).setCell ⟨w.heap.size,2,none⟩ (.int .i64 (0))).setCell ⟨w.heap.size,3,none⟩ (.int .i64 (0))).setCell ⟨w.heap.size,4,none⟩ (.int .i64 (0))).setCell ⟨w.heap.size,5,none⟩ (.int .i64 (0))).setCell ⟨w.heap.size,6,none⟩ (.int .i64 (0))).setCell ⟨w.heap.size,7,none⟩ (.int .i64 (0))).alloc (.cells #[.int .i64 3,.int .i64 (decP q.w).o,.int .i64 (decP q.w).d,.int .i64 (decP q.w).p,.int .i64 (decP q.w).el,.int .i64 (decP q.w).c,.bool (decP q.w).db,.int .i64 (decP q.w).pa,.int .u32 (decP q.w).sg,.int .u32 (decP q.w).lo] 95))=V at *
  exact bodyPost_ret (v:=.tuple #[.agg #[.int .i64 (0),.int .i64 (0),.int .i64 (0),.int .i64 (0),.int .i64 (0),.int .i64 (0),.int .i64 (0),.int .i64 (0)],.int .i64 4]) (by simp [results,Tryz.results57,go_sem,k8]) rfl ⟨by rw [HF.out];rfl,B8⟩
theorem wordsI_lim (e c:Int)(h0:0≤c)(h1:c≤536870911):0≤wordsI e c∧wordsI e c≤536870912:=by
 have h:=bitsI_mul e c h0
 unfold wordsI
 split<;>omega
set_option maxRecDepth 100000 in
set_option maxHeartbeats 2000000 in
theorem Object4 (A:Option Addr)(c:Nat)(ls:List (List Int))(s a:Int)(w:World)(hs:Sg w A ls)(hw:Wd2 ls)(hm:ls.length≤140737488355328)(hf:∀j,(seg ls j).length≤140737488355328)(h1:(followF ls s a).e=0)(h2:¬(followF ls s a).w=0)(h3:(decP (followF ls s a).w).k=0):
  Calls Tryz.prog 57 #[.slice A ls.length c,.int .i64 s,.int .i64 a] w fun e w'=>e=.returned (.tuple #[.agg #[.int .i64 (objF ls s a).1.k,.int .i64 (objF ls s a).1.sg,.int .i64 (objF ls s a).1.at',.int .i64 (objF ls s a).1.d,.int .i64 (objF ls s a).1.p,.int .i64 (objF ls s a).1.el,.int .i64 (objF ls s a).1.n,.int .i64 (objF ls s a).1.cost],.int .i64 (objF ls s a).2])∧Below w.heap.size w w':=by
 have HF:Hid (objF ls s a=if inB ls (followF ls s a).s ((followF ls s a).b+(decP (followF ls s a).w).o) ((decP (followF ls s a).w).d+(decP (followF ls s a).w).p)=true then (⟨1,(followF ls s a).s,(followF ls s a).b+(decP (followF ls s a).w).o,(decP (followF ls s a).w).d,(decP (followF ls s a).w).p,0,0,(decP (followF ls s a).w).d+(decP (followF ls s a).w).p⟩,0) else (ob0,2)):=Lib.hid (by simp [objF,objP,h1,h2,h3])
 have HFOL:=Lib.hid (fun w2 hs2=>RefFollow_any A c ls s a w2 hs2 hw hm hf)
 have hbd:=followF_bd hw hm hf s a
 have HW:=Lib.hid hw
 have Hs:=Lib.hid hs
 have hpd:=decP_bd (followF ls s a).w hbd.1 hbd.2.1
 generalize hq:followF ls s a=q at *
 clear hs hw hf hq
 go_enter Tryz.func57,Tryz.ntmps57
 go_wp2_with fail
 refine(HFOL.out _ ((Hs.out.alloc _).alloc _)).mono ?_
 rintro e w1 ⟨rfl,hb1⟩
 have B6:=(((Blk.fresh w _ _).alloc _).below hb1)
 have B8:=((Blk.fresh (w.alloc _) _ _).below hb1)
 have HB:Hid (Below w.heap.size w w1):=Lib.hid ((((Below.refl _ _).alloc (Nat.le_refl _) _).alloc (by simp) _).trans (hb1.mono (by simp;omega)))
 rw [World.size_alloc] at B8
 clear hb1 HFOL
 have t1:(q.e != 0)=false:=by simpa using h1
 have t2:(q.w==0)=false:=by simpa using h2
 go_wp2_with fail
 refine(RefDecode_any _ _ hbd.1 hbd.2.1).mono ?_
 rintro e w2 ⟨rfl,hb3⟩
 have B6:=B6.below hb3
 have B8:=B8.below hb3
 have hsz:=HB.out.size
 have HB:Hid (Below w.heap.size w w2):=Lib.hid (HB.out.trans (hb3.mono hsz))
 clear hb3 hsz
 have H6:=Lib.hid B6
 have H8:=Lib.hid B8
 obtain⟨x6,y6,z6⟩:=B6
 obtain⟨x8,y8,z8⟩:=B8
 generalize decP q.w=p at *
 go_wp2_with fail
 refine abs_world (F:=fun W=>Blk W w.heap.size #[.int .i64 (0),.int .i64 (0),.int .i64 (0),.int .i64 (0),.int .i64 (0),.int .i64 (0),.int .i64 (0),.int .i64 (0)]∧Blk W (w.heap.size+1) #[.int .i64 (1),.int .i64 (q.s),.int .i64 (q.b+p.o),.int .i64 (p.d),.int .i64 (p.p),.int .i64 (0),.int .i64 (0),.int .i64 (p.d+p.p)]∧Below w.heap.size w W) ⟨?_,?_,?_⟩ ?_
 ·repeat (with_reducible first|exact H6.out|refine Blk.alloc ?_ _|refine Blk.other ?_ (by simp;try omega) _)
 ·exact((((((H8.out.set 1 (by simp) _).set 2 (by simp) _).set 0 (by simp) _).set 3 (by simp) _).set 4 (by simp) _).set 7 (by simp) _).alloc _
 ·repeat (with_reducible first|exact HB.out|refine Below.alloc ?_ (by simp [World.setCell];omega) _|refine Below.setCell ?_ (by simp) _)
 rintro W ⟨B6,B8,hbw⟩
 have HB:=Lib.hid hbw
 clear hbw x6 y6 z6 x8 y8 z8 H6 H8
 cases hin:inB ls q.s (q.b+p.o) (p.d+p.p) with
 | true=>
  refine(RefInB_is _ _ _ _ _ _ _ _ (Hs.out.below HB.out (Nat.le_refl _)) hm hin).mono ?_
  rintro e w' ⟨rfl,rfl⟩
  rw [hin,if_pos rfl] at HF
  clear hin
  have H6:=Lib.hid B6
  have H8:=Lib.hid B8
  obtain⟨x6,y6,z6⟩:=B6
  obtain⟨x8,y8,z8⟩:=B8
  go_wp2_with fail
  refine abs_post (F:=fun W=>Blk W w.heap.size #[.int .i64 (1),.int .i64 (q.s),.int .i64 (q.b+p.o),.int .i64 (p.d),.int .i64 (p.p),.int .i64 (0),.int .i64 (0),.int .i64 (p.d+p.p)]∧Below w.heap.size w W) ⟨?_,?_⟩ ?_
  ·exact((((((((H6.out.set 0 (by simp) _).set 1 (by simp) _).set 2 (by simp) _).set 3 (by simp) _).set 4 (by simp) _).set 5 (by simp) _).set 6 (by simp) _).set 7 (by simp) _)
  ·repeat (with_reducible first|exact HB.out|refine Below.alloc ?_ (by simp [World.setCell];omega) _|refine Below.setCell ?_ (by simp) _)
  rintro V ⟨B6,hbv⟩
  exact bodyPost_ret (v:=.tuple #[.agg #[.int .i64 (1),.int .i64 (q.s),.int .i64 (q.b+p.o),.int .i64 (p.d),.int .i64 (p.p),.int .i64 (0),.int .i64 (0),.int .i64 (p.d+p.p)],.int .i64 0]) (by simp [results,Tryz.results57,go_sem,B6.cell]) rfl ⟨by rw [HF.out];try rfl,hbv⟩
 | false=>
  refine(RefInB_is _ _ _ _ _ _ _ _ (Hs.out.below HB.out (Nat.le_refl _)) hm hin).mono ?_
  rintro e w' ⟨rfl,rfl⟩
  rw [hin,if_neg Bool.false_ne_true] at HF
  clear hin
  have H6:=Lib.hid B6
  have H8:=Lib.hid B8
  obtain⟨x6,y6,z6⟩:=B6
  obtain⟨x8,y8,z8⟩:=B8
  go_wp2_with fail
  refine abs_post (F:=fun W=>Blk W w.heap.size #[.int .i64 (0),.int .i64 (0),.int .i64 (0),.int .i64 (0),.int .i64 (0),.int .i64 (0),.int .i64 (0),.int .i64 (0)]∧Below w.heap.size w W) ⟨?_,?_⟩ ?_
  ·exact((((((((H6.out.set 0 (by simp) _).set 1 (by simp) _).set 2 (by simp) _).set 3 (by simp) _).set 4 (by simp) _).set 5 (by simp) _).set 6 (by simp) _).set 7 (by simp) _)
  ·repeat (with_reducible first|exact HB.out|refine Below.alloc ?_ (by simp [World.setCell];omega) _|refine Below.setCell ?_ (by simp) _)
  rintro V ⟨B6,hbv⟩
  exact bodyPost_ret (v:=.tuple #[.agg #[.int .i64 (0),.int .i64 (0),.int .i64 (0),.int .i64 (0),.int .i64 (0),.int .i64 (0),.int .i64 (0),.int .i64 (0)],.int .i64 2]) (by simp [results,Tryz.results57,go_sem,B6.cell]) rfl ⟨by rw [HF.out];try rfl,hbv⟩
set_option maxRecDepth 100000 in
set_option maxHeartbeats 2000000 in
theorem Object5 (A:Option Addr)(c:Nat)(ls:List (List Int))(s a:Int)(w:World)(hs:Sg w A ls)(hw:Wd2 ls)(hm:ls.length≤140737488355328)(hf:∀j,(seg ls j).length≤140737488355328)(h1:(followF ls s a).e=0)(h2:¬(followF ls s a).w=0)(h3:¬(decP (followF ls s a).w).k=3)(h4:¬(decP (followF ls s a).w).k=0):
  Calls Tryz.prog 57 #[.slice A ls.length c,.int .i64 s,.int .i64 a] w fun e w'=>e=.returned (.tuple #[.agg #[.int .i64 (objF ls s a).1.k,.int .i64 (objF ls s a).1.sg,.int .i64 (objF ls s a).1.at',.int .i64 (objF ls s a).1.d,.int .i64 (objF ls s a).1.p,.int .i64 (objF ls s a).1.el,.int .i64 (objF ls s a).1.n,.int .i64 (objF ls s a).1.cost],.int .i64 (objF ls s a).2])∧Below w.heap.size w w':=by
 have HF:Hid (objF ls s a=if inB ls (followF ls s a).s ((followF ls s a).b+(decP (followF ls s a).w).o) (wordsI (decP (followF ls s a).w).el (decP (followF ls s a).w).c)=false then (ob0,2) else if (decP (followF ls s a).w).el=7 then compF ls (followF ls s a).s ((followF ls s a).b+(decP (followF ls s a).w).o) (decP (followF ls s a).w).c (wordsI (decP (followF ls s a).w).el (decP (followF ls s a).w).c) else (⟨2,(followF ls s a).s,(followF ls s a).b+(decP (followF ls s a).w).o,0,0,(decP (followF ls s a).w).el,(decP (followF ls s a).w).c,wordsI (decP (followF ls s a).w).el (decP (followF ls s a).w).c⟩,0)):=Lib.hid (by simp [objF,objP,h1,h2,h3,h4])
 have HFOL:=Lib.hid (fun w2 hs2=>RefFollow_any A c ls s a w2 hs2 hw hm hf)
 have hbd:=followF_bd hw hm hf s a
 have HW:=Lib.hid hw
 have Hs:=Lib.hid hs
 have hpd:=decP_bd (followF ls s a).w hbd.1 hbd.2.1
 generalize hq:followF ls s a=q at *
 clear hs hw hf hq
 go_enter Tryz.func57,Tryz.ntmps57
 go_wp2_with fail
 refine(HFOL.out _ ((Hs.out.alloc _).alloc _)).mono ?_
 rintro e w1 ⟨rfl,hb1⟩
 have B6:=(((Blk.fresh w _ _).alloc _).below hb1)
 have B8:=((Blk.fresh (w.alloc _) _ _).below hb1)
 have HB:Hid (Below w.heap.size w w1):=Lib.hid ((((Below.refl _ _).alloc (Nat.le_refl _) _).alloc (by simp) _).trans (hb1.mono (by simp;omega)))
 rw [World.size_alloc] at B8
 clear hb1 HFOL
 have t1:(q.e != 0)=false:=by simpa using h1
 have t2:(q.w==0)=false:=by simpa using h2
 go_wp2_with fail
 refine(RefDecode_any _ _ hbd.1 hbd.2.1).mono ?_
 rintro e w2 ⟨rfl,hb3⟩
 have B6:=B6.below hb3
 have B8:=B8.below hb3
 have hsz:=HB.out.size
 have HB:Hid (Below w.heap.size w w2):=Lib.hid (HB.out.trans (hb3.mono hsz))
 clear hb3 hsz
 have H6:=Lib.hid B6
 have H8:=Lib.hid B8
 obtain⟨x6,y6,z6⟩:=B6
 obtain⟨x8,y8,z8⟩:=B8
 generalize decP q.w=p at *
 have t3:(p.k==3)=false:=by rw [beq_eq_false_iff_ne];exact h3
 have t4:(p.k==0)=false:=by rw [beq_eq_false_iff_ne];exact h4
 clear h3 h4
 have hwb:0≤wordsI p.el p.c∧wordsI p.el p.c≤536870912:=wordsI_lim p.el p.c (by omega) (by omega)
 go_wp2_with fail
 refine(RefWords6_any _ _ _ (by omega) (by omega)).mono ?_
 rintro e w' ⟨rfl,rfl⟩
 generalize wordsI p.el p.c=cw at *
 go_wp2_with fail
 refine abs_world (F:=fun W=>Blk W w.heap.size #[.int .i64 (0),.int .i64 (0),.int .i64 (0),.int .i64 (0),.int .i64 (0),.int .i64 (0),.int .i64 (0),.int .i64 (0)]∧Blk W (w.heap.size+1) #[.int .i64 (2),.int .i64 (q.s),.int .i64 (q.b+p.o),.int .i64 (0),.int .i64 (0),.int .i64 (p.el),.int .i64 (p.c),.int .i64 (cw)]∧Blk W w2.heap.size #[.int .i64 p.k,.int .i64 p.o,.int .i64 p.d,.int .i64 p.p,.int .i64 p.el,.int .i64 p.c,.bool p.db,.int .i64 p.pa,.int .u32 p.sg,.int .u32 p.lo]∧Below w.heap.size w W) ⟨?_,?_,?_,?_⟩ ?_
 ·repeat (with_reducible first|exact H6.out|refine Blk.alloc ?_ _|refine Blk.other ?_ (by simp;try omega) _)
 ·exact((((((H8.out.set 1 (by simp) _).set 2 (by simp) _).set 0 (by simp) _).set 5 (by simp) _).set 6 (by simp) _).set 7 (by simp) _).alloc _
 ·exact Blk.new (by simp [World.setCell])
 ·repeat (with_reducible first|exact HB.out|refine Below.alloc ?_ (by simp [World.setCell];omega) _|refine Below.setCell ?_ (by simp) _)
 rintro W ⟨B6,B8,BP,hbw⟩
 have HB:=Lib.hid hbw
 clear hbw x6 y6 x8 y8 H6 H8
 cases hin:inB ls q.s (q.b+p.o) cw with
 | false=>
  refine(RefInB_is _ _ _ _ _ _ _ _ (Hs.out.below HB.out (Nat.le_refl _)) hm hin).mono ?_
  rintro e w' ⟨rfl,rfl⟩
  rw [hin,if_pos rfl] at HF
  clear hin
  have H6:=Lib.hid B6
  have H8:=Lib.hid B8
  obtain⟨x6,y6,z6⟩:=B6
  obtain⟨x8,y8,z8⟩:=B8
  have HP:=Lib.hid BP
  obtain⟨xp,yp,zp⟩:=BP
  go_wp2_with fail
  refine abs_post (F:=fun W=>Blk W w.heap.size #[.int .i64 (0),.int .i64 (0),.int .i64 (0),.int .i64 (0),.int .i64 (0),.int .i64 (0),.int .i64 (0),.int .i64 (0)]∧Below w.heap.size w W) ⟨?_,?_⟩ ?_
  ·exact((((((((H6.out.set 0 (by simp) _).set 1 (by simp) _).set 2 (by simp) _).set 3 (by simp) _).set 4 (by simp) _).set 5 (by simp) _).set 6 (by simp) _).set 7 (by simp) _)
  ·repeat (with_reducible first|exact HB.out|refine Below.alloc ?_ (by simp [World.setCell];omega) _|refine Below.setCell ?_ (by simp) _)
  rintro V ⟨B6,hbv⟩
  exact bodyPost_ret (v:=.tuple #[.agg #[.int .i64 (0),.int .i64 (0),.int .i64 (0),.int .i64 (0),.int .i64 (0),.int .i64 (0),.int .i64 (0),.int .i64 (0)],.int .i64 2]) (by simp [results,Tryz.results57,go_sem,B6.cell]) rfl ⟨by rw [HF.out];try rfl,hbv⟩
 | true=>
  refine(RefInB_is _ _ _ _ _ _ _ _ (Hs.out.below HB.out (Nat.le_refl _)) hm hin).mono ?_
  rintro e w' ⟨rfl,rfl⟩
  rw [hin,if_neg (by simp)] at HF
  clear hin
  have H6:=Lib.hid B6
  have H8:=Lib.hid B8
  obtain⟨x6,y6,z6⟩:=B6
  obtain⟨x8,y8,z8⟩:=B8
  have HP:=Lib.hid BP
  obtain⟨xp,yp,zp⟩:=BP
  by_cases h7:p.el=7
  ·rw [if_pos h7] at HF
   rw [h7] at xp x8
   go_wp2_with fail
   refine(RefWord_any _ _ _ _ _ _ (Hs.out.below HB.out (Nat.le_refl _)) hm).mono ?_
   rintro e w' ⟨rfl,rfl⟩
   have hwd:=wordV_bd HW.out q.s (q.b+p.o)
   have htd:=decP_bd _ hwd.1 hwd.2
   have HG:Hid (objF ls s a=if (decP (wordV ls q.s (q.b+p.o))).k≠0∨(decP (wordV ls q.s (q.b+p.o))).o<0∨p.c<(decP (wordV ls q.s (q.b+p.o))).o*((decP (wordV ls q.s (q.b+p.o))).d+(decP (wordV ls q.s (q.b+p.o))).p) then (ob0,5)
    else (⟨2,q.s,q.b+p.o+1,(decP (wordV ls q.s (q.b+p.o))).d,(decP (wordV ls q.s (q.b+p.o))).p,7,(decP (wordV ls q.s (q.b+p.o))).o,if (decP (wordV ls q.s (q.b+p.o))).d+(decP (wordV ls q.s (q.b+p.o))).p=0 then cw+(decP (wordV ls q.s (q.b+p.o))).o else cw⟩,0)):=Lib.hid (by rw [HF.out];rfl)
   clear HF
   generalize wordV ls q.s (q.b+p.o)=x at *
   go_wp2_with fail
   refine(RefDecode_any _ _ hwd.1 hwd.2).mono ?_
   rintro e w3 ⟨rfl,hb5⟩
   have B6:=H6.out.below hb5
   have B8:=H8.out.below hb5
   have BP:=HP.out.below hb5
   have HB:Hid (Below w.heap.size w w3):=Lib.hid (HB.out.trans (hb5.mono HB.out.size))
   clear hb5 x6 y6 z6 x8 y8 z8 xp yp zp H6 H8 HP
   have H6:=Lib.hid B6
   have H8:=Lib.hid B8
   obtain⟨x6,y6,z6⟩:=B6
   obtain⟨x8,y8,z8⟩:=B8
   obtain⟨xp,yp,zp⟩:=BP
   generalize decP x=t at *
   by_cases hk:t.k=0
   ·have t5:(t.k != 0)=false:=by simpa using hk
    by_cases ho:t.o<0
    ·have HE:Hid (objF ls s a=(ob0,5)):=Lib.hid (by rw [HG.out,if_pos (Or.inr (Or.inl ho))])
     clear hk
     go_wp2_with fail
     refine abs_post (F:=fun W=>Blk W w.heap.size #[.int .i64 (0),.int .i64 (0),.int .i64 (0),.int .i64 (0),.int .i64 (0),.int .i64 (0),.int .i64 (0),.int .i64 (0)]∧Below w.heap.size w W) ⟨?_,?_⟩ ?_
     ·exact((((((((H6.out.set 0 (by simp) _).set 1 (by simp) _).set 2 (by simp) _).set 3 (by simp) _).set 4 (by simp) _).set 5 (by simp) _).set 6 (by simp) _).set 7 (by simp) _).alloc _
     ·repeat (with_reducible first|exact HB.out|refine Below.alloc ?_ (by simp [World.setCell];omega) _|refine Below.setCell ?_ (by simp) _)
     rintro V ⟨B6,hbv⟩
     exact bodyPost_ret (v:=.tuple #[.agg #[.int .i64 (0),.int .i64 (0),.int .i64 (0),.int .i64 (0),.int .i64 (0),.int .i64 (0),.int .i64 (0),.int .i64 (0)],.int .i64 5]) (by simp [results,Tryz.results57,go_sem,B6.cell]) rfl ⟨by rw [HE.out];try rfl,hbv⟩
    ·have hm0:0≤t.o*(t.d+t.p):=Int.mul_nonneg (by omega) (by omega)
     have hm1:t.o*(t.d+t.p)≤536870911*131070:=Int.mul_le_mul (by omega) (by omega) (by omega) (by omega)
     by_cases hp:p.c<t.o*(t.d+t.p)
     ·have HE:Hid (objF ls s a=(ob0,5)):=Lib.hid (by rw [HG.out,if_pos (Or.inr (Or.inr hp))])
      clear hk
      go_wp2_with fail
      refine abs_post (F:=fun W=>Blk W w.heap.size #[.int .i64 (0),.int .i64 (0),.int .i64 (0),.int .i64 (0),.int .i64 (0),.int .i64 (0),.int .i64 (0),.int .i64 (0)]∧Below w.heap.size w W) ⟨?_,?_⟩ ?_
      ·exact((((((((H6.out.set 0 (by simp) _).set 1 (by simp) _).set 2 (by simp) _).set 3 (by simp) _).set 4 (by simp) _).set 5 (by simp) _).set 6 (by simp) _).set 7 (by simp) _).alloc _
      ·repeat (with_reducible first|exact HB.out|refine Below.alloc ?_ (by simp [World.setCell];omega) _|refine Below.setCell ?_ (by simp) _)
      rintro V ⟨B6,hbv⟩
      exact bodyPost_ret (v:=.tuple #[.agg #[.int .i64 (0),.int .i64 (0),.int .i64 (0),.int .i64 (0),.int .i64 (0),.int .i64 (0),.int .i64 (0),.int .i64 (0)],.int .i64 5]) (by simp [results,Tryz.results57,go_sem,B6.cell]) rfl ⟨by rw [HE.out];try rfl,hbv⟩
     ·have HE:Hid (objF ls s a=(⟨2,q.s,q.b+p.o+1,t.d,t.p,7,t.o,if t.d+t.p=0 then cw+t.o else cw⟩,0)):=Lib.hid (by rw [HG.out,if_neg (by omega)])
      clear hk HG
      by_cases hz:t.d+t.p=0
      ·rw [if_pos hz] at HE
       have t6:(t.d+t.p==0)=true:=by simpa using hz
       clear hz
       go_wp2_with fail
       refine abs_post (F:=fun W=>Blk W w.heap.size #[.int .i64 (2),.int .i64 (q.s),.int .i64 (q.b+p.o+1),.int .i64 (t.d),.int .i64 (t.p),.int .i64 (7),.int .i64 (t.o),.int .i64 (cw+t.o)]∧Below w.heap.size w W) ⟨?_,?_⟩ ?_
       ·exact(((((((((((((H6.out.other (by simp) _).other (by simp) _).other (by simp) _).other (by simp) _).other (by simp) _).set 0 (by simp) _).set 1 (by simp) _).set 2 (by simp) _).set 3 (by simp) _).set 4 (by simp) _).set 5 (by simp) _).set 6 (by simp) _).set 7 (by simp) _).alloc _
       ·repeat (with_reducible first|exact HB.out|refine Below.alloc ?_ (by simp [World.setCell];omega) _|refine Below.setCell ?_ (by simp) _)
       rintro V ⟨B6,hbv⟩
       exact bodyPost_ret (v:=.tuple #[.agg #[.int .i64 (2),.int .i64 (q.s),.int .i64 (q.b+p.o+1),.int .i64 (t.d),.int .i64 (t.p),.int .i64 (7),.int .i64 (t.o),.int .i64 (cw+t.o)],.int .i64 0]) (by simp [results,Tryz.results57,go_sem,B6.cell]) rfl ⟨by rw [HE.out];try rfl,hbv⟩
      ·rw [if_neg hz] at HE
       have t6:(t.d+t.p==0)=false:=by simpa using hz
       clear hz
       go_wp2_with fail
       refine abs_post (F:=fun W=>Blk W w.heap.size #[.int .i64 (2),.int .i64 (q.s),.int .i64 (q.b+p.o+1),.int .i64 (t.d),.int .i64 (t.p),.int .i64 (7),.int .i64 (t.o),.int .i64 (cw)]∧Below w.heap.size w W) ⟨?_,?_⟩ ?_
       ·exact((((((((((((H6.out.other (by simp) _).other (by simp) _).other (by simp) _).other (by simp) _).set 0 (by simp) _).set 1 (by simp) _).set 2 (by simp) _).set 3 (by simp) _).set 4 (by simp) _).set 5 (by simp) _).set 6 (by simp) _).set 7 (by simp) _).alloc _
       ·repeat (with_reducible first|exact HB.out|refine Below.alloc ?_ (by simp [World.setCell];omega) _|refine Below.setCell ?_ (by simp) _)
       rintro V ⟨B6,hbv⟩
       exact bodyPost_ret (v:=.tuple #[.agg #[.int .i64 (2),.int .i64 (q.s),.int .i64 (q.b+p.o+1),.int .i64 (t.d),.int .i64 (t.p),.int .i64 (7),.int .i64 (t.o),.int .i64 (cw)],.int .i64 0]) (by simp [results,Tryz.results57,go_sem,B6.cell]) rfl ⟨by rw [HE.out];try rfl,hbv⟩
   ·have t5:(t.k != 0)=true:=by simpa using hk
    have HE:Hid (objF ls s a=(ob0,5)):=Lib.hid (by rw [HG.out,if_pos (Or.inl hk)])
    clear hk
    go_wp2_with fail
    refine abs_post (F:=fun W=>Blk W w.heap.size #[.int .i64 (0),.int .i64 (0),.int .i64 (0),.int .i64 (0),.int .i64 (0),.int .i64 (0),.int .i64 (0),.int .i64 (0)]∧Below w.heap.size w W) ⟨?_,?_⟩ ?_
    ·exact((((((((H6.out.set 0 (by simp) _).set 1 (by simp) _).set 2 (by simp) _).set 3 (by simp) _).set 4 (by simp) _).set 5 (by simp) _).set 6 (by simp) _).set 7 (by simp) _).alloc _
    ·repeat (with_reducible first|exact HB.out|refine Below.alloc ?_ (by simp [World.setCell];omega) _|refine Below.setCell ?_ (by simp) _)
    rintro V ⟨B6,hbv⟩
    exact bodyPost_ret (v:=.tuple #[.agg #[.int .i64 (0),.int .i64 (0),.int .i64 (0),.int .i64 (0),.int .i64 (0),.int .i64 (0),.int .i64 (0),.int .i64 (0)],.int .i64 5]) (by simp [results,Tryz.results57,go_sem,B6.cell]) rfl ⟨by rw [HE.out];try rfl,hbv⟩
  ·rw [if_neg h7] at HF
   have t7:(p.el != 7)=true:=by simpa using h7
   clear h7
   go_wp2_with fail
   refine abs_post (F:=fun W=>Blk W w.heap.size #[.int .i64 (2),.int .i64 (q.s),.int .i64 (q.b+p.o),.int .i64 (0),.int .i64 (0),.int .i64 (p.el),.int .i64 (p.c),.int .i64 (cw)]∧Below w.heap.size w W) ⟨?_,?_⟩ ?_
   ·exact((((((((H6.out.set 0 (by simp) _).set 1 (by simp) _).set 2 (by simp) _).set 3 (by simp) _).set 4 (by simp) _).set 5 (by simp) _).set 6 (by simp) _).set 7 (by simp) _)
   ·repeat (with_reducible first|exact HB.out|refine Below.alloc ?_ (by simp [World.setCell];omega) _|refine Below.setCell ?_ (by simp) _)
   rintro V ⟨B6,hbv⟩
   exact bodyPost_ret (v:=.tuple #[.agg #[.int .i64 (2),.int .i64 (q.s),.int .i64 (q.b+p.o),.int .i64 (0),.int .i64 (0),.int .i64 (p.el),.int .i64 (p.c),.int .i64 (cw)],.int .i64 0]) (by simp [results,Tryz.results57,go_sem,B6.cell]) rfl ⟨by rw [HF.out];try rfl,hbv⟩
end Go.Proofs.YtfaflahfjgnphaaGreatDoor
