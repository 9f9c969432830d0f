/- The texts PtrRun, PtrFns, Ref02 (what is wanted of them), one after the other. -/
import Derived.Test.YtfaflahfjgnphaaGreatDoorMg6
import Derived.Test.YtfaflahfjgnphaaGreatDoorMg7
namespace Go.Proofs.YtfaflahfjgnphaaGreatDoor
open Go.ChangeShapes Go.WideShapes Go.ChangeAt Go.RowKit
set_option linter.unusedVariables false
set_option linter.unusedSimpArgs false
set_option maxRecDepth 100000
section
attribute [local simp] AllK KnowsV look Is
theorem run_dec (x:Int)(w:World)(h5:0≤x)(h6:x<18446744073709551616):
  Calls Tryz.prog 78 #[.agg #[.int .u64 x,.int .i64 0,.int .i64 0,.int .i64 0,.int .i64 0,.int .i64 0,.int .i64 0,.bool false,.int .i64 0,.int .u32 0,.int .u32 0,.bool false]] w fun e w'=>e=.returned (.tuple #[.agg #[.int .u64 x,.int .i64 (decP x).k,.int .i64 (decP x).o,.int .i64 (decP x).d,.int .i64 (decP x).p,.int .i64 (decP x).el,.int .i64 (decP x).c,.bool (decP x).db,.int .i64 (decP x).pa,.int .u32 (decP x).sg,.int .u32 (decP x).lo,.bool false],.bool true])∧Below w.heap.size w w':=by
 have c4:x % 4=0∨x % 4=1∨x % 4=2∨x % 4=3:=by omega
 rcases c4 with c|c|c|c
 ·refine(run_dec0 x w h5 h6 c).mono fun e w' ⟨he,hb⟩=>⟨he.trans ?_,hb⟩
  rw [s_2_30 x h5,f_32_16 x h5,f_48_16 x h5]
  simp [decP,c]
 ·refine(run_dec1 x w h5 h6 c).mono fun e w' ⟨he,hb⟩=>⟨he.trans ?_,hb⟩
  rw [s_2_30 x h5,f_32_3 x h5,f_35_29 x h5]
  simp [decP,c]
 ·refine(run_dec2 x w h5 h6 c).mono fun e w' ⟨he,hb⟩=>⟨he.trans ?_,hb⟩
  rw [f_2_1 x h5,f_3_29 x h5,f_32_32 x h5]
  simp [decP,c]
 ·refine(run_dec3 x w h5 h6 c).mono fun e w' ⟨he,hb⟩=>⟨he.trans ?_,hb⟩
  rw [f_2_30 x h5,f_32_32 x h5]
  simp [decP,c]
end
section
set_option maxHeartbeats 1000000 in
theorem Decode_any (x:Int)(w:World)(h5:0≤x)(h6:x<18446744073709551616):
  Calls Tryz.prog 54 #[.int .u64 x] w fun e w'=>e=.returned (.agg #[.int .i64 (decP x).k,.int .i64 (decP x).o,.int .i64 (decP x).d,.int .i64 (decP x).p,.int .i64 (decP x).el,.int .i64 (decP x).c,.bool (decP x).db,.int .i64 (decP x).pa,.int .u32 (decP x).sg,.int .u32 (decP x).lo])∧Below w.heap.size w w':=by
 go_enter Tryz.func54,Tryz.ntmps54
 go_wp2_with fail
 refine(run_dec x _ h5 h6).mono ?_
 rintro e w1 ⟨rfl,hb⟩
 obtain⟨hc,hf⟩:=bcell hb
 have hz:w.heap.size<w1.heap.size:=by have:=hb.size;simp at this;omega
 have HB:=Lib.hid hb
 clear hb
 simp at hc hf
 go_wp2
 refine bodyPost_ret (v:=.agg #[.int .i64 (decP x).k,.int .i64 (decP x).o,.int .i64 (decP x).d,.int .i64 (decP x).p,.int .i64 (decP x).el,.int .i64 (decP x).c,.bool (decP x).db,.int .i64 (decP x).pa,.int .u32 (decP x).sg,.int .u32 (decP x).lo]) (by simp [results,Tryz.results54,go_sem,hc,hz]) rfl ⟨rfl,?_⟩
 repeat (first|with_reducible refine Below.alloc ?_ (by first|omega|(simp;omega)) _|with_reducible refine Below.setCell ?_ (by simp) _)
 exact bel_on ((Below.refl _ _).alloc (Nat.le_refl _) _) HB.out
def peq (k o d p el c pa sg lo:Int)(db:Bool)(k' o' d' p' el' c' pa' sg' lo':Int)(db':Bool):Bool:=decide (k=k'∧o=o'∧d=d'∧p=p'∧el=el'∧c=c'∧db=db'∧pa=pa'∧sg=sg'∧lo=lo')
theorem run_eql_ptr (k o d p el c pa sg lo:Int)(db:Bool)(k' o' d' p' el' c' pa' sg' lo':Int)(db':Bool)(w:World):(binOp .eql 95 (.agg #[.int .i64 k,.int .i64 o,.int .i64 d,.int .i64 p,.int .i64 el,.int .i64 c,.bool db,.int .i64 pa,.int .u32 sg,.int .u32 lo]) (.agg #[.int .i64 k',.int .i64 o',.int .i64 d',.int .i64 p',.int .i64 el',.int .i64 c',.bool db',.int .i64 pa',.int .u32 sg',.int .u32 lo'])).run Tryz.prog w=.ok (.bool (peq k o d p el c pa sg lo db k' o' d' p' el' c' pa' sg' lo' db')) w:=by
 go_simp
 unfold peq
 by_cases h1:k=k'
 ·by_cases h2:o=o'
  ·by_cases h3:d=d'
   ·by_cases h4:p=p'
    ·by_cases h5:el=el'
     ·by_cases h6:c=c'
      ·by_cases h7:db=db'
       ·by_cases h8:pa=pa'
        ·by_cases h9:sg=sg'<;>by_cases h10:lo=lo'<;>simp [h1,h2,h3,h4,h5,h6,h7,h8,h9,h10]
        ·simp [h8]
       ·simp [h7]
      ·simp [h6]
     ·simp [h5]
    ·simp [h4]
   ·simp [h3]
  ·simp [h2]
 ·simp [h1]
theorem IsCapability_any (k o d p el c pa sg lo:Int)(db:Bool)(w:World):
  Calls Tryz.prog 85 #[.agg #[.int .i64 k,.int .i64 o,.int .i64 d,.int .i64 p,.int .i64 el,.int .i64 c,.bool db,.int .i64 pa,.int .u32 sg,.int .u32 lo]] w fun e w'=>e=.returned (.bool (k==3&&lo==0))∧Below w.heap.size w w':=by
 by_cases h:k=3
 ·subst h
  go_enter Tryz.func85,Tryz.ntmps85
  go_wp2
  go_ret
  exact⟨rfl,(Below.refl _ _).alloc (Nat.le_refl _) _⟩
 ·have h1:(k==3)=false:=by rw [beq_eq_false_iff_ne];exact h
  have HH:=Lib.hid h1
  clear h
  go_enter Tryz.func85,Tryz.ntmps85
  go_wp2
  go_ret
  exact⟨by rw [HH.out];rfl,(Below.refl _ _).alloc (Nat.le_refl _) _⟩
theorem IsNull_any (x:Int)(w:World):
  Calls Tryz.prog 53 #[.int .u64 x] w fun e w'=>e=.returned (.bool (x==0))∧w=w':=by
 go_enter Tryz.func53,Tryz.ntmps53
 go_wp2
 go_ret
 exact⟨rfl,rfl⟩
attribute [local simp] AllK KnowsV look Is
def okE (q:Ptr):Bool:=decide (Vld q)
def encE (q:Ptr):Int:=if okE q then encW q else 0
end
set_option maxHeartbeats 1000000 in
theorem RefDecode0 (x:Int)(w:World)(h5:0≤x)(h6:x<18446744073709551616)(hk:x % 4=0):
  Calls Tryz.prog 89 #[.int .u64 x] w fun e w'=>e=.returned (.agg #[.int .i64 0,.int .i64 (sgn x 2 30),.int .i64 (fld x 32 16),.int .i64 (fld x 48 16),.int .i64 0,.int .i64 0,.bool false,.int .i64 0,.int .u32 0,.int .u32 0])∧Below w.heap.size w w':=by
 have l32:=fld_lt63 x 32 16 (by omega)
 have m32:=fld_nonneg x 32 16
 have l48:=fld_lt63 x 48 16 (by omega)
 have m48:=fld_nonneg x 48 16
 go_enter Tryz.func89,Tryz.ntmps89
 go_wp2_with (first
  | (go_at_call 107;refine(RefSigned_any _ _ _ _ (by omega) (by omega) (by omega) h5 h6).mono ?_;rintro e w' ⟨rfl,rfl⟩)
  | (go_at_call 108;refine(RefField_any _ _ _ _ (by omega) (by omega) (by omega) h5 h6).mono ?_;rintro e w' ⟨rfl,rfl⟩))
 refine bodyPost_ret (v:=.agg #[.int .i64 0,.int .i64 (sgn x 2 30),.int .i64 (fld x 32 16),.int .i64 (fld x 48 16),.int .i64 0,.int .i64 0,.bool false,.int .i64 0,.int .u32 0,.int .u32 0]) (by simp [results,Tryz.results89,go_sem]) rfl ⟨rfl,?_⟩
 repeat (first|with_reducible refine bel_drew ?_|with_reducible refine Below.alloc ?_ (by first|omega|(simp;done)|(simp;omega)) _|with_reducible refine Below.setCell ?_ (by simp) _)
 exact Below.refl _ _
set_option maxHeartbeats 1000000 in
theorem RefDecode1 (x:Int)(w:World)(h5:0≤x)(h6:x<18446744073709551616)(hk:x % 4=1):
  Calls Tryz.prog 89 #[.int .u64 x] w fun e w'=>e=.returned (.agg #[.int .i64 1,.int .i64 (sgn x 2 30),.int .i64 0,.int .i64 0,.int .i64 (fld x 32 3),.int .i64 (fld x 35 29),.bool false,.int .i64 0,.int .u32 0,.int .u32 0])∧Below w.heap.size w w':=by
 have l32:=fld_lt63 x 32 3 (by omega)
 have m32:=fld_nonneg x 32 3
 have l35:=fld_lt63 x 35 29 (by omega)
 have m35:=fld_nonneg x 35 29
 go_enter Tryz.func89,Tryz.ntmps89
 go_wp2_with (first
  | (go_at_call 107;refine(RefSigned_any _ _ _ _ (by omega) (by omega) (by omega) h5 h6).mono ?_;rintro e w' ⟨rfl,rfl⟩)
  | (go_at_call 108;refine(RefField_any _ _ _ _ (by omega) (by omega) (by omega) h5 h6).mono ?_;rintro e w' ⟨rfl,rfl⟩))
 refine bodyPost_ret (v:=.agg #[.int .i64 1,.int .i64 (sgn x 2 30),.int .i64 0,.int .i64 0,.int .i64 (fld x 32 3),.int .i64 (fld x 35 29),.bool false,.int .i64 0,.int .u32 0,.int .u32 0]) (by simp [results,Tryz.results89,go_sem]) rfl ⟨rfl,?_⟩
 repeat (first|with_reducible refine bel_drew ?_|with_reducible refine Below.alloc ?_ (by first|omega|(simp;done)|(simp;omega)) _|with_reducible refine Below.setCell ?_ (by simp) _)
 exact Below.refl _ _
set_option maxHeartbeats 1000000 in
theorem RefDecode2 (x:Int)(w:World)(h5:0≤x)(h6:x<18446744073709551616)(hk:x % 4=2):
  Calls Tryz.prog 89 #[.int .u64 x] w fun e w'=>e=.returned (.agg #[.int .i64 2,.int .i64 0,.int .i64 0,.int .i64 0,.int .i64 0,.int .i64 0,.bool (fld x 2 1==1),.int .i64 (fld x 3 29),.int .u32 (x / 4294967296),.int .u32 0])∧Below w.heap.size w w':=by
 have l2:=fld_lt63 x 2 1 (by omega)
 have m2:=fld_nonneg x 2 1
 have l3:=fld_lt63 x 3 29 (by omega)
 have m3:=fld_nonneg x 3 29
 have HS:Hid (IntKind.u32.wrap (x / 4294967296)=x / 4294967296):=Lib.hid (by rw [IntKind.wrap_u32];omega)
 go_enter Tryz.func89,Tryz.ntmps89
 go_wp2_with (first
  | (go_at_call 107;refine(RefSigned_any _ _ _ _ (by omega) (by omega) (by omega) h5 h6).mono ?_;rintro e w' ⟨rfl,rfl⟩)
  | (go_at_call 108;refine(RefField_any _ _ _ _ (by omega) (by omega) (by omega) h5 h6).mono ?_;rintro e w' ⟨rfl,rfl⟩))
 refine bodyPost_ret (v:=.agg #[.int .i64 2,.int .i64 0,.int .i64 0,.int .i64 0,.int .i64 0,.int .i64 0,.bool (fld x 2 1==1),.int .i64 (fld x 3 29),.int .u32 (x / 4294967296),.int .u32 0]) (by simp [results,Tryz.results89,go_sem]) rfl ⟨rfl,?_⟩
 repeat (first|with_reducible refine bel_drew ?_|with_reducible refine Below.alloc ?_ (by first|omega|(simp;done)|(simp;omega)) _|with_reducible refine Below.setCell ?_ (by simp) _)
 exact Below.refl _ _
set_option maxHeartbeats 1000000 in
theorem RefDecode3 (x:Int)(w:World)(h5:0≤x)(h6:x<18446744073709551616)(hk:x % 4=3):
  Calls Tryz.prog 89 #[.int .u64 x] w fun e w'=>e=.returned (.agg #[.int .i64 3,.int .i64 0,.int .i64 0,.int .i64 0,.int .i64 0,.int .i64 0,.bool false,.int .i64 0,.int .u32 (x / 4294967296),.int .u32 (fld x 2 30)])∧Below w.heap.size w w':=by
 have l2:=fld_lt63 x 2 30 (by omega)
 have m2:=fld_nonneg x 2 30
 have l32:=fld_lt32 x 2 30 (by omega)
 have HS:Hid (IntKind.u32.wrap (x / 4294967296)=x / 4294967296):=Lib.hid (by rw [IntKind.wrap_u32];omega)
 go_enter Tryz.func89,Tryz.ntmps89
 go_wp2_with (first
  | (go_at_call 107;refine(RefSigned_any _ _ _ _ (by omega) (by omega) (by omega) h5 h6).mono ?_;rintro e w' ⟨rfl,rfl⟩)
  | (go_at_call 108;refine(RefField_any _ _ _ _ (by omega) (by omega) (by omega) h5 h6).mono ?_;rintro e w' ⟨rfl,rfl⟩))
 refine bodyPost_ret (v:=.agg #[.int .i64 3,.int .i64 0,.int .i64 0,.int .i64 0,.int .i64 0,.int .i64 0,.bool false,.int .i64 0,.int .u32 (x / 4294967296),.int .u32 (fld x 2 30)]) (by simp [results,Tryz.results89,go_sem]) rfl ⟨rfl,?_⟩
 repeat (first|with_reducible refine bel_drew ?_|with_reducible refine Below.alloc ?_ (by first|omega|(simp;done)|(simp;omega)) _|with_reducible refine Below.setCell ?_ (by simp) _)
 exact Below.refl _ _
theorem RefDecode_any (x:Int)(w:World)(h5:0≤x)(h6:x<18446744073709551616):
  Calls Tryz.prog 89 #[.int .u64 x] w fun e w'=>e=.returned (.agg #[.int .i64 (decP x).k,.int .i64 (decP x).o,.int .i64 (decP x).d,.int .i64 (decP x).p,.int .i64 (decP x).el,.int .i64 (decP x).c,.bool (decP x).db,.int .i64 (decP x).pa,.int .u32 (decP x).sg,.int .u32 (decP x).lo])∧Below w.heap.size w w':=by
 have c4:x % 4=0∨x % 4=1∨x % 4=2∨x % 4=3:=by omega
 have hm:x / 4294967296 % 4294967296=x / 4294967296:=by omega
 rcases c4 with c|c|c|c
 ·refine(RefDecode0 x w h5 h6 c).mono fun e w' ⟨he,hb⟩=>⟨he.trans ?_,hb⟩
  rw [s_2_30 x h5,f_32_16 x h5,f_48_16 x h5]
  simp [decP,c]
 ·refine(RefDecode1 x w h5 h6 c).mono fun e w' ⟨he,hb⟩=>⟨he.trans ?_,hb⟩
  rw [s_2_30 x h5,f_32_3 x h5,f_35_29 x h5]
  simp [decP,c]
 ·refine(RefDecode2 x w h5 h6 c).mono fun e w' ⟨he,hb⟩=>⟨he.trans ?_,hb⟩
  rw [f_2_1 x h5,f_3_29 x h5]
  simp [decP,c,hm]
 ·refine(RefDecode3 x w h5 h6 c).mono fun e w' ⟨he,hb⟩=>⟨he.trans ?_,hb⟩
  rw [f_2_30 x h5]
  simp [decP,c,hm]
def offB (n:Int):Bool:=decide (-536870912≤n∧n≤536870911)
theorem offset_any (n:Int)(w:World):Calls Tryz.prog 111 #[.int .i64 n] w fun e w'=>e=.returned (.bool (offB n))∧w=w':=by
 by_cases h1:-536870912≤n
 ·by_cases h2:n≤536870911
  ·have h3:offB n=true:=by simp [offB,h1,h2]
   have H3:=Lib.hid h3
   clear h3
   go_enter Tryz.func111,Tryz.ntmps111
   go_wp2
   go_ret
   exact⟨by rw [H3.out];rfl,rfl⟩
  ·have h3:offB n=false:=by simp [offB,h2]
   have H3:=Lib.hid h3
   clear h3
   go_enter Tryz.func111,Tryz.ntmps111
   go_wp2
   go_ret
   exact⟨by rw [H3.out];rfl,rfl⟩
 ·have h3:offB n=false:=by simp [offB,h1]
  have H3:=Lib.hid h3
  clear h3
  go_enter Tryz.func111,Tryz.ntmps111
  go_wp2
  go_ret
  exact⟨by rw [H3.out];rfl,rfl⟩
theorem ok0 (o d p el c pa sg lo:Int)(db:Bool)(s0:0≤sg)(s1:sg<4294967296)(l0:0≤lo):okE ⟨0,o,d,p,el,c,db,pa,sg,lo⟩=(peq 0 o d p 0 0 0 0 0 false 0 o d p el c pa sg lo db&&(offB o&&decide (0≤d)&&decide (d≤65535)&&decide (0≤p)&&decide (p≤65535))):=by
 rw [Bool.eq_iff_iff]
 cases db<;>simp [okE,Vld,peq,offB]<;>omega
set_option maxHeartbeats 1000000 in
theorem RefValid0 (o d p el c pa sg lo:Int)(db:Bool)(w:World)(s0:0≤sg)(s1:sg<4294967296)(l0:0≤lo):
  Calls Tryz.prog 96 #[.agg #[.int .i64 0,.int .i64 o,.int .i64 d,.int .i64 p,.int .i64 el,.int .i64 c,.bool db,.int .i64 pa,.int .u32 sg,.int .u32 lo]] w fun e w'=>e=.returned (.bool (okE ⟨0,o,d,p,el,c,db,pa,sg,lo⟩))∧Below w.heap.size w w':=by
 have heq:=fun w=>run_eql_ptr 0 o d p 0 0 0 0 0 false 0 o d p el c pa sg lo db w
 have hp:peq 0 o d p 0 0 0 0 0 false 0 o d p el c pa sg lo db=true∨peq 0 o d p 0 0 0 0 0 false 0 o d p el c pa sg lo db=false:=by cases peq 0 o d p 0 0 0 0 0 false 0 o d p el c pa sg lo db<;>simp
 rcases hp with hp|hp
 ·have h2:=of_decide_eq_true hp
  have H2:=Lib.hid h2
  clear h2
  go_enter Tryz.func96,Tryz.ntmps96
  go_wp2_with (go_at_call 111;refine(offset_any _ _).mono ?_;rintro e w' ⟨rfl,rfl⟩)
  all_goals
   go_ret
   refine⟨?_,((Below.refl _ _).alloc (Nat.le_refl _) _).alloc (by simp) _⟩
   rw [ok0 _ _ _ _ _ _ _ _ _ s0 s1 l0,hp]
   first|(simp [*];done)|(simp [*];omega)
 ·go_enter Tryz.func96,Tryz.ntmps96
  go_wp2_with (go_at_call 111;refine(offset_any _ _).mono ?_;rintro e w' ⟨rfl,rfl⟩)
  go_ret
  refine⟨?_,((Below.refl _ _).alloc (Nat.le_refl _) _).alloc (by simp) _⟩
  rw [ok0 _ _ _ _ _ _ _ _ _ s0 s1 l0,hp]
  rfl
theorem ok1 (o d p el c pa sg lo:Int)(db:Bool)(s0:0≤sg)(s1:sg<4294967296)(l0:0≤lo):okE ⟨1,o,d,p,el,c,db,pa,sg,lo⟩=(peq 1 o 0 0 el c 0 0 0 false 1 o d p el c pa sg lo db&&(offB o&&decide (0≤el)&&decide (el≤7)&&decide (0≤c)&&decide (c≤536870911))):=by
 rw [Bool.eq_iff_iff]
 cases db<;>simp [okE,Vld,peq,offB]<;>omega
set_option maxHeartbeats 1000000 in
theorem RefValid1 (o d p el c pa sg lo:Int)(db:Bool)(w:World)(s0:0≤sg)(s1:sg<4294967296)(l0:0≤lo):
  Calls Tryz.prog 96 #[.agg #[.int .i64 1,.int .i64 o,.int .i64 d,.int .i64 p,.int .i64 el,.int .i64 c,.bool db,.int .i64 pa,.int .u32 sg,.int .u32 lo]] w fun e w'=>e=.returned (.bool (okE ⟨1,o,d,p,el,c,db,pa,sg,lo⟩))∧Below w.heap.size w w':=by
 have heq:=fun w=>run_eql_ptr 1 o 0 0 el c 0 0 0 false 1 o d p el c pa sg lo db w
 have hp:peq 1 o 0 0 el c 0 0 0 false 1 o d p el c pa sg lo db=true∨peq 1 o 0 0 el c 0 0 0 false 1 o d p el c pa sg lo db=false:=by cases peq 1 o 0 0 el c 0 0 0 false 1 o d p el c pa sg lo db<;>simp
 rcases hp with hp|hp
 ·have h2:=of_decide_eq_true hp
  have H2:=Lib.hid h2
  clear h2
  go_enter Tryz.func96,Tryz.ntmps96
  go_wp2_with (go_at_call 111;refine(offset_any _ _).mono ?_;rintro e w' ⟨rfl,rfl⟩)
  all_goals
   go_ret
   refine⟨?_,((Below.refl _ _).alloc (Nat.le_refl _) _).alloc (by simp) _⟩
   rw [ok1 _ _ _ _ _ _ _ _ _ s0 s1 l0,hp]
   first|(simp [*];done)|(simp [*];omega)
 ·go_enter Tryz.func96,Tryz.ntmps96
  go_wp2_with (go_at_call 111;refine(offset_any _ _).mono ?_;rintro e w' ⟨rfl,rfl⟩)
  go_ret
  refine⟨?_,((Below.refl _ _).alloc (Nat.le_refl _) _).alloc (by simp) _⟩
  rw [ok1 _ _ _ _ _ _ _ _ _ s0 s1 l0,hp]
  rfl
theorem ok2 (o d p el c pa sg lo:Int)(db:Bool)(s0:0≤sg)(s1:sg<4294967296)(l0:0≤lo):okE ⟨2,o,d,p,el,c,db,pa,sg,lo⟩=(peq 2 0 0 0 0 0 pa sg 0 db 2 o d p el c pa sg lo db&&(decide (0≤pa)&&decide (pa≤536870911))):=by
 rw [Bool.eq_iff_iff]
 cases db<;>simp [okE,Vld,peq,offB]<;>omega
set_option maxHeartbeats 1000000 in
theorem RefValid2 (o d p el c pa sg lo:Int)(db:Bool)(w:World)(s0:0≤sg)(s1:sg<4294967296)(l0:0≤lo):
  Calls Tryz.prog 96 #[.agg #[.int .i64 2,.int .i64 o,.int .i64 d,.int .i64 p,.int .i64 el,.int .i64 c,.bool db,.int .i64 pa,.int .u32 sg,.int .u32 lo]] w fun e w'=>e=.returned (.bool (okE ⟨2,o,d,p,el,c,db,pa,sg,lo⟩))∧Below w.heap.size w w':=by
 have heq:=fun w=>run_eql_ptr 2 0 0 0 0 0 pa sg 0 db 2 o d p el c pa sg lo db w
 have hp:peq 2 0 0 0 0 0 pa sg 0 db 2 o d p el c pa sg lo db=true∨peq 2 0 0 0 0 0 pa sg 0 db 2 o d p el c pa sg lo db=false:=by cases peq 2 0 0 0 0 0 pa sg 0 db 2 o d p el c pa sg lo db<;>simp
 rcases hp with hp|hp
 ·have h2:=of_decide_eq_true hp
  have H2:=Lib.hid h2
  clear h2
  go_enter Tryz.func96,Tryz.ntmps96
  go_wp2_with (go_at_call 111;refine(offset_any _ _).mono ?_;rintro e w' ⟨rfl,rfl⟩)
  all_goals
   go_ret
   refine⟨?_,((Below.refl _ _).alloc (Nat.le_refl _) _).alloc (by simp) _⟩
   rw [ok2 _ _ _ _ _ _ _ _ _ s0 s1 l0,hp]
   first|(simp [*];done)|(simp [*];omega)
 ·go_enter Tryz.func96,Tryz.ntmps96
  go_wp2_with (go_at_call 111;refine(offset_any _ _).mono ?_;rintro e w' ⟨rfl,rfl⟩)
  go_ret
  refine⟨?_,((Below.refl _ _).alloc (Nat.le_refl _) _).alloc (by simp) _⟩
  rw [ok2 _ _ _ _ _ _ _ _ _ s0 s1 l0,hp]
  rfl
theorem ok3 (o d p el c pa sg lo:Int)(db:Bool)(s0:0≤sg)(s1:sg<4294967296)(l0:0≤lo):okE ⟨3,o,d,p,el,c,db,pa,sg,lo⟩=(peq 3 0 0 0 0 0 0 sg lo false 3 o d p el c pa sg lo db&&(decide (lo≤1073741823))):=by
 rw [Bool.eq_iff_iff]
 cases db<;>simp [okE,Vld,peq,offB]<;>omega
set_option maxHeartbeats 1000000 in
theorem RefValid3 (o d p el c pa sg lo:Int)(db:Bool)(w:World)(s0:0≤sg)(s1:sg<4294967296)(l0:0≤lo):
  Calls Tryz.prog 96 #[.agg #[.int .i64 3,.int .i64 o,.int .i64 d,.int .i64 p,.int .i64 el,.int .i64 c,.bool db,.int .i64 pa,.int .u32 sg,.int .u32 lo]] w fun e w'=>e=.returned (.bool (okE ⟨3,o,d,p,el,c,db,pa,sg,lo⟩))∧Below w.heap.size w w':=by
 have heq:=fun w=>run_eql_ptr 3 0 0 0 0 0 0 sg lo false 3 o d p el c pa sg lo db w
 have hp:peq 3 0 0 0 0 0 0 sg lo false 3 o d p el c pa sg lo db=true∨peq 3 0 0 0 0 0 0 sg lo false 3 o d p el c pa sg lo db=false:=by cases peq 3 0 0 0 0 0 0 sg lo false 3 o d p el c pa sg lo db<;>simp
 rcases hp with hp|hp
 ·have h2:=of_decide_eq_true hp
  have H2:=Lib.hid h2
  clear h2
  go_enter Tryz.func96,Tryz.ntmps96
  go_wp2_with (go_at_call 111;refine(offset_any _ _).mono ?_;rintro e w' ⟨rfl,rfl⟩)
  all_goals
   go_ret
   refine⟨?_,((Below.refl _ _).alloc (Nat.le_refl _) _).alloc (by simp) _⟩
   rw [ok3 _ _ _ _ _ _ _ _ _ s0 s1 l0,hp]
   first|(simp [*];done)|(simp [*];omega)
 ·go_enter Tryz.func96,Tryz.ntmps96
  go_wp2_with (go_at_call 111;refine(offset_any _ _).mono ?_;rintro e w' ⟨rfl,rfl⟩)
  go_ret
  refine⟨?_,((Below.refl _ _).alloc (Nat.le_refl _) _).alloc (by simp) _⟩
  rw [ok3 _ _ _ _ _ _ _ _ _ s0 s1 l0,hp]
  rfl
theorem okN (k o d p el c pa sg lo:Int)(db:Bool)(h:k<0∨3<k):okE ⟨k,o,d,p,el,c,db,pa,sg,lo⟩=false:=by
 unfold okE
 rw [decide_eq_false_iff_not]
 unfold Vld
 simp only
 omega
set_option maxHeartbeats 1000000 in
theorem RefValidN (k o d p el c pa sg lo:Int)(db:Bool)(w:World)(h:k<0∨3<k):
  Calls Tryz.prog 96 #[.agg #[.int .i64 k,.int .i64 o,.int .i64 d,.int .i64 p,.int .i64 el,.int .i64 c,.bool db,.int .i64 pa,.int .u32 sg,.int .u32 lo]] w fun e w'=>e=.returned (.bool (okE ⟨k,o,d,p,el,c,db,pa,sg,lo⟩))∧Below w.heap.size w w':=by
 have h0:(k==0)=false:=by rw [beq_eq_false_iff_ne];omega
 have h1:(k==1)=false:=by rw [beq_eq_false_iff_ne];omega
 have h2:(k==2)=false:=by rw [beq_eq_false_iff_ne];omega
 have h3:(k==3)=false:=by rw [beq_eq_false_iff_ne];omega
 have HN:=Lib.hid (okN k o d p el c pa sg lo db h)
 clear h
 go_enter Tryz.func96,Tryz.ntmps96
 go_wp2
 go_ret
 refine⟨?_,((Below.refl _ _).alloc (Nat.le_refl _) _).alloc (by simp) _⟩
 rw [HN.out]
 rfl
theorem RefValid_any (k o d p el c pa sg lo:Int)(db:Bool)(w:World)(s0:0≤sg)(s1:sg<4294967296)(l0:0≤lo):
  Calls Tryz.prog 96 #[.agg #[.int .i64 k,.int .i64 o,.int .i64 d,.int .i64 p,.int .i64 el,.int .i64 c,.bool db,.int .i64 pa,.int .u32 sg,.int .u32 lo]] w fun e w'=>e=.returned (.bool (okE ⟨k,o,d,p,el,c,db,pa,sg,lo⟩))∧Below w.heap.size w w':=by
 by_cases h:k<0∨3<k
 ·exact RefValidN k o d p el c pa sg lo db w h
 ·have c4:k=0∨k=1∨k=2∨k=3:=by omega
  rcases c4 with rfl|rfl|rfl|rfl
  ·exact RefValid0 o d p el c pa sg lo db w s0 s1 l0
  ·exact RefValid1 o d p el c pa sg lo db w s0 s1 l0
  ·exact RefValid2 o d p el c pa sg lo db w s0 s1 l0
  ·exact RefValid3 o d p el c pa sg lo db w s0 s1 l0
set_option maxHeartbeats 1000000 in
theorem RefEncode_no (k o d p el c pa sg lo:Int)(db:Bool)(w:World)(s0:0≤sg)(s1:sg<4294967296)(l0:0≤lo)(hv:okE ⟨k,o,d,p,el,c,db,pa,sg,lo⟩=false):
  Calls Tryz.prog 68 #[.agg #[.int .i64 k,.int .i64 o,.int .i64 d,.int .i64 p,.int .i64 el,.int .i64 c,.bool db,.int .i64 pa,.int .u32 sg,.int .u32 lo]] w fun e w'=>e=.returned (.tuple #[.int .u64 (encE ⟨k,o,d,p,el,c,db,pa,sg,lo⟩),.bool (okE ⟨k,o,d,p,el,c,db,pa,sg,lo⟩)])∧Below w.heap.size w w':=by
 have HV:=Lib.hid hv
 clear hv
 go_enter Tryz.func68,Tryz.ntmps68
 go_wp2_with fail
 refine(RefValid_any k o d p el c pa sg lo db _ s0 s1 l0).mono ?_
 rintro e w1 ⟨rfl,hb⟩
 rw [HV.out]
 have HB:=Lib.hid hb
 clear hb
 go_wp2
 go_ret2
 exact⟨by rw [encE,HV.out];rfl,bel_on ((Below.refl _ _).alloc (Nat.le_refl _) _) HB.out⟩
set_option maxHeartbeats 1000000 in
theorem RefEncode0 (o d p el c pa sg lo:Int)(db:Bool)(w:World)(s0:0≤sg)(s1:sg<4294967296)(l0:0≤lo)(hv:Vld ⟨0,o,d,p,el,c,db,pa,sg,lo⟩)(hn:0≤o):
  Calls Tryz.prog 68 #[.agg #[.int .i64 0,.int .i64 o,.int .i64 d,.int .i64 p,.int .i64 el,.int .i64 c,.bool db,.int .i64 pa,.int .u32 sg,.int .u32 lo]] w fun e w'=>e=.returned (.tuple #[.int .u64 (encE ⟨0,o,d,p,el,c,db,pa,sg,lo⟩),.bool (okE ⟨0,o,d,p,el,c,db,pa,sg,lo⟩)])∧Below w.heap.size w w':=by
 have hw:=hv
 unfold Vld at hw
 simp at hw
 have b1:-536870912≤o∧o≤536870911:=by omega
 have b2:0≤d∧d≤65535:=by omega
 have b3:0≤p∧p≤65535:=by omega
 have b4:0≤el∧el≤7:=by omega
 have b5:0≤c∧c≤536870911:=by omega
 have b6:0≤pa∧pa≤536870911:=by omega
 have b7:lo≤1073741823:=by omega
 clear hw
 have hk:okE ⟨0,o,d,p,el,c,db,pa,sg,lo⟩=true:=by simp [okE,hv]
 have HV:=Lib.hid hk
 clear hk hv
 go_enter Tryz.func68,Tryz.ntmps68
 go_wp2_with fail
 refine(RefValid_any _ _ _ _ _ _ _ _ _ _ _ s0 s1 l0).mono ?_
 rintro e w1 ⟨rfl,hb⟩
 rw [HV.out]
 obtain⟨hc,hf⟩:=bcell hb
 have hz:w.heap.size<w1.heap.size:=by have:=hb.size;simp at this;omega
 have HB:=Lib.hid hb
 clear hb
 simp at hc hf
 go_wp2
 go_ret2
 refine⟨?_,bel_on ((Below.refl _ _).alloc (Nat.le_refl _) _) HB.out⟩
 rw [encE,HV.out]
 simp [encW]
 omega
set_option maxHeartbeats 1000000 in
theorem RefEncode0n (o d p el c pa sg lo:Int)(db:Bool)(w:World)(s0:0≤sg)(s1:sg<4294967296)(l0:0≤lo)(hv:Vld ⟨0,o,d,p,el,c,db,pa,sg,lo⟩)(hn:o<0):
  Calls Tryz.prog 68 #[.agg #[.int .i64 0,.int .i64 o,.int .i64 d,.int .i64 p,.int .i64 el,.int .i64 c,.bool db,.int .i64 pa,.int .u32 sg,.int .u32 lo]] w fun e w'=>e=.returned (.tuple #[.int .u64 (encE ⟨0,o,d,p,el,c,db,pa,sg,lo⟩),.bool (okE ⟨0,o,d,p,el,c,db,pa,sg,lo⟩)])∧Below w.heap.size w w':=by
 have hw:=hv
 unfold Vld at hw
 simp at hw
 have b1:-536870912≤o∧o≤536870911:=by omega
 have b2:0≤d∧d≤65535:=by omega
 have b3:0≤p∧p≤65535:=by omega
 have b4:0≤el∧el≤7:=by omega
 have b5:0≤c∧c≤536870911:=by omega
 have b6:0≤pa∧pa≤536870911:=by omega
 have b7:lo≤1073741823:=by omega
 clear hw
 have hk:okE ⟨0,o,d,p,el,c,db,pa,sg,lo⟩=true:=by simp [okE,hv]
 have HV:=Lib.hid hk
 clear hk hv
 go_enter Tryz.func68,Tryz.ntmps68
 go_wp2_with fail
 refine(RefValid_any _ _ _ _ _ _ _ _ _ _ _ s0 s1 l0).mono ?_
 rintro e w1 ⟨rfl,hb⟩
 rw [HV.out]
 obtain⟨hc,hf⟩:=bcell hb
 have hz:w.heap.size<w1.heap.size:=by have:=hb.size;simp at this;omega
 have HB:=Lib.hid hb
 clear hb
 simp at hc hf
 go_wp2
 go_ret2
 refine⟨?_,bel_on ((Below.refl _ _).alloc (Nat.le_refl _) _) HB.out⟩
 rw [encE,HV.out]
 simp [encW]
 omega
set_option maxHeartbeats 1000000 in
theorem RefEncode1 (o d p el c pa sg lo:Int)(db:Bool)(w:World)(s0:0≤sg)(s1:sg<4294967296)(l0:0≤lo)(hv:Vld ⟨1,o,d,p,el,c,db,pa,sg,lo⟩)(hn:0≤o):
  Calls Tryz.prog 68 #[.agg #[.int .i64 1,.int .i64 o,.int .i64 d,.int .i64 p,.int .i64 el,.int .i64 c,.bool db,.int .i64 pa,.int .u32 sg,.int .u32 lo]] w fun e w'=>e=.returned (.tuple #[.int .u64 (encE ⟨1,o,d,p,el,c,db,pa,sg,lo⟩),.bool (okE ⟨1,o,d,p,el,c,db,pa,sg,lo⟩)])∧Below w.heap.size w w':=by
 have hw:=hv
 unfold Vld at hw
 simp at hw
 have b1:-536870912≤o∧o≤536870911:=by omega
 have b2:0≤d∧d≤65535:=by omega
 have b3:0≤p∧p≤65535:=by omega
 have b4:0≤el∧el≤7:=by omega
 have b5:0≤c∧c≤536870911:=by omega
 have b6:0≤pa∧pa≤536870911:=by omega
 have b7:lo≤1073741823:=by omega
 clear hw
 have hk:okE ⟨1,o,d,p,el,c,db,pa,sg,lo⟩=true:=by simp [okE,hv]
 have HV:=Lib.hid hk
 clear hk hv
 go_enter Tryz.func68,Tryz.ntmps68
 go_wp2_with fail
 refine(RefValid_any _ _ _ _ _ _ _ _ _ _ _ s0 s1 l0).mono ?_
 rintro e w1 ⟨rfl,hb⟩
 rw [HV.out]
 obtain⟨hc,hf⟩:=bcell hb
 have hz:w.heap.size<w1.heap.size:=by have:=hb.size;simp at this;omega
 have HB:=Lib.hid hb
 clear hb
 simp at hc hf
 go_wp2
 go_ret2
 refine⟨?_,bel_on ((Below.refl _ _).alloc (Nat.le_refl _) _) HB.out⟩
 rw [encE,HV.out]
 simp [encW]
 omega
set_option maxHeartbeats 1000000 in
theorem RefEncode1n (o d p el c pa sg lo:Int)(db:Bool)(w:World)(s0:0≤sg)(s1:sg<4294967296)(l0:0≤lo)(hv:Vld ⟨1,o,d,p,el,c,db,pa,sg,lo⟩)(hn:o<0):
  Calls Tryz.prog 68 #[.agg #[.int .i64 1,.int .i64 o,.int .i64 d,.int .i64 p,.int .i64 el,.int .i64 c,.bool db,.int .i64 pa,.int .u32 sg,.int .u32 lo]] w fun e w'=>e=.returned (.tuple #[.int .u64 (encE ⟨1,o,d,p,el,c,db,pa,sg,lo⟩),.bool (okE ⟨1,o,d,p,el,c,db,pa,sg,lo⟩)])∧Below w.heap.size w w':=by
 have hw:=hv
 unfold Vld at hw
 simp at hw
 have b1:-536870912≤o∧o≤536870911:=by omega
 have b2:0≤d∧d≤65535:=by omega
 have b3:0≤p∧p≤65535:=by omega
 have b4:0≤el∧el≤7:=by omega
 have b5:0≤c∧c≤536870911:=by omega
 have b6:0≤pa∧pa≤536870911:=by omega
 have b7:lo≤1073741823:=by omega
 clear hw
 have hk:okE ⟨1,o,d,p,el,c,db,pa,sg,lo⟩=true:=by simp [okE,hv]
 have HV:=Lib.hid hk
 clear hk hv
 go_enter Tryz.func68,Tryz.ntmps68
 go_wp2_with fail
 refine(RefValid_any _ _ _ _ _ _ _ _ _ _ _ s0 s1 l0).mono ?_
 rintro e w1 ⟨rfl,hb⟩
 rw [HV.out]
 obtain⟨hc,hf⟩:=bcell hb
 have hz:w.heap.size<w1.heap.size:=by have:=hb.size;simp at this;omega
 have HB:=Lib.hid hb
 clear hb
 simp at hc hf
 go_wp2
 go_ret2
 refine⟨?_,bel_on ((Below.refl _ _).alloc (Nat.le_refl _) _) HB.out⟩
 rw [encE,HV.out]
 simp [encW]
 omega
set_option maxHeartbeats 1000000 in
theorem RefEncode2_true (o d p el c pa sg lo:Int)(w:World)(s0:0≤sg)(s1:sg<4294967296)(l0:0≤lo)(hv:Vld ⟨2,o,d,p,el,c,true,pa,sg,lo⟩):
  Calls Tryz.prog 68 #[.agg #[.int .i64 2,.int .i64 o,.int .i64 d,.int .i64 p,.int .i64 el,.int .i64 c,.bool true,.int .i64 pa,.int .u32 sg,.int .u32 lo]] w fun e w'=>e=.returned (.tuple #[.int .u64 (encE ⟨2,o,d,p,el,c,true,pa,sg,lo⟩),.bool (okE ⟨2,o,d,p,el,c,true,pa,sg,lo⟩)])∧Below w.heap.size w w':=by
 have hw:=hv
 unfold Vld at hw
 simp at hw
 have b1:-536870912≤o∧o≤536870911:=by omega
 have b2:0≤d∧d≤65535:=by omega
 have b3:0≤p∧p≤65535:=by omega
 have b4:0≤el∧el≤7:=by omega
 have b5:0≤c∧c≤536870911:=by omega
 have b6:0≤pa∧pa≤536870911:=by omega
 have b7:lo≤1073741823:=by omega
 have b8:0≤o:=by omega
 clear hw
 have hk:okE ⟨2,o,d,p,el,c,true,pa,sg,lo⟩=true:=by simp [okE,hv]
 have HV:=Lib.hid hk
 clear hk hv
 go_enter Tryz.func68,Tryz.ntmps68
 go_wp2_with fail
 refine(RefValid_any _ _ _ _ _ _ _ _ _ _ _ s0 s1 l0).mono ?_
 rintro e w1 ⟨rfl,hb⟩
 rw [HV.out]
 obtain⟨hc,hf⟩:=bcell hb
 have hz:w.heap.size<w1.heap.size:=by have:=hb.size;simp at this;omega
 have HB:=Lib.hid hb
 clear hb
 simp at hc hf
 go_wp2
 go_ret2
 refine⟨?_,bel_on ((Below.refl _ _).alloc (Nat.le_refl _) _) HB.out⟩
 rw [encE,HV.out]
 simp [encW]
 omega
set_option maxHeartbeats 1000000 in
theorem RefEncode2_false (o d p el c pa sg lo:Int)(w:World)(s0:0≤sg)(s1:sg<4294967296)(l0:0≤lo)(hv:Vld ⟨2,o,d,p,el,c,false,pa,sg,lo⟩):
  Calls Tryz.prog 68 #[.agg #[.int .i64 2,.int .i64 o,.int .i64 d,.int .i64 p,.int .i64 el,.int .i64 c,.bool false,.int .i64 pa,.int .u32 sg,.int .u32 lo]] w fun e w'=>e=.returned (.tuple #[.int .u64 (encE ⟨2,o,d,p,el,c,false,pa,sg,lo⟩),.bool (okE ⟨2,o,d,p,el,c,false,pa,sg,lo⟩)])∧Below w.heap.size w w':=by
 have hw:=hv
 unfold Vld at hw
 simp at hw
 have b1:-536870912≤o∧o≤536870911:=by omega
 have b2:0≤d∧d≤65535:=by omega
 have b3:0≤p∧p≤65535:=by omega
 have b4:0≤el∧el≤7:=by omega
 have b5:0≤c∧c≤536870911:=by omega
 have b6:0≤pa∧pa≤536870911:=by omega
 have b7:lo≤1073741823:=by omega
 have b8:0≤o:=by omega
 clear hw
 have hk:okE ⟨2,o,d,p,el,c,false,pa,sg,lo⟩=true:=by simp [okE,hv]
 have HV:=Lib.hid hk
 clear hk hv
 go_enter Tryz.func68,Tryz.ntmps68
 go_wp2_with fail
 refine(RefValid_any _ _ _ _ _ _ _ _ _ _ _ s0 s1 l0).mono ?_
 rintro e w1 ⟨rfl,hb⟩
 rw [HV.out]
 obtain⟨hc,hf⟩:=bcell hb
 have hz:w.heap.size<w1.heap.size:=by have:=hb.size;simp at this;omega
 have HB:=Lib.hid hb
 clear hb
 simp at hc hf
 go_wp2
 go_ret2
 refine⟨?_,bel_on ((Below.refl _ _).alloc (Nat.le_refl _) _) HB.out⟩
 rw [encE,HV.out]
 simp [encW]
 omega
set_option maxHeartbeats 1000000 in
theorem RefEncode3 (o d p el c pa sg lo:Int)(db:Bool)(w:World)(s0:0≤sg)(s1:sg<4294967296)(l0:0≤lo)(hv:Vld ⟨3,o,d,p,el,c,db,pa,sg,lo⟩):
  Calls Tryz.prog 68 #[.agg #[.int .i64 3,.int .i64 o,.int .i64 d,.int .i64 p,.int .i64 el,.int .i64 c,.bool db,.int .i64 pa,.int .u32 sg,.int .u32 lo]] w fun e w'=>e=.returned (.tuple #[.int .u64 (encE ⟨3,o,d,p,el,c,db,pa,sg,lo⟩),.bool (okE ⟨3,o,d,p,el,c,db,pa,sg,lo⟩)])∧Below w.heap.size w w':=by
 have hw:=hv
 unfold Vld at hw
 simp at hw
 have b1:-536870912≤o∧o≤536870911:=by omega
 have b2:0≤d∧d≤65535:=by omega
 have b3:0≤p∧p≤65535:=by omega
 have b4:0≤el∧el≤7:=by omega
 have b5:0≤c∧c≤536870911:=by omega
 have b6:0≤pa∧pa≤536870911:=by omega
 have b7:lo≤1073741823:=by omega
 have b8:0≤o:=by omega
 clear hw
 have hk:okE ⟨3,o,d,p,el,c,db,pa,sg,lo⟩=true:=by simp [okE,hv]
 have HV:=Lib.hid hk
 clear hk hv
 go_enter Tryz.func68,Tryz.ntmps68
 go_wp2_with fail
 refine(RefValid_any _ _ _ _ _ _ _ _ _ _ _ s0 s1 l0).mono ?_
 rintro e w1 ⟨rfl,hb⟩
 rw [HV.out]
 obtain⟨hc,hf⟩:=bcell hb
 have hz:w.heap.size<w1.heap.size:=by have:=hb.size;simp at this;omega
 have HB:=Lib.hid hb
 clear hb
 simp at hc hf
 go_wp2
 go_ret2
 refine⟨?_,bel_on ((Below.refl _ _).alloc (Nat.le_refl _) _) HB.out⟩
 rw [encE,HV.out]
 simp [encW]
 omega
theorem RefEncode_any (k o d p el c pa sg lo:Int)(db:Bool)(w:World)(s0:0≤sg)(s1:sg<4294967296)(l0:0≤lo):
  Calls Tryz.prog 68 #[.agg #[.int .i64 k,.int .i64 o,.int .i64 d,.int .i64 p,.int .i64 el,.int .i64 c,.bool db,.int .i64 pa,.int .u32 sg,.int .u32 lo]] w fun e w'=>e=.returned (.tuple #[.int .u64 (encE ⟨k,o,d,p,el,c,db,pa,sg,lo⟩),.bool (okE ⟨k,o,d,p,el,c,db,pa,sg,lo⟩)])∧Below w.heap.size w w':=by
 by_cases hv:Vld ⟨k,o,d,p,el,c,db,pa,sg,lo⟩
 ·have hk:0≤k∧k≤3:=by have h:=hv;unfold Vld at h;simp at h;omega
  have c4:k=0∨k=1∨k=2∨k=3:=by omega
  rcases c4 with rfl|rfl|rfl|rfl
  ·by_cases hn:0≤o
   ·exact RefEncode0 o d p el c pa sg lo db w s0 s1 l0 hv hn
   ·exact RefEncode0n o d p el c pa sg lo db w s0 s1 l0 hv (by omega)
  ·by_cases hn:0≤o
   ·exact RefEncode1 o d p el c pa sg lo db w s0 s1 l0 hv hn
   ·exact RefEncode1n o d p el c pa sg lo db w s0 s1 l0 hv (by omega)
  ·cases db
   ·exact RefEncode2_false o d p el c pa sg lo w s0 s1 l0 hv
   ·exact RefEncode2_true o d p el c pa sg lo w s0 s1 l0 hv
  ·exact RefEncode3 o d p el c pa sg lo db w s0 s1 l0 hv
 ·exact RefEncode_no k o d p el c pa sg lo db w s0 s1 l0 (by simp [okE,hv])
end Go.Proofs.YtfaflahfjgnphaaGreatDoor
