/- The texts PtrRun, PtrFns (what is wanted of them), one after the other. -/
import Derived.Test.YtfaflahfjgnphaaDoorMg11
import Derived.Test.YtfaflahfjgnphaaDoorMg12
namespace Go.Proofs.YtfaflahfjgnphaaDoor
open Go.ChangeShapes Go.WideShapes Go.ChangeAt Go.RowKit
set_option linter.unusedVariables false
set_option linter.unusedSimpArgs false
set_option maxRecDepth 100000
section
attribute [local simp] AllK KnowsV look Is
theorem run_dec (x:Int)(w:World)(h5:0≤x)(h6:x<18446744073709551616):
  Calls Tryd.prog 55 #[.agg #[.int .u64 x,.int .i64 0,.int .i64 0,.int .i64 0,.int .i64 0,.int .i64 0,.int .i64 0,.bool false,.int .i64 0,.int .u32 0,.int .u32 0,.bool false]] w fun e w'=>e=.returned (.tuple #[.agg #[.int .u64 x,.int .i64 (decP x).k,.int .i64 (decP x).o,.int .i64 (decP x).d,.int .i64 (decP x).p,.int .i64 (decP x).el,.int .i64 (decP x).c,.bool (decP x).db,.int .i64 (decP x).pa,.int .u32 (decP x).sg,.int .u32 (decP x).lo,.bool false],.bool true])∧Below w.heap.size w w':=by
 have c4:x % 4=0∨x % 4=1∨x % 4=2∨x % 4=3:=by omega
 rcases c4 with c|c|c|c
 ·refine(run_dec0 x w h5 h6 c).mono fun e w' ⟨he,hb⟩=>⟨he.trans ?_,hb⟩
  rw [s_2_30 x h5,f_32_16 x h5,f_48_16 x h5]
  simp [decP,c]
 ·refine(run_dec1 x w h5 h6 c).mono fun e w' ⟨he,hb⟩=>⟨he.trans ?_,hb⟩
  rw [s_2_30 x h5,f_32_3 x h5,f_35_29 x h5]
  simp [decP,c]
 ·refine(run_dec2 x w h5 h6 c).mono fun e w' ⟨he,hb⟩=>⟨he.trans ?_,hb⟩
  rw [f_2_1 x h5,f_3_29 x h5,f_32_32 x h5]
  simp [decP,c]
 ·refine(run_dec3 x w h5 h6 c).mono fun e w' ⟨he,hb⟩=>⟨he.trans ?_,hb⟩
  rw [f_2_30 x h5,f_32_32 x h5]
  simp [decP,c]
end
section
set_option maxHeartbeats 1000000 in
theorem Decode_any (x:Int)(w:World)(h5:0≤x)(h6:x<18446744073709551616):
  Calls Tryd.prog 44 #[.int .u64 x] w fun e w'=>e=.returned (.agg #[.int .i64 (decP x).k,.int .i64 (decP x).o,.int .i64 (decP x).d,.int .i64 (decP x).p,.int .i64 (decP x).el,.int .i64 (decP x).c,.bool (decP x).db,.int .i64 (decP x).pa,.int .u32 (decP x).sg,.int .u32 (decP x).lo])∧Below w.heap.size w w':=by
 go_enter Tryd.func44,Tryd.ntmps44
 go_wp2_with fail
 refine(run_dec x _ h5 h6).mono ?_
 rintro e w1 ⟨rfl,hb⟩
 obtain⟨hc,hf⟩:=bcell hb
 have hz:w.heap.size<w1.heap.size:=by have:=hb.size;simp at this;omega
 have HB:=Lib.hid hb
 clear hb
 simp at hc hf
 go_wp2
 refine bodyPost_ret (v:=.agg #[.int .i64 (decP x).k,.int .i64 (decP x).o,.int .i64 (decP x).d,.int .i64 (decP x).p,.int .i64 (decP x).el,.int .i64 (decP x).c,.bool (decP x).db,.int .i64 (decP x).pa,.int .u32 (decP x).sg,.int .u32 (decP x).lo]) (by simp [results,Tryd.results44,go_sem,hc,hz]) rfl ⟨rfl,?_⟩
 repeat (first|with_reducible refine Below.alloc ?_ (by first|omega|(simp;omega)) _|with_reducible refine Below.setCell ?_ (by simp) _)
 exact bel_on ((Below.refl _ _).alloc (Nat.le_refl _) _) HB.out
theorem IsCapability_any (k o d p el c pa sg lo:Int)(db:Bool)(w:World):
  Calls Tryd.prog 62 #[.agg #[.int .i64 k,.int .i64 o,.int .i64 d,.int .i64 p,.int .i64 el,.int .i64 c,.bool db,.int .i64 pa,.int .u32 sg,.int .u32 lo]] w fun e w'=>e=.returned (.bool (k==3&&lo==0))∧Below w.heap.size w w':=by
 by_cases h:k=3
 ·subst h
  go_enter Tryd.func62,Tryd.ntmps62
  go_wp2
  go_ret
  exact⟨rfl,(Below.refl _ _).alloc (Nat.le_refl _) _⟩
 ·have h1:(k==3)=false:=by rw [beq_eq_false_iff_ne];exact h
  have HH:=Lib.hid h1
  clear h
  go_enter Tryd.func62,Tryd.ntmps62
  go_wp2
  go_ret
  exact⟨by rw [HH.out];rfl,(Below.refl _ _).alloc (Nat.le_refl _) _⟩
theorem IsNull_any (x:Int)(w:World):
  Calls Tryd.prog 43 #[.int .u64 x] w fun e w'=>e=.returned (.bool (x==0))∧w=w':=by
 go_enter Tryd.func43,Tryd.ntmps43
 go_wp2
 go_ret
 exact⟨rfl,rfl⟩
attribute [local simp] AllK KnowsV look Is
end
end Go.Proofs.YtfaflahfjgnphaaDoor
