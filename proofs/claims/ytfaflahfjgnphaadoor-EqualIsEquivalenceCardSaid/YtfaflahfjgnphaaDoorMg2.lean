/- The texts Word (what is wanted of them), one after the other. -/
import Derived.Test.YtfaflahfjgnphaaDoorMg1
import Derived.Test.YtfaflahfjgnphaaDoorRows
import Derived.ProofKit
import Derived.OpenShut
import Derived.Deep.DeepFit
import Derived.RegionTactic
import Derived.Deep.QuietTactic
import Derived.BigQuiet
namespace Go.Proofs.YtfaflahfjgnphaaDoor
open Go.ChangeShapes Go.WideShapes Go.ChangeAt Go.RowKit
set_option linter.unusedVariables false
set_option linter.unusedSimpArgs false
set_option maxRecDepth 100000
theorem lowBits_any (n:Int)(w:World)(h1:1≤n)(h2:n≤64):
  Calls Tryd.prog 66 #[.int .i64 n] w fun e w'=>e=.returned (.int .u64 (18446744073709551615 / 2 ^ (64-n).toNat))∧w=w':=by
 go_enter Tryd.func66,Tryd.ntmps66
 go_wp2
 go_ret
 exact⟨rfl,rfl⟩
theorem Field_any (x a n:Int)(w:World)(h1:1≤n)(h2:0≤a)(h3:a+n≤64)(h5:0≤x)(h6:x<18446744073709551616):
  Calls Tryd.prog 53 #[.int .u64 x,.int .i64 a,.int .i64 n] w fun e w'=>e=.returned (.int .u64 (fld x a n))∧w=w':=by
 have HF:=Lib.hid (fld_go x a n (by omega) (by omega) h5 h6)
 go_enter Tryd.func53,Tryd.ntmps53
 go_wp2_with (go_at_call 66;refine(lowBits_any _ _ (by omega) (by omega)).mono ?_;rintro e w' ⟨rfl,rfl⟩)
 go_ret
 exact⟨congrArg (fun z=>Ending.returned (.int .u64 z)) HF.out,rfl⟩
theorem Signed_any (x a n:Int)(w:World)(h1:1≤n)(h2:0≤a)(h3:a+n≤64)(h5:0≤x)(h6:x<18446744073709551616):
  Calls Tryd.prog 85 #[.int .u64 x,.int .i64 a,.int .i64 n] w fun e w'=>e=.returned (.int .i64 (sgn x a n))∧w=w':=by
 have hb:=fld_bd x a n (by omega)
 have HF:=Lib.hid (sgn_go x a n h1 (by omega))
 go_enter Tryd.func85,Tryd.ntmps85
 go_wp2_with (go_at_call 53;refine(Field_any _ _ _ _ h1 h2 h3 h5 h6).mono ?_;rintro e w' ⟨rfl,rfl⟩)
 go_ret
 exact⟨congrArg (fun z=>Ending.returned (.int .i64 z)) HF.out,rfl⟩
theorem int64_info:(Tryd.prog.info? 32).map (fun i=>(i.zero,i.size,i.bytes))=some (some (.int .u64 0),1,8):=by kernel_rfl
end Go.Proofs.YtfaflahfjgnphaaDoor
