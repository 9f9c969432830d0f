/- What the functions of package word do, each by a contract. -/
import Derived.Test.YtekcmifgdlmljaaRows
import Derived.Test.YtekcmifgdlmljaaMem
import Derived.WalkKit
import Derived.ProofKit
import Derived.OpenShut
import Derived.Deep.DeepFit
import Derived.RegionTactic
import Derived.Deep.QuietTactic
import Derived.BigQuiet
namespace Go.Proofs.Ytekcmifgdlmljaa
open Go.ChangeShapes Go.WideShapes Go.ChangeAt Go.RowKit
set_option linter.unusedVariables false

theorem lowBits_any (n : Int) (w : World) (h1 : 1 ≤ n) (h2 : n ≤ 64) :
    Calls Try.prog 18 #[.int .i64 n] w fun e w' => e = .returned (.int .u64 (18446744073709551615 / 2 ^ (64 - n).toNat)) ∧ w = w' := by
  go_enter Try.func18, Try.ntmps18
  go_wp2
  go_ret
  exact ⟨rfl, rfl⟩

theorem Field_any (x a n : Int) (w : World) (h1 : 1 ≤ n) (h2 : 0 ≤ a) (h3 : a + n ≤ 64) (h5 : 0 ≤ x) (h6 : x < 18446744073709551616) :
    Calls Try.prog 17 #[.int .u64 x, .int .i64 a, .int .i64 n] w fun e w' => e = .returned (.int .u64 (fld x a n)) ∧ w = w' := by
  have HF := Lib.hid (fld_go x a n (by omega) (by omega) h5 h6)
  go_enter Try.func17, Try.ntmps17
  go_wp2_with (go_at_call 18; refine (lowBits_any _ _ (by omega) (by omega)).mono ?_; rintro e w' ⟨rfl, rfl⟩)
  go_ret
  exact ⟨congrArg (fun z => Ending.returned (.int .u64 z)) HF.out, rfl⟩

/-- is there a word i of the bytes? -/
def hasW (b : List Int) (i : Int) : Bool := decide (0 ≤ i ∧ i < (b.length / 8 : Nat))
def getW (b : List Int) (i : Int) : Int := if hasW b i then wordAt b i.toNat else 0

theorem int8_info : (Try.prog.info? 5).map (fun i => (i.zero, i.size, i.bytes)) = some (some (.int .u8 0), 1, 1) := by kernel_rfl
theorem int64_info : (Try.prog.info? 22).map (fun i => (i.zero, i.size, i.bytes)) = some (some (.int .u64 0), 1, 8) := by kernel_rfl

end Go.Proofs.Ytekcmifgdlmljaa
