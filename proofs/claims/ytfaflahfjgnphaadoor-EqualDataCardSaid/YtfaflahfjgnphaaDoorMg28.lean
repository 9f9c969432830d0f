/- The texts DenF (what is wanted of them), one after the other. -/
import Derived.Test.YtfaflahfjgnphaaDoorMg20
import Derived.WalkSpells
import Derived.Lib.SliceRun
import Derived.Laws.EntriesVeiled
namespace Go.Proofs.YtfaflahfjgnphaaDoor
open Go.ChangeShapes Go.WideShapes Go.ChangeAt Go.RowKit
set_option linter.unusedVariables false
set_option linter.unusedSimpArgs false
set_option maxRecDepth 100000
section
attribute [local simp] AllK KnowsV look Is
theorem contK_m {ls:List (List Int)}(hw:Wd2 ls)(hm:ls.length≤40)(hf:∀j,(seg ls j).length≤20000000)(r:Nat)(m:Int)(o:Ob)(h:0≤m):0≤(contK (valV ls r) ls m o).m∧(contK (valV ls r) ls m o).m≤m:=by
 have h1:0≤(kidR (valV ls r) o m).m∧(kidR (valV ls r) o m).m≤m:=runK_ind (fun z=>0≤z∧z≤m) ⟨h,Int.le_refl _⟩ _ (fun m' i _ hm'=>by
  have:=valV_m hw hm hf r m' o.sg ((ptrO o).1+i) hm'.1
  exact⟨this.1,Int.le_trans this.2 hm'.2⟩)
 unfold contK
 split
 ·exact h1
 ·exact h1
end
end Go.Proofs.YtfaflahfjgnphaaDoor
