/- The word of a far pointer as a number. -/
import Derived.Test.YtljkdhdkbolnjaaDoorRef07
namespace Go.Proofs.YtljkdhdkbolnjaaDoor
set_option linter.unusedVariables false
set_option linter.unusedSimpArgs false

def farW (db : Bool) (pa sg : Int) : Int := 2 + (if db then 4 else 0) + 8 * pa + 4294967296 * sg
theorem encE_far (db : Bool) (pa sg : Int) (h1 : 0 ≤ pa) (h2 : pa < 536870912) (h3 : 0 ≤ sg) (h4 : sg < 4294967296) : encE ⟨2, 0, 0, 0, 0, 0, db, pa, sg, 0⟩ = farW db pa sg := by
  have hv : Vld ⟨2, 0, 0, 0, 0, 0, db, pa, sg, 0⟩ := .inr (.inr (.inl ⟨rfl, rfl, rfl, rfl, rfl, rfl, h1, by show pa ≤ 536870911; omega, h3, by show sg ≤ 4294967295; omega, rfl⟩))
  unfold encE okE
  rw [if_pos (decide_eq_true hv)]
  unfold encW farW
  simp only [show (2 : Int) ≠ 0 by decide, show (2 : Int) ≠ 1 by decide, if_false, if_true]
  rw [Int.emod_eq_of_lt h1 h2, Int.emod_eq_of_lt h3 h4]


theorem farW_bd (db : Bool) (pa sg : Int) (h1 : 0 ≤ pa) (h2 : pa < 536870912) (h3 : 0 ≤ sg) (h4 : sg < 4294967296) : 0 ≤ farW db pa sg ∧ farW db pa sg < 18446744073709551616 := by
  unfold farW
  split <;> omega
theorem decP_encE {q : Ptr} (h : Vld q) : decP (encE q) = q := by
  unfold encE okE
  rw [if_pos (decide_eq_true h)]
  exact decP_encW q h
theorem encE_bd (q : Ptr) : 0 ≤ encE q ∧ encE q < 18446744073709551616 := by
  unfold encE
  split
  · exact encW_bd q
  · omega
theorem decP_k (x : Int) (h5 : 0 ≤ x) : (decP x).k = x % 4 := by
  unfold decP
  by_cases c0 : x % 4 = 0
  · rw [if_pos c0, c0]
  · by_cases c1 : x % 4 = 1
    · rw [if_neg c0, if_pos c1, c1]
    · by_cases c2 : x % 4 = 2
      · rw [if_neg c0, if_neg c1, if_pos c2, c2]
      · rw [if_neg c0, if_neg c1, if_neg c2]; show 3 = x % 4; omega
end Go.Proofs.YtljkdhdkbolnjaaDoor
