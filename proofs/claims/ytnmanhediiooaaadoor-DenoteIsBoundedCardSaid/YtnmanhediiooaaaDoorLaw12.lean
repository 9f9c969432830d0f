/- A law of layer 12: DenoteMatchesReference. -/
import Derived.Test.YtnmanhediiooaaaDoorAwake12
namespace Go.Proofs.YtnmanhediiooaaaDoor
open Go.ChangeShapes Go.WideShapes Go.ChangeAt Go.RowKit
set_option linter.unusedVariables false
set_option linter.unusedSimpArgs false
set_option maxRecDepth 100000

/-- are message and limits small? -/
def smallB (ls : List (List Int)) (D X : Int) : Bool := decide (D ≤ 40) && (decide (X ≤ 2000) && fewB ls)
theorem RefSmall_any (A : Option Addr) (c : Nat) (ls : List (List Int)) (D X O : Int) (w : World) (hs : Sg w A ls) (hlm : ls.length ≤ 9223372036854775807) :
    Calls Tryd.prog 8 #[.slice A ls.length c, .agg #[.int .i64 D, .int .i64 X, .int .i64 O]] w fun e w' => e = .returned (.bool (smallB ls D X)) ∧ Below w.heap.size w w' := by
  have Hs := Lib.hid hs
  clear hs
  by_cases h1 : D ≤ 40
  · by_cases h2 : X ≤ 2000
    · have HR : Hid (smallB ls D X = fewB ls) := Lib.hid (by unfold smallB; simp [h1, h2])
      generalize smallB ls D X = v at *
      have HF := Lib.hid (fun w2 hs2 => Few_any A c ls w2 hs2 hlm)
      generalize fewB ls = fb at *
      have t1 : decide (D ≤ 40) = true := decide_eq_true h1
      have t2 : decide (X ≤ 2000) = true := decide_eq_true h2
      clear h1 h2
      go_enter Tryd.func8, Tryd.ntmps8
      go_wp2_with fail
      refine (HF.out _ (Hs.out.alloc _)).mono ?_
      rintro e w' ⟨rfl, rfl⟩
      go_wp2
      go_ret
      exact ⟨by rw [HR.out]; rfl, (Below.refl _ _).alloc (Nat.le_refl _) _⟩
    · have HR : Hid (smallB ls D X = false) := Lib.hid (by unfold smallB; simp [h1, h2])
      generalize smallB ls D X = v at *
      have t1 : decide (D ≤ 40) = true := decide_eq_true h1
      go_enter Tryd.func8, Tryd.ntmps8
      go_wp2
      go_ret
      exact ⟨by rw [HR.out]; rfl, (Below.refl _ _).alloc (Nat.le_refl _) _⟩
  · have HR : Hid (smallB ls D X = false) := Lib.hid (by unfold smallB; simp [h1])
    generalize smallB ls D X = v at *
    go_enter Tryd.func8, Tryd.ntmps8
    go_wp2
    go_ret
    exact ⟨by rw [HR.out]; rfl, (Below.refl _ _).alloc (Nat.le_refl _) _⟩
theorem small_fits {ls : List (List Int)} {D X : Int} (h : smallB ls D X = true) : D ≤ 40 ∧ X ≤ 2000 ∧ ls.length ≤ 20 ∧ ∀ j, (seg ls j).length ≤ 300 := by
  unfold smallB at h
  simp only [Bool.and_eq_true, decide_eq_true_eq] at h
  have := few_fits h.2.2
  exact ⟨h.1, h.2.1, this.2, this.1⟩

attribute [local irreducible] msgV measV smallB fewB
end Go.Proofs.YtnmanhediiooaaaDoor
