/- The fixed examples of layer 5: 'awake' is true. -/
import Derived.Test.YtklahnpimdgpiaaArena
import Derived.Test.YtklahnpimdgpiaaMsgLit
namespace Go.Proofs.Ytklahnpimdgpiaa
open Go.ChangeShapes Go.WideShapes Go.ChangeAt Go.RowKit
set_option linter.unusedVariables false
set_option linter.unusedSimpArgs false

def msg5 : List (List Int) := [[1, 2], [], [3]]
theorem fits_msg5 : Fits msg5 := by
  intro j
  match j with
  | 0 => decide
  | 1 => decide
  | 2 => decide
  | n + 3 => rw [seg_out (by simp [msg5])]; simp
theorem few_msg5 (j : Nat) : (seg msg5 j).length ≤ 300 := by
  match j with
  | 0 => decide
  | 1 => decide
  | 2 => decide
  | n + 3 => rw [seg_out (by simp [msg5])]; simp
theorem n_msg5 : msg5.length = 3 := rfl
theorem AIn_c (A : Option Addr) (s a n : Int) (x : Bool) (w : World) (hs : Sg w A msg5) (hs0 : -9223372036854775808 ≤ s) (hs1 : s ≤ 9223372036854775807) (ha0 : -9223372036854775808 ≤ a) (ha1 : a ≤ 9223372036854775807) (hn0 : -9223372036854775808 ≤ n) (hn1 : n ≤ 9223372036854775807) (hx : inB msg5 s a n = x) :
    Calls Try.prog 14 #[.slice A 3 3, .int .i64 s, .int .i64 a, .int .i64 n] w fun e w' => e = .returned (.bool x) ∧ w = w' := by
  have h := AIn_any A 3 msg5 s a n w hs (by decide) fits_msg5 hs0 hs1 ha0 ha1 hn0 hn1
  rw [hx] at h
  exact h
theorem AWord_c (A : Option Addr) (s a x : Int) (y : Bool) (w : World) (hs : Sg w A msg5) (hs0 : -9223372036854775808 ≤ s) (hs1 : s ≤ 9223372036854775807) (ha0 : -9223372036854775808 ≤ a) (ha1 : a ≤ 9223372036854775807) (hx : wordV msg5 s a = x) (hy : hasB msg5 s a = y) :
    Calls Try.prog 9 #[.slice A 3 3, .int .i64 s, .int .i64 a] w fun e w' => e = .returned (.tuple #[.int .u64 x, .bool y]) ∧ w = w' := by
  have h := AWord_any A 3 msg5 s a w hs (by decide) fits_msg5 hs0 hs1 ha0 ha1
  rw [hx, hy] at h
  exact h
theorem ASlice_c (A : Option Addr) (w : World) (hs : Sg w A msg5) :
    Calls Try.prog 11 #[.slice A 3 3, .int .i64 0, .int .i64 0, .int .i64 2] w fun e w' => ∃ A' c', e = .returned (.tuple #[.slice A' 2 c', .bool true]) ∧ Ri w' .u64 A' [1, 2] ∧ Below w.heap.size w w' := by
  have h := ASlice_any A 3 msg5 0 0 2 w hs (by decide) fits_msg5 (by decide) (by decide) (by decide) (by decide) (by decide) (by decide)
  rw [show inB msg5 0 0 2 = true by decide +kernel, show sliceX msg5 0 0 2 = [1, 2] by decide +kernel] at h
  refine h.mono ?_
  rintro e w' ⟨v, rfl, hg, hb⟩
  obtain ⟨A', c', rfl, _, _, hr⟩ := hg.slice
  exact ⟨A', c', rfl, hr, hb⟩
theorem ASize_c (A : Option Addr) (w : World) (hs : Sg w A msg5) : Calls Try.prog 16 #[.slice A 3 3] w fun e w' => e = .returned (.int .i64 3) ∧ w = w' :=
  ASize_any A 3 msg5 w hs (by decide) few_msg5

attribute [local irreducible] msg5

set_option maxRecDepth 100000 in
set_option maxHeartbeats 2000000 in
theorem awake_any (w : World) : Calls Try.prog 7 #[] w fun e w' => e = .returned (.bool true) ∧ Below w.heap.size w w' := by
  have hm := sg_lit3 w [1, 2] [] [3] 25 28 w.heap.size 2 0 1 rfl rfl rfl rfl (by decide)
  rw [show ([[1, 2], [], [3]] : List (List Int)) = msg5 by unfold msg5; rfl] at hm
  have HM := Lib.hid hm
  clear hm
  go_enter Try.func7, Try.ntmps7
  go_wp2_with fail
  refine (AWord_c _ 0 1 2 true _ HM.out (by decide) (by decide) (by decide) (by decide) (by decide +kernel) (by decide +kernel)).mono ?_
  rintro e w' ⟨rfl, rfl⟩
  go_wp2_with fail
  refine (AWord_c _ 1 0 0 false _ HM.out (by decide) (by decide) (by decide) (by decide) (by decide +kernel) (by decide +kernel)).mono ?_
  rintro e w' ⟨rfl, rfl⟩
  go_wp2_with fail
  refine (ASlice_c _ _ HM.out).mono ?_
  rintro e w1 ⟨A1, c1, rfl, hr1, hb1⟩
  have hB1 : Below w.heap.size w w1 := ((((((Below.refl _ _).alloc (Nat.le_refl _) _).alloc (by simp) _).alloc (by simp; omega) _).alloc (by simp; omega) _)).trans (hb1.mono (by simp; omega))
  have HM1 := Lib.hid ((HM.out.below hb1 (Nat.le_refl _)).below ((Below.refl w1.heap.size w1).alloc (Nat.le_refl _) (.cells #[.int .u64 1, .int .u64 2] 25)) (Nat.le_refl _))
  have HS := Lib.hid (SameWords_any A1 _ c1 2 [1, 2] [1, 2] (w1.alloc (.cells #[.int .u64 1, .int .u64 2] 25)) (hr1.alloc _) (Ri.lit w1 .u64 [1, 2] _) (by decide) (by decide))
  rw [sameB_self] at HS
  have HB1 := Lib.hid (bel_on hB1 ((Below.refl w1.heap.size w1).alloc (Nat.le_refl _) (.cells #[.int .u64 1, .int .u64 2] 25)))
  clear hr1 hb1 hB1
  go_wp2_with fail
  refine HS.out.mono ?_
  rintro e w' ⟨rfl, m, rfl⟩
  have hsg : Sg ((w1.alloc (.cells #[.int .u64 1, .int .u64 2] 25)).drewN m) _ msg5 := HM1.out
  have HG := Lib.hid hsg
  clear hsg
  go_wp2_with fail
  refine (AIn_c _ 0 2 0 true _ HG.out (by decide) (by decide) (by decide) (by decide) (by decide) (by decide) (by decide +kernel)).mono ?_
  rintro e w' ⟨rfl, rfl⟩
  go_wp2_with fail
  refine (AIn_c _ 0 2 1 false _ HG.out (by decide) (by decide) (by decide) (by decide) (by decide) (by decide) (by decide +kernel)).mono ?_
  rintro e w' ⟨rfl, rfl⟩
  go_wp2_with fail
  refine (AIn_c _ 0 1 9223372036854775807 false _ HG.out (by decide) (by decide) (by decide) (by decide) (by decide) (by decide) (by decide +kernel)).mono ?_
  rintro e w' ⟨rfl, rfl⟩
  go_wp2_with fail
  refine (AIn_c _ 0 9223372036854775807 1 false _ HG.out (by decide) (by decide) (by decide) (by decide) (by decide) (by decide) (by decide +kernel)).mono ?_
  rintro e w' ⟨rfl, rfl⟩
  go_wp2_with fail
  refine (AIn_c _ 3 0 0 false _ HG.out (by decide) (by decide) (by decide) (by decide) (by decide) (by decide) (by decide +kernel)).mono ?_
  rintro e w' ⟨rfl, rfl⟩
  go_wp2_with fail
  refine (AIn_c _ 0 0 (-1) false _ HG.out (by decide) (by decide) (by decide) (by decide) (by decide) (by decide) (by decide +kernel)).mono ?_
  rintro e w' ⟨rfl, rfl⟩
  go_wp2_with fail
  refine (ASize_c _ _ HG.out).mono ?_
  rintro e w' ⟨rfl, rfl⟩
  go_wp2
  go_ret
  exact ⟨rfl, bel_drewN HB1.out _⟩
end Go.Proofs.Ytklahnpimdgpiaa
