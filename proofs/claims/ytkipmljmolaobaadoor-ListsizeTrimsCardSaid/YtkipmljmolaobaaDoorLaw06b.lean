/- The laws of layer 6 that sizes are exact and grow. -/
import Derived.Test.YtkipmljmolaobaaDoorLaw06
namespace Go.Proofs.YtkipmljmolaobaaDoor
open Go.ChangeShapes Go.WideShapes Go.ChangeAt Go.RowKit
set_option linter.unusedVariables false
set_option linter.unusedSimpArgs false

theorem wordsI_bd {e c : Int} (h7 : e ≠ 7) : bitsI e * c ≤ 64 * wordsI e c ∧ 64 * wordsI e c ≤ bitsI e * c + 63 := by
  unfold wordsI
  rw [if_neg h7]
  omega
theorem bytesI_bd (e c : Int) : bitsI e * c ≤ 8 * bytesI e c ∧ 8 * bytesI e c ≤ bitsI e * c + 7 := by unfold bytesI; omega
theorem wordsI_7 (c : Int) : wordsI 7 c = c + 1 := by unfold wordsI; rw [if_pos rfl]
theorem bitsI_6 : bitsI 6 = 64 := rfl

attribute [local irreducible] rightB bitsI trimL wordsI bytesI

set_option maxHeartbeats 4000000 in
theorem IsExact_walk (el c : Int) (w : World) (hT : TabOK w) :
    Calls Tryd.prog 4 #[.int .i64 el, .int .i64 c] w fun r w' => r = .returned (.bool true) ∧ Below w.heap.size w w' := by
  go_enter Tryd.func4, Tryd.ntmps4
  go_wp2_with fail
  refine (awake_any _ hT).mono ?_
  rintro e w1 ⟨rfl, hw1⟩
  have HW1 := Lib.hid hw1
  have HT1 := Lib.hid (hT.on hw1)
  clear hw1 hT
  go_wp2_with fail
  refine (Right_any el c _).mono ?_
  rintro e w' ⟨rfl, rfl⟩
  cases hr : rightB el c with
  | false =>
    clear hr
    go_wp2_with fail
    refine (awake_any _ HT1.out).mono ?_
    rintro e w2 ⟨rfl, hw2⟩
    go_wp2
    go_ret
    exact ⟨rfl, bel_on HW1.out hw2⟩
  | true =>
    obtain ⟨e0, e7, c0, c1⟩ := right_of hr
    clear hr
    have HWA := Lib.hid (fun w hT => LWords_any el c w hT e0 e7 c0 c1)
    obtain ⟨m0, m1⟩ := bitsI_mul el c c0
    by_cases h7 : el = 7
    · subst h7
      rw [wordsI_7] at HWA
      have t : (c + 1 == c + 1) = true := by simp
      clear m0 m1
      go_wp2_with fail
      refine (HWA.out _ HT1.out).mono ?_
      rintro e w' ⟨rfl, rfl⟩
      go_wp2
      go_ret
      exact ⟨rfl, HW1.out⟩
    · obtain ⟨w0, w2⟩ := wordsI_bd (c := c) h7
      have t7 : (el == 7) = false := beq_eq_false_iff_ne.2 h7
      have hW0 : 0 ≤ wordsI el c := by omega
      have hW1 : wordsI el c ≤ c + 1 := by omega
      have HBI := Lib.hid (fun w hT => LBits_any el w hT e0 e7)
      by_cases h6 : el = 6
      · have t6 : (el == 6) = true := beq_iff_eq.2 h6
        have hb : bitsI el = 64 := by rw [h6]; exact bitsI_6
        rw [hb] at w0 w2 m0 m1 HBI
        have hWc : (wordsI el c == c) = true := beq_iff_eq.2 (by omega)
        have hWl : wordsI el c ≤ c := by omega
        have hWg : c ≤ wordsI el c := by omega
        have H6 := Lib.hid h6
        clear h6 h7 hb
        generalize wordsI el c = W at *
        go_wp2_with fail
        refine (HWA.out _ HT1.out).mono ?_
        rintro e w' ⟨rfl, rfl⟩
        go_wp2_with fail
        refine (HBI.out _ HT1.out).mono ?_
        rintro e w' ⟨rfl, rfl⟩
        by_cases hp : 0 < W
        · go_wp2
          go_ret
          exact ⟨rfl, HW1.out⟩
        · go_wp2
          go_ret
          exact ⟨rfl, HW1.out⟩
      · have t6 : (el == 6) = false := beq_eq_false_iff_ne.2 h6
        have e5 : el ≤ 5 := by omega
        obtain ⟨b0, b2⟩ := bytesI_bd el c
        have HBY := Lib.hid (fun w hT => LBytes_any el c w hT e0 e5 c0 c1)
        have hB0 : 0 ≤ bytesI el c := by omega
        have hB1 : bytesI el c ≤ 8 * c + 1 := by omega
        have tB : ((bytesI el c + 7) / 8 == wordsI el c) = true := beq_iff_eq.2 (by omega)
        have m2 : bitsI el * c ≤ 34359738304 := by omega
        have tz : ∀ B : Int, B = 0 ∨ B ≠ 0 := fun B => by omega
        clear h6 h7
        generalize wordsI el c = W at *
        generalize bytesI el c = B at *
        generalize bitsI el = β at *
        have hz := tz B
        clear tz
        go_wp2_with fail
        refine (HWA.out _ HT1.out).mono ?_
        rintro e w' ⟨rfl, rfl⟩
        go_wp2_with fail
        refine (HBI.out _ HT1.out).mono ?_
        rintro e w' ⟨rfl, rfl⟩
        by_cases hp : 0 < W
        all_goals
          go_wp2_with fail
          refine (HBY.out _ HT1.out).mono ?_
          rintro e w' ⟨rfl, rfl⟩
          rcases hz with hz | hz
          · have q : (B == 0) = true := beq_iff_eq.2 hz
            have HZ := Lib.hid hz
            clear hz
            go_wp2
            go_ret
            exact ⟨rfl, HW1.out⟩
          · have q : (B == 0) = false := beq_eq_false_iff_ne.2 hz
            have q2 : 1 ≤ B := by omega
            clear hz
            go_wp2 <;> (go_ret; exact ⟨rfl, HW1.out⟩)

set_option maxHeartbeats 4000000 in
theorem Grows_walk (el c m : Int) (w : World) (hT : TabOK w) (hm0 : -9223372036854775808 ≤ m) (hm1 : m < 9223372036854775808) :
    Calls Tryd.prog 5 #[.int .i64 el, .int .i64 c, .int .i64 m] w fun r w' => r = .returned (.bool true) ∧ Below w.heap.size w w' := by
  go_enter Tryd.func5, Tryd.ntmps5
  go_wp2_with fail
  refine (awake_any _ hT).mono ?_
  rintro e w1 ⟨rfl, hw1⟩
  have HW1 := Lib.hid hw1
  have HT1 := Lib.hid (hT.on hw1)
  clear hw1 hT
  go_wp2_with fail
  refine (Right_any el c _).mono ?_
  rintro e w' ⟨rfl, rfl⟩
  cases hr : rightB el c with
  | false =>
    clear hr
    go_wp2_with fail
    refine (awake_any _ HT1.out).mono ?_
    rintro e w2 ⟨rfl, hw2⟩
    go_wp2
    go_ret
    exact ⟨rfl, bel_on HW1.out hw2⟩
  | true =>
    obtain ⟨e0, e7, c0, c1⟩ := right_of hr
    clear hr
    by_cases hmn : m < 0
    · go_wp2_with fail
      refine (awake_any _ HT1.out).mono ?_
      rintro e w2 ⟨rfl, hw2⟩
      go_wp2
      go_ret
      exact ⟨rfl, bel_on HW1.out hw2⟩
    · have hm2 : 0 ≤ m := by omega
      by_cases hbig : m ≤ 4611686018427387904
      · clear hmn
        go_wp2_with fail
        refine (Right_any el (c + m) _).mono ?_
        rintro e w' ⟨rfl, rfl⟩
        cases hr2 : rightB el (c + m) with
        | false =>
          clear hr2
          go_wp2_with fail
          refine (awake_any _ HT1.out).mono ?_
          rintro e w2 ⟨rfl, hw2⟩
          go_wp2
          go_ret
          exact ⟨rfl, bel_on HW1.out hw2⟩
        | true =>
          obtain ⟨_, _, _, cm⟩ := right_of hr2
          clear hr2
          by_cases h7 : el = 7
          · have t7 : (el == 7) = true := beq_iff_eq.2 h7
            have H7 := Lib.hid h7
            clear h7
            go_wp2_with fail
            refine (awake_any _ HT1.out).mono ?_
            rintro e w2 ⟨rfl, hw2⟩
            go_wp2
            go_ret
            exact ⟨rfl, bel_on HW1.out hw2⟩
          · have t7 : (el == 7) = false := beq_eq_false_iff_ne.2 h7
            obtain ⟨a0, a1⟩ := wordsI_bd (c := c) h7
            obtain ⟨b0, b1⟩ := wordsI_bd (c := c + m) h7
            obtain ⟨d0, d1⟩ := wordsI_bd (c := m) h7
            obtain ⟨m0, m1⟩ := bitsI_mul el c c0
            obtain ⟨n0, n1⟩ := bitsI_mul el m hm2
            rw [Int.mul_add] at b0 b1
            have HA := Lib.hid (fun w hT => LWords_any el c w hT e0 e7 c0 c1)
            have HBB := Lib.hid (fun w hT => LWords_any el (c + m) w hT e0 e7 (by omega) cm)
            have HD := Lib.hid (fun w hT => LWords_any el m w hT e0 e7 hm2 (by omega))
            have HBI := Lib.hid (fun w hT => LBits_any el w hT e0 e7)
            have g1 : wordsI el c ≤ wordsI el (c + m) := by omega
            have g2 : wordsI el (c + m) ≤ wordsI el c + wordsI el m := by omega
            have g3 : bitsI el * c % 64 = 0 → wordsI el (c + m) = wordsI el c + wordsI el m := by intro h; omega
            have m2 : bitsI el * c ≤ 34359738304 := by omega
            have u1 : wordsI el c ≤ 1000000000 := by omega
            have u2 : wordsI el m ≤ 1000000000 := by omega
            have u3 : 0 ≤ wordsI el c := by omega
            have u4 : 0 ≤ wordsI el m := by omega
            have hz : bitsI el * c % 64 = 0 ∨ ¬ bitsI el * c % 64 = 0 := by omega
            have G3 := Lib.hid g3
            clear a0 a1 b0 b1 d0 d1 n0 n1 h7 g3
            generalize wordsI el c = a at *
            generalize wordsI el (c + m) = b at *
            generalize wordsI el m = d at *
            generalize bitsI el = β at *
            go_wp2_with fail
            refine (HA.out _ HT1.out).mono ?_
            rintro e w' ⟨rfl, rfl⟩
            go_wp2_with fail
            refine (HBB.out _ HT1.out).mono ?_
            rintro e w' ⟨rfl, rfl⟩
            go_wp2_with fail
            refine (HD.out _ HT1.out).mono ?_
            rintro e w' ⟨rfl, rfl⟩
            go_wp2_with fail
            refine (HBI.out _ HT1.out).mono ?_
            rintro e w' ⟨rfl, rfl⟩
            rcases hz with hz | hz
            · have q : (β * c % 64 == 0) = true := beq_iff_eq.2 hz
              have q2 : (b == a + d) = true := beq_iff_eq.2 (G3.out hz)
              have HZ := Lib.hid hz
              clear hz
              go_wp2
              go_ret
              exact ⟨rfl, HW1.out⟩
            · have q : (β * c % 64 == 0) = false := beq_eq_false_iff_ne.2 hz
              have HZ := Lib.hid hz
              clear hz
              go_wp2
              go_ret
              exact ⟨rfl, HW1.out⟩
      · have hr2 : ∀ x : Int, (x = c + m ∨ x = c + m - 18446744073709551616) → rightB el x = false := by
          intro x hx
          unfold rightB
          exact decide_eq_false (by omega)
        have HR2 := Lib.hid hr2
        clear hmn hr2
        go_wp2_with fail
        refine (Right_any el _ _).mono ?_
        rw [HR2.out _ (by unfold wrap64; omega)]
        rintro e w' ⟨rfl, rfl⟩
        go_wp2_with fail
        refine (awake_any _ HT1.out).mono ?_
        rintro e w2 ⟨rfl, hw2⟩
        go_wp2
        go_ret
        exact ⟨rfl, bel_on HW1.out hw2⟩
end Go.Proofs.YtkipmljmolaobaaDoor
