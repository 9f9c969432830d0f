/- The fixed examples of layer 6 ('awake' is true) and its laws on sizes. -/
import Derived.Test.YtkipmljmolaobaaDoorList
namespace Go.Proofs.YtkipmljmolaobaaDoor
open Go.ChangeShapes Go.WideShapes Go.ChangeAt Go.RowKit
set_option linter.unusedVariables false
set_option linter.unusedSimpArgs false

theorem LBits_c (e x : Int) (w : World) (hT : TabOK w) (h0 : 0 ≤ e) (h7 : e ≤ 7) (hx : bitsI e = x) : Calls Tryd.prog 9 #[.int .i64 e] w fun r w' => r = .returned (.int .i64 x) ∧ w = w' := by
  subst hx; exact LBits_any e w hT h0 h7
theorem LWords_c (e c x : Int) (w : World) (hT : TabOK w) (h0' : 0 ≤ e) (h7 : e ≤ 7) (h0 : 0 ≤ c) (h1 : c ≤ 536870911) (hx : wordsI e c = x) : Calls Tryd.prog 11 #[.int .i64 e, .int .i64 c] w fun r w' => r = .returned (.int .i64 x) ∧ w = w' := by
  subst hx; exact LWords_any e c w hT h0' h7 h0 h1
theorem LBytes_c (e c x : Int) (w : World) (hT : TabOK w) (he : 0 ≤ e) (h5 : e ≤ 5) (h0 : 0 ≤ c) (h1 : c ≤ 536870911) (hx : bytesI e c = x) : Calls Tryd.prog 13 #[.int .i64 e, .int .i64 c] w fun r w' => r = .returned (.int .i64 x) ∧ w = w' := by
  subst hx; exact LBytes_any e c w hT he h5 h0 h1

def f3 : List Int := [255, 255, 255]
theorem f3_bts : Bts f3 := by unfold Bts f3; decide
theorem LTrim_c (A : Option Addr) (w : World) (hT : TabOK w) (hA : A ≠ none) (hr : Ri w .u8 A f3) : Calls Tryd.prog 16 #[.int .i64 1, .int .i64 9, .slice A 3 3] w fun r w' => ∃ A' c', r = .returned (.slice A' 2 c') ∧ Ri w' .u8 A' [255, 1] ∧ Below w.heap.size w w' := by
  have h := LTrim_any A 3 f3 1 9 w hT hr f3_bts (fun h => absurd h hA) (by decide) (by decide) (by decide) (by decide) (by decide) (by decide) (by decide) (by decide +kernel)
  rw [show trimL f3 1 9 = [255, 1] by decide +kernel] at h
  refine h.mono ?_
  rintro e w' ⟨v, rfl, hg, hb⟩
  obtain ⟨A', c', rfl, _, _, hr'⟩ := hg.slice
  exact ⟨A', c', rfl, hr', hb⟩

set_option maxRecDepth 100000 in
set_option maxHeartbeats 2000000 in
theorem awake_any (w : World) (hT : TabOK w) : Calls Tryd.prog 7 #[] w fun e w' => e = .returned (.bool true) ∧ Below w.heap.size w w' := by
  have hl := Ri.lit w .u8 f3 5
  rw [show f3 = [255, 255, 255] from rfl] at hl
  have HL := Lib.hid hl
  have HT := Lib.hid hT
  clear hl hT
  go_enter Tryd.func7, Tryd.ntmps7
  go_wp2_with fail
  refine (LWords_c 1 9 1 _ (by first | exact HT.out | exact HT.out.alloc _) (by decide) (by decide) (by decide) (by decide) (by decide +kernel)).mono ?_
  rintro e w' ⟨rfl, rfl⟩
  go_wp2_with fail
  refine (LBytes_c 1 9 2 _ (by first | exact HT.out | exact HT.out.alloc _) (by decide) (by decide) (by decide) (by decide) (by decide +kernel)).mono ?_
  rintro e w' ⟨rfl, rfl⟩
  go_wp2_with fail
  refine (LWords_c 1 65 2 _ (by first | exact HT.out | exact HT.out.alloc _) (by decide) (by decide) (by decide) (by decide) (by decide +kernel)).mono ?_
  rintro e w' ⟨rfl, rfl⟩
  go_wp2_with fail
  refine (LWords_c 0 1000 0 _ (by first | exact HT.out | exact HT.out.alloc _) (by decide) (by decide) (by decide) (by decide) (by decide +kernel)).mono ?_
  rintro e w' ⟨rfl, rfl⟩
  go_wp2_with fail
  refine (LWords_c 3 5 2 _ (by first | exact HT.out | exact HT.out.alloc _) (by decide) (by decide) (by decide) (by decide) (by decide +kernel)).mono ?_
  rintro e w' ⟨rfl, rfl⟩
  go_wp2_with fail
  refine (LBytes_c 3 5 10 _ (by first | exact HT.out | exact HT.out.alloc _) (by decide) (by decide) (by decide) (by decide) (by decide +kernel)).mono ?_
  rintro e w' ⟨rfl, rfl⟩
  go_wp2_with fail
  refine (LWords_c 6 7 7 _ (by first | exact HT.out | exact HT.out.alloc _) (by decide) (by decide) (by decide) (by decide) (by decide +kernel)).mono ?_
  rintro e w' ⟨rfl, rfl⟩
  go_wp2_with fail
  refine (LWords_c 7 7 8 _ (by first | exact HT.out | exact HT.out.alloc _) (by decide) (by decide) (by decide) (by decide) (by decide +kernel)).mono ?_
  rintro e w' ⟨rfl, rfl⟩
  go_wp2_with fail
  refine (LBits_c 4 32 _ (by first | exact HT.out | exact HT.out.alloc _) (by decide) (by decide) (by decide +kernel)).mono ?_
  rintro e w' ⟨rfl, rfl⟩
  go_wp2_with fail
  refine (LBits_c 7 0 _ (by first | exact HT.out | exact HT.out.alloc _) (by decide) (by decide) (by decide +kernel)).mono ?_
  rintro e w' ⟨rfl, rfl⟩
  go_wp2_with fail
  refine (LTrim_c _ _ (by first | exact HT.out | exact HT.out.alloc _) (by simp) HL.out).mono ?_
  rintro e w1 ⟨A1, c1, rfl, hr1, hb1⟩
  have hB1 : Below w.heap.size w w1 := ((Below.refl _ _).alloc (Nat.le_refl _) _).trans (hb1.mono (by simp))
  have HB1 := Lib.hid (bel_on hB1 ((Below.refl w1.heap.size w1).alloc (Nat.le_refl _) (.cells #[.int .u8 255, .int .u8 1] 5)))
  have HS := Lib.hid (Same_any A1 _ c1 2 [255, 1] [255, 1] (w1.alloc (.cells #[.int .u8 255, .int .u8 1] 5)) (hr1.alloc _) (Ri.lit w1 .u8 [255, 1] _) (by decide) (by decide))
  rw [sameB_self] at HS
  clear hr1 hb1 hB1
  go_wp2_with fail
  refine HS.out.mono ?_
  rintro e w' ⟨rfl, m, rfl⟩
  go_wp2
  go_ret
  exact ⟨rfl, bel_drewN HB1.out m⟩

theorem right_of {e c : Int} (h : rightB e c = true) : 0 ≤ e ∧ e ≤ 7 ∧ 0 ≤ c ∧ c ≤ 536870911 := of_decide_eq_true h

attribute [local irreducible] rightB bitsI trimL

set_option maxHeartbeats 4000000 in
theorem MatchesReference6_walk (A : Option Addr) (cp : Nat) (el c : Int) (b : List Int) (w : World) (hT : TabOK w) (hA : Ri w .u8 A b) (hb : Bts b) (hnil : A = none → cp = 0) (hbm0 : b.length ≤ 9223372036854775807) (hbc : b.length ≤ cp) (hcm : cp ≤ 9223372036854775807) :
    Calls Tryd.prog 3 #[.int .i64 el, .int .i64 c, .slice A b.length cp] w fun r w' => r = .returned (.bool true) ∧ Below w.heap.size w w' := by
  go_enter Tryd.func3, Tryd.ntmps3
  go_wp2_with fail
  refine (awake_any _ hT).mono ?_
  rintro e w1 ⟨rfl, hw1⟩
  have HW1 := Lib.hid hw1
  have HT1 := Lib.hid (hT.on hw1)
  clear hw1 hT
  go_wp2_with fail
  refine (Right_any el c _).mono ?_
  rintro e w' ⟨rfl, rfl⟩
  cases hr : rightB el c with
  | false =>
    clear hr
    go_wp2_with fail
    refine (awake_any _ HT1.out).mono ?_
    rintro e w2 ⟨rfl, hw2⟩
    go_wp2
    go_ret
    exact ⟨rfl, bel_on HW1.out hw2⟩
  | true =>
    obtain ⟨e0, e7, c0, c1⟩ := right_of hr
    clear hr
    by_cases hlong : b.length ≤ 2000
    · have tb : (bitsI el != bitsI el) = false := by simp
      have tw : (wordsI el c != wordsI el c) = false := by simp
      have HWA := Lib.hid (fun w hT => LWords_any el c w hT e0 e7 c0 c1)
      have HWR := Lib.hid (fun w => RefWords6_any el c w c0 c1)
      generalize wordsI el c = W at *
      go_wp2_with fail
      refine (LBits_any el _ HT1.out e0 e7).mono ?_
      rintro e w' ⟨rfl, rfl⟩
      go_wp2_with fail
      refine (RefBits_any el _).mono ?_
      rintro e w' ⟨rfl, rfl⟩
      go_wp2_with fail
      refine (HWA.out _ HT1.out).mono ?_
      rintro e w' ⟨rfl, rfl⟩
      go_wp2_with fail
      refine (HWR.out _).mono ?_
      rintro e w' ⟨rfl, rfl⟩
      by_cases h5 : el ≤ 5
      · have HA1 := Lib.hid (hA.below HW1.out (Nat.le_refl _))
        have HBA := Lib.hid (fun w hT => LBytes_any el c w hT e0 h5 c0 c1)
        have HBR := Lib.hid (fun w => RefBytes6_any el c w c0 c1)
        obtain ⟨m0, m1⟩ := bitsI_mul el c c0
        have y0 : 0 ≤ bytesI el c := by unfold bytesI; omega
        have y1 : bytesI el c ≤ 8 * c + 1 := by unfold bytesI; omega
        have HT := Lib.hid (fun h => LTrim_any A cp b el c w1 HT1.out HA1.out hb hnil (by omega) hbc hcm e0 h5 c0 c1 h)
        have HU := Lib.hid (fun w2 (hr : Ri w2 .u8 A b) h => RefTrim_any A cp b el c w2 hr hb (by omega) c0 c1 h)
        have HL := Lib.hid (trimL_length b el c)
        generalize bytesI el c = Y at *
        generalize trimL b el c = t at *
        have ty : (Y == Y) = true := by simp
        clear m0 m1
        go_wp2_with fail
        refine (HBA.out _ HT1.out).mono ?_
        rintro e w' ⟨rfl, rfl⟩
        go_wp2_with fail
        refine (HBR.out _).mono ?_
        rintro e w' ⟨rfl, rfl⟩
        go_wp2_with fail
        refine (HBR.out _).mono ?_
        rintro e w' ⟨rfl, rfl⟩
        by_cases hlt : (b.length : Int) < Y
        · go_wp2
          go_ret
          exact ⟨rfl, HW1.out⟩
        · have hge : Y ≤ (b.length : Int) := by omega
          have HT2 := Lib.hid (HT.out hge)
          have HU2 := Lib.hid (fun w2 hr => HU.out w2 hr hge)
          clear HT HU
          go_wp2_with fail
          refine HT2.out.mono ?_
          rintro e w2 ⟨v2, rfl, hg2, hw2⟩
          obtain ⟨A2, c2, rfl, -, -, hr2⟩ := hg2.slice
          have hb2 := bel_on HW1.out hw2
          have HR2 := Lib.hid hr2
          have HU3 := Lib.hid (HU2.out w2 (hA.below hb2 (Nat.le_refl _)))
          have HB2 := Lib.hid hb2
          clear hg2 hw2 hr2 hb2 HU2
          go_wp2_with fail
          refine HU3.out.mono ?_
          rintro e w3 ⟨v3, rfl, hg3, hw3⟩
          obtain ⟨A3, c3, rfl, -, -, hr3⟩ := hg3.slice
          have HQ := Lib.hid (Same_any A2 A3 c2 c3 t t w3 (HR2.out.below hw3 (Nat.le_refl _)) hr3 (by rw [HL.out]; omega) (by rw [HL.out]; omega))
          rw [sameB_self] at HQ
          have HB3 := Lib.hid (bel_on HB2.out hw3)
          clear hg3 hw3 hr3
          go_wp2_with fail
          refine HQ.out.mono ?_
          rintro e w' ⟨rfl, m, rfl⟩
          go_wp2
          go_ret
          exact ⟨rfl, bel_drewN HB3.out m⟩
      · have h6 : 5 < el := by omega
        go_wp2
        go_ret
        exact ⟨rfl, HW1.out⟩
    · have hgt : (2000 : Int) < (b.length : Int) := by omega
      go_wp2_with fail
      refine (awake_any _ HT1.out).mono ?_
      rintro e w2 ⟨rfl, hw2⟩
      go_wp2
      go_ret
      exact ⟨rfl, bel_on HW1.out hw2⟩
end Go.Proofs.YtkipmljmolaobaaDoor
