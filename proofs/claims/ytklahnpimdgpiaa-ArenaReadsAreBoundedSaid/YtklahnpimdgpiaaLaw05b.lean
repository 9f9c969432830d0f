/- The laws of layer 5 on bounded reads, ranges, and that nothing is shared. -/
import Derived.Test.YtklahnpimdgpiaaLaw05
namespace Go.Proofs.Ytklahnpimdgpiaa
open Go.ChangeShapes Go.WideShapes Go.ChangeAt Go.RowKit
set_option linter.unusedVariables false
set_option linter.unusedSimpArgs false
attribute [local irreducible] inB hasB wordV sliceX sizeI fewB allB wlL

set_option maxRecDepth 100000 in
set_option maxHeartbeats 4000000 in
theorem ReadsAreBounded_walk (B : Option Addr) (d : Nat) (ls : List (List Int)) (s a n : Int) (w : World) (hB : Sg w B ls) (hw : Wd2 ls) (hlm : ls.length ≤ 9223372036854775807)
    (hs0 : -9223372036854775808 ≤ s) (hs1 : s < 9223372036854775808) (ha0 : -9223372036854775808 ≤ a) (ha1 : a < 9223372036854775808) (hn0 : 0 ≤ n) (hn1 : n < 256) :
    Calls Try.prog 4 #[.slice B ls.length d, .int .i64 s, .int .i64 a, .int .u8 n] w fun e w' => e = .returned (.bool true) ∧ Below w.heap.size w w' := by
  obtain ⟨i0, hi0, hz0, hz1, hz2⟩ := info_parts int64_info
  go_enter Try.func4, Try.ntmps4
  go_wp2_with fail
  refine (awake_any _).mono ?_
  rintro e w1 ⟨rfl, hw1⟩
  have HS1 := Lib.hid (hB.below hw1 (Nat.le_refl _))
  go_wp2_with fail
  refine (Few_any B d ls _ HS1.out hlm).mono ?_
  rintro e w' ⟨rfl, rfl⟩
  by_cases hgo : fewB ls = true ∧ 0 < n ∧ a ≤ 1000 ∧ -1000 ≤ a
  · obtain ⟨hf, hn2, ha2, ha3⟩ := hgo
    have hl20 := (few_fits hf).2
    have HFI := Lib.hid (fits_few hf)
    have HW1 := Lib.hid hw1
    have HF := Lib.hid hf
    have tn : (n == 0) = false := beq_eq_false_iff_ne.2 (by omega)
    obtain ⟨N, hN⟩ := Int.eq_ofNat_of_zero_le hn0
    have hNpos : 0 < N := by omega
    have hN256 : N < 256 := by omega
    have HN := Lib.hid hN
    have HIA := Lib.hid (inB_all ls s a N hNpos)
    have HSW := Lib.hid (fun h => slice_words (ls := ls) (s := s) (a := a) (k := N) h hNpos)
    have HNO := Lib.hid (fun h => sliceX_no (ls := ls) (s := s) (a := a) (n := N) h)
    have HSL := Lib.hid (sliceX_le (few_fits hf).1 s a N)
    clear hN
    have t1 : decide ((1000 : Int) < a) = false := decide_eq_false (by omega)
    have t2 : decide (a < -1000) = false := decide_eq_false (by omega)
    rw [hf]
    clear hf hw1
    go_wp2_with fail
    clear t1 t2 tn
    go_loopw [9, 10, 11] (fun al ws i wr => ∃ (k : Nat), k ≤ N ∧ i = .int .i64 k ∧ al = .bool (allB ls s a k) ∧ Got wr w1.heap.size 25 .u64 ws (wlL ls s a k) ∧ Below w1.heap.size w1 wr) (fun _ _ i _ => N - (intOf i).toNat)
    case atStart => exact ⟨0, by omega, rfl, by rw [allB_zero], by unfold wlL; exact Got.empty _ _ _ _, Below.refl _ _⟩
    case round =>
      obtain ⟨k, hk, rfl, rfl, hgk, hbk⟩ := hrel
      by_cases hlt : k < N
      · have hkn : (k : Int) < n := by rw [HN.out]; omega
        have HBK := Lib.hid hbk
        have HAL := Lib.hid (allB_succ ls s a k)
        have HWL := Lib.hid (wlL_succ ls s a k)
        have HLL := Lib.hid (wlL_length ls s a k)
        obtain ⟨x0, x1⟩ := wordV_bd hw s (a + (k : Int))
        have HAW := Lib.hid (AWord_any B d ls s (a + (k : Int)) wr (HS1.out.below hbk (Nat.le_refl _)) (by omega) HFI.out hs0 (by omega) (by omega) (by omega))
        have HGK := Lib.hid hgk
        have hws := hbk.size
        clear hgk hbk
        generalize wordV ls s (a + (k : Int)) = x at *
        generalize hasB ls s (a + (k : Int)) = y at *
        generalize allB ls s a k = z at *
        go_wp2_with fail
        refine HAW.out.mono ?_
        rintro e w' ⟨rfl, rfl⟩
        cases z
        all_goals
          go_wp2_with (at_builtin; refine wpList_app1 rfl (.tmp 55) (.tmp 57) 28 rfl Try.underlying28 hi0 hz0 hz1 hz2 rfl HGK.out rfl (by rw [HLL.out]; unfold maxLen; omega) (by rw [HLL.out]; omega) (by omega) ?_; intro v6 w6 hg6 hb6)
          go_roundw
          case rel => exact ⟨k + 1, by omega, by go_num, by rw [HAL.out]; simp, by rw [HWL.out]; exact hg6, HBK.out.trans hb6⟩
          case measure => simp [intOf]; omega
      · obtain rfl : k = N := by omega
        have hkn : ¬ ((k : Int) < n) := by rw [HN.out]; omega
        have hb2 := bel_on HW1.out hbk
        have HB2 := Lib.hid hb2
        have HS2 := Lib.hid (hB.below hb2 (Nat.le_refl _))
        obtain ⟨Aw, cw, rfl, -, -, hrw⟩ := hgk.slice
        have HRW := Lib.hid hrw
        have HSLI := Lib.hid (ASlice_any B d ls s a k wr HS2.out (by omega) HFI.out hs0 (by omega) ha0 (by omega) (by omega) (by omega))
        have HLL := Lib.hid (wlL_length ls s a k)
        rw [← HN.out] at HSLI
        clear hgk hbk hb2 hrw
        have hIA := HIA.out
        rw [← HN.out] at hIA
        cases hi : inB ls s a n with
        | true =>
          have hX := HSW.out (by rw [← HN.out]; exact hi)
          rw [← HN.out] at hX
          rw [hi] at hIA
          rw [hi, hX] at HSLI
          have HI := Lib.hid hi
          have HX := Lib.hid hX
          rw [← hIA]
          have HIA2 := Lib.hid hIA
          clear hi hX hIA
          go_wp2_with fail
          refine HSLI.out.mono ?_
          rintro e w2 ⟨v2, rfl, hg2, hw2⟩
          obtain ⟨A2, c2, rfl, -, -, hr2⟩ := hg2.slice
          have hb3 := bel_on HB2.out hw2
          have HQ := Lib.hid (SameWords_any A2 Aw c2 cw _ _ w2 hr2 (HRW.out.below hw2 (Nat.le_refl _)) (by rw [HLL.out]; omega) (by rw [HLL.out]; omega))
          rw [sameB_self] at HQ
          have HIN := Lib.hid (AIn_any B d ls s a n w2 (hB.below hb3 (Nat.le_refl _)) (by omega) HFI.out hs0 (by omega) ha0 (by omega) (by omega) (by omega))
          rw [HI.out] at HIN
          have HB3 := Lib.hid hb3
          clear hg2 hw2 hr2 hb3
          go_wp2_with fail
          refine HIN.out.mono ?_
          rintro e w' ⟨rfl, rfl⟩
          go_wp2_with fail
          refine HQ.out.mono ?_
          rintro e w' ⟨rfl, m, rfl⟩
          go_wp2
          go_ret
          exact ⟨rfl, bel_drewN HB3.out m⟩
        | false =>
          have hX := HNO.out (by rw [← HN.out]; exact hi)
          rw [← HN.out] at hX
          rw [hi] at hIA
          rw [hi, hX] at HSLI
          have HI := Lib.hid hi
          rw [← hIA]
          have HIA2 := Lib.hid hIA
          clear hi hX hIA
          go_wp2_with fail
          refine HSLI.out.mono ?_
          rintro e w2 ⟨v2, rfl, hg2, hw2⟩
          obtain ⟨A2, c2, rfl, -⟩ := hg2.slice
          have hb3 := bel_on HB2.out hw2
          have HIN := Lib.hid (AIn_any B d ls s a n w2 (hB.below hb3 (Nat.le_refl _)) (by omega) HFI.out hs0 (by omega) ha0 (by omega) (by omega) (by omega))
          rw [HI.out] at HIN
          have HB3 := Lib.hid hb3
          clear hg2 hw2 hb3
          go_wp2_with fail
          refine HIN.out.mono ?_
          rintro e w' ⟨rfl, rfl⟩
          go_wp2
          go_ret
          exact ⟨rfl, HB3.out⟩
  · cases hf : fewB ls with
    | false =>
      have HF := Lib.hid hf
      clear hf hgo
      go_wp2_with fail
      refine (awake_any _).mono ?_
      rintro e w2 ⟨rfl, hw2⟩
      go_wp2
      go_ret
      exact ⟨rfl, bel_on hw1 hw2⟩
    | true =>
      have HF := Lib.hid hf
      by_cases h0 : n = 0
      · have tn : (n == 0) = true := beq_iff_eq.2 h0
        clear hf hgo
        go_wp2_with fail
        refine (awake_any _).mono ?_
        rintro e w2 ⟨rfl, hw2⟩
        go_wp2
        go_ret
        exact ⟨rfl, bel_on hw1 hw2⟩
      · have tn : (n == 0) = false := beq_eq_false_iff_ne.2 h0
        by_cases h1 : 1000 < a
        · clear hf hgo
          go_wp2_with fail
          refine (awake_any _).mono ?_
          rintro e w2 ⟨rfl, hw2⟩
          go_wp2
          go_ret
          exact ⟨rfl, bel_on hw1 hw2⟩
        · have h2 : a < -1000 := by
            rcases Int.lt_or_le a (-1000) with h | h
            · exact h
            · exact absurd ⟨hf, by omega, by omega, h⟩ hgo
          clear hf hgo
          go_wp2_with fail
          refine (awake_any _).mono ?_
          rintro e w2 ⟨rfl, hw2⟩
          go_wp2
          go_ret
          exact ⟨rfl, bel_on hw1 hw2⟩
end Go.Proofs.Ytklahnpimdgpiaa
