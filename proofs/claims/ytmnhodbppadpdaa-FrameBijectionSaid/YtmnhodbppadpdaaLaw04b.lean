/- The laws of layer 4 on the length of a framed message, and that nothing may be missing or left over. -/
import Derived.Test.YtmnhodbppadpdaaLaw04a
namespace Go.Proofs.Ytmnhodbppadpdaa
open Go.ChangeShapes Go.WideShapes Go.ChangeAt Go.RowKit
set_option linter.unusedVariables false
set_option linter.unusedSimpArgs false
attribute [local irreducible] serR errS resF errF okF serL sizeI fewB

set_option maxHeartbeats 4000000 in
theorem Length4_walk (B : Option Addr) (d : Nat) (ls : List (List Int)) (w : World) (hB : Sg w B ls) (hw : Wd2 ls) (hnil2 : B = none → d = 0) (hlm : ls.length ≤ 9223372036854775807) (hlc : ls.length ≤ d) (hdm : d ≤ 9223372036854775807) :
    Calls Try.prog 7 #[.slice B ls.length d] w fun e w' => e = .returned (.bool true) ∧ Below w.heap.size w w' := by
  go_enter Try.func7, Try.ntmps7
  go_wp2_with fail
  refine (awake_any _).mono ?_
  rintro e w1 ⟨rfl, hw1⟩
  have HS1 := Lib.hid (hB.below hw1 (Nat.le_refl _))
  go_wp2_with fail
  refine (Few_any B d ls _ HS1.out hlm).mono ?_
  rintro e w' ⟨rfl, rfl⟩
  cases hf : fewB ls with
  | false =>
    have HF := Lib.hid hf
    clear hf
    go_wp2_with fail
    refine (awake_any _).mono ?_
    rintro e w2 ⟨rfl, hw2⟩
    go_wp2
    go_ret
    exact ⟨rfl, bel_on hw1 hw2⟩
  | true =>
    by_cases hp : 0 < ls.length
    · have hfit := few_fits hf
      have hsl := serR_few hf
      have hsz := sizeI_few hf
      have hm := few_ok hf hw hp
      have hl20 := hfit.2
      obtain ⟨e1, e2⟩ := ser_yes hp (by omega)
      have hlen := serL_length ls hp
      have HSER := Lib.hid (FSer_any B d ls w1 HS1.out hw (fun j => by have := hfit.1 j; omega) hnil2 hlc hdm (by omega))
      have HFIT := Lib.hid hfit
      have HSZ := Lib.hid (fun k => sizeI_le hfit.1 k)
      rw [e1, e2] at HSER
      rw [e1] at hsl
      have hz0 : ((ls.length : Int) == 0) = false := beq_eq_false_iff_ne.2 (by omega)
      have HW1 := Lib.hid hw1
      unfold tbl at hlen
      clear e1 e2 hm hf hfit hw1
      go_wp2_with fail
      refine HSER.out.mono ?_
      rintro e w2 ⟨v2, rfl, hg2, hw2⟩
      obtain ⟨A2, c2, rfl, hc2, hm2, -⟩ := hg2.full
      have hb2 := bel_on HW1.out hw2
      have HS2 := Lib.hid (hB.below hb2 (Nat.le_refl _))
      have HB2 := Lib.hid hb2
      have HLEN := Lib.hid hlen
      clear hg2 hw2 hb2 hc2 hm2 hlen
      go_wp2
      go_loop [5, 6] (fun s j => ∃ k : Nat, k ≤ ls.length ∧ j = .int .i64 k ∧ s = .int .i64 (sizeI (ls.take k))) (fun _ j => ls.length - (intOf j).toNat)
      case atStart => exact ⟨0, by omega, rfl, by rw [List.take_zero]; unfold sizeI; rfl⟩
      case round =>
        obtain ⟨k, hk, rfl, rfl⟩ := hrel
        by_cases hlt : k < ls.length
        · obtain ⟨b0, o0, A0, c0, rfl, hcell, -⟩ := HS2.out.one hlt
          have h1 := HSZ.out k (by omega)
          have h2 := HSZ.out (k + 1) (by omega)
          have h3 := sizeI_nonneg (ls.take k)
          have h4 := HFIT.out.1 k
          have HT := Lib.hid (sizeI_take ls k hlt)
          generalize sizeI (ls.take k) = x1 at *
          have hl : (k : Int) < (ls.length : Int) := by omega
          have b1 : x1 ≤ 6000 := by omega
          clear h1 h2
          go_wp2
          go_round
          case rel => exact ⟨k + 1, by omega, by go_num, by rw [HT.out]⟩
          case measure => simp [intOf]; omega
        · obtain rfl : k = ls.length := by omega
          rw [List.take_length]
          have hlen := HLEN.out
          obtain ⟨z1, z2⟩ := hsz
          generalize sizeI ls = x1 at *
          generalize hL : (serL ls).length = L at *
          have t1 : ((L : Int) == tbl (ls.length) + 8 * x1) = true := beq_iff_eq.2 (by unfold tbl; omega)
          have t2 : ((L : Int) % 8 == 0) = true := beq_iff_eq.2 (by omega)
          have t3 : (tbl (ls.length) % 8 == 0) = true := beq_iff_eq.2 (by unfold tbl; omega)
          have t4 : 4 + 4 * (ls.length : Int) ≤ tbl (ls.length) := by unfold tbl; omega
          have t5 : tbl (ls.length) < 12 + 4 * (ls.length : Int) := by unfold tbl; omega
          have t6 : 0 ≤ tbl (ls.length) := by unfold tbl; omega
          have HTB := Lib.hid (FTable_any (ls.length : Int) w2 (by omega) (by omega))
          clear hlen
          generalize tbl (ls.length : Int) = T at *
          go_wp2_with fail
          refine HTB.out.mono ?_
          rintro e w' ⟨rfl, rfl⟩
          go_wp2
          go_ret
          exact ⟨rfl, HB2.out⟩
    · have hz0 : ((ls.length : Int) == 0) = true := beq_iff_eq.2 (by omega)
      have HF := Lib.hid hf
      clear hf
      go_wp2_with fail
      refine (awake_any _).mono ?_
      rintro e w2 ⟨rfl, hw2⟩
      go_wp2
      go_ret
      exact ⟨rfl, bel_on hw1 hw2⟩

set_option maxHeartbeats 4000000 in
theorem NoSlack4_walk (A B : Option Addr) (c d : Nat) (ls : List (List Int)) (cut : Int) (b : List Int) (w : World) (hB : Sg w B ls) (hw : Wd2 ls) (hnil2 : B = none → d = 0) (hlm : ls.length ≤ 9223372036854775807) (hlc : ls.length ≤ d) (hdm : d ≤ 9223372036854775807)
    (hA : Ri w .u8 A b) (hb : Bts b) (hnil : A = none → c = 0) (hbm0 : b.length ≤ 9223372036854775807) (hbc : b.length ≤ c) (hcm : c ≤ 9223372036854775807) (hcut : 0 ≤ cut) (hcut2 : cut < 65536) :
    Calls Try.prog 5 #[.slice B ls.length d, .int .u16 cut, .slice A b.length c] w fun e w' => e = .returned (.bool true) ∧ Below w.heap.size w w' := by
  obtain ⟨i8, hi8, hy0, hy1, hy2⟩ := info_parts int8_info
  go_enter Try.func5, Try.ntmps5
  go_wp2_with fail
  refine (awake_any _).mono ?_
  rintro e w1 ⟨rfl, hw1⟩
  have HS1 := Lib.hid (hB.below hw1 (Nat.le_refl _))
  go_wp2_with fail
  refine (Few_any B d ls _ HS1.out hlm).mono ?_
  rintro e w' ⟨rfl, rfl⟩
  cases hf : fewB ls with
  | false =>
    have HF := Lib.hid hf
    clear hf
    go_wp2_with fail
    refine (awake_any _).mono ?_
    rintro e w2 ⟨rfl, hw2⟩
    go_wp2
    go_ret
    exact ⟨rfl, bel_on hw1 hw2⟩
  | true =>
    by_cases hp : 0 < ls.length
    · have hz0 : ((ls.length : Int) == 0) = false := beq_eq_false_iff_ne.2 (by omega)
      by_cases h100 : b.length ≤ 100
      · have hfit := few_fits hf
        have hsl := serR_few hf
        have hsz := sizeI_few hf
        have hm := few_ok hf hw hp
        have hl20 := hfit.2
        obtain ⟨e1, e2⟩ := ser_yes hp (by omega)
        have hlen := serL_length ls hp
        have HSER := Lib.hid (FSer_any B d ls w1 HS1.out hw (fun j => by have := hfit.1 j; omega) hnil2 hlc hdm (by omega))
        have HFIT := Lib.hid hfit
        have HSZ := Lib.hid (fun k => sizeI_le hfit.1 k)
        have HBS := Lib.hid (serL_bts hm)
        have HMORE := Lib.hid (ok_more hm b)
        have HCUT := Lib.hid (ok_cut hm)
        rw [e1, e2] at HSER
        rw [e1] at hsl
        have HW1 := Lib.hid hw1
        unfold tbl at hlen
        clear e1 e2 hm hf hfit hw1
        go_wp2_with fail
        refine HSER.out.mono ?_
        rintro e w2 ⟨v2, rfl, hg2, hw2⟩
        obtain ⟨A2, c2, rfl, hc2, hm2, hr2, hn2⟩ := hg2.full
        have hb2 := bel_on HW1.out hw2
        have HS2 := Lib.hid (hB.below hb2 (Nat.le_refl _))
        have HA2 := Lib.hid (hA.below hb2 (Nat.le_refl _))
        have HB2 := Lib.hid hb2
        have HLEN := Lib.hid hlen
        have HR2 := Lib.hid hr2
        have hm2' : c2 ≤ 9223372036854775807 := by unfold maxLen at hm2; omega
        clear hg2 hw2 hb2 hlen hr2 hm2
        go_wp2
        go_loop [9, 10] (fun s j => ∃ k : Nat, k ≤ ls.length ∧ j = .int .i64 k ∧ s = .int .i64 (sizeI (ls.take k))) (fun _ j => ls.length - (intOf j).toNat)
        case atStart => exact ⟨0, by omega, rfl, by rw [List.take_zero]; unfold sizeI; rfl⟩
        case round =>
          obtain ⟨k, hk, rfl, rfl⟩ := hrel
          by_cases hlt : k < ls.length
          · obtain ⟨b0, o0, A0, c0, rfl, hcell, -⟩ := HS2.out.one hlt
            have h1 := HSZ.out k (by omega)
            have h3 := sizeI_nonneg (ls.take k)
            have h4 := HFIT.out.1 k
            have HT := Lib.hid (sizeI_take ls k hlt)
            generalize sizeI (ls.take k) = x1 at *
            have hl : (k : Int) < (ls.length : Int) := by omega
            have b1 : x1 ≤ 6000 := by omega
            clear h1
            go_wp2
            go_round
            case rel => exact ⟨k + 1, by omega, by go_num, by rw [HT.out]⟩
            case measure => simp [intOf]; omega
          · obtain rfl : k = ls.length := by omega
            rw [List.take_length]
            have hlen := HLEN.out
            obtain ⟨z1, z2⟩ := hsz
            generalize sizeI ls = x1 at *
            have hLpos : 8 ≤ (serL ls).length := by omega
            have t1 : (((serL ls).length : Int) != tbl (ls.length) + 8 * x1) = false := by
              rw [bne_eq_false_iff_eq]
              unfold tbl
              omega
            have t2 : (((serL ls).length : Int) == 0) = false := beq_eq_false_iff_ne.2 (by omega)
            have t6 : 0 ≤ tbl (ls.length) := by unfold tbl; omega
            have t7 : tbl (ls.length) ≤ 1000 := by unfold tbl; omega
            have HTB := Lib.hid (FTable_any (ls.length : Int) w2 (by omega) (by omega))
            obtain ⟨g2, o2, rfl, -⟩ := HR2.out.at (i := 0) (by omega)
            have HL := Lib.hid hLpos
            clear hlen hLpos
            generalize tbl (ls.length : Int) = T at *
            obtain ⟨q, hq⟩ : ∃ q : Nat, cut % ((serL ls).length : Int) = q := ⟨(cut % ((serL ls).length : Int)).toNat, by have := Int.emod_nonneg cut (b := ((serL ls).length : Int)) (by have := HL.out; omega); omega⟩
            have hq2 : q < (serL ls).length := by have := Int.emod_lt_of_pos cut (b := ((serL ls).length : Int)) (by have := HL.out; omega); omega
            have hLne : ((serL ls).length : Int) ≠ 0 := by have := HL.out; omega
            have hqc : (q : Int) ≤ (c2 : Int) := by omega
            have hq3 : ((serL ls).take q).length = q := by rw [List.length_take]; omega
            have HPC := Lib.hid (FParse_any (some ⟨g2, o2, none⟩) c2 ((serL ls).take q) w2 (HR2.out.take q) (fun z hz => HBS.out z (List.mem_of_mem_take hz)) (fun h => by cases h) (by omega) (by omega) hm2')
            rw [hq3, err_no (HCUT.out q hq2)] at HPC
            have HQ := Lib.hid hq
            have HQ2 := Lib.hid hq2
            generalize hLL : (serL ls).length = L at *
            have HLL := Lib.hid hLL
            clear hq3 hLL
            go_wp2_with fail
            refine HTB.out.mono ?_
            rintro e w' ⟨rfl, rfl⟩
            go_wp2_with fail
            refine HPC.out.mono ?_
            rintro e w3 ⟨v3, rfl, hg3, hw3⟩
            obtain ⟨A3, c3, rfl, -⟩ := hg3.slice
            have hb3 := bel_on HB2.out hw3
            have HR3 := Lib.hid ((HR2.out.below hw3 (Nat.le_refl _)).alloc (.cells #[] 5))
            have HA3 := Lib.hid (hA.below hb3 (Nat.le_refl _))
            have HB3 := Lib.hid hb3
            clear hg3 hw3 hb3 HPC
            go_wp2_with (first
              | (at_builtin; refine wpList_appN rfl (.tmp 79) (.tmp 80) 22 rfl Try.underlying22 hi8 hy0 hy1 hy2 rfl HG4.out rfl (HA3.out.below (((Below.refl _ _).alloc (Nat.le_refl _) _).trans HB4.out) (Nat.le_refl _)) hnil (by rw [HLL.out]; unfold maxLen; omega) (by rw [HLL.out]; omega) (Nat.le_trans (by simp) HB4.out.size) ?_; intro v5 w5 hg5 hb5)
              | (at_builtin; refine wpList_appNn L rfl (.tmp 77) (.tmp 78) 22 rfl Try.underlying22 hi8 hy0 hy1 hy2 HLL.out.symm rfl (Got.empty_made w3 5 .u8 (base := w3.heap.size) (Nat.le_refl _)) rfl HR3.out (fun h => by cases h) (by unfold maxLen; simp only [List.length_nil]; omega) (by simp only [List.length_nil]; omega) (by simp) ?_; intro v4 w4 hg4 hb4; rw [List.nil_append] at hg4; obtain ⟨A4, c4, he4, -⟩ := hg4.slice; rw [HLL.out] at he4; subst he4; have HG4 := Lib.hid hg4; have HB4 := Lib.hid hb4; clear hg4 hb4))
            have hB5 : Below w3.heap.size w3 w5 := (((Below.refl _ _).alloc (Nat.le_refl _) _).trans HB4.out).trans hb5
            obtain ⟨A5, c5, rfl, hc5, hm5, hr5, hn5⟩ := hg5.full
            have HP5 := Lib.hid (FParse_any A5 c5 (serL ls ++ b) w5 hr5 (fun z hz => by rcases List.mem_append.1 hz with h | h; exact HBS.out z h; exact hb z h) hn5 (by rw [List.length_append, HLL.out]; omega) hc5 (by unfold maxLen at hm5; omega))
            have HB5 := Lib.hid (bel_on HB3.out hB5)
            clear hg5 hb5 hB5 hr5 hm5 hc5 hn5
            have hfin : ∃ x : Int, errF (serL ls ++ b) = x ∧ ((x == 0) == ((b.length : Int) == 0)) = true ∧ 0 ≤ x ∧ x ≤ 1 := by
              by_cases hbe : b = []
              · have : okF (serL ls ++ b) = true := by rw [HMORE.out]; exact decide_eq_true hbe
                exact ⟨0, err_yes this, by rw [hbe]; rfl, by omega, by omega⟩
              · have : okF (serL ls ++ b) = false := by rw [HMORE.out]; exact decide_eq_false hbe
                refine ⟨1, err_no this, ?_, by omega, by omega⟩
                have h1 : ((b.length : Int) == 0) = false := beq_eq_false_iff_ne.2 (by have := List.length_pos_iff.2 hbe; omega)
                rw [h1]
                rfl
            obtain ⟨x, hx, tx, x0, x9⟩ := hfin
            rw [hx] at HP5
            clear hx
            go_wp2_with fail
            refine HP5.out.mono ?_
            rintro e w6 ⟨v6, rfl, hg6, hw6⟩
            obtain ⟨A6, c6, rfl, -⟩ := hg6.slice
            have HB6 := Lib.hid (bel_on HB5.out hw6)
            clear hg6 hw6
            go_wp2
            go_ret
            exact ⟨rfl, HB6.out⟩
      · have h100' : (100 : Int) < (b.length : Int) := by omega
        have HF := Lib.hid hf
        clear hf
        go_wp2_with fail
        refine (awake_any _).mono ?_
        rintro e w2 ⟨rfl, hw2⟩
        go_wp2
        go_ret
        exact ⟨rfl, bel_on hw1 hw2⟩
    · have hz0 : ((ls.length : Int) == 0) = true := beq_iff_eq.2 (by omega)
      have HF := Lib.hid hf
      clear hf
      go_wp2_with fail
      refine (awake_any _).mono ?_
      rintro e w2 ⟨rfl, hw2⟩
      go_wp2
      go_ret
      exact ⟨rfl, bel_on hw1 hw2⟩
end Go.Proofs.Ytmnhodbppadpdaa
