/- The laws of layer 5 on ranges, and that nothing is shared. -/
import Derived.Test.YtklahnpimdgpiaaLaw05b
namespace Go.Proofs.Ytklahnpimdgpiaa
open Go.ChangeShapes Go.WideShapes Go.ChangeAt Go.RowKit
set_option linter.unusedVariables false
set_option linter.unusedSimpArgs false
attribute [local irreducible] inB hasB wordV sliceX sizeI fewB allB wlL

theorem inB_seg {ls : List (List Int)} {s a n : Int} (h : inB ls s a n = true) : 0 ≤ s ∧ s < ls.length := by
  unfold inB at h
  obtain ⟨h1, h2, _⟩ := of_decide_eq_true h
  exact ⟨h1, h2⟩

set_option maxRecDepth 100000 in
set_option maxHeartbeats 4000000 in
theorem Ranges_walk (B : Option Addr) (d : Nat) (ls : List (List Int)) (s a n cut : Int) (w : World) (hB : Sg w B ls) (hw : Wd2 ls) (hlm : ls.length ≤ 9223372036854775807)
    (hs0 : -9223372036854775808 ≤ s) (hs1 : s < 9223372036854775808) (ha0 : -9223372036854775808 ≤ a) (ha1 : a < 9223372036854775808) (hn0 : 0 ≤ n) (hn1 : n < 65536) (hc0 : 0 ≤ cut) (hc1 : cut < 65536) :
    Calls Try.prog 5 #[.slice B ls.length d, .int .i64 s, .int .i64 a, .int .u16 n, .int .u16 cut] w fun e w' => e = .returned (.bool true) ∧ Below w.heap.size w w' := by
  obtain ⟨i0, hi0, hz0, hz1, hz2⟩ := info_parts int64_info
  go_enter Try.func5, Try.ntmps5
  go_wp2_with fail
  refine (awake_any _).mono ?_
  rintro e w1 ⟨rfl, hw1⟩
  have HS1 := Lib.hid (hB.below hw1 (Nat.le_refl _))
  go_wp2_with fail
  refine (Few_any B d ls _ HS1.out hlm).mono ?_
  rintro e w' ⟨rfl, rfl⟩
  by_cases hgo : fewB ls = true ∧ a ≤ 1099511627776 ∧ -1099511627776 ≤ a
  · obtain ⟨hf, ha2, ha3⟩ := hgo
    have hl20 := (few_fits hf).2
    have HFI := Lib.hid (fits_few hf)
    have HW1 := Lib.hid hw1
    have HLE := Lib.hid (sliceX_le (few_fits hf).1 s)
    have t1 : decide ((1099511627776 : Int) < a) = false := decide_eq_false (by omega)
    have t2 : decide (a < -1099511627776) = false := decide_eq_false (by omega)
    obtain ⟨k, hk⟩ : ∃ k, cut % (n + 1) = k := ⟨_, rfl⟩
    have hk0 : 0 ≤ k := by rw [← hk]; exact Int.emod_nonneg _ (by omega)
    have hk1 : k ≤ n := by have := Int.emod_lt_of_pos cut (show 0 < n + 1 by omega); omega
    have hsp : inB ls s a n = (inB ls s a k && inB ls s (a + k) (n - k)) ∧ (inB ls s a n = true → sliceX ls s a k ++ sliceX ls s (a + k) (n - k) = sliceX ls s a n) := by
      obtain ⟨N, hN⟩ := Int.eq_ofNat_of_zero_le hn0
      obtain ⟨K, hK⟩ := Int.eq_ofNat_of_zero_le hk0
      have hKN : K ≤ N := by omega
      rw [hN, hK]
      exact ⟨inB_split s a N K hKN, fun h => slice_split hKN h⟩
    have HSP := Lib.hid hsp.1
    have HSX := Lib.hid hsp.2
    have hne : n + 1 ≠ 0 := by omega
    have I1 := Lib.hid (fun w (hs : Sg w B ls) => AIn_any B d ls s a n w hs (by omega) HFI.out hs0 (by omega) ha0 (by omega) (by omega) (by omega))
    have I2 := Lib.hid (fun w (hs : Sg w B ls) => AIn_any B d ls s a k w hs (by omega) HFI.out hs0 (by omega) ha0 (by omega) (by omega) (by omega))
    have I3 := Lib.hid (fun w (hs : Sg w B ls) => AIn_any B d ls s (a + k) (n - k) w hs (by omega) HFI.out hs0 (by omega) (by omega) (by omega) (by omega) (by omega))
    have S1 := Lib.hid (fun w (hs : Sg w B ls) => ASlice_any B d ls s a n w hs (by omega) HFI.out hs0 (by omega) ha0 (by omega) (by omega) (by omega))
    have S2 := Lib.hid (fun w (hs : Sg w B ls) => ASlice_any B d ls s a k w hs (by omega) HFI.out hs0 (by omega) ha0 (by omega) (by omega) (by omega))
    have S3 := Lib.hid (fun w (hs : Sg w B ls) => ASlice_any B d ls s (a + k) (n - k) w hs (by omega) HFI.out hs0 (by omega) (by omega) (by omega) (by omega) (by omega))
    rw [hf]
    clear hf hw1 hsp
    generalize inB ls s (a + k) (n - k) = y at *
    generalize hz : inB ls s a k = z at *
    generalize hx : inB ls s a n = x at *
    have HX := Lib.hid hx
    clear hz hx
    go_wp2_with fail
    rw [hk]
    clear t1 t2 hk
    refine (I1.out _ HS1.out).mono ?_
    rintro e w' ⟨rfl, rfl⟩
    go_wp2_with fail
    refine (I2.out _ HS1.out).mono ?_
    rintro e w' ⟨rfl, rfl⟩
    cases z with
    | false =>
      obtain rfl : x = false := by rw [HSP.out]; rfl
      go_wp2
      go_ret
      exact ⟨rfl, HW1.out⟩
    | true =>
      go_wp2_with fail
      refine (I3.out _ HS1.out).mono ?_
      rintro e w' ⟨rfl, rfl⟩
      cases y with
      | false =>
        obtain rfl : x = false := by rw [HSP.out]; rfl
        go_wp2
        go_ret
        exact ⟨rfl, HW1.out⟩
      | true =>
        obtain rfl : x = true := by rw [HSP.out]; rfl
        have hseg := inB_seg HX.out
        have HXX := Lib.hid (HSX.out rfl)
        obtain ⟨q0, q1⟩ := hseg
        clear I1 I2 I3 HSX HSP
        go_wp2_with fail
        refine (S2.out _ HS1.out).mono ?_
        rintro e w2 ⟨v2, rfl, hg2, hw2⟩
        obtain ⟨A2, c2, rfl, -, -, hr2⟩ := hg2.slice
        have hn2 : A2 = none → c2 = 0 := by
          intro h
          subst h
          rcases hg2.2 with ⟨h1, _⟩ | ⟨g, cap, cur, h1, _⟩
          · injection h1
          · injection h1 with h2; cases h2
        have hb2 := bel_on HW1.out hw2
        have HS2 := Lib.hid (hB.below hb2 (Nat.le_refl _))
        have HR2 := Lib.hid hr2
        have HB2 := Lib.hid hb2
        clear hg2 hw2 hr2 hb2
        go_wp2_with fail
        refine (S3.out _ HS2.out).mono ?_
        rintro e w3 ⟨v3, rfl, hg3, hw3⟩
        obtain ⟨A3, c3, rfl, -, -, hr3⟩ := hg3.slice
        have hn3 : A3 = none → c3 = 0 := by
          intro h
          subst h
          rcases hg3.2 with ⟨h1, _⟩ | ⟨g, cap, cur, h1, _⟩
          · injection h1
          · injection h1 with h2; cases h2
        have hb3 := bel_on HB2.out hw3
        have HS3 := Lib.hid (hB.below hb3 (Nat.le_refl _))
        have HR2 := Lib.hid (HR2.out.below hw3 (Nat.le_refl _))
        have HR3 := Lib.hid hr3
        have HB3 := Lib.hid hb3
        clear hg3 hw3 hr3 hb3
        go_wp2_with fail
        refine (S1.out _ HS3.out).mono ?_
        rintro e w4 ⟨v4, rfl, hg4, hw4⟩
        obtain ⟨A4, c4, rfl, -, -, hr4⟩ := hg4.slice
        have hb4 := bel_on HB3.out hw4
        have HR2 := Lib.hid (HR2.out.below hw4 (Nat.le_refl _))
        have HR3 := Lib.hid (HR3.out.below hw4 (Nat.le_refl _))
        have HR4 := Lib.hid hr4
        have HB4 := Lib.hid hb4
        have L1 := HLE.out a k
        have L2 := HLE.out (a + k) (n - k)
        have L3 := HLE.out a n
        have HX4 := Lib.hid (HR2.out.alloc (.cells #[] 25))
        clear hg4 hw4 hr4 hb4 S1 S2 S3 HLE
        generalize sliceX ls s a k = l1 at *
        generalize sliceX ls s (a + k) (n - k) = l2 at *
        generalize sliceX ls s a n = l3 at *
        go_wp2_with (first
          | (at_builtin; refine wpList_appN rfl (.tmp 115) (.tmp 116) 28 rfl Try.underlying28 hi0 hz0 hz1 hz2 rfl HG5.out rfl (HR3.out.below (((Below.refl _ _).alloc (Nat.le_refl _) _).trans HB5.out) (Nat.le_refl _)) hn3 (by unfold maxLen; omega) (by omega) (Nat.le_trans (by simp) HB5.out.size) ?_; intro v6 w6 hg6 hb6)
          | (at_builtin; refine wpList_appN rfl (.tmp 113) (.tmp 114) 28 rfl Try.underlying28 hi0 hz0 hz1 hz2 rfl (Got.empty_made w4 25 .u64 (base := w4.heap.size) (Nat.le_refl _)) rfl HX4.out hn2 (by unfold maxLen; simp only [List.length_nil]; omega) (by simp only [List.length_nil]; omega) (by simp) ?_; intro v5 w5 hg5 hb5; rw [List.nil_append] at hg5; obtain ⟨A5, c5, rfl, -⟩ := hg5.slice; have HG5 := Lib.hid hg5; have HB5 := Lib.hid hb5; clear hg5 hb5))
        have hB6 : Below w4.heap.size w4 w6 := (((Below.refl _ _).alloc (Nat.le_refl _) _).trans HB5.out).trans hb6
        rw [HXX.out] at hg6
        obtain ⟨A6, c6, rfl, -, -, hr6⟩ := hg6.slice
        have HQ := Lib.hid (SameWords_any A6 A4 c6 c4 l3 l3 w6 hr6 (HR4.out.below hB6 (Nat.le_refl _)) (by omega) (by omega))
        rw [sameB_self] at HQ
        have HB6 := Lib.hid (bel_on HB4.out hB6)
        clear hg6 hb6 hB6 hr6
        refine HQ.out.mono ?_
        rintro e w' ⟨rfl, m, rfl⟩
        go_wp2
        go_ret
        exact ⟨rfl, bel_drewN HB6.out m⟩
  · cases hf : fewB ls with
    | false =>
      have HF := Lib.hid hf
      clear hf hgo
      go_wp2_with fail
      refine (awake_any _).mono ?_
      rintro e w2 ⟨rfl, hw2⟩
      go_wp2
      go_ret
      exact ⟨rfl, bel_on hw1 hw2⟩
    | true =>
      have HF := Lib.hid hf
      by_cases h1 : 1099511627776 < a
      · clear hf hgo
        go_wp2_with fail
        refine (awake_any _).mono ?_
        rintro e w2 ⟨rfl, hw2⟩
        go_wp2
        go_ret
        exact ⟨rfl, bel_on hw1 hw2⟩
      · have h2 : a < -1099511627776 := by
          rcases Int.lt_or_le a (-1099511627776) with h | h
          · exact h
          · exact absurd ⟨hf, by omega, h⟩ hgo
        clear hf hgo
        go_wp2_with fail
        refine (awake_any _).mono ?_
        rintro e w2 ⟨rfl, hw2⟩
        go_wp2
        go_ret
        exact ⟨rfl, bel_on hw1 hw2⟩

set_option maxHeartbeats 4000000 in
theorem Alias5_walk (A : Option Addr) (c : Nat) (l : List Int) (a n : Int) (w : World) (hA : Ri w .u64 A l) (hl : Wds l) (hnil : A = none → c = 0) (hlm : l.length ≤ 9223372036854775807) (ha0 : 0 ≤ a) (ha1 : a < 256) (hn0 : 0 ≤ n) (hn1 : n < 256) :
    Calls Try.prog 6 #[.slice A l.length c, .int .u8 a, .int .u8 n] w fun e w' => e = .returned (.bool true) ∧ Below w.heap.size w w' := by
  obtain ⟨i0, hi0, hz0, hz1, hz2⟩ := info_parts int64_info
  by_cases hlong : l.length ≤ 300
  · go_enter Try.func6, Try.ntmps6
    go_wp2_with fail
    refine (awake_any _).mono ?_
    rintro e w1 ⟨rfl, hw1⟩
    have HA1 := Lib.hid ((hA.below hw1 (Nat.le_refl _)).alloc (.cells #[] 25))
    go_wp2_with (at_builtin; refine wpList_appN rfl (.tmp 20) (.tmp 21) 28 rfl Try.underlying28 hi0 hz0 hz1 hz2 rfl (Got.empty_made w1 25 .u64 (base := w1.heap.size) (Nat.le_refl _)) rfl HA1.out hnil (by unfold maxLen; simp only [List.length_nil]; omega) (by simp only [List.length_nil]; omega) (by simp) ?_; intro v2 w2 hg2 hb2; rw [List.nil_append] at hg2; obtain ⟨A2, c2, rfl, -⟩ := hg2.slice; have HG2 := Lib.hid hg2; have HB2 := Lib.hid hb2; clear hg2 hb2)
    have hB2 : Below w.heap.size w w2 := bel_on hw1 (((Below.refl _ _).alloc (Nat.le_refl _) _).trans HB2.out)
    have hH : Holds w2 (.slice A2 l.length c2) l := HG2.out.holds
    have hsg := sg_lit1 w2 (.slice A2 l.length c2) l 28 w2.heap.size rfl hH
    have hfit : Fits [l] := by
      intro j
      match j with
      | 0 => show l.length ≤ _; omega
      | k + 1 => rw [seg_out (by simp)]; simp
    have hle : (sliceX [l] 0 a n).length ≤ 300 := sliceX_le (ls := [l]) (by
      intro j
      match j with
      | 0 => exact hlong
      | k + 1 => rw [seg_out (by simp)]; simp) 0 a n
    have HSL := Lib.hid (ASlice_any (some ⟨w2.heap.size, 0, none⟩) 1 [l] 0 a n _ hsg (by simp) hfit (by omega) (by omega) (by omega) (by omega) (by omega) (by omega))
    rw [show ([l] : List (List Int)).length = 1 from rfl] at HSL
    have HW2 := Lib.hid hB2
    have HR2 := Lib.hid HG2.out.ri.1
    clear hw1 HA1 hB2 hH hsg hfit
    generalize inB [l] 0 a n = x at *
    generalize sliceX [l] 0 a n = zs at *
    refine HSL.out.mono ?_
    rintro e w3 ⟨v3, rfl, hg3, hw3⟩
    obtain ⟨A3, c3, rfl, -⟩ := hg3.slice
    have hw23 : Below w2.heap.size w2 w3 := ((Below.refl _ _).alloc (Nat.le_refl _) _).trans (hw3.mono (by simp))
    have HR3 := Lib.hid (HR2.out.below hw23 (Nat.le_refl _))
    have HB3 := Lib.hid (bel_on HW2.out hw23)
    have hbase : w2.heap.size ≤ (w2.alloc (.cells #[.slice A2 l.length c2] 28)).heap.size := by simp
    have HG3 := Lib.hid (hg3.mono hbase)
    have hsz := hw23.size
    have HH := Lib.hid hw23
    clear hg3 hw3 hw23 hbase
    generalize hZ : zs.length = Z at *
    have HZ := Lib.hid hZ
    clear hZ
    go_wp2
    go_loopw [11] (fun i wr => ∃ (k : Nat) (ys : List Int), k ≤ Z ∧ i = .int .i64 k ∧ ys.length = Z ∧ Got wr w2.heap.size 25 .u64 (.slice A3 Z c3) ys ∧ Below w2.heap.size w2 wr) (fun i _ => Z - (intOf i).toNat)
    case atStart => exact ⟨0, zs, by omega, rfl, HZ.out, HG3.out, HH.out⟩
    case round =>
      obtain ⟨k, ys, hk, rfl, hyl, hgy, hby⟩ := hrel
      by_cases hlt : k < Z
      · obtain ⟨g, rfl, hg1, hg2, hnz⟩ := hgy.addr (by omega)
        have hgy' := hgy.cast (congrArg (fun n => Value.slice (some ⟨g, 0, none⟩) n c3) hnz) rfl
        have hcell := hgy'.cell k (by omega)
        have hfree := hgy'.free k
        have HNZ := Lib.hid hnz
        have HGY := Lib.hid hgy'
        have HBY := Lib.hid hby
        have HYL := Lib.hid hyl
        clear hgy hgy' hby hnz hyl
        have hk1 : (k : Int) < (Z : Int) := by omega
        go_wp2
        go_roundw
        case rel =>
          exact ⟨k + 1, _, by omega, by go_num, by rw [List.length_set]; exact HYL.out, (HGY.out.put k _).cast (by rw [← HNZ.out]) rfl, HBY.out.setCell (by show w2.heap.size ≤ g; omega) _⟩
        case measure => simp [intOf]; omega
      · obtain rfl : k = Z := by omega
        have hb5 := bel_on HW2.out hby
        have HQ := Lib.hid (SameWords_any A2 A c2 c l l _ (HR2.out.below hby (Nat.le_refl _)) (hA.below hb5 (Nat.le_refl _)) hlm hlm)
        rw [sameB_self] at HQ
        have HB5 := Lib.hid hb5
        clear hgy hby hyl hb5
        go_wp2_with fail
        refine HQ.out.mono ?_
        rintro e w' ⟨rfl, m, rfl⟩
        go_wp2
        go_ret
        exact ⟨rfl, bel_drewN HB5.out m⟩
  · have hgt : (300 : Int) < (l.length : Int) := by omega
    go_enter Try.func6, Try.ntmps6
    go_wp2_with fail
    refine (awake_any _).mono ?_
    rintro e w1 ⟨rfl, hw1⟩
    go_wp2_with fail
    refine (awake_any _).mono ?_
    rintro e w2 ⟨rfl, hw2⟩
    go_wp2
    go_ret
    exact ⟨rfl, bel_on hw1 hw2⟩
end Go.Proofs.Ytklahnpimdgpiaa
