/- Two laws of layer 7. -/
import Derived.Test.YtgicohajmnoedaaAwake07
import Derived.Test.YtgicohajmnoedaaFarW
namespace Go.Proofs.Ytgicohajmnoedaa
open Go.ChangeShapes Go.WideShapes Go.ChangeAt Go.RowKit
set_option linter.unusedVariables false
set_option linter.unusedSimpArgs false

theorem RefFollow_is (A : Option Addr) (c : Nat) (ls : List (List Int)) (s a x y z e0 : Int) (w : World) (hs : Sg w A ls) (hw : Wd2 ls) (hm : ls.length ≤ 140737488355328) (hf : ∀ j, (seg ls j).length ≤ 140737488355328) (hq : followF ls s a = ⟨x, y, z, e0⟩) :
    Calls Try.prog 10 #[.slice A ls.length c, .int .i64 s, .int .i64 a] w fun e w' => e = .returned (.tuple #[.int .u64 x, .int .i64 y, .int .i64 z, .int .i64 e0]) ∧ Below w.heap.size w w' := by
  have h := RefFollow_any A c ls s a w hs hw hm hf
  rw [hq] at h
  exact h
theorem FFollow_is (A : Option Addr) (c : Nat) (ls : List (List Int)) (s a x y z e0 : Int) (w : World) (hs : Sg w A ls) (hw : Wd2 ls) (hm : ls.length ≤ 140737488355328) (hf : ∀ j, (seg ls j).length ≤ 140737488355328)
    (hs0 : -9223372036854775808 ≤ s) (hs1 : s ≤ 9223372036854775807) (ha0 : -9223372036854775808 ≤ a) (ha1 : a ≤ 9223372036854775807) (hq : followF ls s a = ⟨x, y, z, e0⟩) :
    Calls Try.prog 9 #[.slice A ls.length c, .int .i64 s, .int .i64 a] w fun e w' => e = .returned (.tuple #[.int .u64 x, .int .i64 y, .int .i64 z, .int .i64 e0]) ∧ Below w.heap.size w w' := by
  have h := FFollow_any A c ls s a w hs hw hm hf hs0 hs1 ha0 ha1
  rw [hq] at h
  exact h
theorem FIsFar_is (x : Int) (b : Bool) (w : World) (h5 : 0 ≤ x) (h6 : x < 18446744073709551616) (hb : (x % 4 == 2) = b) :
    Calls Try.prog 11 #[.int .u64 x] w fun e w' => e = .returned (.bool b) ∧ Below w.heap.size w w' := by
  subst hb
  exact FIsFar_any x w h5 h6

/-- what following yields: an error with zeros, or a descriptor that is not a far pointer -/
theorem fol_cases {ls : List (List Int)} (hw : Wd2 ls) (s a : Int) :
    (((followF ls s a).e = 2 ∨ (followF ls s a).e = 3) ∧ (followF ls s a).w = 0 ∧ (followF ls s a).s = 0 ∧ (followF ls s a).b = 0) ∨
    ((followF ls s a).e = 0 ∧ (followF ls s a).w % 4 ≠ 2 ∧ hasB ls s a = true ∧ (wordV ls s a % 4 = 2 ∨ ((followF ls s a).w = wordV ls s a ∧ (followF ls s a).s = s ∧ (followF ls s a).b = a + 1))) := by
  unfold followF
  by_cases h1 : hasB ls s a = false
  · rw [if_pos h1]; exact .inl ⟨.inl rfl, rfl, rfl, rfl⟩
  rw [if_neg h1]
  have h1' : hasB ls s a = true := by simpa using h1
  by_cases h2 : (wordV ls s a % 4 == 2) = false
  · rw [if_pos h2]
    refine .inr ⟨rfl, ?_, h1', .inr ⟨rfl, rfl, rfl⟩⟩
    simpa using h2
  rw [if_neg h2]
  have h2' : wordV ls s a % 4 = 2 := by simpa using h2
  by_cases h3 : hasB ls (wordV ls s a / 4294967296) (wordV ls s a % 4294967296 / 8) = false
  · rw [if_pos h3]; exact .inl ⟨.inl rfl, rfl, rfl, rfl⟩
  rw [if_neg h3]
  by_cases h4 : wordV ls s a / 4 % 2 = 0
  · rw [if_pos h4]
    by_cases h5 : (wordV ls (wordV ls s a / 4294967296) (wordV ls s a % 4294967296 / 8) % 4 == 2) = true
    · rw [if_pos h5]; exact .inl ⟨.inr rfl, rfl, rfl, rfl⟩
    · rw [if_neg h5]
      refine .inr ⟨rfl, ?_, h1', .inl h2'⟩
      simpa using h5
  rw [if_neg h4]
  by_cases h6 : hasB ls (wordV ls s a / 4294967296) (wordV ls s a % 4294967296 / 8 + 1) = false
  · rw [if_pos h6]; exact .inl ⟨.inl rfl, rfl, rfl, rfl⟩
  rw [if_neg h6]
  split
  · exact .inl ⟨.inr rfl, rfl, rfl, rfl⟩
  · rename_i h7
    refine .inr ⟨rfl, ?_, h1', .inl h2'⟩
    have b2 := (wordV_bd hw (wordV ls s a / 4294967296) (wordV ls s a % 4294967296 / 8 + 1)).1
    have h8 : ¬ 1 < (decP (wordV ls (wordV ls s a / 4294967296) (wordV ls s a % 4294967296 / 8 + 1))).k := fun h => h7 (.inr (.inr (.inl h)))
    rw [decP_k _ b2] at h8
    show wordV ls (wordV ls s a / 4294967296) (wordV ls s a % 4294967296 / 8 + 1) % 4 ≠ 2
    omega
theorem fol_bd {ls : List (List Int)} (hw : Wd2 ls) (s a : Int) : 0 ≤ (followF ls s a).w ∧ (followF ls s a).w < 18446744073709551616 := by
  unfold followF
  have b1 := wordV_bd hw s a
  have b2 := wordV_bd hw (wordV ls s a / 4294967296) (wordV ls s a % 4294967296 / 8)
  have b3 := wordV_bd hw (wordV ls s a / 4294967296) (wordV ls s a % 4294967296 / 8 + 1)
  repeat' split
  all_goals first | exact b1 | exact b2 | exact b3 | (show (0 : Int) ≤ 0 ∧ (0 : Int) < 18446744073709551616; omega)

attribute [local irreducible] followF fewB hasB wordV


set_option maxHeartbeats 4000000 in
set_option maxRecDepth 100000 in
theorem MR7_walk (A : Option Addr) (c : Nat) (ls : List (List Int)) (s a v : Int) (w : World) (hA : Sg w A ls) (hw : Wd2 ls) (hnil : A = none → c = 0) (hlm : ls.length ≤ 9223372036854775807) (hlc : ls.length ≤ c) (hcm : c ≤ 9223372036854775807)
    (s0 : -9223372036854775808 ≤ s) (s1 : s ≤ 9223372036854775807) (a0 : -9223372036854775808 ≤ a) (a1 : a ≤ 9223372036854775807) (v0 : 0 ≤ v) (v1 : v < 18446744073709551616) :
    Calls Try.prog 3 #[.slice A ls.length c, .int .i64 s, .int .i64 a, .int .u64 v] w fun e w' => e = .returned (.bool true) ∧ Below w.heap.size w w' := by
  go_enter Try.func3, Try.ntmps3
  go_wp2_with fail
  refine (awake_any _).mono ?_
  rintro e w1 ⟨rfl, hw1⟩
  have HS1 := Lib.hid (hA.below hw1 (Nat.le_refl _))
  go_wp2_with fail
  refine (Few_any A c ls _ HS1.out hlm).mono ?_
  rintro e w' ⟨rfl, rfl⟩
  cases hf : fewB ls with
  | false =>
    have HF := Lib.hid hf
    clear hf
    go_wp2_with fail
    refine (awake_any _).mono ?_
    rintro e w2 ⟨rfl, hw2⟩
    go_wp2
    go_ret
    exact ⟨rfl, bel_on hw1 hw2⟩
  | true =>
    have hfit := few_fits hf
    have hm : ls.length ≤ 140737488355328 := by omega
    have HFT : Hid (∀ j, (seg ls j).length ≤ 140737488355328) := Lib.hid (fun j => by have := hfit.1 j; omega)
    have HL300 : Hid (∀ j, (seg ls j).length ≤ 300) := Lib.hid hfit.1
    have hc20 : ls.length ≤ 20 := hfit.2
    clear hfit hf
    obtain ⟨⟨x, y, z, e0⟩, hq⟩ : ∃ q, followF ls s a = q := ⟨_, rfl⟩
    have hx := fol_bd hw s a
    have hcs := fol_cases hw s a
    rw [hq] at hx hcs
    have HQ := Lib.hid hq
    have HB1 := Lib.hid hw1
    have hz1 := hw1.size
    clear hw1 hq
    simp only at hx hcs
    clear hcs
    go_wp2_with fail
    refine (FFollow_is A c ls s a x y z e0 _ HS1.out hw hm HFT.out s0 s1 a0 a1 HQ.out).mono ?_
    rintro e w2 ⟨rfl, hb2⟩
    have HS2 := Lib.hid (HS1.out.below hb2 (Nat.le_refl _))
    have HB2 := Lib.hid (HB1.out.trans (hb2.mono hz1))
    have hz2 := hb2.size
    clear hb2
    go_wp2_with fail
    refine (RefFollow_is A c ls s a x y z e0 _ HS2.out hw hm HFT.out HQ.out).mono ?_
    rintro e w3 ⟨rfl, hb3⟩
    have HB3 := Lib.hid (HB2.out.trans (hb3.mono (by omega)))
    have hz3 := hb3.size
    clear hb3
    go_wp2_with fail
    cases hv : (v % 4 == 2) with
    | false =>
      have HV := Lib.hid hv
      clear hv
      refine (FIsFar_is v false _ v0 v1 HV.out).mono ?_
      rintro e w4 ⟨rfl, hb4⟩
      have HB4 := Lib.hid (HB3.out.trans (hb4.mono (by omega)))
      have hz4 := hb4.size
      clear hb4
      go_wp2_with fail
      refine (IsFar_is v false _ v0 v1 HV.out).mono ?_
      rintro e w' ⟨rfl, rfl⟩
      go_wp2_with fail
      refine (IsFar_is v false _ v0 v1 HV.out).mono ?_
      rintro e w' ⟨rfl, rfl⟩
      go_wp2
      go_ret
      exact ⟨rfl, HB4.out⟩
    | true =>
      have HV := Lib.hid hv
      have HV2 : Hid (v % 4 = 2) := Lib.hid (by simpa using hv)
      clear hv
      refine (FIsFar_is v true _ v0 v1 HV.out).mono ?_
      rintro e w4 ⟨rfl, hb4⟩
      have HB4 := Lib.hid (HB3.out.trans (hb4.mono (by omega)))
      have hz4 := hb4.size
      clear hb4
      go_wp2_with fail
      refine (IsFar_is v true _ v0 v1 HV.out).mono ?_
      rintro e w' ⟨rfl, rfl⟩
      go_wp2_with fail
      refine (IsFar_is v true _ v0 v1 HV.out).mono ?_
      rintro e w' ⟨rfl, rfl⟩
      go_wp2_with fail
      refine (FLanding_any v _ v0 v1 HV2.out).mono ?_
      rintro e w5 ⟨rfl, hb5⟩
      have HB5 := Lib.hid (HB4.out.trans (hb5.mono (by omega)))
      clear hb5
      go_wp2_with fail
      refine (Landing_any v _ v0 v1).mono ?_
      rintro e w' ⟨rfl, rfl⟩
      go_wp2
      go_ret
      exact ⟨rfl, HB5.out⟩

set_option maxHeartbeats 4000000 in
set_option maxRecDepth 100000 in
theorem Desc7_walk (A : Option Addr) (c : Nat) (ls : List (List Int)) (s a : Int) (w : World) (hA : Sg w A ls) (hw : Wd2 ls) (hnil : A = none → c = 0) (hlm : ls.length ≤ 9223372036854775807) (hlc : ls.length ≤ c) (hcm : c ≤ 9223372036854775807)
    (s0 : -9223372036854775808 ≤ s) (s1 : s ≤ 9223372036854775807) (a0 : -9223372036854775808 ≤ a) (a1 : a ≤ 9223372036854775807) :
    Calls Try.prog 5 #[.slice A ls.length c, .int .i64 s, .int .i64 a] w fun e w' => e = .returned (.bool true) ∧ Below w.heap.size w w' := by
  go_enter Try.func5, Try.ntmps5
  go_wp2_with fail
  refine (awake_any _).mono ?_
  rintro e w1 ⟨rfl, hw1⟩
  have HS1 := Lib.hid (hA.below hw1 (Nat.le_refl _))
  go_wp2_with fail
  refine (Few_any A c ls _ HS1.out hlm).mono ?_
  rintro e w' ⟨rfl, rfl⟩
  cases hf : fewB ls with
  | false =>
    have HF := Lib.hid hf
    clear hf
    go_wp2_with fail
    refine (awake_any _).mono ?_
    rintro e w2 ⟨rfl, hw2⟩
    go_wp2
    go_ret
    exact ⟨rfl, bel_on hw1 hw2⟩
  | true =>
    have hfit := few_fits hf
    have hm : ls.length ≤ 140737488355328 := by omega
    have HFT : Hid (∀ j, (seg ls j).length ≤ 140737488355328) := Lib.hid (fun j => by have := hfit.1 j; omega)
    have HL300 : Hid (∀ j, (seg ls j).length ≤ 300) := Lib.hid hfit.1
    have hc20 : ls.length ≤ 20 := hfit.2
    clear hfit hf
    obtain ⟨⟨x, y, z, e0⟩, hq⟩ : ∃ q, followF ls s a = q := ⟨_, rfl⟩
    have hx := fol_bd hw s a
    have hcs := fol_cases hw s a
    rw [hq] at hx hcs
    have HQ := Lib.hid hq
    have HB1 := Lib.hid hw1
    have hz1 := hw1.size
    clear hw1 hq
    simp only at hx hcs
    go_wp2_with fail
    refine (FFollow_is A c ls s a x y z e0 _ HS1.out hw hm HFT.out s0 s1 a0 a1 HQ.out).mono ?_
    rintro e w2 ⟨rfl, hb2⟩
    have HS2 := Lib.hid (HS1.out.below hb2 (Nat.le_refl _))
    have HB2 := Lib.hid (HB1.out.trans (hb2.mono hz1))
    have hz2 := hb2.size
    clear hb2
    rcases hcs with ⟨h1 | h1, rfl, rfl, rfl⟩ | ⟨rfl, h1, h2, h3⟩
    · subst h1
      clear hx
      go_wp2
      go_ret
      exact ⟨rfl, HB2.out⟩
    · subst h1
      clear hx
      go_wp2
      go_ret
      exact ⟨rfl, HB2.out⟩
    · have HV : Hid ((x % 4 == 2) = false) := Lib.hid (by rw [beq_eq_false_iff_ne]; exact h1)
      have hh : 0 ≤ s ∧ s < ls.length ∧ 0 ≤ a ∧ a < (seg ls s.toNat).length := by unfold hasB at h2; exact of_decide_eq_true h2
      have HH := Lib.hid h2
      have HW : Hid (wordV ls s a = zat (seg ls s.toNat) a.toNat) := Lib.hid (by unfold wordV; rw [h2]; rfl)
      obtain ⟨q1, q2, q3, q4⟩ := hh
      obtain ⟨S, rfl⟩ := Int.eq_ofNat_of_zero_le q1
      obtain ⟨P, rfl⟩ := Int.eq_ofNat_of_zero_le q3
      have hSl : S < ls.length := by omega
      obtain ⟨b, off, A', c', rfl, hcell, hri, -, hc1, hc2⟩ := HS2.out.one hSl
      have hPl : P < (seg ls S).length := by simpa using q4
      obtain ⟨b', off', rfl, hcl⟩ := hri.at hPl
      have hcell2 := hcl P hPl
      have hd := (hw.at S).at P
      have HWD : Hid (wordV ls (S : Int) (P : Int) = zat (seg ls S) P) := Lib.hid (by rw [HW.out]; rfl)
      rw [HWD.out] at h3
      have i1 : decide ((S : Int) < 0) = false := by rw [decide_eq_false_iff_not]; omega
      have i2 : decide ((ls.length : Int) ≤ (S : Int)) = false := by rw [decide_eq_false_iff_not]; omega
      have i3 : decide ((P : Int) < 0) = false := by rw [decide_eq_false_iff_not]; omega
      have i4 : decide (((seg ls S).length : Int) ≤ (P : Int)) = false := by rw [decide_eq_false_iff_not]; omega
      have i5 : (S : Int) < (ls.length : Int) := by omega
      have i6 : (P : Int) < ((seg ls S).length : Int) := by omega
      have i7 : (P : Int) ≤ 300 := by have := HL300.out S; omega
      generalize zat (seg ls S) P = d at *
      clear hcl hri h1 h2 q1 q2 q3 q4 HW HWD
      have HS2' := HS2
      clear HS2
      go_wp2_with fail
      refine (FIsFar_is x false _ hx.1 hx.2 HV.out).mono ?_
      rintro e w3 ⟨rfl, hb3⟩
      have hcB : w3.cell? ⟨b, off + S, none⟩ = some (.slice (some ⟨b', off', none⟩) (seg ls S).length c') := by
        have hlt := World.block_lt_of_cell? w2 ⟨b, off + S, none⟩ hcell
        exact (hb3.cell (p := ⟨b, off + S, none⟩) hlt).trans hcell
      have hcB2 : w3.cell? ⟨b', off' + P, none⟩ = some (.int .u64 d) := by
        have hlt := World.block_lt_of_cell? w2 ⟨b', off' + P, none⟩ hcell2
        exact (hb3.cell (p := ⟨b', off' + P, none⟩) hlt).trans hcell2
      have HB3 := Lib.hid (HB2.out.trans (hb3.mono (by omega)))
      have hz3 := hb3.size
      clear hb3 hcell hcell2
      cases hv : (d % 4 == 2) with
      | true =>
        have HD := Lib.hid hv
        clear h3 hv
        go_wp2_with fail
        refine (FIsFar_is d true _ hd.1 hd.2 HD.out).mono ?_
        rintro e w4 ⟨rfl, hb4⟩
        have HB4 := Lib.hid (HB3.out.trans (hb4.mono (by omega)))
        clear hb4
        go_wp2
        go_ret
        exact ⟨rfl, HB4.out⟩
      | false =>
        have HD := Lib.hid hv
        have h4 : ¬ d % 4 = 2 := by simpa using hv
        rcases h3 with h3 | ⟨rfl, rfl, rfl⟩
        · exact absurd h3 h4
        clear h4 hv
        go_wp2_with fail
        refine (FIsFar_is x false _ hd.1 hd.2 HD.out).mono ?_
        rintro e w4 ⟨rfl, hb4⟩
        have HB4 := Lib.hid (HB3.out.trans (hb4.mono (by omega)))
        clear hb4
        go_wp2
        go_ret
        exact ⟨rfl, HB4.out⟩
end Go.Proofs.Ytgicohajmnoedaa
