/- The laws of layer 1 on signed fields, and that the functions are those of the reference. -/
import Derived.Test.YtlfaincapinpfaaLaw01a
namespace Go.Proofs.Ytlfaincapinpfaa
open Go.ChangeShapes Go.WideShapes Go.ChangeAt Go.RowKit
set_option linter.unusedVariables false

theorem fld_sgn (x a n : Int) (h1 : 1 ≤ n) (h2 : n ≤ 64) : fld (sgn x a n % 18446744073709551616) 0 n = fld x a n := by
  have hl := fld_lt x a n
  have h0 := fld_nonneg x a n
  have hm := sgn_bd x a n h1 h2
  have key : ∀ y : Int, 0 ≤ y → y < 2 ^ n.toNat → ∀ z : Int, (z = y ∨ z = y - 2 ^ n.toNat) → fld (z % 18446744073709551616) 0 n = y := by
    intro y hy0 hy z hz
    obtain ⟨m, rfl⟩ : ∃ m : Nat, n = (m : Int) := ⟨n.toNat, by omega⟩
    rw [Int.toNat_natCast] at hy hz
    have hd : (18446744073709551616 : Int) = 2 ^ m * 2 ^ (64 - m) := by rw [← Int.pow_add, show m + (64 - m) = 64 by omega]; rfl
    have hp : (0 : Int) < 2 ^ m := Int.pow_pos (by decide)
    have e : (z % 18446744073709551616) % 2 ^ m = y := by
      rw [Int.emod_emod_of_dvd z (by rw [hd]; exact Int.dvd_mul_right _ _)]
      rcases hz with rfl | rfl
      · exact Int.emod_eq_of_lt hy0 hy
      · rw [Int.sub_emod_right]; exact Int.emod_eq_of_lt hy0 hy
    have hz0 : 0 ≤ z % 18446744073709551616 := Int.emod_nonneg _ (by decide)
    unfold fld fldN
    rw [Int.toNat_natCast, show (0 : Int).toNat = 0 from rfl, Nat.pow_zero, Nat.div_one]
    generalize z % 18446744073709551616 = t at *
    obtain ⟨T, rfl⟩ := Int.eq_ofNat_of_zero_le hz0
    rw [Int.toNat_natCast, ← e]
    simp
  apply key _ h0 hl
  unfold sgn
  split
  · exact .inr rfl
  · exact .inl rfl

theorem fld_top (x a n : Int) (h1 : 1 ≤ n) (h2 : 0 ≤ a) (h5 : 0 ≤ x) : fld x (a + n - 1) 1 = if 2 ^ (n.toNat - 1) ≤ fld x a n then 1 else 0 := by
  obtain ⟨X, rfl⟩ := Int.eq_ofNat_of_zero_le h5
  obtain ⟨A, rfl⟩ := Int.eq_ofNat_of_zero_le h2
  obtain ⟨m, rfl⟩ : ∃ m : Nat, n = (m : Int) + 1 := ⟨(n - 1).toNat, by omega⟩
  unfold fld
  rw [show ((m : Int) + 1).toNat = m + 1 by omega, show ((A : Int) + ((m : Int) + 1) - 1).toNat = A + m by omega, show m + 1 - 1 = m by omega, show (1 : Int).toNat = 1 from rfl]
  simp only [Int.toNat_natCast]
  have hs := fldN_step X A m
  have hl := fldN_lt X A m
  have hb : fldN X (A + m) 1 = X / 2 ^ (A + m) % 2 := by unfold fldN; rw [Nat.pow_one]
  have e : (2 : Int) ^ m = ((2 ^ m : Nat) : Int) := by simp
  have hc : (2 : Int) ^ m ≤ ((fldN X A (m + 1) : Nat) : Int) ↔ X / 2 ^ (A + m) % 2 = 1 := by
    rw [hs, e]
    have h2 : X / 2 ^ (A + m) % 2 = 0 ∨ X / 2 ^ (A + m) % 2 = 1 := by omega
    rcases h2 with h2 | h2
    · rw [h2]; omega
    · rw [h2]; omega
  by_cases h : X / 2 ^ (A + m) % 2 = 1
  · rw [if_pos (hc.2 h), hb, h]; rfl
  · have h0 : X / 2 ^ (A + m) % 2 = 0 := by omega
    rw [if_neg (fun h' => h (hc.1 h')), hb, h0]; rfl

theorem sgn_neg (x a n : Int) (h1 : 1 ≤ n) (h2 : 0 ≤ a) (h5 : 0 ≤ x) : sgn x a n < 0 ↔ fld x (a + n - 1) 1 = 1 := by
  have hl := fld_lt x a n
  have h0 := fld_nonneg x a n
  rw [fld_top x a n h1 h2 h5]
  unfold sgn
  by_cases hc : 2 ^ (n.toNat - 1) ≤ fld x a n
  · rw [if_pos hc, if_pos hc]; omega
  · rw [if_neg hc, if_neg hc]; omega

theorem sgn_range (x a n : Int) (h1 : 1 ≤ n) : -p2 (n - 1) ≤ sgn x a n ∧ sgn x a n < p2 (n - 1) := by
  have hl := fld_lt x a n
  have h0 := fld_nonneg x a n
  rw [sgn_ref x a n h1]
  have := p2_succ (n - 1).toNat
  rw [show (((n - 1).toNat : Int)) = n - 1 by omega, show n - 1 + 1 = n by omega] at this
  have e : (2 : Int) ^ n.toNat = p2 n := rfl
  rw [e, this] at hl
  split <;> omega

theorem p2_lt (n : Int) (h : n ≤ 62) : p2 n < 9223372036854775808 := by
  have := Nat.pow_le_pow_right (n := 2) (by decide) (show n.toNat ≤ 62 by omega)
  have e : (2 : Int) ^ n.toNat = ((2 ^ n.toNat : Nat) : Int) := by simp
  unfold p2
  rw [e]; omega

attribute [local irreducible] p2

set_option maxHeartbeats 1000000 in
theorem SignedFields_walk (x p q : Int) (w : World) (hx : 0 ≤ x) (hx2 : x < 18446744073709551616) (hp : 0 ≤ p) (hp2 : p ≤ 255) (hq : 0 ≤ q) (hq2 : q ≤ 255) :
    Calls Try.prog 6 #[.int .u64 x, .int .u8 p, .int .u8 q] w fun e w' => e = .returned (.bool true) ∧ Below w.heap.size w w' := by
  go_enter Try.func6, Try.ntmps6
  go_wp2_with fail
  refine (awake_any _).mono ?_
  rintro e w1 ⟨rfl, hb⟩
  have HB := Lib.hid hb
  clear hb
  go_wp2_with fail
  refine (Place_ex _ _ _ hp hp2 hq hq2).mono ?_
  rintro e w' ⟨a, n, rfl, hn1, ha, han, rfl⟩
  go_wp2_with fail
  refine (Signed_any _ _ _ _ (by omega) (by omega) (by omega) (by omega) (by omega)).mono ?_
  rintro e w' ⟨rfl, rfl⟩
  go_wp2_with fail
  refine (Field_any _ _ _ _ (by omega) (by omega) (by omega) (by omega) (by omega)).mono ?_
  rintro e w' ⟨rfl, rfl⟩
  have b1 := fld_bd x a n (by omega)
  have b2 := sgn_bd x a n hn1 (by omega)
  have b3 := fld_bd x (a + n - 1) 1 (by omega)
  have b4 : 0 ≤ IntKind.u64.wrap (sgn x a n) ∧ IntKind.u64.wrap (sgn x a n) < 18446744073709551616 := by rw [IntKind.wrap_u64]; omega
  have t1 : (fld (IntKind.u64.wrap (sgn x a n)) 0 n != fld x a n) = false := by rw [IntKind.wrap_u64, fld_sgn x a n hn1 (by omega)]; simp
  have hneg := sgn_neg x a n hn1 ha hx
  go_wp2_with fail
  refine (Field_any _ _ _ _ (by omega) (by omega) (by omega) (by omega) (by omega)).mono ?_
  rintro e w' ⟨rfl, rfl⟩
  by_cases hs : sgn x a n < 0
  · have t2 : (fld x (a + n - 1) 1 == 1) = true := by simp [hneg.1 hs]
    clear hneg
    by_cases h64 : n = 64
    · subst h64
      have t3 : (sgn x a 64 == wrap64 (fld x a 64)) = true := by simp [sgn_64]
      go_wp2_with (go_at_call 18; refine (Field_any _ _ _ _ (by omega) (by omega) (by omega) (by omega) (by omega)).mono ?_; rintro e w' ⟨rfl, rfl⟩)
      go_ret
      exact ⟨rfl, HB.out⟩
    · have hr := sgn_range x a n hn1
      have hp1 := p2_pos (n - 1)
      have hp4 := p2_lt (n - 1) (by omega)
      have t3 : (n == 64) = false := by simp [h64]
      have t4 : decide (-p2 (n - 1) ≤ sgn x a n) = true := by simp; omega
      have t5 : decide (sgn x a n < p2 (n - 1)) = true := by simp; omega
      clear hr
      go_wp2_with (first
        | (go_at_call 18; refine (Field_any _ _ _ _ (by omega) (by omega) (by omega) (by omega) (by omega)).mono ?_; rintro e w' ⟨rfl, rfl⟩)
        | (go_at_call 24; refine (Pow_any _ _ (by omega) (by omega)).mono ?_; rintro e w' ⟨rfl, rfl⟩))
      go_ret
      exact ⟨rfl, HB.out⟩
  · have t2 : (fld x (a + n - 1) 1 == 1) = false := by simp; exact fun h => hs (hneg.2 h)
    clear hneg
    by_cases h64 : n = 64
    · subst h64
      have t3 : (sgn x a 64 == wrap64 (fld x a 64)) = true := by simp [sgn_64]
      go_wp2_with (go_at_call 18; refine (Field_any _ _ _ _ (by omega) (by omega) (by omega) (by omega) (by omega)).mono ?_; rintro e w' ⟨rfl, rfl⟩)
      go_ret
      exact ⟨rfl, HB.out⟩
    · have hr := sgn_range x a n hn1
      have hp1 := p2_pos (n - 1)
      have hp4 := p2_lt (n - 1) (by omega)
      have t3 : (n == 64) = false := by simp [h64]
      have t4 : decide (-p2 (n - 1) ≤ sgn x a n) = true := by simp; omega
      have t5 : decide (sgn x a n < p2 (n - 1)) = true := by simp; omega
      clear hr
      go_wp2_with (first
        | (go_at_call 18; refine (Field_any _ _ _ _ (by omega) (by omega) (by omega) (by omega) (by omega)).mono ?_; rintro e w' ⟨rfl, rfl⟩)
        | (go_at_call 24; refine (Pow_any _ _ (by omega) (by omega)).mono ?_; rintro e w' ⟨rfl, rfl⟩))
      go_ret
      exact ⟨rfl, HB.out⟩
end Go.Proofs.Ytlfaincapinpfaa
