/- What the reference functions of layer 1 do, each by a contract. -/
import Derived.Test.YtgleanjfaecceaaWord
namespace Go.Proofs.Ytgleanjfaecceaa
open Go.ChangeShapes Go.WideShapes Go.ChangeAt Go.RowKit
set_option linter.unusedVariables false

/-- are the two lists the same? -/
def sameB (a b : List Int) : Bool := decide (a = b)

theorem sameB_no (a b : List Int) (k : Nat) (h : zat a k ≠ zat b k) : sameB a b = false := by
  unfold sameB
  simp
  rintro rfl
  exact h rfl

theorem sameB_len (a b : List Int) (h : a.length ≠ b.length) : sameB a b = false := by
  unfold sameB
  simp
  rintro rfl
  exact h rfl

theorem sameB_yes (a b : List Int) (hl : a.length = b.length) (h : ∀ i, i < a.length → zat a i = zat b i) : sameB a b = true := by
  unfold sameB
  simp [ext_zat hl h]

theorem sameB_self (a : List Int) : sameB a a = true := by simp [sameB]

theorem Same_any (A B : Option Addr) (c d : Nat) (a b : List Int) (w : World) (ha : Ri w .u8 A a) (hb : Ri w .u8 B b) (hm : a.length ≤ 9223372036854775807) (hm2 : b.length ≤ 9223372036854775807) :
    Calls Try.prog 27 #[.slice A a.length c, .slice B b.length d] w fun e w' => e = .returned (.bool (sameB a b)) ∧ ∃ m, w' = w.drewN m := by
  have Ha := Lib.hid ha
  have Hb := Lib.hid hb
  clear ha hb
  by_cases hl : a.length = b.length
  · have HL := Lib.hid hl
    have hlen : ((a.length : Int) != (b.length : Int)) = false := by simp [hl]
    have hlen2 : ((a.length : Int) == (b.length : Int)) = true := by simp [hl]
    clear hl
    go_enter Try.func27, Try.ntmps27
    go_wp2
    go_loopw [5] (fun i wr => ∃ k : Nat, k ≤ a.length ∧ i = .int .i64 k ∧ (∀ j, j < k → zat a j = zat b j) ∧ ∃ m, wr = w.drewN m) (fun i _ => a.length - (intOf i).toNat)
    case atStart => exact ⟨0, by omega, rfl, by intro j hj; omega, 0, rfl⟩
    case round =>
      obtain ⟨k, hk, rfl, hsame, m, rfl⟩ := hrel
      have HS := Lib.hid hsame
      clear hsame
      by_cases hlt : k < a.length
      · obtain ⟨g, off, rfl, hc1⟩ := Ha.out.at hlt
        have hc1k := hc1 k hlt
        have hltb : k < b.length := by rw [← HL.out]; exact hlt
        obtain ⟨g', off', rfl, hc2⟩ := Hb.out.at hltb
        have hc2k := hc2 k hltb
        clear hc1 hc2
        have hi1 : (k : Int) < (a.length : Int) := by omega
        have hi2 : (k : Int) < (b.length : Int) := by omega
        by_cases hz : zat a k = zat b k
        · have hz1 : (zat a k != zat b k) = false := by simp [hz]
          have hz2 : (zat a k == zat b k) = true := by simp [hz]
          have HZ := Lib.hid hz
          clear hz
          go_wp2
          go_quiet (fail)
          go_wp2
          go_roundw
          case rel => exact ⟨k + 1, by omega, by go_num, fun j hj => by
            by_cases e : j = k
            · subst e; exact HZ.out
            · exact HS.out j (by omega), _, rfl⟩
          case measure => simp [intOf]; omega
        · have hz1 : (zat a k != zat b k) = true := by simp [hz]
          have hz2 : (zat a k == zat b k) = false := by simp [hz]
          have HZ := Lib.hid hz
          clear hz
          go_wp2
          go_quiet (fail)
          go_wp2
          go_ret
          exact ⟨by rw [sameB_no a b k HZ.out]; rfl, _, World.drewN_drewN _ _ _⟩
      · obtain rfl : k = a.length := by omega
        go_wp2
        go_ret
        exact ⟨by rw [sameB_yes a b HL.out HS.out]; rfl, _, rfl⟩
  · have HL := Lib.hid (sameB_len a b hl)
    have hlen : ((a.length : Int) != (b.length : Int)) = true := by simp; omega
    have hlen2 : ((a.length : Int) == (b.length : Int)) = false := by simp; omega
    clear hl
    go_enter Try.func27, Try.ntmps27
    go_wp2
    go_ret
    exact ⟨by rw [HL.out]; rfl, 0, rfl⟩


/-! ## Numbers -/
def p2 (n : Int) : Int := 2 ^ n.toNat

theorem p2_pos (n : Int) : 1 ≤ p2 n := by
  have : (0 : Int) < 2 ^ n.toNat := Int.pow_pos (by decide)
  unfold p2; omega

theorem p2_bd (n : Int) (h : n ≤ 63) : p2 n ≤ 9223372036854775808 := by
  have := Nat.pow_le_pow_right (n := 2) (by decide) (show n.toNat ≤ 63 by omega)
  have e : (2 : Int) ^ n.toNat = ((2 ^ n.toNat : Nat) : Int) := by simp
  unfold p2
  rw [e]; omega

theorem p2_succ (k : Nat) : p2 ((k : Int) + 1) = p2 k * 2 := by
  unfold p2
  rw [show ((k : Int) + 1).toNat = k + 1 by omega, Int.toNat_natCast, Int.pow_succ]

theorem fld_zero (x a : Int) : fld x a 0 = 0 := by simp [fld, fldN, Nat.mod_one]

theorem fld_succ (x a : Int) (k : Nat) (hx : 0 ≤ x) (ha : 0 ≤ a) : fld x a ((k : Int) + 1) = fld x a k + x / p2 (a + k) % 2 * p2 k := by
  obtain ⟨X, rfl⟩ := Int.eq_ofNat_of_zero_le hx
  obtain ⟨A, rfl⟩ := Int.eq_ofNat_of_zero_le ha
  unfold fld p2
  rw [show ((k : Int) + 1).toNat = k + 1 by omega, show ((A : Int) + k).toNat = A + k by omega]
  simp only [Int.toNat_natCast]
  rw [fldN_step]
  simp

theorem ins_bit (x a n v : Int) (k : Nat) (h1 : 0 ≤ n) (h2 : 0 ≤ a) (h3 : a + n ≤ 64) (h5 : 0 ≤ x) (h6 : x < 18446744073709551616) (h7 : 0 ≤ v) :
    ins x a n v / p2 k % 2 = if a ≤ k ∧ (k : Int) < a + n then v / p2 (k - a) % 2 else x / p2 k % 2 := by
  obtain ⟨X, rfl⟩ := Int.eq_ofNat_of_zero_le h5
  obtain ⟨V, rfl⟩ := Int.eq_ofNat_of_zero_le h7
  obtain ⟨A, rfl⟩ := Int.eq_ofNat_of_zero_le h2
  obtain ⟨N, rfl⟩ := Int.eq_ofNat_of_zero_le h1
  have hb := insN_bit X A N V k (by omega) (by omega)
  unfold ins p2
  rw [show ((k : Int) - A).toNat = k - A by omega]
  simp only [Int.toNat_natCast]
  have hk := bit_num (insN X A N V) k
  have hv := bit_num V (k - A)
  have hx := bit_num X k
  have e1 : ((insN X A N V : Nat) : Int) / 2 ^ k % 2 = ((insN X A N V / 2 ^ k % 2 : Nat) : Int) := by simp
  have e2 : (V : Int) / 2 ^ (k - A) % 2 = ((V / 2 ^ (k - A) % 2 : Nat) : Int) := by simp
  have e3 : (X : Int) / 2 ^ k % 2 = ((X / 2 ^ k % 2 : Nat) : Int) := by simp
  rw [e1, e2, e3, hk, hv, hx, hb]
  by_cases hc : A ≤ k ∧ k < A + N
  · have hc' : (A : Int) ≤ k ∧ (k : Int) < A + N := by omega
    rw [if_pos hc, if_pos hc']
  · have hc' : ¬ ((A : Int) ≤ k ∧ (k : Int) < A + N) := by omega
    rw [if_neg hc, if_neg hc']

theorem fld_all (x : Int) (h1 : 0 ≤ x) (h2 : x < 18446744073709551616) : fld x 0 64 = x := by
  have h : x.toNat < 2 ^ 64 := by omega
  unfold fld fldN
  rw [show (64 : Int).toNat = 64 from rfl, show (0 : Int).toNat = 0 from rfl, Nat.pow_zero, Nat.div_one, Nat.mod_eq_of_lt h]
  omega

theorem quo_bd (x n : Int) (h5 : 0 ≤ x) (h6 : x < 18446744073709551616) : 0 ≤ x / p2 n ∧ x / p2 n < 18446744073709551616 := by
  have hp := p2_pos n
  have h1 := Int.ediv_nonneg h5 (by omega : 0 ≤ p2 n)
  have h2 := Int.ediv_le_self (p2 n) h5
  omega

theorem sgn_ref (x a n : Int) (h : 1 ≤ n) : sgn x a n = if p2 (n - 1) ≤ fld x a n then fld x a n - p2 (n - 1) - p2 (n - 1) else fld x a n := by
  obtain ⟨m, rfl⟩ : ∃ m : Nat, n = (m : Int) + 1 := ⟨(n - 1).toNat, by omega⟩
  unfold sgn p2
  rw [show ((m : Int) + 1).toNat = m + 1 by omega, show ((m : Int) + 1 - 1).toNat = m by omega, show m + 1 - 1 = m by omega, Int.pow_succ]
  split <;> omega

theorem sgn_yes (x a n : Int) (h : 1 ≤ n) (hc : p2 (n - 1) ≤ fld x a n) : fld x a n - p2 (n - 1) - p2 (n - 1) = sgn x a n := by rw [sgn_ref x a n h, if_pos hc]
theorem sgn_no (x a n : Int) (h : 1 ≤ n) (hc : ¬ p2 (n - 1) ≤ fld x a n) : fld x a n = sgn x a n := by rw [sgn_ref x a n h, if_neg hc]
theorem sgn_64 (x a : Int) : wrap64 (fld x a 64) = sgn x a 64 := by
  have h0 := fld_bd x a 64 (by omega)
  rw [sgn_ref x a 64 (by omega)]
  have e : p2 (64 - 1) = 9223372036854775808 := by decide
  rw [e]
  unfold wrap64
  split <;> omega
theorem fld_lt63 (x a n : Int) (h : n ≤ 63) : fld x a n < 9223372036854775808 := by
  have h1 := fld_lt x a n
  have h2 := p2_bd n h
  unfold p2 at h2
  omega

/-- the bytes from place j of a word on, as the reference joins them -/
def tailF (b : List Int) (i j : Nat) : Int := leF (fun t => zat b (8 * i + (j + t))) (8 - j)

theorem tailF_8 (b : List Int) (i : Nat) : tailF b i 8 = 0 := rfl
theorem tailF_0 (b : List Int) (i : Nat) : tailF b i 0 = wordAt b i := by simp [tailF, wordAt]
theorem tailF_step (b : List Int) (i j : Nat) (h : j < 8) : tailF b i j = tailF b i (j + 1) * 256 + zat b (8 * i + j) := by
  unfold tailF
  rw [show 8 - j = (8 - (j + 1)) + 1 by omega, leF_first]
  simp only [Nat.add_zero]
  congr 2
  apply leF_congr
  intro t _
  congr 1
  omega
theorem tailF_bd {b : List Int} (hb : Bts b) (i j : Nat) : 0 ≤ tailF b i j ∧ tailF b i j < 18446744073709551616 := by
  have h := leF_bd (fun t => zat b (8 * i + (j + t))) (8 - j) (fun t _ => hb.at _)
  have h2 := Nat.pow_le_pow_right (n := 256) (by decide) (show 8 - j ≤ 8 by omega)
  have e : (256 : Int) ^ (8 - j) = ((256 ^ (8 - j) : Nat) : Int) := by simp
  unfold tailF
  rw [e] at h
  omega

end Go.Proofs.Ytgleanjfaecceaa
