/- What the reference functions of layer 1 do, each by a contract. -/
import Derived.Test.YtekcmifgdlmljaaWord
namespace Go.Proofs.Ytekcmifgdlmljaa
open Go.ChangeShapes Go.WideShapes Go.ChangeAt Go.RowKit
set_option linter.unusedVariables false

/-- are the two lists the same? -/
def sameB (a b : List Int) : Bool := decide (a = b)

theorem sameB_no (a b : List Int) (k : Nat) (h : zat a k ≠ zat b k) : sameB a b = false := by
  unfold sameB
  simp
  rintro rfl
  exact h rfl

theorem sameB_len (a b : List Int) (h : a.length ≠ b.length) : sameB a b = false := by
  unfold sameB
  simp
  rintro rfl
  exact h rfl

theorem sameB_yes (a b : List Int) (hl : a.length = b.length) (h : ∀ i, i < a.length → zat a i = zat b i) : sameB a b = true := by
  unfold sameB
  simp [ext_zat hl h]

theorem sameB_self (a : List Int) : sameB a a = true := by simp [sameB]

/-! ## Numbers -/
def p2 (n : Int) : Int := 2 ^ n.toNat

theorem p2_pos (n : Int) : 1 ≤ p2 n := by
  have : (0 : Int) < 2 ^ n.toNat := Int.pow_pos (by decide)
  unfold p2; omega

theorem p2_bd (n : Int) (h : n ≤ 63) : p2 n ≤ 9223372036854775808 := by
  have := Nat.pow_le_pow_right (n := 2) (by decide) (show n.toNat ≤ 63 by omega)
  have e : (2 : Int) ^ n.toNat = ((2 ^ n.toNat : Nat) : Int) := by simp
  unfold p2
  rw [e]; omega

theorem p2_succ (k : Nat) : p2 ((k : Int) + 1) = p2 k * 2 := by
  unfold p2
  rw [show ((k : Int) + 1).toNat = k + 1 by omega, Int.toNat_natCast, Int.pow_succ]

theorem Pow_any (n : Int) (w : World) (h0 : 0 ≤ n) (h1 : n ≤ 63) :
    Calls Try.prog 16 #[.int .i64 n] w fun e w' => e = .returned (.int .u64 (p2 n)) ∧ w = w' := by
  obtain ⟨m, rfl⟩ := Int.eq_ofNat_of_zero_le h0
  go_enter Try.func16, Try.ntmps16
  go_wp2
  go_loop [3, 4] (fun p i => ∃ k : Nat, k ≤ m ∧ i = .int .i64 k ∧ p = .int .u64 (p2 k)) (fun _ i => m - (intOf i).toNat)
  case atStart => exact ⟨0, by omega, rfl, rfl⟩
  case round =>
    obtain ⟨k, hk, rfl, rfl⟩ := hrel
    by_cases hlt : k < m
    · have hp := p2_pos k
      have hb := p2_bd ((k : Int) + 1) (by omega)
      have HS := Lib.hid (p2_succ k)
      rw [HS.out] at hb
      go_wp2
      go_round
      case rel => exact ⟨k + 1, by omega, by go_num, by rw [← HS.out]; go_num⟩
      case measure => simp [intOf]; omega
    · obtain rfl : k = m := by omega
      go_wp2
      go_ret
      exact ⟨rfl, rfl⟩

theorem fld_zero (x a : Int) : fld x a 0 = 0 := by simp [fld, fldN, Nat.mod_one]

theorem fld_succ (x a : Int) (k : Nat) (hx : 0 ≤ x) (ha : 0 ≤ a) : fld x a ((k : Int) + 1) = fld x a k + x / p2 (a + k) % 2 * p2 k := by
  obtain ⟨X, rfl⟩ := Int.eq_ofNat_of_zero_le hx
  obtain ⟨A, rfl⟩ := Int.eq_ofNat_of_zero_le ha
  unfold fld p2
  rw [show ((k : Int) + 1).toNat = k + 1 by omega, show ((A : Int) + k).toNat = A + k by omega]
  simp only [Int.toNat_natCast]
  rw [fldN_step]
  simp

theorem ins_bit (x a n v : Int) (k : Nat) (h1 : 0 ≤ n) (h2 : 0 ≤ a) (h3 : a + n ≤ 64) (h5 : 0 ≤ x) (h6 : x < 18446744073709551616) (h7 : 0 ≤ v) :
    ins x a n v / p2 k % 2 = if a ≤ k ∧ (k : Int) < a + n then v / p2 (k - a) % 2 else x / p2 k % 2 := by
  obtain ⟨X, rfl⟩ := Int.eq_ofNat_of_zero_le h5
  obtain ⟨V, rfl⟩ := Int.eq_ofNat_of_zero_le h7
  obtain ⟨A, rfl⟩ := Int.eq_ofNat_of_zero_le h2
  obtain ⟨N, rfl⟩ := Int.eq_ofNat_of_zero_le h1
  have hb := insN_bit X A N V k (by omega) (by omega)
  unfold ins p2
  rw [show ((k : Int) - A).toNat = k - A by omega]
  simp only [Int.toNat_natCast]
  have hk := bit_num (insN X A N V) k
  have hv := bit_num V (k - A)
  have hx := bit_num X k
  have e1 : ((insN X A N V : Nat) : Int) / 2 ^ k % 2 = ((insN X A N V / 2 ^ k % 2 : Nat) : Int) := by simp
  have e2 : (V : Int) / 2 ^ (k - A) % 2 = ((V / 2 ^ (k - A) % 2 : Nat) : Int) := by simp
  have e3 : (X : Int) / 2 ^ k % 2 = ((X / 2 ^ k % 2 : Nat) : Int) := by simp
  rw [e1, e2, e3, hk, hv, hx, hb]
  by_cases hc : A ≤ k ∧ k < A + N
  · have hc' : (A : Int) ≤ k ∧ (k : Int) < A + N := by omega
    rw [if_pos hc, if_pos hc']
  · have hc' : ¬ ((A : Int) ≤ k ∧ (k : Int) < A + N) := by omega
    rw [if_neg hc, if_neg hc']

theorem fld_all (x : Int) (h1 : 0 ≤ x) (h2 : x < 18446744073709551616) : fld x 0 64 = x := by
  have h : x.toNat < 2 ^ 64 := by omega
  unfold fld fldN
  rw [show (64 : Int).toNat = 64 from rfl, show (0 : Int).toNat = 0 from rfl, Nat.pow_zero, Nat.div_one, Nat.mod_eq_of_lt h]
  omega

theorem quo_bd (x n : Int) (h5 : 0 ≤ x) (h6 : x < 18446744073709551616) : 0 ≤ x / p2 n ∧ x / p2 n < 18446744073709551616 := by
  have hp := p2_pos n
  have h1 := Int.ediv_nonneg h5 (by omega : 0 ≤ p2 n)
  have h2 := Int.ediv_le_self (p2 n) h5
  omega

theorem sgn_ref (x a n : Int) (h : 1 ≤ n) : sgn x a n = if p2 (n - 1) ≤ fld x a n then fld x a n - p2 (n - 1) - p2 (n - 1) else fld x a n := by
  obtain ⟨m, rfl⟩ : ∃ m : Nat, n = (m : Int) + 1 := ⟨(n - 1).toNat, by omega⟩
  unfold sgn p2
  rw [show ((m : Int) + 1).toNat = m + 1 by omega, show ((m : Int) + 1 - 1).toNat = m by omega, show m + 1 - 1 = m by omega, Int.pow_succ]
  split <;> omega

theorem sgn_yes (x a n : Int) (h : 1 ≤ n) (hc : p2 (n - 1) ≤ fld x a n) : fld x a n - p2 (n - 1) - p2 (n - 1) = sgn x a n := by rw [sgn_ref x a n h, if_pos hc]
theorem sgn_no (x a n : Int) (h : 1 ≤ n) (hc : ¬ p2 (n - 1) ≤ fld x a n) : fld x a n = sgn x a n := by rw [sgn_ref x a n h, if_neg hc]
theorem sgn_64 (x a : Int) : wrap64 (fld x a 64) = sgn x a 64 := by
  have h0 := fld_bd x a 64 (by omega)
  rw [sgn_ref x a 64 (by omega)]
  have e : p2 (64 - 1) = 9223372036854775808 := by decide
  rw [e]
  unfold wrap64
  split <;> omega
theorem fld_lt63 (x a n : Int) (h : n ≤ 63) : fld x a n < 9223372036854775808 := by
  have h1 := fld_lt x a n
  have h2 := p2_bd n h
  unfold p2 at h2
  omega

/-- the bytes from place j of a word on, as the reference joins them -/
def tailF (b : List Int) (i j : Nat) : Int := leF (fun t => zat b (8 * i + (j + t))) (8 - j)

theorem tailF_8 (b : List Int) (i : Nat) : tailF b i 8 = 0 := rfl
theorem tailF_0 (b : List Int) (i : Nat) : tailF b i 0 = wordAt b i := by simp [tailF, wordAt]
theorem tailF_step (b : List Int) (i j : Nat) (h : j < 8) : tailF b i j = tailF b i (j + 1) * 256 + zat b (8 * i + j) := by
  unfold tailF
  rw [show 8 - j = (8 - (j + 1)) + 1 by omega, leF_first]
  simp only [Nat.add_zero]
  congr 2
  apply leF_congr
  intro t _
  congr 1
  omega
theorem tailF_bd {b : List Int} (hb : Bts b) (i j : Nat) : 0 ≤ tailF b i j ∧ tailF b i j < 18446744073709551616 := by
  have h := leF_bd (fun t => zat b (8 * i + (j + t))) (8 - j) (fun t _ => hb.at _)
  have h2 := Nat.pow_le_pow_right (n := 256) (by decide) (show 8 - j ≤ 8 by omega)
  have e : (256 : Int) ^ (8 - j) = ((256 ^ (8 - j) : Nat) : Int) := by simp
  unfold tailF
  rw [e] at h
  omega

set_option maxRecDepth 100000 in
theorem RefBytes_any (A : Option Addr) (c : Nat) (l : List Int) (w : World) (hr : Ri w .u64 A l) (hb : Wds l) (hm : l.length ≤ 17592186044415) :
    Calls Try.prog 13 #[.slice A l.length c] w fun e w' => ∃ v, e = .returned v ∧ Got w' w.heap.size 5 .u8 v (bytesOf l) ∧ Below w.heap.size w w' := by
  obtain ⟨i0, hi, hz0, hz1, hz2⟩ := info_parts int8_info
  have Hr := Lib.hid hr
  have Hb := Lib.hid hb
  clear hr hb
  go_enter Try.func13, Try.ntmps13
  go_wp2
  go_loopw [3, 4] (fun v i wr => ∃ k : Nat, k ≤ l.length ∧ i = .int .i64 k ∧ Got wr w.heap.size 5 .u8 v (bytesOf (l.take k)) ∧ Below w.heap.size w wr) (fun _ i _ => l.length - (intOf i).toNat)
  case atStart => exact ⟨0, by omega, rfl, Got.empty _ _ _ _, Below.refl _ _⟩
  case round =>
    obtain ⟨k, hk, rfl, hgk, hbk⟩ := hrel
    obtain ⟨wo, rfl⟩ : ∃ wo : World, wo = wr := ⟨_, rfl⟩
    by_cases hlt : k < l.length
    · obtain ⟨g, off, rfl, hc3⟩ := (Hr.out.below hbk (Nat.le_refl _)).at hlt
      have hcell := hc3 k hlt
      have hzk := Hb.out.at k
      clear hc3
      have hl : (k : Int) < (l.length : Int) := by omega
      have HB := Lib.hid hbk
      have HG := Lib.hid hgk
      clear hbk hgk
      go_wp2
      go_loopw [3, 5, 6] (fun v x j wr => ∃ m : Nat, m ≤ 8 ∧ j = .int .i64 m ∧ x = .int .u64 (zat l k / 256 ^ m) ∧ Got wr w.heap.size 5 .u8 v (bytesOf (l.take k) ++ (bytes8 (zat l k)).take m) ∧ Below w.heap.size w wr) (fun _ _ j _ => 8 - (intOf j).toNat)
      case atStart => exact ⟨0, by omega, rfl, by simp, by simpa using HG.out, HB.out⟩
      case round =>
        obtain ⟨m, hmm, rfl, rfl, hgm, hbm⟩ := hrel
        by_cases hm8 : m < 8
        · have hq : 0 ≤ zat l k / 256 ^ m := Int.ediv_nonneg hzk.1 (Int.le_of_lt (Int.pow_pos (by decide)))
          have hq2 : zat l k / 256 ^ m ≤ zat l k := Int.ediv_le_self _ hzk.1
          have HL : Hid ((bytesOf (l.take k) ++ (bytes8 (zat l k)).take m).length = 8 * k + m) := Lib.hid (by rw [List.length_append, bytesOf_length, List.length_take, List.length_take, bytes8_length]; omega)
          have hsz := hbm.size
          have HB2 := Lib.hid hbm
          clear hbm
          go_wp2_with (at_builtin; refine wpList_app1 rfl (.tmp 21) (.tmp 25) 23 rfl Try.underlying23 hi hz0 hz1 hz2 rfl hgm rfl (by rw [HL.out]; unfold maxLen; omega) (by rw [HL.out]; omega) hsz ?_; intro v1 w1 hg1 hb1)
          go_roundw
          case rel =>
            refine ⟨m + 1, by omega, by go_num, ?_, ?_, HB2.out.trans hb1⟩
            · rw [Int.pow_succ, Int.ediv_ediv_of_nonneg (Int.le_of_lt (Int.pow_pos (by decide)))]
            · rw [take_succ_zat _ _ (by rw [bytes8_length]; exact hm8), ← List.append_assoc, bytes8_zat _ _ hm8]
              exact hg1
          case measure => simp [intOf]; omega
        · obtain rfl : m = 8 := by omega
          go_wp2
          go_roundw
          case rel =>
            refine ⟨k + 1, by omega, by go_num, ?_, hbm⟩
            rw [bytesOf_take_succ _ _ hlt]
            exact hgm.cast rfl (by rw [List.take_of_length_le (l := bytes8 (zat l k)) (by rw [bytes8_length]; omega)])
          case measure => simp [intOf]; omega
    · obtain rfl : k = l.length := by omega
      go_wp2
      go_ret
      exact ⟨_, rfl, hgk.cast rfl (by rw [List.take_of_length_le (by omega)]), hbk⟩
end Go.Proofs.Ytekcmifgdlmljaa
