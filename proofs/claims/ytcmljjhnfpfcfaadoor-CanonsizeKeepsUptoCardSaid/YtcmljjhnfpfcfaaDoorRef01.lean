/- What the reference functions of layer 1 do, each by a contract. -/
import Derived.Test.YtcmljjhnfpfcfaaDoorWord
namespace Go.Proofs.YtcmljjhnfpfcfaaDoor
open Go.ChangeShapes Go.WideShapes Go.ChangeAt Go.RowKit
set_option linter.unusedVariables false

/-- are the two lists the same? -/
def sameB (a b : List Int) : Bool := decide (a = b)

theorem sameB_no (a b : List Int) (k : Nat) (h : zat a k ≠ zat b k) : sameB a b = false := by
  unfold sameB
  simp
  rintro rfl
  exact h rfl

theorem sameB_len (a b : List Int) (h : a.length ≠ b.length) : sameB a b = false := by
  unfold sameB
  simp
  rintro rfl
  exact h rfl

theorem sameB_yes (a b : List Int) (hl : a.length = b.length) (h : ∀ i, i < a.length → zat a i = zat b i) : sameB a b = true := by
  unfold sameB
  simp [ext_zat hl h]

theorem sameB_self (a : List Int) : sameB a a = true := by simp [sameB]

theorem Same_any (A B : Option Addr) (c d : Nat) (a b : List Int) (w : World) (ha : Ri w .u8 A a) (hb : Ri w .u8 B b) (hm : a.length ≤ 9223372036854775807) (hm2 : b.length ≤ 9223372036854775807) :
    Calls Tryd.prog 34 #[.slice A a.length c, .slice B b.length d] w fun e w' => e = .returned (.bool (sameB a b)) ∧ ∃ m, w' = w.drewN m := by
  have Ha := Lib.hid ha
  have Hb := Lib.hid hb
  clear ha hb
  by_cases hl : a.length = b.length
  · have HL := Lib.hid hl
    have hlen : ((a.length : Int) != (b.length : Int)) = false := by simp [hl]
    have hlen2 : ((a.length : Int) == (b.length : Int)) = true := by simp [hl]
    clear hl
    go_enter Tryd.func34, Tryd.ntmps34
    go_wp2
    go_loopw [5] (fun i wr => ∃ k : Nat, k ≤ a.length ∧ i = .int .i64 k ∧ (∀ j, j < k → zat a j = zat b j) ∧ ∃ m, wr = w.drewN m) (fun i _ => a.length - (intOf i).toNat)
    case atStart => exact ⟨0, by omega, rfl, by intro j hj; omega, 0, rfl⟩
    case round =>
      obtain ⟨k, hk, rfl, hsame, m, rfl⟩ := hrel
      have HS := Lib.hid hsame
      clear hsame
      by_cases hlt : k < a.length
      · obtain ⟨g, off, rfl, hc1⟩ := Ha.out.at hlt
        have hc1k := hc1 k hlt
        have hltb : k < b.length := by rw [← HL.out]; exact hlt
        obtain ⟨g', off', rfl, hc2⟩ := Hb.out.at hltb
        have hc2k := hc2 k hltb
        clear hc1 hc2
        have hi1 : (k : Int) < (a.length : Int) := by omega
        have hi2 : (k : Int) < (b.length : Int) := by omega
        by_cases hz : zat a k = zat b k
        · have hz1 : (zat a k != zat b k) = false := by simp [hz]
          have hz2 : (zat a k == zat b k) = true := by simp [hz]
          have HZ := Lib.hid hz
          clear hz
          go_wp2
          go_quiet (fail)
          go_wp2
          go_roundw
          case rel => exact ⟨k + 1, by omega, by go_num, fun j hj => by
            by_cases e : j = k
            · subst e; exact HZ.out
            · exact HS.out j (by omega), _, rfl⟩
          case measure => simp [intOf]; omega
        · have hz1 : (zat a k != zat b k) = true := by simp [hz]
          have hz2 : (zat a k == zat b k) = false := by simp [hz]
          have HZ := Lib.hid hz
          clear hz
          go_wp2
          go_quiet (fail)
          go_wp2
          go_ret
          exact ⟨by rw [sameB_no a b k HZ.out]; rfl, _, World.drewN_drewN _ _ _⟩
      · obtain rfl : k = a.length := by omega
        go_wp2
        go_ret
        exact ⟨by rw [sameB_yes a b HL.out HS.out]; rfl, _, rfl⟩
  · have HL := Lib.hid (sameB_len a b hl)
    have hlen : ((a.length : Int) != (b.length : Int)) = true := by simp; omega
    have hlen2 : ((a.length : Int) == (b.length : Int)) = false := by simp; omega
    clear hl
    go_enter Tryd.func34, Tryd.ntmps34
    go_wp2
    go_ret
    exact ⟨by rw [HL.out]; rfl, 0, rfl⟩


/-! ## Numbers -/
def p2 (n : Int) : Int := 2 ^ n.toNat

theorem p2_pos (n : Int) : 1 ≤ p2 n := by
  have : (0 : Int) < 2 ^ n.toNat := Int.pow_pos (by decide)
  unfold p2; omega

theorem p2_bd (n : Int) (h : n ≤ 63) : p2 n ≤ 9223372036854775808 := by
  have := Nat.pow_le_pow_right (n := 2) (by decide) (show n.toNat ≤ 63 by omega)
  have e : (2 : Int) ^ n.toNat = ((2 ^ n.toNat : Nat) : Int) := by simp
  unfold p2
  rw [e]; omega

theorem p2_succ (k : Nat) : p2 ((k : Int) + 1) = p2 k * 2 := by
  unfold p2
  rw [show ((k : Int) + 1).toNat = k + 1 by omega, Int.toNat_natCast, Int.pow_succ]

theorem Pow_any (n : Int) (w : World) (h0 : 0 ≤ n) (h1 : n ≤ 63) :
    Calls Tryd.prog 59 #[.int .i64 n] w fun e w' => e = .returned (.int .u64 (p2 n)) ∧ w = w' := by
  obtain ⟨m, rfl⟩ := Int.eq_ofNat_of_zero_le h0
  go_enter Tryd.func59, Tryd.ntmps59
  go_wp2
  go_loop [3, 4] (fun p i => ∃ k : Nat, k ≤ m ∧ i = .int .i64 k ∧ p = .int .u64 (p2 k)) (fun _ i => m - (intOf i).toNat)
  case atStart => exact ⟨0, by omega, rfl, rfl⟩
  case round =>
    obtain ⟨k, hk, rfl, rfl⟩ := hrel
    by_cases hlt : k < m
    · have hp := p2_pos k
      have hb := p2_bd ((k : Int) + 1) (by omega)
      have HS := Lib.hid (p2_succ k)
      rw [HS.out] at hb
      go_wp2
      go_round
      case rel => exact ⟨k + 1, by omega, by go_num, by rw [← HS.out]; go_num⟩
      case measure => simp [intOf]; omega
    · obtain rfl : k = m := by omega
      go_wp2
      go_ret
      exact ⟨rfl, rfl⟩

theorem fld_zero (x a : Int) : fld x a 0 = 0 := by simp [fld, fldN, Nat.mod_one]

theorem fld_succ (x a : Int) (k : Nat) (hx : 0 ≤ x) (ha : 0 ≤ a) : fld x a ((k : Int) + 1) = fld x a k + x / p2 (a + k) % 2 * p2 k := by
  obtain ⟨X, rfl⟩ := Int.eq_ofNat_of_zero_le hx
  obtain ⟨A, rfl⟩ := Int.eq_ofNat_of_zero_le ha
  unfold fld p2
  rw [show ((k : Int) + 1).toNat = k + 1 by omega, show ((A : Int) + k).toNat = A + k by omega]
  simp only [Int.toNat_natCast]
  rw [fldN_step]
  simp

theorem ins_bit (x a n v : Int) (k : Nat) (h1 : 0 ≤ n) (h2 : 0 ≤ a) (h3 : a + n ≤ 64) (h5 : 0 ≤ x) (h6 : x < 18446744073709551616) (h7 : 0 ≤ v) :
    ins x a n v / p2 k % 2 = if a ≤ k ∧ (k : Int) < a + n then v / p2 (k - a) % 2 else x / p2 k % 2 := by
  obtain ⟨X, rfl⟩ := Int.eq_ofNat_of_zero_le h5
  obtain ⟨V, rfl⟩ := Int.eq_ofNat_of_zero_le h7
  obtain ⟨A, rfl⟩ := Int.eq_ofNat_of_zero_le h2
  obtain ⟨N, rfl⟩ := Int.eq_ofNat_of_zero_le h1
  have hb := insN_bit X A N V k (by omega) (by omega)
  unfold ins p2
  rw [show ((k : Int) - A).toNat = k - A by omega]
  simp only [Int.toNat_natCast]
  have hk := bit_num (insN X A N V) k
  have hv := bit_num V (k - A)
  have hx := bit_num X k
  have e1 : ((insN X A N V : Nat) : Int) / 2 ^ k % 2 = ((insN X A N V / 2 ^ k % 2 : Nat) : Int) := by simp
  have e2 : (V : Int) / 2 ^ (k - A) % 2 = ((V / 2 ^ (k - A) % 2 : Nat) : Int) := by simp
  have e3 : (X : Int) / 2 ^ k % 2 = ((X / 2 ^ k % 2 : Nat) : Int) := by simp
  rw [e1, e2, e3, hk, hv, hx, hb]
  by_cases hc : A ≤ k ∧ k < A + N
  · have hc' : (A : Int) ≤ k ∧ (k : Int) < A + N := by omega
    rw [if_pos hc, if_pos hc']
  · have hc' : ¬ ((A : Int) ≤ k ∧ (k : Int) < A + N) := by omega
    rw [if_neg hc, if_neg hc']

theorem fld_all (x : Int) (h1 : 0 ≤ x) (h2 : x < 18446744073709551616) : fld x 0 64 = x := by
  have h : x.toNat < 2 ^ 64 := by omega
  unfold fld fldN
  rw [show (64 : Int).toNat = 64 from rfl, show (0 : Int).toNat = 0 from rfl, Nat.pow_zero, Nat.div_one, Nat.mod_eq_of_lt h]
  omega

theorem quo_bd (x n : Int) (h5 : 0 ≤ x) (h6 : x < 18446744073709551616) : 0 ≤ x / p2 n ∧ x / p2 n < 18446744073709551616 := by
  have hp := p2_pos n
  have h1 := Int.ediv_nonneg h5 (by omega : 0 ≤ p2 n)
  have h2 := Int.ediv_le_self (p2 n) h5
  omega

theorem RefField_any (x a n : Int) (w : World) (h1 : 1 ≤ n) (h2 : 0 ≤ a) (h3 : a + n ≤ 64) (h5 : 0 ≤ x) (h6 : x < 18446744073709551616) :
    Calls Tryd.prog 58 #[.int .u64 x, .int .i64 a, .int .i64 n] w fun e w' => e = .returned (.int .u64 (fld x a n)) ∧ w = w' := by
  obtain ⟨m, rfl⟩ := Int.eq_ofNat_of_zero_le (by omega : 0 ≤ n)
  go_enter Tryd.func58, Tryd.ntmps58
  go_wp2
  go_loop [7, 8] (fun v i => ∃ k : Nat, k ≤ m ∧ i = .int .i64 k ∧ v = .int .u64 (fld x a k)) (fun _ i => m - (intOf i).toNat)
  case atStart => exact ⟨0, by omega, rfl, by rw [show ((0 : Nat) : Int) = 0 from rfl, fld_zero]⟩
  case round =>
    obtain ⟨k, hk, rfl, rfl⟩ := hrel
    by_cases hlt : k < m
    · have hp := p2_pos (a + k)
      have hp2 := p2_pos k
      have hq := quo_bd x (a + k) h5 h6
      have hb := fld_bd x a k (by omega)
      have hb1 := fld_bd x a (k + 1) (by omega)
      have hs := fld_succ x a k h5 h2
      by_cases hbit : x / p2 (a + k) % 2 = 1
      · rw [hbit, Int.one_mul] at hs
        rw [hs] at hb1
        have t1 : (x / p2 (a + k) % 2 == 1) = true := by simp [hbit]
        have HS := Lib.hid hs
        clear hs hbit
        go_wp2_with (go_at_call 59; refine (Pow_any _ _ (by omega) (by omega)).mono ?_; rintro e w' ⟨rfl, rfl⟩)
        go_round
        case rel => exact ⟨k + 1, by omega, by go_num, by rw [← HS.out]; go_num⟩
        case measure => simp [intOf]; omega
      · have hbit0 : x / p2 (a + k) % 2 = 0 := by omega
        rw [hbit0, Int.zero_mul, Int.add_zero] at hs
        have t1 : (x / p2 (a + k) % 2 == 1) = false := by simp [hbit0]
        have HS := Lib.hid hs
        clear hs hbit hbit0
        go_wp2_with (go_at_call 59; refine (Pow_any _ _ (by omega) (by omega)).mono ?_; rintro e w' ⟨rfl, rfl⟩)
        go_round
        case rel => exact ⟨k + 1, by omega, by go_num, by rw [← HS.out]; go_num⟩
        case measure => simp [intOf]; omega
    · obtain rfl : k = m := by omega
      go_wp2
      go_ret
      exact ⟨rfl, rfl⟩

theorem sgn_ref (x a n : Int) (h : 1 ≤ n) : sgn x a n = if p2 (n - 1) ≤ fld x a n then fld x a n - p2 (n - 1) - p2 (n - 1) else fld x a n := by
  obtain ⟨m, rfl⟩ : ∃ m : Nat, n = (m : Int) + 1 := ⟨(n - 1).toNat, by omega⟩
  unfold sgn p2
  rw [show ((m : Int) + 1).toNat = m + 1 by omega, show ((m : Int) + 1 - 1).toNat = m by omega, show m + 1 - 1 = m by omega, Int.pow_succ]
  split <;> omega

theorem sgn_yes (x a n : Int) (h : 1 ≤ n) (hc : p2 (n - 1) ≤ fld x a n) : fld x a n - p2 (n - 1) - p2 (n - 1) = sgn x a n := by rw [sgn_ref x a n h, if_pos hc]
theorem sgn_no (x a n : Int) (h : 1 ≤ n) (hc : ¬ p2 (n - 1) ≤ fld x a n) : fld x a n = sgn x a n := by rw [sgn_ref x a n h, if_neg hc]
theorem sgn_64 (x a : Int) : wrap64 (fld x a 64) = sgn x a 64 := by
  have h0 := fld_bd x a 64 (by omega)
  rw [sgn_ref x a 64 (by omega)]
  have e : p2 (64 - 1) = 9223372036854775808 := by decide
  rw [e]
  unfold wrap64
  split <;> omega
theorem fld_lt63 (x a n : Int) (h : n ≤ 63) : fld x a n < 9223372036854775808 := by
  have h1 := fld_lt x a n
  have h2 := p2_bd n h
  unfold p2 at h2
  omega

theorem RefSigned_any (x a n : Int) (w : World) (h1 : 1 ≤ n) (h2 : 0 ≤ a) (h3 : a + n ≤ 64) (h5 : 0 ≤ x) (h6 : x < 18446744073709551616) :
    Calls Tryd.prog 57 #[.int .u64 x, .int .i64 a, .int .i64 n] w fun e w' => e = .returned (.int .i64 (sgn x a n)) ∧ w = w' := by
  have hb := fld_bd x a n (by omega)
  by_cases hn : n = 64
  · subst hn
    go_enter Tryd.func57, Tryd.ntmps57
    go_wp2_with (go_at_call 58; refine (RefField_any _ _ _ _ (by omega) (by omega) (by omega) (by omega) (by omega)).mono ?_; rintro e w' ⟨rfl, rfl⟩)
    go_ret
    exact ⟨congrArg (fun z => Ending.returned (.int .i64 z)) (sgn_64 x a), rfl⟩
  · have hl := fld_lt63 x a n (by omega)
    have hn1 : (n == 64) = false := by simp [hn]
    have hp := p2_pos (n - 1)
    have hp2 := p2_bd (n - 1) (by omega)
    have hp3 := p2_bd n (by omega)
    have hp4 : p2 (n - 1) < 9223372036854775808 := by
      have := p2_succ (n - 1).toNat
      rw [show (((n - 1).toNat : Int)) = n - 1 by omega, show n - 1 + 1 = n by omega] at this
      omega
    by_cases hc : p2 (n - 1) ≤ fld x a n
    · have HS := Lib.hid (sgn_yes x a n h1 hc)
      go_enter Tryd.func57, Tryd.ntmps57
      go_wp2_with (first
        | (go_at_call 58; refine (RefField_any _ _ _ _ (by omega) (by omega) (by omega) (by omega) (by omega)).mono ?_; rintro e w' ⟨rfl, rfl⟩)
        | (go_at_call 59; refine (Pow_any _ _ (by omega) (by omega)).mono ?_; rintro e w' ⟨rfl, rfl⟩))
      go_ret
      exact ⟨congrArg (fun z => Ending.returned (.int .i64 z)) HS.out, rfl⟩
    · have HS := Lib.hid (sgn_no x a n h1 hc)
      have hc2 : decide (p2 (n - 1) ≤ fld x a n) = false := by simp; omega
      clear hc
      go_enter Tryd.func57, Tryd.ntmps57
      go_wp2_with (first
        | (go_at_call 58; refine (RefField_any _ _ _ _ (by omega) (by omega) (by omega) (by omega) (by omega)).mono ?_; rintro e w' ⟨rfl, rfl⟩)
        | (go_at_call 59; refine (Pow_any _ _ (by omega) (by omega)).mono ?_; rintro e w' ⟨rfl, rfl⟩))
      go_ret
      exact ⟨congrArg (fun z => Ending.returned (.int .i64 z)) HS.out, rfl⟩

/-- the bytes from place j of a word on, as the reference joins them -/
def tailF (b : List Int) (i j : Nat) : Int := leF (fun t => zat b (8 * i + (j + t))) (8 - j)

theorem tailF_8 (b : List Int) (i : Nat) : tailF b i 8 = 0 := rfl
theorem tailF_0 (b : List Int) (i : Nat) : tailF b i 0 = wordAt b i := by simp [tailF, wordAt]
theorem tailF_step (b : List Int) (i j : Nat) (h : j < 8) : tailF b i j = tailF b i (j + 1) * 256 + zat b (8 * i + j) := by
  unfold tailF
  rw [show 8 - j = (8 - (j + 1)) + 1 by omega, leF_first]
  simp only [Nat.add_zero]
  congr 2
  apply leF_congr
  intro t _
  congr 1
  omega
theorem tailF_bd {b : List Int} (hb : Bts b) (i j : Nat) : 0 ≤ tailF b i j ∧ tailF b i j < 18446744073709551616 := by
  have h := leF_bd (fun t => zat b (8 * i + (j + t))) (8 - j) (fun t _ => hb.at _)
  have h2 := Nat.pow_le_pow_right (n := 256) (by decide) (show 8 - j ≤ 8 by omega)
  have e : (256 : Int) ^ (8 - j) = ((256 ^ (8 - j) : Nat) : Int) := by simp
  unfold tailF
  rw [e] at h
  omega

set_option maxRecDepth 100000 in
theorem RefBytes_any (A : Option Addr) (c : Nat) (l : List Int) (w : World) (hr : Ri w .u64 A l) (hb : Wds l) (hm : l.length ≤ 17592186044415) :
    Calls Tryd.prog 48 #[.slice A l.length c] w fun e w' => ∃ v, e = .returned v ∧ Got w' w.heap.size 5 .u8 v (bytesOf l) ∧ Below w.heap.size w w' := by
  obtain ⟨i0, hi, hz0, hz1, hz2⟩ := info_parts int8_info
  have Hr := Lib.hid hr
  have Hb := Lib.hid hb
  clear hr hb
  go_enter Tryd.func48, Tryd.ntmps48
  go_wp2
  go_loopw [3, 4] (fun v i wr => ∃ k : Nat, k ≤ l.length ∧ i = .int .i64 k ∧ Got wr w.heap.size 5 .u8 v (bytesOf (l.take k)) ∧ Below w.heap.size w wr) (fun _ i _ => l.length - (intOf i).toNat)
  case atStart => exact ⟨0, by omega, rfl, Got.empty _ _ _ _, Below.refl _ _⟩
  case round =>
    obtain ⟨k, hk, rfl, hgk, hbk⟩ := hrel
    obtain ⟨wo, rfl⟩ : ∃ wo : World, wo = wr := ⟨_, rfl⟩
    by_cases hlt : k < l.length
    · obtain ⟨g, off, rfl, hc3⟩ := (Hr.out.below hbk (Nat.le_refl _)).at hlt
      have hcell := hc3 k hlt
      have hzk := Hb.out.at k
      clear hc3
      have hl : (k : Int) < (l.length : Int) := by omega
      have HB := Lib.hid hbk
      have HG := Lib.hid hgk
      clear hbk hgk
      go_wp2
      go_loopw [3, 5, 6] (fun v x j wr => ∃ m : Nat, m ≤ 8 ∧ j = .int .i64 m ∧ x = .int .u64 (zat l k / 256 ^ m) ∧ Got wr w.heap.size 5 .u8 v (bytesOf (l.take k) ++ (bytes8 (zat l k)).take m) ∧ Below w.heap.size w wr) (fun _ _ j _ => 8 - (intOf j).toNat)
      case atStart => exact ⟨0, by omega, rfl, by simp, by simpa using HG.out, HB.out⟩
      case round =>
        obtain ⟨m, hmm, rfl, rfl, hgm, hbm⟩ := hrel
        by_cases hm8 : m < 8
        · have hq : 0 ≤ zat l k / 256 ^ m := Int.ediv_nonneg hzk.1 (Int.le_of_lt (Int.pow_pos (by decide)))
          have hq2 : zat l k / 256 ^ m ≤ zat l k := Int.ediv_le_self _ hzk.1
          have HL : Hid ((bytesOf (l.take k) ++ (bytes8 (zat l k)).take m).length = 8 * k + m) := Lib.hid (by rw [List.length_append, bytesOf_length, List.length_take, List.length_take, bytes8_length]; omega)
          have hsz := hbm.size
          have HB2 := Lib.hid hbm
          clear hbm
          go_wp2_with (at_builtin; refine wpList_app1 rfl (.tmp 21) (.tmp 25) 22 rfl Tryd.underlying22 hi hz0 hz1 hz2 rfl hgm rfl (by rw [HL.out]; unfold maxLen; omega) (by rw [HL.out]; omega) hsz ?_; intro v1 w1 hg1 hb1)
          go_roundw
          case rel =>
            refine ⟨m + 1, by omega, by go_num, ?_, ?_, HB2.out.trans hb1⟩
            · rw [Int.pow_succ, Int.ediv_ediv_of_nonneg (Int.le_of_lt (Int.pow_pos (by decide)))]
            · rw [take_succ_zat _ _ (by rw [bytes8_length]; exact hm8), ← List.append_assoc, bytes8_zat _ _ hm8]
              exact hg1
          case measure => simp [intOf]; omega
        · obtain rfl : m = 8 := by omega
          go_wp2
          go_roundw
          case rel =>
            refine ⟨k + 1, by omega, by go_num, ?_, hbm⟩
            rw [bytesOf_take_succ _ _ hlt]
            exact hgm.cast rfl (by rw [List.take_of_length_le (l := bytes8 (zat l k)) (by rw [bytes8_length]; omega)])
          case measure => simp [intOf]; omega
    · obtain rfl : k = l.length := by omega
      go_wp2
      go_ret
      exact ⟨_, rfl, hgk.cast rfl (by rw [List.take_of_length_le (by omega)]), hbk⟩
end Go.Proofs.YtcmljjhnfpfcfaaDoor
