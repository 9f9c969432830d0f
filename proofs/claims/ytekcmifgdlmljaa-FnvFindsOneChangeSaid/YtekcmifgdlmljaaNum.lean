/- Plain facts on numbers and lists: little-endian bytes, bit fields. Nothing of the program's text is named here. -/
import Derived.WalkKit
namespace Go.Proofs.Ytekcmifgdlmljaa

/-! ## Bit fields, as natural numbers -/
def fldN (w a n : Nat) : Nat := w / 2 ^ a % 2 ^ n
def insN (w a n v : Nat) : Nat := (w &&& (18446744073709551615 - (2 ^ n - 1) * 2 ^ a)) ||| ((v % 2 ^ n) * 2 ^ a)

theorem fldN_bit (w a n i : Nat) : (fldN w a n).testBit i = (decide (i < n) && w.testBit (a + i)) := by
  unfold fldN
  rw [Nat.testBit_mod_two_pow, Nat.testBit_div_two_pow, Nat.add_comm]

theorem fldN_lt (w a n : Nat) : fldN w a n < 2 ^ n := Nat.mod_lt _ (Nat.two_pow_pos _)

theorem pow_le_64 {n : Nat} (h : n ≤ 64) : 2 ^ n ≤ 18446744073709551616 := Nat.pow_le_pow_right (n := 2) (by decide) h

theorem mask_lt (a n : Nat) (h : a + n ≤ 64) : (2 ^ n - 1) * 2 ^ a < 2 ^ 64 := by
  have h1 : (2 ^ n - 1) * 2 ^ a < 2 ^ n * 2 ^ a := Nat.mul_lt_mul_of_pos_right (by have := Nat.two_pow_pos n; omega) (Nat.two_pow_pos _)
  rw [← Nat.pow_add] at h1
  exact Nat.lt_of_lt_of_le h1 (Nat.pow_le_pow_right (by decide) (by omega))

theorem insN_bit (w a n v i : Nat) (h : a + n ≤ 64) (hw : w < 2 ^ 64) :
    (insN w a n v).testBit i = if a ≤ i ∧ i < a + n then v.testBit (i - a) else w.testBit i := by
  unfold insN
  have e : (18446744073709551615 - (2 ^ n - 1) * 2 ^ a) = 2 ^ 64 - ((2 ^ n - 1) * 2 ^ a + 1) := by omega
  rw [e, Nat.testBit_or, Nat.testBit_and, Nat.testBit_two_pow_sub_succ (mask_lt a n h), Nat.testBit_mul_two_pow, Nat.testBit_mul_two_pow, Nat.testBit_two_pow_sub_one, Nat.testBit_mod_two_pow]
  by_cases h64 : i < 64
  · by_cases h1 : a ≤ i
    · by_cases h2 : i < a + n
      · have : i - a < n := by omega
        simp [h1, h2, this]
      · have : ¬ i - a < n := by omega
        simp [h1, h2, this, h64]
    · simp [h1, h64]
  · have hw' : w.testBit i = false := Nat.testBit_lt_two_pow (Nat.lt_of_lt_of_le hw (Nat.pow_le_pow_right (by decide) (by omega)))
    have : ¬ (i < a + n) := by omega
    have : ¬ (i - a < n) := by omega
    simp [*]

theorem insN_lt (w a n v : Nat) (h : a + n ≤ 64) (hw : w < 2 ^ 64) : insN w a n v < 2 ^ 64 := by
  apply Nat.lt_pow_two_of_testBit
  intro i hi
  rw [insN_bit w a n v i h hw, if_neg (by omega)]
  exact Nat.testBit_lt_two_pow (Nat.lt_of_lt_of_le hw (Nat.pow_le_pow_right (by decide) hi))

theorem fldN_step (w a i : Nat) : fldN w a (i + 1) = fldN w a i + w / 2 ^ (a + i) % 2 * 2 ^ i := by
  unfold fldN
  rw [Nat.pow_succ, Nat.mod_mul, Nat.div_div_eq_div_mul, ← Nat.pow_add, Nat.mul_comm (2 ^ i)]

theorem bit_num (x i : Nat) : x / 2 ^ i % 2 = if x.testBit i then 1 else 0 := by
  have h := Nat.testBit_eq_decide_div_mod_eq (x := x) (i := i)
  rw [h]
  by_cases hx : x / 2 ^ i % 2 = 1
  · simp [hx]
  · simp [hx]; omega

theorem fldN_ins_same (w a n v : Nat) (h : a + n ≤ 64) (hw : w < 2 ^ 64) : fldN (insN w a n v) a n = fldN v 0 n := by
  apply Nat.eq_of_testBit_eq
  intro i
  rw [fldN_bit, fldN_bit, insN_bit w a n v _ h hw]
  by_cases hi : i < n
  · rw [if_pos (by omega)]
    simp [hi]
  · simp [hi]

theorem insN_back (w a n v : Nat) (h : a + n ≤ 64) (hw : w < 2 ^ 64) : insN (insN w a n v) a n (fldN w a n) = w := by
  apply Nat.eq_of_testBit_eq
  intro i
  rw [insN_bit _ a n _ i h (insN_lt w a n v h hw), insN_bit w a n v i h hw, fldN_bit]
  by_cases hi : a ≤ i ∧ i < a + n
  · rw [if_pos hi]
    have h1 : i - a < n := by omega
    have h2 : a + (i - a) = i := by omega
    simp [h1, h2]
  · rw [if_neg hi, if_neg hi]

theorem insN_ins (w a n v u : Nat) (h : a + n ≤ 64) (hw : w < 2 ^ 64) : insN (insN w a n v) a n u = insN w a n u := by
  apply Nat.eq_of_testBit_eq
  intro i
  rw [insN_bit _ a n _ i h (insN_lt w a n v h hw), insN_bit w a n v i h hw, insN_bit w a n u i h hw]
  by_cases hi : a ≤ i ∧ i < a + n
  · rw [if_pos hi, if_pos hi]
  · rw [if_neg hi, if_neg hi, if_neg hi]

theorem fldN_ins_other (w a n v b m : Nat) (h : a + n ≤ 64) (hw : w < 2 ^ 64) (hd : a + n ≤ b ∨ b + m ≤ a) : fldN (insN w a n v) b m = fldN w b m := by
  apply Nat.eq_of_testBit_eq
  intro i
  rw [fldN_bit, fldN_bit]
  by_cases hi : i < m
  · rw [insN_bit w a n v _ h hw, if_neg (by omega)]
  · simp [hi]

theorem insN_full (w v : Nat) (hw : w < 2 ^ 64) (hv : v < 2 ^ 64) : insN w 0 64 v = v := by
  apply Nat.eq_of_testBit_eq
  intro i
  rw [insN_bit w 0 64 v i (by omega) hw]
  by_cases hi : i < 64
  · rw [if_pos (by omega)]; rfl
  · rw [if_neg (by omega), Nat.testBit_lt_two_pow (Nat.lt_of_lt_of_le hw (Nat.pow_le_pow_right (by decide) (by omega))),
      Nat.testBit_lt_two_pow (Nat.lt_of_lt_of_le hv (Nat.pow_le_pow_right (by decide) (by omega)))]

/-! ## The same for the integers of the model -/
def fld (w a n : Int) : Int := ((fldN w.toNat a.toNat n.toNat : Nat) : Int)
def ins (w a n v : Int) : Int := ((insN w.toNat a.toNat n.toNat v.toNat : Nat) : Int)
/-- the two's complement value of a field -/
def sgn (w a n : Int) : Int := if 2 ^ (n.toNat - 1) ≤ fld w a n then fld w a n - 2 ^ n.toNat else fld w a n

theorem toNat_lt64 {x : Int} (h : x < 18446744073709551616) : x.toNat < 2 ^ 64 := by omega

theorem fld_bd (w a n : Int) (hn : n ≤ 64) : 0 ≤ fld w a n ∧ fld w a n < 18446744073709551616 := by
  have h := fldN_lt w.toNat a.toNat n.toNat
  have h2 := pow_le_64 (n := n.toNat) (by omega)
  unfold fld
  omega

theorem fld_lt (w a n : Int) : fld w a n < 2 ^ n.toNat := by
  have h := fldN_lt w.toNat a.toNat n.toNat
  unfold fld
  have e : (2 : Int) ^ n.toNat = ((2 ^ n.toNat : Nat) : Int) := by simp
  rw [e]
  omega

theorem fld_nonneg (w a n : Int) : 0 ≤ fld w a n := Int.natCast_nonneg _

theorem ins_bd (w a n v : Int) (ha : 0 ≤ a) (hn : 0 ≤ n) (h : a + n ≤ 64) (hw : w < 18446744073709551616) : 0 ≤ ins w a n v ∧ ins w a n v < 18446744073709551616 := by
  have := insN_lt w.toNat a.toNat n.toNat v.toNat (by omega) (toNat_lt64 hw)
  unfold ins
  omega

theorem mask_eq (n : Int) (h1 : 0 ≤ n) (h2 : n ≤ 64) : (18446744073709551615 : Int) / 2 ^ (64 - n).toNat = ((2 ^ n.toNat - 1 : Nat) : Int) := by
  obtain ⟨m, rfl⟩ := Int.eq_ofNat_of_zero_le h1
  have e : (64 - (m : Int)).toNat = 64 - m := by omega
  rw [e, Int.toNat_natCast]
  have e2 : (2 : Int) ^ (64 - m) = ((2 ^ (64 - m) : Nat) : Int) := by simp
  rw [e2, show (18446744073709551615 : Int) = ((18446744073709551615 : Nat) : Int) from rfl, ← Int.natCast_ediv]
  congr 1
  have hp : 2 ^ m * 2 ^ (64 - m) = 18446744073709551616 := by rw [← Nat.pow_add, show m + (64 - m) = 64 by omega]
  have hq := Nat.two_pow_pos (64 - m)
  have hr := Nat.two_pow_pos m
  apply Nat.div_eq_of_lt_le
  · rw [Nat.sub_mul]; omega
  · rw [Nat.sub_add_cancel hr]; omega

theorem fld_go (x a n : Int) (h1 : 0 ≤ n) (h2 : n ≤ 64) (h5 : 0 ≤ x) (h6 : x < 18446744073709551616) :
    bits .and .u64 (x / 2 ^ a.toNat) (18446744073709551615 / 2 ^ (64 - n).toNat) = fld x a n := by
  obtain ⟨X, rfl⟩ := Int.eq_ofNat_of_zero_le h5
  rw [mask_eq n h1 h2]
  have e : ((X : Int) / 2 ^ a.toNat) = ((X / 2 ^ a.toNat : Nat) : Int) := by simp
  have hle := Nat.div_le_self X (2 ^ a.toNat)
  have hm := mask_lt 0 n.toNat (by omega)
  rw [e, bits_and_u64_nat _ _ (by omega) (by omega), Nat.and_two_pow_sub_one_eq_mod]
  rfl

theorem wrap_u64_nat (x : Nat) (h : x < 18446744073709551616) : IntKind.u64.wrap (x : Int) = (x : Int) := by
  rw [IntKind.wrap_u64]; omega

theorem ins_go (x a n v : Int) (h1 : 0 ≤ n) (h3 : 0 ≤ a) (h4 : a + n ≤ 64) (h5 : 0 ≤ x) (h6 : x < 18446744073709551616) (h7 : 0 ≤ v) (h8 : v < 18446744073709551616) :
    bits .or .u64 (bits .andNot .u64 x (IntKind.u64.wrap (18446744073709551615 / 2 ^ (64 - n).toNat * 2 ^ a.toNat)))
      (IntKind.u64.wrap (bits .and .u64 v (18446744073709551615 / 2 ^ (64 - n).toNat) * 2 ^ a.toNat)) = ins x a n v := by
  obtain ⟨X, rfl⟩ := Int.eq_ofNat_of_zero_le h5
  obtain ⟨V, rfl⟩ := Int.eq_ofNat_of_zero_le h7
  obtain ⟨A, rfl⟩ := Int.eq_ofNat_of_zero_le h3
  obtain ⟨N, rfl⟩ := Int.eq_ofNat_of_zero_le h1
  have hm := mask_lt A N (by omega)
  have hm0 := mask_lt 0 N (by omega)
  have e : (2 : Int) ^ A = ((2 ^ A : Nat) : Int) := by simp
  have hv : V % 2 ^ N * 2 ^ A < 2 ^ 64 := by
    have h1 : V % 2 ^ N * 2 ^ A < 2 ^ N * 2 ^ A := Nat.mul_lt_mul_of_pos_right (Nat.mod_lt _ (Nat.two_pow_pos _)) (Nat.two_pow_pos _)
    rw [← Nat.pow_add] at h1
    exact Nat.lt_of_lt_of_le h1 (Nat.pow_le_pow_right (by decide) (by omega))
  rw [mask_eq (N : Int) (by omega) (by omega)]
  simp only [Int.toNat_natCast]
  rw [e, bits_and_u64_nat _ _ (by omega) (by omega), Nat.and_two_pow_sub_one_eq_mod, ← Int.natCast_mul, ← Int.natCast_mul, wrap_u64_nat _ hm, wrap_u64_nat _ hv,
    u64_andNot_nat _ _ (by omega) hm, bits_or_u64_nat _ _ (Nat.lt_of_le_of_lt Nat.and_le_left (by omega)) hv]
  rfl

theorem sgn_go (x a n : Int) (h1 : 1 ≤ n) (h2 : n ≤ 64) :
    Go.RowKit.wrap64 (IntKind.u64.wrap (fld x a n * 2 ^ (64 - n).toNat)) / 2 ^ (64 - n).toNat = sgn x a n := by
  have hl := fld_lt x a n
  have h0 := fld_nonneg x a n
  unfold sgn
  generalize fld x a n = f at *
  obtain ⟨m, rfl⟩ : ∃ m : Nat, n = (m : Int) + 1 := ⟨(n - 1).toNat, by omega⟩
  have e1 : (64 - ((m : Int) + 1)).toNat = 63 - m := by omega
  have e2 : ((m : Int) + 1).toNat = m + 1 := by omega
  rw [e2] at hl
  rw [e1, e2, show m + 1 - 1 = m by omega]
  have hp : (0 : Int) < 2 ^ (63 - m) := Int.pow_pos (by decide)
  have e3 : (2 : Int) ^ m * 2 ^ (63 - m) = 9223372036854775808 := by rw [← Int.pow_add, show m + (63 - m) = 63 by omega]; rfl
  have e4 : (2 : Int) ^ (m + 1) * 2 ^ (63 - m) = 18446744073709551616 := by rw [← Int.pow_add, show m + 1 + (63 - m) = 64 by omega]; rfl
  generalize (2 : Int) ^ (63 - m) = P at *
  have hfP : f * P < 18446744073709551616 := by rw [← e4]; exact Int.mul_lt_mul_of_pos_right hl hp
  have hf0 : 0 ≤ f * P := Int.mul_nonneg h0 (by omega)
  rw [IntKind.wrap_u64, Int.emod_eq_of_lt hf0 hfP]
  by_cases hc : 2 ^ m ≤ f
  · rw [if_pos hc]
    have hg : 9223372036854775808 ≤ f * P := by rw [← e3]; exact Int.mul_le_mul_of_nonneg_right hc (by omega)
    have hw : Go.RowKit.wrap64 (f * P) = (f - 2 ^ (m + 1)) * P := by
      rw [Int.sub_mul, e4]
      unfold Go.RowKit.wrap64
      omega
    rw [hw, Int.mul_ediv_cancel _ (Int.ne_of_gt hp)]
  · rw [if_neg hc]
    have hg : f * P < 9223372036854775808 := by rw [← e3]; exact Int.mul_lt_mul_of_pos_right (by omega) hp
    have hw : Go.RowKit.wrap64 (f * P) = f * P := by
      unfold Go.RowKit.wrap64
      omega
    rw [hw, Int.mul_ediv_cancel _ (Int.ne_of_gt hp)]

theorem sgn_bd (x a n : Int) (h1 : 1 ≤ n) (h2 : n ≤ 64) : -9223372036854775808 ≤ sgn x a n ∧ sgn x a n ≤ 9223372036854775807 := by
  have hl := fld_lt x a n
  have h0 := fld_nonneg x a n
  unfold sgn
  generalize fld x a n = f at *
  obtain ⟨m, rfl⟩ : ∃ m : Nat, n = (m : Int) + 1 := ⟨(n - 1).toNat, by omega⟩
  have e2 : ((m : Int) + 1).toNat = m + 1 := by omega
  rw [e2] at hl ⊢
  rw [show m + 1 - 1 = m by omega]
  have hp : (2 : Int) ^ (m + 1) = 2 ^ m * 2 := Int.pow_succ ..
  have hm : (2 : Int) ^ m ≤ 2 ^ 63 := by
    have := Nat.pow_le_pow_right (n := 2) (by decide) (show m ≤ 63 by omega)
    have e : (2 : Int) ^ m = ((2 ^ m : Nat) : Int) := by simp
    rw [e]
    omega
  have hm0 : (0 : Int) < 2 ^ m := Int.pow_pos (by decide)
  generalize (2 : Int) ^ m = P at *
  split <;> omega

/-! ## The words of bytes -/
/-- the value of the first n of the bytes z -/
def leF (z : Nat → Int) : Nat → Int
  | 0 => 0
  | n + 1 => leF z n + z n * 256 ^ n

theorem leF_bd (z : Nat → Int) (n : Nat) (hz : ∀ i, i < n → 0 ≤ z i ∧ z i < 256) : 0 ≤ leF z n ∧ leF z n < 256 ^ n := by
  induction n with
  | zero => simp [leF]
  | succ n ih =>
    have h := ih (fun i hi => hz i (by omega))
    have hn := hz n (by omega)
    have hp : (0 : Int) < 256 ^ n := Int.pow_pos (by decide)
    have h1 : z n * 256 ^ n ≤ 255 * 256 ^ n := Int.mul_le_mul_of_nonneg_right (by omega) (by omega)
    have h2 : 0 ≤ z n * 256 ^ n := Int.mul_nonneg hn.1 (by omega)
    have h3 : (256 : Int) ^ (n + 1) = 256 ^ n * 256 := Int.pow_succ ..
    simp only [leF]
    omega

theorem leF_congr {z y : Nat → Int} (n : Nat) (h : ∀ i, i < n → z i = y i) : leF z n = leF y n := by
  induction n with
  | zero => rfl
  | succ n ih => simp only [leF]; rw [ih (fun i hi => h i (by omega)), h n (by omega)]

/-- one step of the loop that joins the bytes -/
theorem leF_step (z : Nat → Int) (k : Nat) (hk : k < 8) (hz : ∀ i, i < 8 → 0 ≤ z i ∧ z i < 256) :
    bits .or .u64 (leF z k) (IntKind.u64.wrap (z k * 2 ^ (8 * k))) = leF z (k + 1) := by
  have h := leF_bd z k (fun i hi => hz i (by omega))
  have hn := hz k hk
  obtain ⟨A, hA⟩ := Int.eq_ofNat_of_zero_le h.1
  obtain ⟨Z, hZ⟩ := Int.eq_ofNat_of_zero_le hn.1
  have e1 : (2 : Int) ^ (8 * k) = ((2 ^ (8 * k) : Nat) : Int) := by simp
  have e2 : (256 : Int) ^ k = ((2 ^ (8 * k) : Nat) : Int) := by rw [Nat.pow_mul]; simp
  have hA' : A < 2 ^ (8 * k) := by have := h.2; rw [hA, e2] at this; omega
  have hZ' : Z < 2 ^ 8 := by omega
  have hm : Z * 2 ^ (8 * k) < 2 ^ 64 := by
    have h1 : Z * 2 ^ (8 * k) < 2 ^ 8 * 2 ^ (8 * k) := Nat.mul_lt_mul_of_pos_right hZ' (Nat.two_pow_pos _)
    rw [← Nat.pow_add] at h1
    exact Nat.lt_of_lt_of_le h1 (Nat.pow_le_pow_right (by decide) (by omega))
  have hA2 : A < 2 ^ 64 := Nat.lt_of_lt_of_le hA' (Nat.pow_le_pow_right (by decide) (by omega))
  simp only [leF]
  rw [hA, hZ, e1, e2, ← Int.natCast_mul, IntKind.wrap_u64, Int.emod_eq_of_lt (by omega) (by omega)]
  rw [bits_or_u64_nat _ _ (by omega) (by omega), Nat.or_comm, Nat.mul_comm Z, ← Nat.two_pow_add_eq_or_of_lt hA', ← Int.natCast_add]
  congr 1
  rw [Nat.add_comm]

/-- byte i of a word -/
def byteOf (w : Int) (i : Nat) : Int := w / 256 ^ i % 256

theorem byteOf_bd (w : Int) (i : Nat) : 0 ≤ byteOf w i ∧ byteOf w i < 256 := by unfold byteOf; omega

theorem leF_byteOf (w : Int) (n : Nat) : leF (byteOf w) n = w % 256 ^ n := by
  induction n with
  | zero => simp [leF, Int.emod_one]
  | succ n ih =>
    have hp : (0 : Int) < 256 ^ n := Int.pow_pos (by decide)
    simp only [leF, ih, byteOf]
    rw [Int.pow_succ]
    have h1 := Int.emod_add_mul_ediv w (256 ^ n)
    have h2 := Int.emod_add_mul_ediv (w / 256 ^ n) 256
    have h3 := Int.emod_nonneg w (Int.ne_of_gt hp)
    have h4 := Int.emod_lt_of_pos w hp
    have h5 : 0 ≤ w / 256 ^ n % 256 ∧ w / 256 ^ n % 256 < 256 := by omega
    symm
    have key : w = (w % 256 ^ n + w / 256 ^ n % 256 * 256 ^ n) + (256 ^ n * 256) * (w / 256 ^ n / 256) := by
      have h6 : w / 256 ^ n * 256 ^ n = (w / 256 ^ n % 256 + 256 * (w / 256 ^ n / 256)) * 256 ^ n := by rw [h2]
      rw [Int.add_mul] at h6
      have h7 : 256 * (w / 256 ^ n / 256) * 256 ^ n = (256 ^ n * 256) * (w / 256 ^ n / 256) := by
        rw [Int.mul_right_comm, Int.mul_comm (256 ^ n) 256]
      have h8 : 256 ^ n * (w / 256 ^ n) = w / 256 ^ n * 256 ^ n := Int.mul_comm ..
      omega
    have hb : w / 256 ^ n % 256 * 256 ^ n ≤ 255 * 256 ^ n := Int.mul_le_mul_of_nonneg_right (by omega) (by omega)
    have hb0 : 0 ≤ w / 256 ^ n % 256 * 256 ^ n := Int.mul_nonneg h5.1 (by omega)
    conv => lhs; rw [key]
    rw [Int.add_mul_emod_self_left]
    apply Int.emod_eq_of_lt
    · omega
    · omega

theorem byteOf_leF (z : Nat → Int) (n i : Nat) (hi : i < n) (hz : ∀ j, j < n → 0 ≤ z j ∧ z j < 256) : byteOf (leF z n) i = z i := by
  induction n with
  | zero => omega
  | succ n ih =>
    have h := leF_bd z n (fun j hj => hz j (by omega))
    have hn := hz n (by omega)
    by_cases hin : i = n
    · subst hin
      have hp : (0 : Int) < 256 ^ i := Int.pow_pos (by decide)
      simp only [leF, byteOf]
      rw [Int.add_mul_ediv_right _ _ (Int.ne_of_gt hp), Int.ediv_eq_zero_of_lt h.1 h.2]
      omega
    · have hlt : i < n := by omega
      have h2 := ih hlt (fun j hj => hz j (by omega))
      have hp : (0 : Int) < 256 ^ i := Int.pow_pos (by decide)
      simp only [leF, byteOf] at h2 ⊢
      obtain ⟨d, rfl⟩ : ∃ d, n = i + 1 + d := ⟨n - (i + 1), by omega⟩
      have e : z (i + 1 + d) * 256 ^ (i + 1 + d) = (256 * (256 ^ d * z (i + 1 + d))) * 256 ^ i := by
        rw [Int.pow_add, Int.pow_succ]
        ac_rfl
      rw [e, Int.add_mul_ediv_right _ _ (Int.ne_of_gt hp), Int.add_mul_emod_self_left]
      exact h2

/-- element i of a list, 0 behind its end (a name that simp does not open) -/
def zat (l : List Int) (i : Nat) : Int := l.getD i 0

/-- the number of word i of a list of bytes -/
def wordAt (b : List Int) (i : Nat) : Int := leF (fun j => zat b (8 * i + j)) 8
def wordsOf (b : List Int) : List Int := (List.range (b.length / 8)).map (wordAt b)
def bytes8 (w : Int) : List Int := (List.range 8).map (byteOf w)
def bytesOf (l : List Int) : List Int := l.flatMap bytes8

def Bts (b : List Int) : Prop := ∀ z ∈ b, 0 ≤ z ∧ z < 256
def Wds (l : List Int) : Prop := ∀ z ∈ l, 0 ≤ z ∧ z < 18446744073709551616

theorem zat_mem {l : List Int} {i : Nat} (h : i < l.length) : zat l i ∈ l := by
  rw [zat, List.getD_eq_getElem?_getD, List.getElem?_eq_getElem h]
  exact List.getElem_mem h

theorem zat_out {l : List Int} {i : Nat} (h : l.length ≤ i) : zat l i = 0 := by
  rw [zat, List.getD_eq_getElem?_getD, List.getElem?_eq_none h]; rfl

theorem Bts.at {b : List Int} (h : Bts b) (i : Nat) : 0 ≤ zat b i ∧ zat b i < 256 := by
  by_cases hi : i < b.length
  · exact h _ (zat_mem hi)
  · rw [zat_out (by omega)]; omega

theorem Wds.at {b : List Int} (h : Wds b) (i : Nat) : 0 ≤ zat b i ∧ zat b i < 18446744073709551616 := by
  by_cases hi : i < b.length
  · exact h _ (zat_mem hi)
  · rw [zat_out (by omega)]; omega

theorem wordAt_bd {b : List Int} (h : Bts b) (i : Nat) : 0 ≤ wordAt b i ∧ wordAt b i < 18446744073709551616 := by
  have := leF_bd (fun j => zat b (8 * i + j)) 8 (fun j _ => h.at _)
  unfold wordAt
  omega

theorem wordsOf_length (b : List Int) : (wordsOf b).length = b.length / 8 := by simp [wordsOf]
theorem wordsOf_zat (b : List Int) (i : Nat) (h : i < b.length / 8) : zat (wordsOf b) i = wordAt b i := by
  simp [wordsOf, zat, List.getD_eq_getElem?_getD, h]
theorem wordsOf_wds {b : List Int} (h : Bts b) : Wds (wordsOf b) := by
  intro z hz
  simp [wordsOf] at hz
  obtain ⟨i, _, rfl⟩ := hz
  exact wordAt_bd h i

theorem bytes8_length (w : Int) : (bytes8 w).length = 8 := by simp [bytes8]
theorem bytesOf_cons (w : Int) (l : List Int) : bytesOf (w :: l) = bytes8 w ++ bytesOf l := by simp [bytesOf]
theorem bytesOf_append (a b : List Int) : bytesOf (a ++ b) = bytesOf a ++ bytesOf b := by simp [bytesOf]
theorem bytesOf_one (w : Int) : bytesOf [w] = bytes8 w := by simp [bytesOf]
theorem bytesOf_length (l : List Int) : (bytesOf l).length = 8 * l.length := by
  induction l with
  | nil => rfl
  | cons w l ih => rw [bytesOf_cons, List.length_append, bytes8_length, ih, List.length_cons]; omega
theorem bytes8_bts (w : Int) : Bts (bytes8 w) := by
  intro z hz
  simp only [bytes8, List.mem_map] at hz
  obtain ⟨i, _, rfl⟩ := hz
  exact byteOf_bd w i
theorem bytesOf_bts (l : List Int) : Bts (bytesOf l) := by
  intro z hz
  simp only [bytesOf, List.mem_flatMap] at hz
  obtain ⟨w, _, hz⟩ := hz
  exact bytes8_bts w z hz

theorem bytes8_zat (w : Int) (j : Nat) (h : j < 8) : zat (bytes8 w) j = byteOf w j := by
  simp [bytes8, zat, List.getD_eq_getElem?_getD, h]

theorem zat_append_left (a b : List Int) (i : Nat) (h : i < a.length) : zat (a ++ b) i = zat a i := by
  simp [zat, List.getD_eq_getElem?_getD, List.getElem?_append_left h]
theorem zat_append_right (a b : List Int) (i : Nat) (h : a.length ≤ i) : zat (a ++ b) i = zat b (i - a.length) := by
  simp [zat, List.getD_eq_getElem?_getD, List.getElem?_append_right h]

theorem bytesOf_zat (l : List Int) (i j : Nat) (hi : i < l.length) (hj : j < 8) : zat (bytesOf l) (8 * i + j) = byteOf (zat l i) j := by
  induction l generalizing i with
  | nil => simp at hi
  | cons w l ih =>
    rw [bytesOf_cons]
    cases i with
    | zero =>
      rw [zat_append_left _ _ _ (by rw [bytes8_length]; omega)]
      simpa [zat] using bytes8_zat w j hj
    | succ i =>
      rw [zat_append_right _ _ _ (by rw [bytes8_length]; omega), bytes8_length]
      have e : 8 * (i + 1) + j - 8 = 8 * i + j := by omega
      rw [e, ih i (by simpa using hi)]
      simp [zat]

theorem ext_zat {a b : List Int} (hl : a.length = b.length) (h : ∀ i, i < a.length → zat a i = zat b i) : a = b := by
  apply List.ext_getElem hl
  intro i h1 h2
  have := h i h1
  simpa [zat, List.getD_eq_getElem?_getD, h1, h2] using this

theorem wordAt_bytesOf (l : List Int) (h : Wds l) (i : Nat) (hi : i < l.length) : wordAt (bytesOf l) i = zat l i := by
  unfold wordAt
  rw [leF_congr (y := byteOf (zat l i)) 8 (fun j hj => bytesOf_zat l i j hi hj), leF_byteOf]
  have := h.at i
  omega

theorem wordsOf_bytesOf (l : List Int) (h : Wds l) : wordsOf (bytesOf l) = l := by
  have hl : (wordsOf (bytesOf l)).length = l.length := by rw [wordsOf_length, bytesOf_length]; omega
  apply ext_zat hl
  intro i hi
  rw [hl] at hi
  rw [wordsOf_zat _ _ (by rw [bytesOf_length]; omega), wordAt_bytesOf l h i hi]

theorem bytesOf_wordsOf (b : List Int) (h : Bts b) (h8 : b.length % 8 = 0) : bytesOf (wordsOf b) = b := by
  have hl : (bytesOf (wordsOf b)).length = b.length := by rw [bytesOf_length, wordsOf_length]; omega
  apply ext_zat hl
  intro i hi
  rw [hl] at hi
  have e : i = 8 * (i / 8) + i % 8 := by omega
  rw [e, bytesOf_zat _ _ _ (by rw [wordsOf_length]; omega) (by omega), wordsOf_zat _ _ (by omega)]
  unfold wordAt
  rw [byteOf_leF _ 8 _ (by omega) (fun j _ => h.at _)]

/-! ## Writing into a list -/
theorem zat_set (l : List Int) (i j : Nat) (x : Int) (hi : i < l.length) : zat (l.set i x) j = if i = j then x else zat l j := by
  simp only [zat, List.getD_eq_getElem?_getD, List.getElem?_set]
  by_cases h : i = j
  · subst h; simp [hi]
  · simp [h]

theorem zat_take (l : List Int) (n j : Nat) (h : j < n) : zat (l.take n) j = zat l j := by
  simp [zat, List.getD_eq_getElem?_getD, h]
theorem zat_drop (l : List Int) (n j : Nat) : zat (l.drop n) j = zat l (n + j) := by
  simp [zat, List.getD_eq_getElem?_getD]
theorem zat_replicate (n j : Nat) : zat (List.replicate n 0) j = 0 := by
  by_cases h : j < n <;> simp [zat, List.getD_eq_getElem?_getD, h]

/-- the list zs with the numbers ys written over it from place o on -/
def splice (zs : List Int) (o : Nat) (ys : List Int) : List Int := zs.take o ++ ys ++ zs.drop (o + ys.length)

theorem splice_nil (zs : List Int) (o : Nat) : splice zs o [] = zs := by simp [splice]
theorem splice_length {zs ys : List Int} {o : Nat} (h : o + ys.length ≤ zs.length) : (splice zs o ys).length = zs.length := by
  simp [splice]; omega
theorem splice_zat {zs ys : List Int} {o : Nat} (h : o + ys.length ≤ zs.length) (i : Nat) :
    zat (splice zs o ys) i = if o ≤ i ∧ i < o + ys.length then zat ys (i - o) else zat zs i := by
  have hl : (zs.take o).length = o := by simp; omega
  unfold splice
  by_cases h1 : i < o
  · rw [if_neg (by omega), List.append_assoc, zat_append_left _ _ _ (by omega), zat_take _ _ _ h1]
  · rw [List.append_assoc, zat_append_right _ _ _ (by omega), hl]
    by_cases h2 : i < o + ys.length
    · rw [if_pos (by omega), zat_append_left _ _ _ (by omega)]
    · rw [if_neg (by omega), zat_append_right _ _ _ (by omega), zat_drop]
      congr 1
      omega

theorem splice_step {zs ys : List Int} {o k : Nat} (h : o + ys.length ≤ zs.length) (hk : k < ys.length) :
    (splice zs o (ys.take k)).set (o + k) (zat ys k) = splice zs o (ys.take (k + 1)) := by
  have l1 : (ys.take k).length = k := by simp; omega
  have l2 : (ys.take (k + 1)).length = k + 1 := by simp; omega
  have h1 : o + (ys.take k).length ≤ zs.length := by omega
  have h2 : o + (ys.take (k + 1)).length ≤ zs.length := by omega
  apply ext_zat
  · rw [List.length_set, splice_length h1, splice_length h2]
  · intro i hi
    rw [List.length_set, splice_length h1] at hi
    rw [zat_set _ _ _ _ (by rw [splice_length h1]; omega), splice_zat h1, splice_zat h2, l1, l2]
    by_cases e : o + k = i
    · subst e
      rw [if_pos rfl, if_pos (by omega), zat_take _ _ _ (by omega)]
      congr 1
      omega
    · rw [if_neg e]
      by_cases hc : o ≤ i ∧ i < o + k
      · rw [if_pos hc, if_pos (by omega), zat_take _ _ _ (by omega), zat_take _ _ _ (by omega)]
      · rw [if_neg hc, if_neg (by omega)]

theorem byteOf_go (x : Int) (k : Nat) : x / 2 ^ (8 * k) % 256 = byteOf x k := by
  unfold byteOf
  rw [Int.pow_mul]
  rfl

theorem bytesOf_take_succ (l : List Int) (i : Nat) (h : i < l.length) : bytesOf (l.take (i + 1)) = bytesOf (l.take i) ++ bytes8 (zat l i) := by
  have e : l.take (i + 1) = l.take i ++ [zat l i] := by
    rw [List.take_succ_eq_append_getElem h]
    simp [zat, List.getD_eq_getElem?_getD, h]
  rw [e, bytesOf_append, bytesOf_one]

theorem splice_bytes {zs l : List Int} {i : Nat} (h : 8 * l.length ≤ zs.length) (hi : i < l.length) :
    splice (splice zs 0 (bytesOf (l.take i))) (8 * i) (bytes8 (zat l i)) = splice zs 0 (bytesOf (l.take (i + 1))) := by
  have l1 : (bytesOf (l.take i)).length = 8 * i := by rw [bytesOf_length]; simp; omega
  have l2 : (bytesOf (l.take (i + 1))).length = 8 * i + 8 := by rw [bytesOf_length]; simp; omega
  have l3 := bytes8_length (zat l i)
  have h1 : 0 + (bytesOf (l.take i)).length ≤ zs.length := by omega
  have h2 : 0 + (bytesOf (l.take (i + 1))).length ≤ zs.length := by omega
  have h3 : 8 * i + (bytes8 (zat l i)).length ≤ (splice zs 0 (bytesOf (l.take i))).length := by rw [splice_length h1]; omega
  apply ext_zat
  · rw [splice_length h3, splice_length h1, splice_length h2]
  · intro j hj
    rw [splice_zat h3, splice_zat h1, splice_zat h2, l1, l2, l3]
    by_cases c1 : j < 8 * i
    · rw [if_neg (by omega), if_pos (by omega), if_pos (by omega), bytesOf_take_succ _ _ hi, zat_append_left _ _ _ (by omega)]
    · by_cases c2 : j < 8 * i + 8
      · rw [if_pos (by omega), if_pos (by omega), bytesOf_take_succ _ _ hi, zat_append_right _ _ _ (by omega), l1]
        rfl
      · rw [if_neg (by omega), if_neg (by omega), if_neg (by omega)]

theorem splice_all {zs ys : List Int} (h : ys.length = zs.length) : splice zs 0 ys = ys := by
  simp [splice, h]

/-- the words of the first i places -/
theorem splice_words {zs b : List Int} {i : Nat} (h : b.length / 8 = zs.length) (hi : i < zs.length) :
    (splice zs 0 ((wordsOf b).take i)).set i (wordAt b i) = splice zs 0 ((wordsOf b).take (i + 1)) := by
  have := splice_step (zs := zs) (ys := wordsOf b) (o := 0) (k := i) (by rw [wordsOf_length]; omega) (by rw [wordsOf_length]; omega)
  rw [Nat.zero_add, wordsOf_zat _ _ (by omega)] at this
  exact this

theorem Bts.splice {zs ys : List Int} {o : Nat} (h1 : Bts zs) (h2 : Bts ys) : Bts (splice zs o ys) := by
  intro z hz
  simp only [Go.Proofs.Ytekcmifgdlmljaa.splice, List.mem_append] at hz
  rcases hz with (hz | hz) | hz
  · exact h1 z (List.mem_of_mem_take hz)
  · exact h2 z hz
  · exact h1 z (List.mem_of_mem_drop hz)

theorem leF_first (z : Nat → Int) (n : Nat) : leF z (n + 1) = leF (fun j => z (j + 1)) n * 256 + z 0 := by
  induction n with
  | zero => simp [leF]
  | succ n ih =>
    rw [leF, ih]
    simp only [leF]
    rw [Int.pow_succ, Int.add_mul, Int.mul_assoc]
    omega

theorem take_succ_zat (l : List Int) (k : Nat) (h : k < l.length) : l.take (k + 1) = l.take k ++ [zat l k] := by
  rw [List.take_succ_eq_append_getElem h]
  simp [zat, List.getD_eq_getElem?_getD, h]

end Go.Proofs.Ytekcmifgdlmljaa
