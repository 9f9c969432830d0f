/- A list of bytes as one number, least significant byte first; a field of it read and written. Nothing of the program's text is named here. -/
import Derived.Test.YtekcmifgdlmljaaNum
namespace Go.Proofs.Ytekcmifgdlmljaa
set_option linter.unusedVariables false
set_option linter.unusedSimpArgs false
set_option maxRecDepth 100000

/-- the number whose bytes are b -/
def secN : List Int → Nat
  | [] => 0
  | z :: r => z.toNat + 256 * secN r

theorem two_add_bit (R z i : Nat) (hz : z < 256) : (z + 256 * R).testBit i = if i < 8 then z.testBit i else R.testBit (i - 8) := by
  have h := Nat.testBit_two_pow_mul_add R (i := 8) (b := z) hz i
  rw [show 2 ^ 8 * R + z = z + 256 * R by omega] at h
  exact h

theorem secN_bit {b : List Int} (h : Bts b) (i : Nat) : (secN b).testBit i = (zat b (i / 8)).toNat.testBit (i % 8) := by
  induction b generalizing i with
  | nil => simp [secN, zat]
  | cons z r ih =>
    have hz := h z (List.mem_cons_self ..)
    have hr : Bts r := fun x hx => h x (List.mem_cons_of_mem _ hx)
    rw [secN, two_add_bit _ _ _ (by omega)]
    by_cases hi : i < 8
    · rw [if_pos hi, show i / 8 = 0 by omega, show i % 8 = i by omega]
      rfl
    · rw [if_neg hi, ih hr (i - 8), show (i - 8) % 8 = i % 8 by omega]
      have e : i / 8 = (i - 8) / 8 + 1 := by omega
      rw [e]
      rfl

theorem secN_lt {b : List Int} (h : Bts b) : secN b < 2 ^ (8 * b.length) := by
  induction b with
  | nil => simp [secN]
  | cons z r ih =>
    have hz := h z (List.mem_cons_self ..)
    have := ih fun x hx => h x (List.mem_cons_of_mem _ hx)
    rw [secN, List.length_cons, show 8 * (r.length + 1) = 8 * r.length + 8 by omega, Nat.pow_add]
    omega

theorem secN_inj {a b : List Int} (ha : Bts a) (hb : Bts b) (hl : a.length = b.length) (h : secN a = secN b) : a = b := by
  induction a generalizing b with
  | nil => cases b with
    | nil => rfl
    | cons => simp at hl
  | cons x r ih => cases b with
    | nil => simp at hl
    | cons y s =>
      have hx := ha x (List.mem_cons_self ..)
      have hy := hb y (List.mem_cons_self ..)
      simp only [secN] at h
      have h1 : x.toNat = y.toNat := by omega
      have h2 : secN r = secN s := by omega
      rw [ih (fun z hz => ha z (List.mem_cons_of_mem _ hz)) (fun z hz => hb z (List.mem_cons_of_mem _ hz)) (by simpa using hl) h2, show x = y by omega]

/-- bit i of the bytes, as a number -/
def bitI (b : List Int) (i : Nat) : Int := zat b (i / 8) / 2 ^ (i % 8) % 2

theorem bitI_eq {b : List Int} (h : Bts b) (i : Nat) : bitI b i = if (secN b).testBit i then 1 else 0 := by
  rw [secN_bit h]
  have hz := h.at (i / 8)
  unfold bitI
  obtain ⟨z, hz2⟩ := Int.eq_ofNat_of_zero_le hz.1
  rw [hz2, Int.toNat_natCast]
  have e : (2 : Int) ^ (i % 8) = ((2 ^ (i % 8) : Nat) : Int) := by simp
  rw [e]
  have := bit_num z (i % 8)
  by_cases hb : z.testBit (i % 8) = true
  · rw [if_pos hb]; rw [if_pos hb] at this; omega
  · rw [if_neg hb]; rw [if_neg hb] at this; omega

theorem bitI_bd {b : List Int} (h : Bts b) (i : Nat) : bitI b i = 0 ∨ bitI b i = 1 := by
  rw [bitI_eq h]; split <;> simp

/-! ## A field of a number of any size -/
def putN (S a n W : Nat) : Nat := S % 2 ^ a + 2 ^ a * (W % 2 ^ n + 2 ^ n * (S / 2 ^ (a + n)))

theorem putN_bit (S a n W i : Nat) : (putN S a n W).testBit i = if a ≤ i ∧ i < a + n then W.testBit (i - a) else S.testBit i := by
  unfold putN
  rw [Nat.add_comm (S % 2 ^ a), Nat.testBit_two_pow_mul_add _ (Nat.mod_lt _ (Nat.two_pow_pos a))]
  by_cases h1 : i < a
  · rw [if_pos h1, if_neg (by omega), Nat.testBit_mod_two_pow]; simp [h1]
  · rw [if_neg h1, Nat.add_comm (W % 2 ^ n), Nat.testBit_two_pow_mul_add _ (Nat.mod_lt _ (Nat.two_pow_pos n))]
    by_cases h2 : i - a < n
    · rw [if_pos h2, if_pos (by omega), Nat.testBit_mod_two_pow]; simp [h2]
    · rw [if_neg h2, if_neg (by omega), Nat.testBit_div_two_pow]
      congr 1
      omega

theorem putN_zero (S a W : Nat) : putN S a 0 W = S := by
  apply Nat.eq_of_testBit_eq
  intro i
  rw [putN_bit, if_neg (by omega)]

theorem putN_succ_bit (S a k W i : Nat) : (putN S a (k + 1) W).testBit i = if i = a + k then W.testBit k else (putN S a k W).testBit i := by
  rw [putN_bit, putN_bit]
  by_cases h : i = a + k
  · subst h
    rw [if_pos (by omega), if_pos rfl]
    congr 1
    omega
  · rw [if_neg h]
    by_cases h2 : a ≤ i ∧ i < a + k
    · rw [if_pos (by omega), if_pos h2]
    · rw [if_neg (by omega), if_neg h2]

theorem putN_lt (S a n W m : Nat) (hS : S < 2 ^ m) (h : a + n ≤ m) : putN S a n W < 2 ^ m := by
  apply Nat.lt_pow_two_of_testBit
  intro i hi
  rw [putN_bit, if_neg (by omega)]
  exact Nat.testBit_lt_two_pow (Nat.lt_of_lt_of_le hS (Nat.pow_le_pow_right (by decide) hi))

theorem fld_put_same (S a n W : Nat) : fldN (putN S a n W) a n = W % 2 ^ n := by
  apply Nat.eq_of_testBit_eq
  intro i
  rw [fldN_bit, putN_bit, Nat.testBit_mod_two_pow]
  by_cases hi : i < n
  · rw [if_pos (by omega), show a + i - a = i by omega]
  · simp [hi]

theorem fld_put_other (S a n W b m : Nat) (h : a + n ≤ b ∨ b + m ≤ a) : fldN (putN S a n W) b m = fldN S b m := by
  apply Nat.eq_of_testBit_eq
  intro i
  rw [fldN_bit, fldN_bit, putN_bit]
  by_cases hi : i < m
  · rw [if_neg (by omega)]
  · simp [hi]

theorem put_put (S a n W U : Nat) : putN (putN S a n W) a n U = putN S a n U := by
  apply Nat.eq_of_testBit_eq
  intro i
  rw [putN_bit, putN_bit, putN_bit]
  by_cases h : a ≤ i ∧ i < a + n
  · rw [if_pos h, if_pos h]
  · rw [if_neg h, if_neg h, if_neg h]

theorem put_back (S a n : Nat) (W : Nat) (h : W % 2 ^ n = fldN S a n) : putN S a n W = S := by
  apply Nat.eq_of_testBit_eq
  intro i
  rw [putN_bit]
  by_cases hi : a ≤ i ∧ i < a + n
  · rw [if_pos hi]
    have h1 := congrArg (fun x => Nat.testBit x (i - a)) h
    simp only [Nat.testBit_mod_two_pow, fldN_bit] at h1
    simp [show i - a < n by omega, show a + (i - a) = i by omega] at h1
    exact h1
  · rw [if_neg hi]

/-- the bytes of a number -/
def bytesN (x len : Nat) : List Int := (List.range len).map fun j => ((x / 256 ^ j % 256 : Nat) : Int)
theorem bytesN_length (x len : Nat) : (bytesN x len).length = len := by simp [bytesN]
theorem bytesN_bts (x len : Nat) : Bts (bytesN x len) := by
  intro z hz
  simp only [bytesN, List.mem_map] at hz
  obtain ⟨j, _, rfl⟩ := hz
  omega
theorem bytesN_zat (x len j : Nat) (h : j < len) : zat (bytesN x len) j = ((x / 256 ^ j % 256 : Nat) : Int) := by
  simp [bytesN, zat, List.getD_eq_getElem?_getD, h]
theorem secN_bytesN (x len : Nat) (h : x < 2 ^ (8 * len)) : secN (bytesN x len) = x := by
  apply Nat.eq_of_testBit_eq
  intro i
  rw [secN_bit (bytesN_bts x len)]
  by_cases hi : i / 8 < len
  · rw [bytesN_zat _ _ _ hi, Int.toNat_natCast, show (256 : Nat) = 2 ^ 8 by rfl, ← Nat.pow_mul, Nat.testBit_mod_two_pow, Nat.testBit_div_two_pow]
    have h8 : i % 8 < 8 := Nat.mod_lt _ (by decide)
    simp only [h8, decide_true, Bool.true_and]
    congr 1
    omega
  · rw [zat_out (by rw [bytesN_length]; omega)]
    rw [Nat.testBit_lt_two_pow (Nat.lt_of_lt_of_le h (Nat.pow_le_pow_right (by decide) (by omega)))]
    simp
theorem bytesN_secN {b : List Int} (h : Bts b) : bytesN (secN b) b.length = b := by
  apply secN_inj (bytesN_bts _ _) h (bytesN_length _ _)
  exact secN_bytesN _ _ (secN_lt h)

/-! ## One bit of a byte -/
theorem byte_add : ∀ y : Fin 256, ∀ r : Fin 8, y.val.testBit r.val = false → y.val + 2 ^ r.val < 256 ∧ ∀ i : Fin 8, (y.val + 2 ^ r.val).testBit i.val = (decide (i.val = r.val) || y.val.testBit i.val) := by decide +kernel
theorem byte_sub : ∀ y : Fin 256, ∀ r : Fin 8, y.val.testBit r.val = true → 2 ^ r.val ≤ y.val ∧ ∀ i : Fin 8, (y.val - 2 ^ r.val).testBit i.val = (decide (i.val ≠ r.val) && y.val.testBit i.val) := by decide +kernel

theorem set_bts {l : List Int} (h : Bts l) (j : Nat) (x : Int) (hx : 0 ≤ x ∧ x < 256) : Bts (l.set j x) := by
  intro z hz
  rcases List.mem_or_eq_of_mem_set hz with h1 | rfl
  · exact h z h1
  · exact hx

theorem set_bit {l : List Int} (h : Bts l) (j : Nat) (x : Int) (hx : 0 ≤ x ∧ x < 256) (hj : j < l.length) (i : Nat) :
    (secN (l.set j x)).testBit i = if i / 8 = j then x.toNat.testBit (i % 8) else (secN l).testBit i := by
  rw [secN_bit (set_bts h j x hx), zat_set _ _ _ _ hj]
  by_cases e : i / 8 = j
  · rw [if_pos e.symm, if_pos e]
  · rw [if_neg (fun h => e h.symm), if_neg e, secN_bit h]

/-- a 1 put in the place of a 0, a 0 in the place of a 1 -/
theorem set_add {l : List Int} (h : Bts l) (p : Nat) (hp : p / 8 < l.length) (h0 : (secN l).testBit p = false) :
    0 ≤ zat l (p / 8) + 2 ^ (p % 8) ∧ zat l (p / 8) + 2 ^ (p % 8) < 256 ∧ ∀ i, (secN (l.set (p / 8) (zat l (p / 8) + 2 ^ (p % 8)))).testBit i = if i = p then true else (secN l).testBit i := by
  have hz := h.at (p / 8)
  obtain ⟨y, hy⟩ := Int.eq_ofNat_of_zero_le hz.1
  rw [secN_bit h, hy, Int.toNat_natCast] at h0
  have hy2 : y < 256 := by omega
  have hr : p % 8 < 8 := by omega
  obtain ⟨k1, k2⟩ := byte_add ⟨y, hy2⟩ ⟨p % 8, hr⟩ h0
  simp only at k1 k2
  have e : (2 : Int) ^ (p % 8) = ((2 ^ (p % 8) : Nat) : Int) := by simp
  have hx : 0 ≤ zat l (p / 8) + 2 ^ (p % 8) ∧ zat l (p / 8) + 2 ^ (p % 8) < 256 := by
    rw [hy, e]
    have k3 := k1
    clear k2 e
    generalize 2 ^ (p % 8) = q at *
    omega
  refine ⟨hx.1, hx.2, fun i => ?_⟩
  rw [set_bit h _ _ hx hp]
  by_cases c : i / 8 = p / 8
  · rw [if_pos c]
    have hk := k2 ⟨i % 8, by omega⟩
    simp only at hk
    rw [hy, e, ← Int.natCast_add, Int.toNat_natCast, hk, secN_bit h, c, hy, Int.toNat_natCast]
    by_cases c2 : i = p
    · subst c2; simp
    · have : i % 8 ≠ p % 8 := by omega
      simp [c2, this]
  · rw [if_neg c, if_neg (by rintro rfl; exact c rfl)]

theorem set_sub {l : List Int} (h : Bts l) (p : Nat) (hp : p / 8 < l.length) (h0 : (secN l).testBit p = true) :
    0 ≤ zat l (p / 8) - 2 ^ (p % 8) ∧ zat l (p / 8) - 2 ^ (p % 8) < 256 ∧ ∀ i, (secN (l.set (p / 8) (zat l (p / 8) - 2 ^ (p % 8)))).testBit i = if i = p then false else (secN l).testBit i := by
  have hz := h.at (p / 8)
  obtain ⟨y, hy⟩ := Int.eq_ofNat_of_zero_le hz.1
  rw [secN_bit h, hy, Int.toNat_natCast] at h0
  have hy2 : y < 256 := by omega
  have hr : p % 8 < 8 := by omega
  obtain ⟨k1, k2⟩ := byte_sub ⟨y, hy2⟩ ⟨p % 8, hr⟩ h0
  simp only at k1 k2
  have e : (2 : Int) ^ (p % 8) = ((2 ^ (p % 8) : Nat) : Int) := by simp
  have hx : 0 ≤ zat l (p / 8) - 2 ^ (p % 8) ∧ zat l (p / 8) - 2 ^ (p % 8) < 256 := by
    rw [hy, e]
    have k3 := k1
    clear k2 e
    generalize 2 ^ (p % 8) = q at *
    omega
  refine ⟨hx.1, hx.2, fun i => ?_⟩
  rw [set_bit h _ _ hx hp]
  by_cases c : i / 8 = p / 8
  · rw [if_pos c]
    have hk := k2 ⟨i % 8, by omega⟩
    simp only at hk
    rw [hy, e, show ((y : Int) - ((2 ^ (p % 8) : Nat) : Int)).toNat = y - 2 ^ (p % 8) from Int.toNat_sub _ _, hk, secN_bit h, c, hy, Int.toNat_natCast]
    by_cases c2 : i = p
    · subst c2; simp
    · have : i % 8 ≠ p % 8 := by omega
      simp [c2, this]
  · rw [if_neg c, if_neg (by rintro rfl; exact c rfl)]

/-! ## A scalar field -/
/-- is field i of n bits within the bytes? -/
def presB (len : Nat) (n i : Int) : Bool := decide (0 ≤ i ∧ i ≤ 8 * (len : Int) / n - 1)
/-- the value of a field -/
def uintN (b : List Int) (n i d : Nat) : Nat := fldN (secN b) (n * i) n ^^^ (d % 2 ^ n)
def uintI (b : List Int) (n i d : Int) : Int := if presB b.length n i then (uintN b n.toNat i.toNat d.toNat : Int) else fld d 0 n
/-- the bytes with the field set -/
def setL (b : List Int) (n i d v : Int) : List Int := bytesN (putN (secN b) (n.toNat * i.toNat) n.toNat (v.toNat ^^^ d.toNat)) b.length

theorem presB_room {len : Nat} {n i : Int} (hn : 1 ≤ n) (h : presB len n i = true) : 0 ≤ i ∧ n * i + n ≤ 8 * (len : Int) := by
  unfold presB at h
  have h2 := of_decide_eq_true h
  refine ⟨h2.1, ?_⟩
  have h3 : (i + 1) * n ≤ 8 * (len : Int) := by
    have h4 : i + 1 ≤ 8 * (len : Int) / n := by omega
    exact (Int.le_ediv_iff_mul_le (by omega)).1 h4
  rw [Int.add_mul, Int.one_mul, Int.mul_comm] at h3
  omega

theorem setL_length (b : List Int) (n i d v : Int) : (setL b n i d v).length = b.length := bytesN_length _ _
theorem setL_bts (b : List Int) (n i d v : Int) : Bts (setL b n i d v) := bytesN_bts _ _
theorem setL_sec {b : List Int} (hb : Bts b) {n i : Int} (d v : Int) (hn : 1 ≤ n) (h : presB b.length n i = true) : secN (setL b n i d v) = putN (secN b) (n.toNat * i.toNat) n.toNat (v.toNat ^^^ d.toNat) := by
  have hr := presB_room hn h
  apply secN_bytesN
  refine putN_lt _ _ _ _ _ (secN_lt hb) ?_
  obtain ⟨N, rfl⟩ := Int.eq_ofNat_of_zero_le (by omega : 0 ≤ n)
  obtain ⟨I, rfl⟩ := Int.eq_ofNat_of_zero_le hr.1
  rw [Int.toNat_natCast, Int.toNat_natCast]
  have := hr.2
  rw [← Int.natCast_mul] at this
  omega
end Go.Proofs.Ytekcmifgdlmljaa
