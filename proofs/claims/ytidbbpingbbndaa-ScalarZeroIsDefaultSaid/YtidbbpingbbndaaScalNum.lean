/- The bytes that hold a scalar field: read as one number, and written. Nothing of the program's text is named here. -/
import Derived.Test.YtidbbpingbbndaaSecNum
namespace Go.Proofs.Ytidbbpingbbndaa
set_option linter.unusedVariables false
set_option linter.unusedSimpArgs false

/-- the widths of a field -/
def Wid (n : Int) : Prop := n = 1 ∨ n = 8 ∨ n = 16 ∨ n = 32 ∨ n = 64
theorem Wid.pos {n : Int} (h : Wid n) : 1 ≤ n := by unfold Wid at h; omega
theorem Wid.le {n : Int} (h : Wid n) : n ≤ 64 := by unfold Wid at h; omega

/-- the first byte that a field lies in, the bits before it there, the bytes that it lies in -/
def fstB (n i : Int) : Int := n * i / 8
def shfB (n i : Int) : Int := n * i % 8
def cntB (n : Int) : Int := (n + 8 - 1) / 8

structure Lies (len : Nat) (n i : Int) (F s c : Nat) : Prop where
  first : n * i / 8 = F
  shift : n * i % 8 = s
  count : (n + 8 - 1) / 8 = c
  room : F + c ≤ len
  at_eq : n.toNat * i.toNat = 8 * F + s
  fits : s + n.toNat ≤ 8 * c
  s_lt : s < 8
  c_pos : 0 < c
  c_le : c ≤ 8
  i_ge : 0 ≤ i
  ni_ge : 0 ≤ n * i
  ni_le : n * i + n ≤ 8 * (len : Int)
  sn : s + n.toNat ≤ 64

theorem lies_of {len : Nat} {n i : Int} (hw : Wid n) (h : presB len n i = true) : ∃ F s c, Lies len n i F s c := by
  have hr := presB_room hw.pos h
  have hni : 0 ≤ n * i := Int.mul_nonneg (by have := hw.pos; omega) hr.1
  obtain ⟨I, rfl⟩ := Int.eq_ofNat_of_zero_le hr.1
  refine ⟨(n * I / 8).toNat, (n * I % 8).toNat, ((n + 8 - 1) / 8).toNat, ?_⟩
  have he : n.toNat * (I : Int).toNat = (n * (I : Int)).toNat := by
    have h0 := hw.pos
    obtain ⟨N, rfl⟩ := Int.eq_ofNat_of_zero_le (by omega : 0 ≤ n)
    rw [← Int.natCast_mul, Int.toNat_natCast, Int.toNat_natCast, Int.toNat_natCast]
  unfold Wid at hw
  rcases hw with rfl | rfl | rfl | rfl | rfl <;> constructor <;> first | omega | (rw [he]; omega)

theorem leF_list (z : Nat → Int) (c : Nat) (hz : ∀ i, i < c → 0 ≤ z i) : leF z c = (secN ((List.range c).map z) : Int) := by
  induction c generalizing z with
  | zero => rfl
  | succ c ih =>
    rw [leF_first, ih (fun j => z (j + 1)) (fun i hi => hz (i + 1) (by omega)), List.range_succ_eq_map, List.map_cons, secN, List.map_map]
    have := hz 0 (by omega)
    have e : (z ∘ Nat.succ) = fun j => z (j + 1) := rfl
    rw [e]
    omega

/-- the bytes of a part, as one number -/
theorem leF_part {b : List Int} (hb : Bts b) (F c : Nat) (h : F + c ≤ b.length) : leF (fun j => zat b (F + j)) c = ((secN b / 2 ^ (8 * F) % 2 ^ (8 * c) : Nat) : Int) := by
  rw [leF_list _ _ (fun i _ => (hb.at _).1)]
  congr 1
  have hB : Bts ((List.range c).map fun j => zat b (F + j)) := by
    intro z hz
    simp only [List.mem_map] at hz
    obtain ⟨j, _, rfl⟩ := hz
    exact hb.at _
  apply Nat.eq_of_testBit_eq
  intro i
  rw [secN_bit hB, Nat.testBit_mod_two_pow, Nat.testBit_div_two_pow]
  by_cases hi : i / 8 < c
  · have e : zat ((List.range c).map fun j => zat b (F + j)) (i / 8) = zat b (F + i / 8) := by simp [zat, List.getD_eq_getElem?_getD, hi]
    rw [e, secN_bit hb, show (i + 8 * F) / 8 = F + i / 8 by omega, show (i + 8 * F) % 8 = i % 8 by omega]
    simp [show i < 8 * c by omega]
  · rw [zat_out (by simp; omega)]
    simp [show ¬ i < 8 * c by omega]

/-- the value of a present field, as the program joins it -/
theorem uint_go {b : List Int} (hb : Bts b) {n i d : Int} {F s c : Nat} (hw : Wid n) (hp : presB b.length n i = true) (hl : Lies b.length n i F s c) (hd : 0 ≤ d) (hd2 : d < 18446744073709551616) :
    bits .and .u64 (bits .xor .u64 d (leF (fun j => zat b (F + j)) c / 2 ^ s)) (18446744073709551615 / 2 ^ (64 - n).toNat) = uintI b n i d := by
  have hn := hw.pos
  have hn2 := hw.le
  rw [leF_part hb F c hl.room]
  obtain ⟨D, rfl⟩ := Int.eq_ofNat_of_zero_le hd
  have hX : secN b / 2 ^ (8 * F) % 2 ^ (8 * c) < 18446744073709551616 := by
    have h1 : secN b / 2 ^ (8 * F) % 2 ^ (8 * c) < 2 ^ (8 * c) := Nat.mod_lt _ (Nat.two_pow_pos _)
    exact Nat.lt_of_lt_of_le h1 (Nat.pow_le_pow_right (n := 2) (by decide) (show 8 * c ≤ 64 by have := hl.c_le; omega))
  have e : (2 : Int) ^ s = ((2 ^ s : Nat) : Int) := by simp
  rw [e, ← Int.natCast_ediv, mask_eq n (by omega) hn2]
  have hY : secN b / 2 ^ (8 * F) % 2 ^ (8 * c) / 2 ^ s < 18446744073709551616 := Nat.lt_of_le_of_lt (Nat.div_le_self _ _) hX
  rw [bits_xor_u64_nat _ _ (by omega) hY]
  have hZ : (D ^^^ (secN b / 2 ^ (8 * F) % 2 ^ (8 * c) / 2 ^ s)) < 18446744073709551616 := Nat.xor_lt_two_pow (n := 64) (by omega) hY
  have hM : 2 ^ n.toNat - 1 < 18446744073709551616 := by have := pow_le_64 (n := n.toNat) (by omega); omega
  rw [bits_and_u64_nat _ _ hZ hM, Nat.and_two_pow_sub_one_eq_mod]
  unfold uintI
  rw [if_pos hp]
  congr 1
  unfold uintN
  apply Nat.eq_of_testBit_eq
  intro j
  rw [Nat.testBit_mod_two_pow, Nat.testBit_xor, Nat.testBit_xor, fldN_bit, Nat.testBit_mod_two_pow, Nat.testBit_div_two_pow, Nat.testBit_mod_two_pow, Nat.testBit_div_two_pow, Int.toNat_natCast]
  by_cases hj : j < n.toNat
  · have h1 : j + s < 8 * c := by have := hl.fits; omega
    rw [hl.at_eq, show j + s + 8 * F = 8 * F + s + j by omega]
    simp [hj, h1, Bool.xor_comm]
  · simp [hj]

/-- the value of an absent field -/
theorem uint_go_no {b : List Int} {n i d : Int} (hw : Wid n) (hp : presB b.length n i = false) (hd : 0 ≤ d) (hd2 : d < 18446744073709551616) :
    bits .and .u64 d (18446744073709551615 / 2 ^ (64 - n).toNat) = uintI b n i d := by
  have hn := hw.pos
  have hn2 := hw.le
  unfold uintI
  rw [if_neg (by rw [hp]; exact Bool.false_ne_true)]
  have := fld_go d 0 n (by omega) hn2 hd hd2
  simpa using this

/-- the bytes behind a store -/
def putL (b : List Int) (n i x : Int) : List Int := bytesN (putN (secN b) (n.toNat * i.toNat) n.toNat x.toNat) b.length
theorem putL_length (b : List Int) (n i x : Int) : (putL b n i x).length = b.length := bytesN_length _ _
theorem putL_bts (b : List Int) (n i x : Int) : Bts (putL b n i x) := bytesN_bts _ _
theorem setL_putL (b : List Int) (n i d v : Int) (hd : 0 ≤ d) (hd2 : d < 18446744073709551616) (hv : 0 ≤ v) (hv2 : v < 18446744073709551616) : putL b n i (bits .xor .u64 v d) = setL b n i d v := by
  obtain ⟨D, rfl⟩ := Int.eq_ofNat_of_zero_le hd
  obtain ⟨V, rfl⟩ := Int.eq_ofNat_of_zero_le hv
  rw [bits_xor_u64_nat _ _ (by omega) (by omega)]
  rfl
theorem putL_bit {b : List Int} (hb : Bts b) {n i x : Int} (hn : 1 ≤ n) (hp : presB b.length n i = true) (p : Nat) :
    (secN (putL b n i x)).testBit p = if n.toNat * i.toNat ≤ p ∧ p < n.toNat * i.toNat + n.toNat then x.toNat.testBit (p - n.toNat * i.toNat) else (secN b).testBit p := by
  have hr := presB_room hn hp
  have h : secN (putL b n i x) = putN (secN b) (n.toNat * i.toNat) n.toNat x.toNat := by
    apply secN_bytesN
    refine putN_lt _ _ _ _ _ (secN_lt hb) ?_
    obtain ⟨N, rfl⟩ := Int.eq_ofNat_of_zero_le (by omega : 0 ≤ n)
    obtain ⟨I, rfl⟩ := Int.eq_ofNat_of_zero_le hr.1
    rw [Int.toNat_natCast, Int.toNat_natCast]
    have := hr.2
    rw [← Int.natCast_mul] at this
    omega
  rw [h, putN_bit]

theorem secN_byte {b : List Int} (hb : Bts b) (q j : Nat) (hj : j < 8) : (zat b q).toNat.testBit j = (secN b).testBit (8 * q + j) := by
  rw [secN_bit hb, show (8 * q + j) / 8 = q by omega, show (8 * q + j) % 8 = j by omega]

theorem bit_255 (j : Nat) : (255 : Nat).testBit j = decide (j < 8) := by
  have h := Nat.testBit_two_pow_sub_one 8 j
  exact h

/-- one byte of a store -/
theorem store_go {b : List Int} (hb : Bts b) {n i x : Int} {F s c k : Nat} (hw : Wid n) (hp : presB b.length n i = true) (hl : Lies b.length n i F s c) (hx : 0 ≤ x) (hx2 : x < 18446744073709551616) (hk : k < c) :
    bits .or .u8 (bits .andNot .u8 (zat b (F + k)) (IntKind.u8.wrap (IntKind.u64.wrap (18446744073709551615 / 2 ^ (64 - n).toNat * 2 ^ s) / 2 ^ (8 * k))))
      (IntKind.u8.wrap (bits .and .u64 (IntKind.u64.wrap (x * 2 ^ s)) (IntKind.u64.wrap (18446744073709551615 / 2 ^ (64 - n).toNat * 2 ^ s)) / 2 ^ (8 * k))) = zat (putL b n i x) (F + k) := by
  have hn := hw.pos
  have hn2 := hw.le
  obtain ⟨X, rfl⟩ := Int.eq_ofNat_of_zero_le hx
  have hz := hb.at (F + k)
  have hT := (putL_bts b n i X).at (F + k)
  obtain ⟨Z, hZ⟩ := Int.eq_ofNat_of_zero_le hz.1
  obtain ⟨T, hTT⟩ := Int.eq_ofNat_of_zero_le hT.1
  have eT := fun j hj => secN_byte (putL_bts b n i X) (F + k) j hj
  have eZ := fun j hj => secN_byte hb (F + k) j hj
  rw [hTT] at eT
  rw [hZ] at eZ
  rw [hZ, hTT, mask_eq n (by omega) hn2]
  have e : (2 : Int) ^ s = ((2 ^ s : Nat) : Int) := by simp
  have e8 : (2 : Int) ^ (8 * k) = ((2 ^ (8 * k) : Nat) : Int) := by simp
  have hm := mask_lt s n.toNat hl.sn
  have hX64 : X * 2 ^ s % 18446744073709551616 < 18446744073709551616 := Nat.mod_lt _ (by decide)
  rw [e, e8, ← Int.natCast_mul, wrap_u64_nat _ hm, ← Int.natCast_mul, IntKind.wrap_u64]
  have ew : ((X * 2 ^ s : Nat) : Int) % 18446744073709551616 = ((X * 2 ^ s % 18446744073709551616 : Nat) : Int) := by omega
  rw [ew, bits_and_u64_nat _ _ hX64 (by omega), ← Int.natCast_ediv, ← Int.natCast_ediv, IntKind.wrap_u8, IntKind.wrap_u8]
  have c1 : ∀ q : Nat, (q : Int) % 256 = ((q % 256 : Nat) : Int) := fun q => by omega
  rw [c1, c1]
  have l1 : ∀ q : Nat, q % 256 < 256 := fun q => Nat.mod_lt _ (by decide)
  rw [u8_andNot_nat _ _ (by omega) (l1 _)]
  have l2 : ∀ q : Nat, Z &&& q < 256 := fun q => Nat.lt_of_le_of_lt Nat.and_le_left (by omega)
  rw [u8_or_nat _ _ (l2 _) (l1 _)]
  congr 1
  apply Nat.eq_of_testBit_eq
  intro j
  by_cases hj : j < 8
  · have eM : (((2 ^ n.toNat - 1) * 2 ^ s) / 2 ^ (8 * k) % 256).testBit j = decide (s ≤ 8 * k + j ∧ 8 * k + j < s + n.toNat) := by
      rw [show (256 : Nat) = 2 ^ 8 by rfl, Nat.testBit_mod_two_pow, Nat.testBit_div_two_pow, Nat.testBit_mul_two_pow, Nat.testBit_two_pow_sub_one]
      simp only [hj, decide_true, Bool.true_and]
      by_cases h1 : s ≤ j + 8 * k
      · by_cases h2 : j + 8 * k - s < n.toNat
        · simp [h1, h2, show s ≤ 8 * k + j by omega, show 8 * k + j < s + n.toNat by omega]
        · simp [h2, show ¬ 8 * k + j < s + n.toNat by omega]
      · simp [h1, show ¬ s ≤ 8 * k + j by omega]
    have e255 : (255 - ((2 ^ n.toNat - 1) * 2 ^ s) / 2 ^ (8 * k) % 256).testBit j = !decide (s ≤ 8 * k + j ∧ 8 * k + j < s + n.toNat) := by
      have h := Nat.testBit_two_pow_sub_succ (x := ((2 ^ n.toNat - 1) * 2 ^ s) / 2 ^ (8 * k) % 256) (n := 8) (l1 _) j
      rw [show 2 ^ 8 - (((2 ^ n.toNat - 1) * 2 ^ s) / 2 ^ (8 * k) % 256 + 1) = 255 - ((2 ^ n.toNat - 1) * 2 ^ s) / 2 ^ (8 * k) % 256 by omega] at h
      rw [h, eM]
      simp [hj]
    have eB : ((X * 2 ^ s % 18446744073709551616 &&& (2 ^ n.toNat - 1) * 2 ^ s) / 2 ^ (8 * k) % 256).testBit j = (decide (s ≤ 8 * k + j ∧ 8 * k + j < s + n.toNat) && X.testBit (8 * k + j - s)) := by
      rw [show (256 : Nat) = 2 ^ 8 by rfl, Nat.testBit_mod_two_pow, Nat.testBit_div_two_pow, Nat.testBit_and, show (18446744073709551616 : Nat) = 2 ^ 64 by rfl, Nat.testBit_mod_two_pow, Nat.testBit_mul_two_pow, Nat.testBit_mul_two_pow, Nat.testBit_two_pow_sub_one]
      have h64 : j + 8 * k < 64 := by have := hl.c_le; omega
      simp only [hj, decide_true, Bool.true_and, h64]
      rw [show j + 8 * k = 8 * k + j by omega]
      by_cases h1 : s ≤ 8 * k + j
      · by_cases h2 : 8 * k + j - s < n.toNat
        · simp [h1, h2, show 8 * k + j < s + n.toNat by omega]
        · simp [h2, show ¬ 8 * k + j < s + n.toNat by omega]
      · simp [h1]
    rw [Nat.testBit_or, Nat.testBit_and, e255, eB]
    have eT' := eT j hj
    have eZ' := eZ j hj
    rw [Int.toNat_natCast] at eT' eZ'
    rw [eT', eZ', putL_bit hb hn hp, hl.at_eq, Int.toNat_natCast]
    by_cases hc : s ≤ 8 * k + j ∧ 8 * k + j < s + n.toNat
    · rw [if_pos (by omega)]
      simp only [hc, and_self, decide_true, Bool.not_true, Bool.and_false, Bool.true_and, Bool.false_or]
      congr 1
      omega
    · rw [if_neg (by omega)]
      simp [hc]
  · have h2 : T < 256 := by omega
    have t1 : T.testBit j = false := Nat.testBit_lt_two_pow (Nat.lt_of_lt_of_le h2 (by have := Nat.pow_le_pow_right (n := 2) (by decide) (show 8 ≤ j by omega); omega))
    rw [t1]
    apply Nat.testBit_lt_two_pow
    have h3 : ∀ a b : Nat, a < 256 → b < 256 → a ||| b < 2 ^ j := fun a b ha hb => Nat.lt_of_lt_of_le (Nat.or_lt_two_pow (n := 8) ha hb) (Nat.pow_le_pow_right (by decide) (by omega))
    exact h3 _ _ (l2 _) (l1 _)

/-- the bytes that a store has reached, k of them written -/
theorem putL_all {b : List Int} (hb : Bts b) {n i x : Int} {F s c : Nat} (hn : 1 ≤ n) (hp : presB b.length n i = true) (hl : Lies b.length n i F s c) :
    splice b F (((putL b n i x).drop F).take c) = putL b n i x := by
  have hlen := putL_length b n i x
  have l1 : (((putL b n i x).drop F).take c).length = c := by rw [List.length_take, List.length_drop, hlen]; have := hl.room; omega
  have h1 : F + (((putL b n i x).drop F).take c).length ≤ b.length := by rw [l1]; exact hl.room
  apply ext_zat
  · rw [splice_length h1, hlen]
  · intro q hq
    rw [splice_length h1] at hq
    rw [splice_zat h1, l1]
    by_cases hc : F ≤ q ∧ q < F + c
    · rw [if_pos hc, zat_take _ _ _ (by omega), zat_drop]
      congr 1
      omega
    · rw [if_neg hc]
      have h2 := hb.at q
      have h3 := (putL_bts b n i x).at q
      have e : (zat b q).toNat = (zat (putL b n i x) q).toNat := by
        apply Nat.eq_of_testBit_eq
        intro j
        by_cases hj : j < 8
        · rw [secN_byte hb q j hj, secN_byte (putL_bts b n i x) q j hj, putL_bit hb hn hp, hl.at_eq, if_neg (by have := hl.fits; omega)]
        · rw [Nat.testBit_lt_two_pow, Nat.testBit_lt_two_pow]
          · exact Nat.lt_of_lt_of_le (show (zat (putL b n i x) q).toNat < 2 ^ 8 by omega) (Nat.pow_le_pow_right (by decide) (by omega))
          · exact Nat.lt_of_lt_of_le (show (zat b q).toNat < 2 ^ 8 by omega) (Nat.pow_le_pow_right (by decide) (by omega))
      omega
end Go.Proofs.Ytidbbpingbbndaa
