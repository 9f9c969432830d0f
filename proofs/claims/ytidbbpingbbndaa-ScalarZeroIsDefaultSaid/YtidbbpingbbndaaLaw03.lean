/- What the laws of layer 3 rest on: a stored field read back, fields beside it, zero sections, wide fields and their parts. -/
import Derived.Test.YtidbbpingbbndaaAwake03
namespace Go.Proofs.Ytidbbpingbbndaa
open Go.ChangeShapes Go.WideShapes Go.ChangeAt Go.RowKit
set_option linter.unusedVariables false
set_option linter.unusedSimpArgs false

/-- the section behind SetUint -/
def setX (b : List Int) (n i d v : Int) : List Int := if presB b.length n i then setL b n i d v else b
theorem setX_length (b : List Int) (n i d v : Int) : (setX b n i d v).length = b.length := by unfold setX; split; exact setL_length _ _ _ _ _; rfl
theorem setX_bts {b : List Int} (hb : Bts b) (n i d v : Int) : Bts (setX b n i d v) := by unfold setX; split; exact setL_bts _ _ _ _ _; exact hb
theorem setX_yes {b : List Int} {n i : Int} (d v : Int) (h : presB b.length n i = true) : setX b n i d v = setL b n i d v := by unfold setX; rw [if_pos h]
theorem setX_no {b : List Int} {n i : Int} (d v : Int) (h : presB b.length n i = false) : setX b n i d v = b := by unfold setX; rw [if_neg (by rw [h]; exact Bool.false_ne_true)]

theorem wid_widI (k : Int) : Wid (widI k) := widI_cases k

theorem Set_any (A : Option Addr) (cap : Nat) (b : List Int) (n i d v : Int) (w : World) (hr : Ri w .u8 A b) (hb : Bts b) (hm : b.length ≤ 140737488355328) (hnil : A = none → cap = 0) (hc : b.length ≤ cap) (hw : Wid n) (hd : 0 ≤ d) (hd2 : d < 18446744073709551616)
    (hv : 0 ≤ v) (hv2 : v < 18446744073709551616) :
    Calls Try.prog 11 #[.slice A b.length cap, .int .i64 n, .int .i64 i, .int .u64 d, .int .u64 v] w fun e w' => ∃ A' c', e = .returned (.tuple #[.slice A' b.length c', .bool (presB b.length n i)]) ∧ Got w' w.heap.size 5 .u8 (.slice A' b.length c') (setX b n i d v) ∧ b.length ≤ c' ∧ c' ≤ 9223372036854775807 ∧ Below w.heap.size w w' := by
  cases hp : presB b.length n i with
  | true =>
    refine (Set_yes A cap b n i d v w hr hb hm hnil hc hw hd hd2 hv hv2 hp).mono ?_
    rintro e w' ⟨r, rfl, hg, hbl⟩
    obtain ⟨A', c', rfl, h1, h2, _⟩ := hg.slice
    rw [setL_length] at h1 hg ⊢
    rw [setX_yes d v hp]
    exact ⟨A', c', rfl, hg, h1, by unfold maxLen at h2; omega, hbl⟩
  | false =>
    refine (Set_no A cap b n i d v w hr hm hnil hc hw.pos hw.le hp).mono ?_
    rintro e w' ⟨r, rfl, hg, hbl⟩
    obtain ⟨A', c', rfl, h1, h2, _⟩ := hg.slice
    rw [setX_no d v hp]
    exact ⟨A', c', rfl, hg, h1, by unfold maxLen at h2; omega, hbl⟩

theorem SetFloat_any (A : Option Addr) (cap : Nat) (b : List Int) (i : Int) (d v : Nat) (w : World) (hr : Ri w .u8 A b) (hb : Bts b) (hm : b.length ≤ 140737488355328) (hnil : A = none → cap = 0) (hc : b.length ≤ cap) (hd : d < 18446744073709551616) (hv : v < 18446744073709551616) :
    Calls Try.prog 19 #[.slice A b.length cap, .int .i64 i, .float .f64 d, .float .f64 v] w fun e w' => ∃ A' c', e = .returned (.tuple #[.slice A' b.length c', .bool (presB b.length 64 i)]) ∧ Got w' w.heap.size 5 .u8 (.slice A' b.length c') (setX b 64 i d v) ∧ b.length ≤ c' ∧ c' ≤ 9223372036854775807 ∧ Below w.heap.size w w' := by
  cases hp : presB b.length 64 i with
  | true =>
    refine (SetFloat_yes A cap b i d v w hr hb hm hnil hc hd hv hp).mono ?_
    rintro e w' ⟨r, rfl, hg, hbl⟩
    obtain ⟨A', c', rfl, h1, h2, _⟩ := hg.slice
    rw [setL_length] at h1 hg ⊢
    rw [setX_yes _ _ hp]
    exact ⟨A', c', rfl, hg, h1, by unfold maxLen at h2; omega, hbl⟩
  | false =>
    refine (SetFloat_no A cap b i d v w hr hm hnil hc hp).mono ?_
    rintro e w' ⟨r, rfl, hg, hbl⟩
    obtain ⟨A', c', rfl, h1, h2, _⟩ := hg.slice
    rw [setX_no _ _ hp]
    exact ⟨A', c', rfl, hg, h1, by unfold maxLen at h2; omega, hbl⟩

theorem RefSet_any (A : Option Addr) (cap : Nat) (b : List Int) (n i d v : Int) (w : World) (hr : Ri w .u8 A b) (hb : Bts b) (hm : b.length ≤ 140737488355328) (hnil : A = none → cap = 0) (hw : Wid n) (hd : 0 ≤ d) (hd2 : d < 18446744073709551616)
    (hv : 0 ≤ v) (hv2 : v < 18446744073709551616) :
    Calls Try.prog 12 #[.slice A b.length cap, .int .i64 n, .int .i64 i, .int .u64 d, .int .u64 v] w fun e w' => ∃ A' c', e = .returned (.tuple #[.slice A' b.length c', .bool (presB b.length n i)]) ∧ Ri w' .u8 A' (setX b n i d v) ∧ Below w.heap.size w w' := by
  cases hp : presB b.length n i with
  | true =>
    refine (RefSet_yes A cap b n i d v w hr hb hnil hm hw.pos hw.le hd hd2 hv hv2 hp).mono ?_
    rintro e w' ⟨r, rfl, hg, hbl⟩
    obtain ⟨A', c', rfl, h1, h2, h3⟩ := hg.slice
    rw [setL_length]
    rw [setX_yes d v hp]
    exact ⟨A', c', rfl, h3, hbl⟩
  | false =>
    refine (RefSet_no A cap b.length n i d v w hm hw.pos hw.le hp).mono ?_
    rintro e w' ⟨rfl, rfl⟩
    rw [setX_no d v hp]
    exact ⟨A, cap, rfl, hr, Below.refl _ _⟩

/-! ## Numbers -/
theorem uintI_bd (b : List Int) {n : Int} (i d : Int) (hn : 1 ≤ n) (hn2 : n ≤ 64) : 0 ≤ uintI b n i d ∧ uintI b n i d < 18446744073709551616 := by
  rw [uintX_eq]
  have h := uintX_lt b n i d
  have h2 := pow_le_64 (n := n.toNat) (by omega)
  omega

theorem uintI_no {b : List Int} {n i : Int} (d : Int) (h : presB b.length n i = false) : uintI b n i d = fld d 0 n := by
  unfold uintI
  rw [if_neg (by rw [h]; exact Bool.false_ne_true)]

theorem uintI_set_same {b : List Int} (hb : Bts b) {n i : Int} (d v : Int) (hw : Wid n) (h : presB b.length n i = true) : uintI (setL b n i d v) n i d = fld v 0 n := by
  unfold uintI
  rw [setL_length, if_pos h]
  unfold uintN
  rw [setL_sec hb d v hw.pos h, fld_put_same, Nat.xor_mod_two_pow, Nat.xor_assoc, Nat.xor_self, Nat.xor_zero]
  unfold fld fldN
  rw [show (0 : Int).toNat = 0 from rfl, Nat.pow_zero, Nat.div_one]

theorem uintI_set_other {b : List Int} (hb : Bts b) {n i j : Int} (d v : Int) (hw : Wid n) (hj0 : 0 ≤ j) (hij : i ≠ j) (h : presB b.length n i = true) : uintI (setL b n i d v) n j d = uintI b n j d := by
  have hi0 := (presB_room hw.pos h).1
  unfold uintI
  rw [setL_length]
  split
  · unfold uintN
    rw [setL_sec hb d v hw.pos h, fld_put_other]
    obtain ⟨I, rfl⟩ := Int.eq_ofNat_of_zero_le hi0
    obtain ⟨J, rfl⟩ := Int.eq_ofNat_of_zero_le hj0
    simp only [Int.toNat_natCast]
    generalize n.toNat = N
    rcases Nat.lt_or_ge I J with hlt | hge
    · left
      have := Nat.mul_le_mul_left N (show I + 1 ≤ J by omega)
      rw [Nat.mul_add, Nat.mul_one] at this
      exact this
    · right
      have := Nat.mul_le_mul_left N (show J + 1 ≤ I by omega)
      rw [Nat.mul_add, Nat.mul_one] at this
      exact this
  · rfl

theorem setL_back {b : List Int} (hb : Bts b) {n i : Int} (d v : Int) (hw : Wid n) (h : presB b.length n i = true) : setL (setL b n i d v) n i d (uintI b n i d) = b := by
  have h2 : presB (setL b n i d v).length n i = true := by rw [setL_length]; exact h
  apply secN_inj (setL_bts _ _ _ _ _) hb (by rw [setL_length, setL_length])
  rw [setL_sec (setL_bts _ _ _ _ _) d _ hw.pos h2, setL_sec hb d v hw.pos h, put_put]
  apply put_back
  unfold uintI
  rw [if_pos h, Int.toNat_natCast]
  unfold uintN
  rw [Nat.xor_mod_two_pow, Nat.xor_mod_two_pow, Nat.mod_mod, Nat.xor_assoc, Nat.xor_self, Nat.xor_zero, Nat.mod_eq_of_lt (fldN_lt _ _ _)]

theorem secN_zero (s : Nat) : secN (List.replicate s 0) = 0 := by
  induction s with
  | zero => rfl
  | succ s ih => rw [List.replicate_succ, secN, ih]; rfl
theorem zeros_bts (s : Nat) : Bts (List.replicate s 0) := by
  intro z hz
  rw [List.eq_of_mem_replicate hz]
  omega
theorem uintI_zero (s : Nat) (n i d : Int) : uintI (List.replicate s 0) n i d = fld d 0 n := by
  unfold uintI
  split
  · unfold uintN
    rw [secN_zero]
    unfold fld fldN
    simp
  · rfl
theorem setX_zero (s : Nat) {n : Int} (i d : Int) (hw : Wid n) : setX (List.replicate s 0) n i d d = List.replicate s 0 := by
  unfold setX
  split
  · rename_i h
    apply secN_inj (setL_bts _ _ _ _ _) (zeros_bts s) (setL_length _ _ _ _ _)
    rw [setL_sec (zeros_bts s) d d hw.pos h, secN_zero, Nat.xor_self]
    apply Nat.eq_of_testBit_eq
    intro j
    rw [putN_bit]
    simp
  · rfl

/-- a field is made of its lower and its upper part -/
theorem fldN_split (S a p q : Nat) : fldN S a (p + q) = fldN S (a + p) q * 2 ^ p + fldN S a p := by
  unfold fldN
  rw [Nat.pow_add 2 p q, Nat.mod_mul, Nat.div_div_eq_div_mul, ← Nat.pow_add, Nat.mul_comm (2 ^ p)]
  omega
theorem uintI_part {b : List Int} {n i : Int} (h : presB b.length n i = true) : uintI b n i 0 = (fldN (secN b) (n.toNat * i.toNat) n.toNat : Nat) := by
  unfold uintI
  rw [if_pos h]
  unfold uintN
  simp
theorem presB_of {len : Nat} {n i : Int} (hn : 1 ≤ n) (hi : 0 ≤ i) (h : n * i + n ≤ 8 * (len : Int)) : presB len n i = true := by
  unfold presB
  apply decide_eq_true
  refine ⟨hi, ?_⟩
  have h2 : i + 1 ≤ 8 * (len : Int) / n := (Int.le_ediv_iff_mul_le (by omega)).2 (by rw [Int.add_mul, Int.one_mul, Int.mul_comm]; exact h)
  omega
end Go.Proofs.Ytidbbpingbbndaa
