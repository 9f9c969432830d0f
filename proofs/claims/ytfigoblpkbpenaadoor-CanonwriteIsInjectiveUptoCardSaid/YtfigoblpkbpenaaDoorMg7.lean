/- The texts Can3, PtrNum (what is wanted of them), one after the other. -/
import Derived.Test.YtfigoblpkbpenaaDoorMg1
import Derived.Test.YtfigoblpkbpenaaDoorMg2
import Derived.Test.YtfigoblpkbpenaaDoorMg3
import Derived.Test.YtfigoblpkbpenaaDoorMg4
import Derived.Test.YtfigoblpkbpenaaDoorMg5
import Derived.Test.YtfigoblpkbpenaaDoorMg6
/- How large a canonical size is: the node's size bounds it. -/
namespace Go.Proofs.YtfigoblpkbpenaaDoor
open Go.ChangeShapes Go.WideShapes Go.ChangeAt Go.RowKit
set_option linter.unusedVariables false
set_option linter.unusedSimpArgs false
set_option maxRecDepth 100000

/-- the head of a well-formed node -/
theorem valid_head {k e n : Int} {d : List Int} {ks : List Nd} (h : validN (.mk k e n d ks) = true) :
    (k = 0 ∧ d.length = 0 ∧ ks.length = 0) ∨ (k = 1 ∧ d.length % 8 = 0 ∧ d.length ≤ 524280 ∧ ks.length ≤ 65535) ∨ (k = 2 ∧ 0 ≤ n ∧ n ≤ 536870911 ∧ 0 ≤ e ∧ e ≤ 7 ∧ (6 ≤ e → d.length = 0 ∧ (ks.length : Int) = n) ∧ (e < 6 → ks.length = 0 ∧ (d.length : Int) = bytesI e n)) := by
  simp only [validN, Bool.and_eq_true] at h
  have h2 := h.2
  unfold headB at h2
  by_cases h0 : k = 0
  · rw [if_pos h0, decide_eq_true_iff] at h2
    exact .inl ⟨h0, h2.2.2⟩
  rw [if_neg h0] at h2
  by_cases h1 : k = 1
  · rw [if_pos h1, decide_eq_true_iff] at h2
    exact .inr (.inl ⟨h1, h2.2.2⟩)
  rw [if_neg h1] at h2
  by_cases h3 : k = 2
  · rw [if_pos h3, decide_eq_true_iff] at h2
    exact .inr (.inr ⟨h3, h2.1, h2.2.1, h2.2.2.1, h2.2.2.2.1, h2.2.2.2.2.1, fun h => ⟨(h2.2.2.2.2.2 h).1, (h2.2.2.2.2.2 h).2.1⟩⟩)
  · rw [if_neg h3] at h2
    cases h2
theorem valid_mem {k e n : Int} {d : List Int} {ks : List Nd} (h : validN (.mk k e n d ks) = true) {y : Nd} (hy : y ∈ ks) : validN y = true ∧ ¬ (k = 2 ∧ e = 7 ∧ y.k ≠ 1) := by
  simp only [validN, Bool.and_eq_true] at h
  exact validK_mem h.1 hy
/-- the elements of a well-formed composite list -/
theorem valid_elem {n : Int} {d : List Int} {ks : List Nd} (h : validN (.mk 2 7 n d ks) = true) {y : Nd} (hy : y ∈ ks) : y.k = 1 ∧ y.d.length / 8 ≤ 65535 ∧ y.ks.length ≤ 65535 := by
  obtain ⟨h1, h2⟩ := valid_mem h hy
  have hk : y.k = 1 := Classical.byContradiction fun h3 => h2 ⟨rfl, rfl, h3⟩
  obtain ⟨k, e, n', d', ks'⟩ := y
  simp only [Nd.k] at hk
  rcases valid_head h1 with h3 | h3 | h3
  · omega
  · exact ⟨hk, by show d'.length / 8 ≤ 65535; omega, h3.2.2.2⟩
  · omega
theorem uni_bd {n : Int} {d : List Int} {ks : List Nd} (h : validN (.mk 2 7 n d ks) = true) : uniD ks ks.length ≤ 65535 ∧ uniP ks ks.length ≤ 65535 :=
  ⟨uniD_le ks 65535 ks.length (Nat.le_refl _) fun y hy => (valid_elem h hy).2.1, uniP_le ks 65535 ks.length (Nat.le_refl _) fun y hy => (valid_elem h hy).2.2⟩
theorem sizeK_kk2 (l : List Nd) : sizeK (kk l) + l.length ≤ sizeK l := by
  induction l with
  | nil => simp [kk, sizeK]
  | cons x xs ih =>
    have h : kk (x :: xs) = x.ks ++ kk xs := by simp [kk]
    have h2 := sizeK_ks x
    have h3 : sizeK (x.ks ++ kk xs) = sizeK x.ks + sizeK (kk xs) := by
      generalize x.ks = a
      induction a with
      | nil => simp [sizeK]
      | cons y ys ih2 => simp only [List.cons_append, sizeK, ih2]; omega
    rw [h, h3]
    simp only [sizeK, List.length_cons]
    omega
theorem targN_mk (k e n : Int) (d : List Int) (ks : List Nd) : targN (.mk k e n d ks) = if k = 2 ∧ e = 7 then kk ks else ks := rfl
/-- of the object alone -/
theorem canO_size {x : Nd} (h : validN x = true) : 0 ≤ canO x ∧ canO x ≤ 131071 * ((sizeN x : Int) - sizeK (targN x)) - 1 + (targN x).length := by
  obtain ⟨k, e, n, d, ks⟩ := x
  have hs : sizeN (.mk k e n d ks) = 1 + d.length + sizeK ks := by simp [sizeN]
  have ht := sizeK_targ (.mk k e n d ks)
  have hk := sizeK_length ks
  show 0 ≤ canOf k e n d ks ∧ canOf k e n d ks ≤ _
  unfold canOf
  rcases valid_head h with ⟨rfl, h1, h2⟩ | ⟨rfl, h1, h2, h3⟩ | ⟨rfl, h1, h2, h3, h4, h5, h6⟩
  · rw [if_pos rfl]
    omega
  · rw [if_neg (by omega), if_pos rfl]
    have e1 : targN (.mk 1 e n d ks) = ks := by rw [targN_mk, if_neg (by omega)]
    rw [e1, hs]
    omega
  · rw [if_neg (by omega), if_neg (by omega)]
    by_cases h7 : e = 7
    · subst h7
      rw [if_pos rfl]
      have e1 : targN (.mk 2 7 n d ks) = kk ks := by rw [targN_mk, if_pos ⟨rfl, rfl⟩]
      have h8 := sizeK_kk2 ks
      obtain ⟨u1, u2⟩ := uni_bd h
      obtain ⟨-, hn⟩ := h5 (by omega)
      have m1 : 0 ≤ n * ((uniD ks ks.length + uniP ks ks.length : Nat) : Int) := Int.mul_nonneg h1 (by omega)
      have m2 : n * ((uniD ks ks.length + uniP ks ks.length : Nat) : Int) ≤ n * 131070 := Int.mul_le_mul_of_nonneg_left (by omega) h1
      rw [e1, hs]
      omega
    · rw [if_neg h7]
      have e1 : targN (.mk 2 e n d ks) = ks := by rw [targN_mk, if_neg (by omega)]
      have hb := bitsI_mul e n h1
      rw [e1, hs]
      by_cases h8 : e = 6
      · subst h8
        have e3 : wordsI 6 n = n := by unfold wordsI bitsI; simp; omega
        obtain ⟨-, hn⟩ := h5 (by omega)
        rw [e3]
        omega
      · obtain ⟨hk0, hd⟩ := h6 (by omega)
        unfold wordsI
        unfold bytesI at hd
        rw [if_neg h7]
        omega
theorem valid_targ {x : Nd} (h : validN x = true) : ∀ y ∈ targN x, validN y = true := by
  intro y hy
  obtain ⟨k, e, n, d, ks⟩ := x
  rw [targN_mk] at hy
  split at hy
  · unfold kk at hy
    obtain ⟨z, hz, hy⟩ := List.mem_flatMap.1 hy
    have hzv := (valid_mem h hz).1
    obtain ⟨k', e', n', d', ks'⟩ := z
    exact (valid_mem hzv hy).1
  · exact (valid_mem h hy).1
theorem can_size : ∀ x : Nd, validN x = true → 0 ≤ canN x ∧ canN x ≤ 131071 * (sizeN x : Int) - 1 := size_ind (by
  intro x ih h
  have ho := canO_size h
  have hK : ∀ l : List Nd, (∀ y ∈ l, 0 ≤ canN y ∧ canN y ≤ 131071 * (sizeN y : Int) - 1) → 0 ≤ canK l ∧ canK l ≤ 131071 * (sizeK l : Int) - l.length := by
    intro l hl
    induction l with
    | nil => simp [canK, sizeK]
    | cons y ys ih2 =>
      have h1 := hl y (List.mem_cons_self ..)
      have h2 := ih2 (fun z hz => hl z (List.mem_cons_of_mem _ hz))
      simp only [canK, sizeK, List.length_cons]
      omega
  have hv := valid_targ h
  have := hK (targN x) (fun y hy => ih y (targ_lt hy) (hv y hy))
  rw [canN_eq]
  omega)
end Go.Proofs.YtfigoblpkbpenaaDoor

/- Pointer words as numbers. Nothing of the program's text is named here. -/
namespace Go.Proofs.YtfigoblpkbpenaaDoor
set_option linter.unusedVariables false
set_option linter.unusedSimpArgs false
set_option maxRecDepth 100000

structure Ptr where
  k : Int
  o : Int
  d : Int
  p : Int
  el : Int
  c : Int
  db : Bool
  pa : Int
  sg : Int
  lo : Int

theorem fld_eq (x a n : Int) (hx : 0 ≤ x) : fld x a n = x / ((2 ^ a.toNat : Nat) : Int) % ((2 ^ n.toNat : Nat) : Int) := by
  obtain ⟨X, rfl⟩ := Int.eq_ofNat_of_zero_le hx
  unfold fld fldN
  rw [Int.toNat_natCast]
  simp

theorem f_0_2 (x : Int) (hx : 0 ≤ x) : fld x 0 2 = x % 4 := by
  rw [fld_eq x 0 2 hx]; show x / 1 % 4 = x % 4; omega
theorem f_2_1 (x : Int) (hx : 0 ≤ x) : fld x 2 1 = x / 4 % 2 := by rw [fld_eq x _ _ hx]; rfl
theorem f_2_30 (x : Int) (hx : 0 ≤ x) : fld x 2 30 = x / 4 % 1073741824 := by rw [fld_eq x _ _ hx]; rfl
theorem f_3_29 (x : Int) (hx : 0 ≤ x) : fld x 3 29 = x / 8 % 536870912 := by rw [fld_eq x _ _ hx]; rfl
theorem f_32_3 (x : Int) (hx : 0 ≤ x) : fld x 32 3 = x / 4294967296 % 8 := by rw [fld_eq x _ _ hx]; rfl
theorem f_32_16 (x : Int) (hx : 0 ≤ x) : fld x 32 16 = x / 4294967296 % 65536 := by rw [fld_eq x _ _ hx]; rfl
theorem f_32_32 (x : Int) (hx : 0 ≤ x) : fld x 32 32 = x / 4294967296 % 4294967296 := by rw [fld_eq x _ _ hx]; rfl
theorem f_35_29 (x : Int) (hx : 0 ≤ x) : fld x 35 29 = x / 34359738368 % 536870912 := by rw [fld_eq x _ _ hx]; rfl
theorem f_48_16 (x : Int) (hx : 0 ≤ x) : fld x 48 16 = x / 281474976710656 % 65536 := by rw [fld_eq x _ _ hx]; rfl

def off30 (x : Int) : Int := if 536870912 ≤ x / 4 % 1073741824 then x / 4 % 1073741824 - 1073741824 else x / 4 % 1073741824
theorem s_2_30 (x : Int) (hx : 0 ≤ x) : sgn x 2 30 = off30 x := by
  unfold sgn off30
  rw [f_2_30 x hx]
  rfl

/-- the pointer that a word encodes -/
def decP (x : Int) : Ptr :=
  if x % 4 = 0 then ⟨0, off30 x, x / 4294967296 % 65536, x / 281474976710656 % 65536, 0, 0, false, 0, 0, 0⟩
  else if x % 4 = 1 then ⟨1, off30 x, 0, 0, x / 4294967296 % 8, x / 34359738368 % 536870912, false, 0, 0, 0⟩
  else if x % 4 = 2 then ⟨2, 0, 0, 0, 0, 0, x / 4 % 2 == 1, x / 8 % 536870912, x / 4294967296 % 4294967296, 0⟩
  else ⟨3, 0, 0, 0, 0, 0, false, 0, x / 4294967296 % 4294967296, x / 4 % 1073741824⟩

/-- the word of a pointer of the kinds 0 to 3, each field cut to its bits -/
def encW (q : Ptr) : Int :=
  if q.k = 0 then 4 * (q.o % 1073741824) + 4294967296 * (q.d % 65536) + 281474976710656 * (q.p % 65536)
  else if q.k = 1 then 1 + 4 * (q.o % 1073741824) + 4294967296 * (q.el % 8) + 34359738368 * (q.c % 536870912)
  else if q.k = 2 then 2 + (if q.db then 4 else 0) + 8 * (q.pa % 536870912) + 4294967296 * (q.sg % 4294967296)
  else 3 + 4 * (q.lo % 1073741824) + 4294967296 * (q.sg % 4294967296)

/-- is the pointer valid? -/
def Vld (q : Ptr) : Prop :=
  (q.k = 0 ∧ -536870912 ≤ q.o ∧ q.o ≤ 536870911 ∧ 0 ≤ q.d ∧ q.d ≤ 65535 ∧ 0 ≤ q.p ∧ q.p ≤ 65535 ∧ q.el = 0 ∧ q.c = 0 ∧ q.db = false ∧ q.pa = 0 ∧ q.sg = 0 ∧ q.lo = 0) ∨
  (q.k = 1 ∧ -536870912 ≤ q.o ∧ q.o ≤ 536870911 ∧ q.d = 0 ∧ q.p = 0 ∧ 0 ≤ q.el ∧ q.el ≤ 7 ∧ 0 ≤ q.c ∧ q.c ≤ 536870911 ∧ q.db = false ∧ q.pa = 0 ∧ q.sg = 0 ∧ q.lo = 0) ∨
  (q.k = 2 ∧ q.o = 0 ∧ q.d = 0 ∧ q.p = 0 ∧ q.el = 0 ∧ q.c = 0 ∧ 0 ≤ q.pa ∧ q.pa ≤ 536870911 ∧ 0 ≤ q.sg ∧ q.sg ≤ 4294967295 ∧ q.lo = 0) ∨
  (q.k = 3 ∧ q.o = 0 ∧ q.d = 0 ∧ q.p = 0 ∧ q.el = 0 ∧ q.c = 0 ∧ q.db = false ∧ q.pa = 0 ∧ 0 ≤ q.sg ∧ q.sg ≤ 4294967295 ∧ 0 ≤ q.lo ∧ q.lo ≤ 1073741823)
instance (q : Ptr) : Decidable (Vld q) := by unfold Vld; infer_instance

theorem decP_vld (x : Int) (h0 : 0 ≤ x) (h1 : x < 18446744073709551616) : Vld (decP x) := by
  unfold decP Vld off30
  by_cases c0 : x % 4 = 0
  · rw [if_pos c0]; left; simp; split <;> omega
  · rw [if_neg c0]
    by_cases c1 : x % 4 = 1
    · rw [if_pos c1]; right; left; simp; split <;> omega
    · rw [if_neg c1]
      by_cases c2 : x % 4 = 2
      · rw [if_pos c2]; right; right; left; simp; omega
      · rw [if_neg c2]; right; right; right; simp; omega

theorem encW_bd (q : Ptr) : 0 ≤ encW q ∧ encW q < 18446744073709551616 := by
  unfold encW
  split
  · omega
  · split
    · omega
    · split
      · split <;> omega
      · omega

theorem decP_encW (q : Ptr) (h : Vld q) : decP (encW q) = q := by
  obtain ⟨k, o, d, p, el, c, db, pa, sg, lo⟩ := q
  unfold Vld at h
  simp only at h
  rcases h with ⟨rfl, h⟩ | ⟨rfl, h⟩ | ⟨rfl, h⟩ | ⟨rfl, h⟩
  · obtain ⟨h1, h2, h3, h4, h5, h6, rfl, rfl, rfl, rfl, rfl, rfl⟩ := h
    simp only [encW, if_pos]
    generalize hx : 4 * (o % 1073741824) + 4294967296 * (d % 65536) + 281474976710656 * (p % 65536) = x
    unfold decP off30
    rw [if_pos (by omega)]
    simp only [Ptr.mk.injEq, and_true, true_and]
    refine ⟨?_, by omega, by omega⟩
    split <;> omega
  · obtain ⟨h1, h2, rfl, rfl, h5, h6, h7, h8, rfl, rfl, rfl, rfl⟩ := h
    simp only [encW, show ((1 : Int) = 0) = False by decide, if_false, if_true]
    generalize hx : 1 + 4 * (o % 1073741824) + 4294967296 * (el % 8) + 34359738368 * (c % 536870912) = x
    unfold decP off30
    rw [if_neg (by omega), if_pos (by omega)]
    simp only [Ptr.mk.injEq, and_true, true_and]
    refine ⟨?_, by omega, by omega⟩
    split <;> omega
  · obtain ⟨rfl, rfl, rfl, rfl, rfl, h5, h6, h7, h8, rfl⟩ := h
    simp only [encW, show ((2 : Int) = 0) = False by decide, show ((2 : Int) = 1) = False by decide, if_false, if_true]
    cases db
    · simp only [Bool.false_eq_true, if_false]
      generalize hx : 2 + 0 + 8 * (pa % 536870912) + 4294967296 * (sg % 4294967296) = x
      unfold decP
      rw [if_neg (by omega), if_neg (by omega), if_pos (by omega)]
      simp only [Ptr.mk.injEq, and_true, true_and]
      refine ⟨?_, by omega, by omega⟩
      rw [beq_eq_false_iff_ne]; omega
    · simp only [if_true]
      generalize hx : 2 + 4 + 8 * (pa % 536870912) + 4294967296 * (sg % 4294967296) = x
      unfold decP
      rw [if_neg (by omega), if_neg (by omega), if_pos (by omega)]
      simp only [Ptr.mk.injEq, and_true, true_and]
      refine ⟨?_, by omega, by omega⟩
      rw [beq_iff_eq]; omega
  · obtain ⟨rfl, rfl, rfl, rfl, rfl, rfl, rfl, h5, h6, h7, h8⟩ := h
    simp only [encW, show ((3 : Int) = 0) = False by decide, show ((3 : Int) = 1) = False by decide, show ((3 : Int) = 2) = False by decide, if_false]
    generalize hx : 3 + 4 * (lo % 1073741824) + 4294967296 * (sg % 4294967296) = x
    unfold decP
    rw [if_neg (by omega), if_neg (by omega), if_neg (by omega)]
    simp only [Ptr.mk.injEq, and_true, true_and]
    omega

/-- a pointer that is its word's is valid -/
theorem vld_of_dec (q : Ptr) (h : decP (encW q) = q) : Vld q := by
  have := encW_bd q
  have hv := decP_vld (encW q) this.1 this.2
  rwa [h] at hv

theorem insN_add (w a n v : Nat) (h : a + n ≤ 64) (hw : w < 2 ^ a) : insN w a n v = w + v % 2 ^ n * 2 ^ a := by
  have hw64 : w < 2 ^ 64 := Nat.lt_of_lt_of_le hw (Nat.pow_le_pow_right (by decide) (by omega))
  have e : w + v % 2 ^ n * 2 ^ a = 2 ^ a * (v % 2 ^ n) ||| w := by
    rw [← Nat.two_pow_add_eq_or_of_lt hw, Nat.mul_comm]; omega
  rw [e]
  apply Nat.eq_of_testBit_eq
  intro i
  rw [insN_bit w a n v i h hw64, Nat.testBit_or, Nat.testBit_two_pow_mul, Nat.testBit_mod_two_pow]
  by_cases h1 : a ≤ i
  · have hwi : w.testBit i = false := Nat.testBit_lt_two_pow (Nat.lt_of_lt_of_le hw (Nat.pow_le_pow_right (by decide) h1))
    by_cases h2 : i < a + n
    · rw [if_pos ⟨h1, h2⟩, hwi]; simp [h1]; omega
    · rw [if_neg (by omega), hwi]; simp; omega
  · rw [if_neg (by omega)]; simp [h1]

theorem ins_add (w a n v : Int) (ha : 0 ≤ a) (hn : 0 ≤ n) (h : a + n ≤ 64) (h0 : 0 ≤ w) (hw : w < ((2 ^ a.toNat : Nat) : Int)) (hv : 0 ≤ v) :
    ins w a n v = w + v % ((2 ^ n.toNat : Nat) : Int) * ((2 ^ a.toNat : Nat) : Int) := by
  obtain ⟨W, rfl⟩ := Int.eq_ofNat_of_zero_le h0
  obtain ⟨V, rfl⟩ := Int.eq_ofNat_of_zero_le hv
  unfold ins
  rw [Int.toNat_natCast, Int.toNat_natCast, insN_add _ _ _ _ (by omega) (by omega)]
  simp

/-! The chains of insertions -/
theorem u64w (y : Int) : 0 ≤ IntKind.u64.wrap y := by rw [IntKind.wrap_u64]; omega

theorem i_0_2 (v : Int) : ins 0 0 2 (IntKind.u64.wrap v) = v % 4 := by
  rw [ins_add 0 0 2 _ (by omega) (by omega) (by omega) (by omega) (by decide) (u64w v), IntKind.wrap_u64]
  show 0 + v % 18446744073709551616 % 4 * 1 = v % 4
  omega
theorem i_2_30 (w v : Int) (h0 : 0 ≤ w) (h1 : w < 4) : ins w 2 30 (IntKind.u64.wrap v) = w + 4 * (v % 1073741824) := by
  rw [ins_add w 2 30 _ (by omega) (by omega) (by omega) h0 h1 (u64w v), IntKind.wrap_u64]
  show w + v % 18446744073709551616 % 1073741824 * 4 = _
  omega
theorem i_2_1 (w : Int) (h0 : 0 ≤ w) (h1 : w < 4) : ins w 2 1 1 = w + 4 := by
  rw [ins_add w 2 1 _ (by omega) (by omega) (by omega) h0 h1 (by omega)]
  show w + 1 % 2 * 4 = _
  omega
theorem i_3_29 (w v : Int) (h0 : 0 ≤ w) (h1 : w < 8) : ins w 3 29 (IntKind.u64.wrap v) = w + 8 * (v % 536870912) := by
  rw [ins_add w 3 29 _ (by omega) (by omega) (by omega) h0 h1 (u64w v), IntKind.wrap_u64]
  show w + v % 18446744073709551616 % 536870912 * 8 = _
  omega
theorem i_32_3 (w v : Int) (h0 : 0 ≤ w) (h1 : w < 4294967296) : ins w 32 3 (IntKind.u64.wrap v) = w + 4294967296 * (v % 8) := by
  rw [ins_add w 32 3 _ (by omega) (by omega) (by omega) h0 h1 (u64w v), IntKind.wrap_u64]
  show w + v % 18446744073709551616 % 8 * 4294967296 = _
  omega
theorem i_32_16 (w v : Int) (h0 : 0 ≤ w) (h1 : w < 4294967296) : ins w 32 16 (IntKind.u64.wrap v) = w + 4294967296 * (v % 65536) := by
  rw [ins_add w 32 16 _ (by omega) (by omega) (by omega) h0 h1 (u64w v), IntKind.wrap_u64]
  show w + v % 18446744073709551616 % 65536 * 4294967296 = _
  omega
theorem i_32_32 (w v : Int) (h0 : 0 ≤ w) (h1 : w < 4294967296) : ins w 32 32 (IntKind.u64.wrap v) = w + 4294967296 * (v % 4294967296) := by
  rw [ins_add w 32 32 _ (by omega) (by omega) (by omega) h0 h1 (u64w v), IntKind.wrap_u64]
  show w + v % 18446744073709551616 % 4294967296 * 4294967296 = _
  omega
theorem i_35_29 (w v : Int) (h0 : 0 ≤ w) (h1 : w < 34359738368) : ins w 35 29 (IntKind.u64.wrap v) = w + 34359738368 * (v % 536870912) := by
  rw [ins_add w 35 29 _ (by omega) (by omega) (by omega) h0 h1 (u64w v), IntKind.wrap_u64]
  show w + v % 18446744073709551616 % 536870912 * 34359738368 = _
  omega
theorem i_48_16 (w v : Int) (h0 : 0 ≤ w) (h1 : w < 281474976710656) : ins w 48 16 (IntKind.u64.wrap v) = w + 281474976710656 * (v % 65536) := by
  rw [ins_add w 48 16 _ (by omega) (by omega) (by omega) h0 h1 (u64w v), IntKind.wrap_u64]
  show w + v % 18446744073709551616 % 65536 * 281474976710656 = _
  omega
end Go.Proofs.YtfigoblpkbpenaaDoor
