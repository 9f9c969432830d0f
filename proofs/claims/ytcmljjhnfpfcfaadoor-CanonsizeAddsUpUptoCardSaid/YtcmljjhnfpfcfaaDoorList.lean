/- What the functions of package listsize do, each by a contract (by the code at a4747f4). -/
import Derived.Test.YtcmljjhnfpfcfaaDoorRef06
import Derived.Test.YtcmljjhnfpfcfaaDoorTab
import Derived.Test.YtcmljjhnfpfcfaaDoorClone
import Derived.Lib.SliceRun
namespace Go.Proofs.YtcmljjhnfpfcfaaDoor
open Go.ChangeShapes Go.WideShapes Go.ChangeAt Go.RowKit
set_option linter.unusedVariables false
set_option linter.unusedSimpArgs false
set_option maxRecDepth 100000

theorem elemZ_bits (k : Nat) (h : k ≤ 7) : elemZ.getD k 0 = bitsI k := by
  rcases (by omega : k = 0 ∨ k = 1 ∨ k = 2 ∨ k = 3 ∨ k = 4 ∨ k = 5 ∨ k = 6 ∨ k = 7) with h | h | h | h | h | h | h | h <;> subst h <;> rfl

theorem LBits_any (e : Int) (w : World) (hT : TabOK w) (h0 : 0 ≤ e) (h7 : e ≤ 7) : Calls Tryd.prog 56 #[.int .i64 e] w fun r w' => r = .returned (.int .i64 (bitsI e)) ∧ w = w' := by
  obtain ⟨k, rfl⟩ := Int.eq_ofNat_of_zero_le h0
  have hk : k ≤ 7 := by omega
  have hc := hT k (by omega)
  rw [elemZ_bits k hk] at hc
  have HT := Lib.hid hT
  generalize bitsI k = x at *
  clear hT
  go_enter Tryd.func56, Tryd.ntmps56
  go_wp2
  go_ret
  exact ⟨rfl, rfl⟩

theorem totalBits_any (e c : Int) (w : World) (hT : TabOK w) (h0 : 0 ≤ e) (h7 : e ≤ 7) (hc : 0 ≤ c) (h1 : c ≤ 536870911) : Calls Tryd.prog 50 #[.int .i64 e, .int .i64 c] w fun r w' => r = .returned (.int .i64 (bitsI e * c)) ∧ w = w' := by
  have HB := Lib.hid (LBits_any e w hT h0 h7)
  obtain ⟨m0, m1⟩ := bitsI_mul e c hc
  clear hT
  generalize bitsI e = x at *
  go_enter Tryd.func50, Tryd.ntmps50
  go_wp2_with fail
  refine HB.out.mono ?_
  rintro e w' ⟨rfl, rfl⟩
  go_wp2
  go_ret
  exact ⟨rfl, rfl⟩

theorem units_any (e c s : Int) (w : World) (hT : TabOK w) (h0 : 0 ≤ e) (h7 : e ≤ 7) (hc : 0 ≤ c) (h1 : c ≤ 536870911) (hs : s = 8 ∨ s = 64) : Calls Tryd.prog 41 #[.int .i64 e, .int .i64 c, .int .i64 s] w fun r w' => r = .returned (.int .i64 ((bitsI e * c + s - 1) / s)) ∧ w = w' := by
  have HB := Lib.hid (totalBits_any e c w hT h0 h7 hc h1)
  obtain ⟨m0, m1⟩ := bitsI_mul e c hc
  clear hT
  generalize bitsI e * c = x at *
  rcases hs with rfl | rfl
  all_goals
    go_enter Tryd.func41, Tryd.ntmps41
    go_wp2_with fail
    refine HB.out.mono ?_
    rintro e w' ⟨rfl, rfl⟩
    go_wp2
    go_ret
    exact ⟨rfl, rfl⟩

theorem LWords_any (e c : Int) (w : World) (hT : TabOK w) (h0 : 0 ≤ e) (h7 : e ≤ 7) (hc : 0 ≤ c) (h1 : c ≤ 536870911) : Calls Tryd.prog 26 #[.int .i64 e, .int .i64 c] w fun r w' => r = .returned (.int .i64 (wordsI e c)) ∧ w = w' := by
  by_cases he : e = 7
  · subst he
    have HW : Hid (wordsI 7 c = 1 + c) := Lib.hid (by unfold wordsI; rw [if_pos rfl]; omega)
    clear hT
    go_enter Tryd.func26, Tryd.ntmps26
    go_wp2
    go_ret
    exact ⟨by rw [HW.out]; rfl, rfl⟩
  · have HW : Hid (wordsI e c = (bitsI e * c + 64 - 1) / 64) := Lib.hid (by unfold wordsI; rw [if_neg he]; omega)
    have HB := Lib.hid (units_any e c 64 w hT h0 h7 hc h1 (.inr rfl))
    have he2 : (e == 7) = false := beq_eq_false_iff_ne.2 he
    clear hT he
    rw [← HW.out] at HB
    generalize wordsI e c = x at *
    go_enter Tryd.func26, Tryd.ntmps26
    go_wp2_with fail
    refine HB.out.mono ?_
    rintro e w' ⟨rfl, rfl⟩
    go_wp2
    go_ret
    exact ⟨rfl, rfl⟩

/-! ## Trim -/
set_option maxRecDepth 100000 in
theorem mask8_fin : ∀ q : Fin 8, ∀ z : Fin 256, bits .and .u8 (z.val : Int) ((2 ^ q.val - 1) % 256) = (z.val : Int) % p2 q.val := by decide +kernel
theorem mask8 (q : Nat) (h : q < 8) (z : Int) (h0 : 0 ≤ z) (h1 : z < 256) : bits .and .u8 z ((2 ^ q - 1) % 256) = z % p2 q := by
  have := mask8_fin ⟨q, h⟩ ⟨z.toNat, by omega⟩
  simpa [Int.toNat_of_nonneg h0] using this

theorem trimL_plain {b : List Int} {e c : Int} {n : Nat} (hn : bytesI e c = n) (hnb : n ≤ b.length) (he : 0 ≤ e) (he5 : e ≤ 5) (hc : 0 ≤ c) (hu : bitsI e * c % 8 = 0) : trimL b e c = b.take n := by
  apply ext_zat
  · rw [trimL_length, hn, List.length_take]; omega
  · intro i hi
    rw [trimL_length, hn] at hi
    have hi2 : i < n := by omega
    rw [trimL_zat _ _ _ _ (by rw [hn]; omega), zat_take _ _ _ hi2]
    unfold trimAt
    rw [if_neg]
    rintro ⟨rfl, h⟩
    unfold bytesI at hn
    have h4 : bitsI 1 = 1 := rfl
    rw [h4] at hn hu
    omega
theorem trimL_last {b : List Int} {e c : Int} {n : Nat} {q : Nat} (hn : bytesI e c = n) (hnb : n ≤ b.length) (he : 0 ≤ e) (he5 : e ≤ 5) (hc : 0 ≤ c) (hu : bitsI e * c % 8 = q) (hq : 0 < q) :
    1 ≤ n ∧ q < 8 ∧ trimL b e c = (b.take n).set (n - 1) (zat b (n - 1) % p2 q) := by
  have h1 : e = 1 := by
    rcases (by omega : e = 0 ∨ e = 1 ∨ e = 2 ∨ e = 3 ∨ e = 4 ∨ e = 5) with h | h | h | h | h | h <;> subst h
    · rw [show bitsI 0 = 0 from rfl] at hu; omega
    · rfl
    · rw [show bitsI 2 = 8 from rfl] at hu; omega
    · rw [show bitsI 3 = 16 from rfl] at hu; omega
    · rw [show bitsI 4 = 32 from rfl] at hu; omega
    · rw [show bitsI 5 = 64 from rfl] at hu; omega
  subst h1
  have hn' := hn
  unfold bytesI at hn'
  have h4 : bitsI 1 = 1 := rfl
  rw [h4] at hn' hu
  refine ⟨by omega, by omega, ?_⟩
  apply ext_zat
  · rw [trimL_length, hn, List.length_set, List.length_take]; omega
  · intro i hi
    rw [trimL_length, hn] at hi
    have hi2 : i < n := by omega
    rw [trimL_zat _ _ _ _ (by rw [hn]; omega)]
    unfold trimAt
    by_cases hl : i = n - 1
    · subst hl
      rw [if_pos ⟨rfl, by omega⟩, show c - 8 * ((n - 1 : Nat) : Int) = q by omega]
      simp [zat, List.getD_eq_getElem?_getD, List.getElem?_set, show n - 1 < n by omega, show n - 1 < b.length by omega, show n - 1 < min n b.length by omega]
    · rw [if_neg (by rintro ⟨-, h⟩; omega)]
      simp [zat, List.getD_eq_getElem?_getD, List.getElem?_set, show n - 1 ≠ i by omega, hi2]

attribute [local irreducible] p2

end Go.Proofs.YtcmljjhnfpfcfaaDoor
