/- What the reference functions of layer 6 do, each by a contract. -/
import Derived.Test.YtekcmifgdlmljaaRef01
import Derived.Test.YtekcmifgdlmljaaSecNum
namespace Go.Proofs.Ytekcmifgdlmljaa
open Go.ChangeShapes Go.WideShapes Go.ChangeAt Go.RowKit
set_option linter.unusedVariables false
set_option linter.unusedSimpArgs false
set_option maxRecDepth 100000

/-- bits of an element -/
def bitsI (e : Int) : Int := if e = 1 then 1 else if e = 2 then 8 else if e = 3 then 16 else if e = 4 then 32 else if e = 5 ∨ e = 6 then 64 else 0
def wordsI (e c : Int) : Int := if e = 7 then c + 1 else (bitsI e * c + 63) / 64
def bytesI (e c : Int) : Int := (bitsI e * c + 7) / 8
def rightB (e c : Int) : Bool := decide (0 ≤ e ∧ e ≤ 7 ∧ 0 ≤ c ∧ c ≤ 536870911)

theorem bitsI_cases (e : Int) : bitsI e = 0 ∨ bitsI e = 1 ∨ bitsI e = 8 ∨ bitsI e = 16 ∨ bitsI e = 32 ∨ bitsI e = 64 := by
  unfold bitsI
  repeat' split
  all_goals simp
theorem bitsI_mul (e c : Int) (h0 : 0 ≤ c) : 0 ≤ bitsI e * c ∧ bitsI e * c ≤ 64 * c := by
  rcases bitsI_cases e with h | h | h | h | h | h <;> rw [h] <;> omega

/-! ## Trim -/
/-- byte i of the trimmed bytes -/
def trimAt (b : List Int) (e c : Int) (i : Nat) : Int := if e = 1 ∧ c < 8 * (i : Int) + 8 then zat b i % p2 (c - 8 * i) else zat b i
def trimL (b : List Int) (e c : Int) : List Int := (List.range (bytesI e c).toNat).map (trimAt b e c)
theorem trimL_length (b : List Int) (e c : Int) : (trimL b e c).length = (bytesI e c).toNat := by simp [trimL]
theorem trimL_zat (b : List Int) (e c : Int) (i : Nat) (h : i < (bytesI e c).toNat) : zat (trimL b e c) i = trimAt b e c i := by
  simp [trimL, zat, List.getD_eq_getElem?_getD, h]
theorem trimAt_bd {b : List Int} (hb : Bts b) (e c : Int) (i : Nat) : 0 ≤ trimAt b e c i ∧ trimAt b e c i < 256 := by
  have hz := hb.at i
  unfold trimAt
  split
  · have hp := p2_pos (c - 8 * i)
    have h1 := Int.emod_nonneg (zat b i) (show p2 (c - 8 * (i : Int)) ≠ 0 by omega)
    have h2 : zat b i % p2 (c - 8 * (i : Int)) ≤ zat b i := by
      rw [Int.emod_def]
      have := Int.mul_nonneg (show 0 ≤ p2 (c - 8 * (i : Int)) by omega) (Int.ediv_nonneg hz.1 (show 0 ≤ p2 (c - 8 * (i : Int)) by omega))
      omega
    omega
  · exact hz
theorem trimL_bts {b : List Int} (hb : Bts b) (e c : Int) : Bts (trimL b e c) := by
  intro z hz
  simp only [trimL, List.mem_map] at hz
  obtain ⟨i, _, rfl⟩ := hz
  exact trimAt_bd hb e c i

theorem p2_7 (q : Nat) (h : q ≤ 7) : p2 q ≤ 128 := by
  have h2 := Nat.pow_le_pow_right (n := 2) (by decide) h
  unfold p2
  rw [Int.toNat_natCast]
  have e : (2 : Int) ^ q = ((2 ^ q : Nat) : Int) := by simp
  rw [e]; omega

attribute [local irreducible] p2

end Go.Proofs.Ytekcmifgdlmljaa
