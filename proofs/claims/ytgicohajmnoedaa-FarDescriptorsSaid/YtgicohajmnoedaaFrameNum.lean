/- Framed messages as lists of bytes. Nothing of the program's text is named here. -/
import Derived.Test.YtgicohajmnoedaaNum
import Derived.Test.YtgicohajmnoedaaMsg
namespace Go.Proofs.Ytgicohajmnoedaa
set_option linter.unusedVariables false
set_option linter.unusedSimpArgs false

/-- the four bytes of a number -/
def put4 (v : Int) : List Int := [v % 256, v / 256 % 256, v / 65536 % 256, v / 16777216]
theorem put4_length (v : Int) : (put4 v).length = 4 := rfl
theorem put4_bts (v : Int) (h0 : 0 ≤ v) (h1 : v < 4294967296) : Bts (put4 v) := by
  intro z hz
  simp [put4] at hz
  omega
/-- entry i of a segment table -/
def ent (b : List Int) (i : Nat) : Int := zat b (4 * i) + 256 * zat b (4 * i + 1) + 65536 * zat b (4 * i + 2) + 16777216 * zat b (4 * i + 3)
theorem ent_bd {b : List Int} (hb : Bts b) (i : Nat) : 0 ≤ ent b i ∧ ent b i < 4294967296 := by
  have h0 := hb.at (4 * i)
  have h1 := hb.at (4 * i + 1)
  have h2 := hb.at (4 * i + 2)
  have h3 := hb.at (4 * i + 3)
  unfold ent
  omega

/-- bytes of the table of n segments -/
def tbl (n : Int) : Int := 8 * (n / 2) + 8

/-! ## Serialize -/
def lensL (ls : List (List Int)) : List Int := ls.flatMap fun l => put4 l.length
def bodyL (ls : List (List Int)) : List Int := ls.flatMap bytesOf
def padL (n : Nat) : List Int := if n % 2 = 0 then put4 0 else []
def serL (ls : List (List Int)) : List Int := put4 ((ls.length : Int) - 1) ++ lensL ls ++ padL ls.length ++ bodyL ls

theorem lensL_append (a b : List (List Int)) : lensL (a ++ b) = lensL a ++ lensL b := by simp [lensL]
theorem bodyL_append (a b : List (List Int)) : bodyL (a ++ b) = bodyL a ++ bodyL b := by simp [bodyL]
theorem lensL_one (l : List Int) : lensL [l] = put4 l.length := by simp [lensL]
theorem bodyL_one (l : List Int) : bodyL [l] = bytesOf l := by simp [bodyL]
theorem lensL_length (ls : List (List Int)) : (lensL ls).length = 4 * ls.length := by
  induction ls with
  | nil => rfl
  | cons l r ih => rw [show l :: r = [l] ++ r from rfl, lensL_append, List.length_append, lensL_one, put4_length, ih]; simp; omega
theorem bodyL_length (ls : List (List Int)) : ((bodyL ls).length : Int) = 8 * sizeI ls := by
  induction ls with
  | nil => rfl
  | cons l r ih => rw [show l :: r = [l] ++ r from rfl, bodyL_append, List.length_append, bodyL_one, bytesOf_length, sizeI_append]; simp [sizeI]; omega
theorem padL_length (n : Nat) : (padL n).length = if n % 2 = 0 then 4 else 0 := by
  unfold padL; split <;> simp [put4_length]
theorem sizeI_nonneg (ls : List (List Int)) : 0 ≤ sizeI ls := by
  induction ls with
  | nil => simp [sizeI]
  | cons l r ih => simp only [sizeI]; omega
theorem sizeI_le {ls : List (List Int)} {m : Nat} (h : ∀ j, (seg ls j).length ≤ m) (k : Nat) (hk : k ≤ ls.length) : sizeI (ls.take k) ≤ m * k := by
  induction k with
  | zero => simp [sizeI]
  | succ k ih =>
    have h1 := ih (by omega)
    have h2 := h k
    rw [sizeI_take ls k (by omega)]
    have e : (m : Int) * ((k + 1 : Nat) : Int) = m * k + m := by rw [Int.natCast_add, Int.mul_add]; simp
    rw [e]
    omega
theorem serL_length (ls : List (List Int)) (h : 1 ≤ ls.length) : ((serL ls).length : Int) = tbl ls.length + 8 * sizeI ls := by
  unfold serL tbl
  rw [List.length_append, List.length_append, List.length_append, put4_length, lensL_length, padL_length]
  have := bodyL_length ls
  split <;> omega

/-! ## Parse -/
def cntF (b : List Int) : Int := ent b 0 + 1
def atF (b : List Int) : Nat → Int
  | 0 => tbl (cntF b)
  | k + 1 => atF b k + 8 * ent b (k + 1)
def segF (b : List Int) (k : Nat) : List Int := wordsOf ((b.drop (atF b k).toNat).take (8 * (ent b (k + 1)).toNat))
def parseL (b : List Int) : List (List Int) := (List.range (cntF b).toNat).map (segF b)
def headP (b : List Int) : Prop := 4 ≤ b.length ∧ cntF b ≤ 512 ∧ tbl (cntF b) ≤ b.length ∧ (cntF b % 2 = 0 → ent b ((cntF b).toNat + 1) = 0)
def stepP (b : List Int) (k : Nat) : Prop := ent b (k + 1) < 536870912 ∧ atF b (k + 1) ≤ b.length
def okP (b : List Int) : Prop := headP b ∧ (∀ k, k < (cntF b).toNat → stepP b k) ∧ atF b (cntF b).toNat = b.length
instance (b : List Int) : Decidable (headP b) := by unfold headP; infer_instance
instance (b : List Int) (k : Nat) : Decidable (stepP b k) := by unfold stepP; infer_instance
instance (b : List Int) : Decidable (okP b) := by unfold okP; infer_instance
def okF (b : List Int) : Bool := decide (okP b)
def resF (b : List Int) : List (List Int) := if okF b then parseL b else []
def errF (b : List Int) : Int := if okF b then 0 else 1

theorem parseL_length (b : List Int) : (parseL b).length = (cntF b).toNat := by simp [parseL]
theorem parseL_seg (b : List Int) (k : Nat) (h : k < (cntF b).toNat) : seg (parseL b) k = segF b k := by
  simp [parseL, seg, List.getD_eq_getElem?_getD, h]
theorem atF_le {b : List Int} (hb : Bts b) : ∀ k, tbl (cntF b) ≤ atF b k
  | 0 => Int.le_refl _
  | k + 1 => by have := atF_le hb k; have := ent_bd hb (k + 1); rw [atF]; omega
end Go.Proofs.Ytgicohajmnoedaa
