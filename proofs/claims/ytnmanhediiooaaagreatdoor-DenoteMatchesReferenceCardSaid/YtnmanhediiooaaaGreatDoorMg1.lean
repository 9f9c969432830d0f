/- The texts Num, Mem, Open, Maps, Msg, OpenS, Tab, TabL, Word, Ref01, Ptr, PtrNum, Region, PtrRun, PtrFns, Ref02, Ref05 (what is wanted of them), one after the other. -/
import Derived.WalkKit
import Derived.Below
import Derived.OwnWalk
import Derived.Lib.Hide
import Derived.Deep.Draws
import Derived.Laws.AppendOwnNone
import Derived.Test.YtnmanhediiooaaaGreatDoorRows
import Derived.ProofKit
import Derived.OpenShut
import Derived.ShutString
import Derived.ChangeOld
import Derived.Deep.Fields
import Derived.WideMake
import Derived.MapKept
import Derived.Maps.Own
import Derived.Deep.Matrix
import Derived.WalkSpells
import Derived.Test.YtnmanhediiooaaaGreatDoorCards
import Derived.Test.YtnmanhediiooaaaGreatDoorTie
import Derived.Deep.DeepHandedRow
import Derived.Lib.LaidTab
import Derived.Deep.DeepFit
import Derived.RegionTactic
import Derived.Deep.QuietTactic
import Derived.BigQuiet
import Derived.StillTailTactics
import Derived.Orders
import Derived.Laws.OwnMore
import Derived.Laws.CopyOwn
import Derived.Lib.SliceRun
import Derived.Laws.EntriesVeiled
import Derived.Recover
/- Plain facts on numbers and lists: little-endian bytes, bit fields. Nothing of the program's text is named here. -/
namespace Go.Proofs.YtnmanhediiooaaaGreatDoor

/-! ## Bit fields, as natural numbers -/
def fldN (w a n : Nat) : Nat := w / 2 ^ a % 2 ^ n
theorem fldN_lt (w a n : Nat) : fldN w a n < 2 ^ n := Nat.mod_lt _ (Nat.two_pow_pos _)

theorem pow_le_64 {n : Nat} (h : n ≤ 64) : 2 ^ n ≤ 18446744073709551616 := Nat.pow_le_pow_right (n := 2) (by decide) h

theorem mask_lt (a n : Nat) (h : a + n ≤ 64) : (2 ^ n - 1) * 2 ^ a < 2 ^ 64 := by
  have h1 : (2 ^ n - 1) * 2 ^ a < 2 ^ n * 2 ^ a := Nat.mul_lt_mul_of_pos_right (by have := Nat.two_pow_pos n; omega) (Nat.two_pow_pos _)
  rw [← Nat.pow_add] at h1
  exact Nat.lt_of_lt_of_le h1 (Nat.pow_le_pow_right (by decide) (by omega))

theorem fldN_step (w a i : Nat) : fldN w a (i + 1) = fldN w a i + w / 2 ^ (a + i) % 2 * 2 ^ i := by
  unfold fldN
  rw [Nat.pow_succ, Nat.mod_mul, Nat.div_div_eq_div_mul, ← Nat.pow_add, Nat.mul_comm (2 ^ i)]

/-! ## The same for the integers of the model -/
def fld (w a n : Int) : Int := ((fldN w.toNat a.toNat n.toNat : Nat) : Int)
/-- the two's complement value of a field -/
def sgn (w a n : Int) : Int := if 2 ^ (n.toNat - 1) ≤ fld w a n then fld w a n - 2 ^ n.toNat else fld w a n

theorem fld_bd (w a n : Int) (hn : n ≤ 64) : 0 ≤ fld w a n ∧ fld w a n < 18446744073709551616 := by
  have h := fldN_lt w.toNat a.toNat n.toNat
  have h2 := pow_le_64 (n := n.toNat) (by omega)
  unfold fld
  omega

theorem fld_lt (w a n : Int) : fld w a n < 2 ^ n.toNat := by
  have h := fldN_lt w.toNat a.toNat n.toNat
  unfold fld
  have e : (2 : Int) ^ n.toNat = ((2 ^ n.toNat : Nat) : Int) := by simp
  rw [e]
  omega

theorem fld_nonneg (w a n : Int) : 0 ≤ fld w a n := Int.natCast_nonneg _

theorem mask_eq (n : Int) (h1 : 0 ≤ n) (h2 : n ≤ 64) : (18446744073709551615 : Int) / 2 ^ (64 - n).toNat = ((2 ^ n.toNat - 1 : Nat) : Int) := by
  obtain ⟨m, rfl⟩ := Int.eq_ofNat_of_zero_le h1
  have e : (64 - (m : Int)).toNat = 64 - m := by omega
  rw [e, Int.toNat_natCast]
  have e2 : (2 : Int) ^ (64 - m) = ((2 ^ (64 - m) : Nat) : Int) := by simp
  rw [e2, show (18446744073709551615 : Int) = ((18446744073709551615 : Nat) : Int) from rfl, ← Int.natCast_ediv]
  congr 1
  have hp : 2 ^ m * 2 ^ (64 - m) = 18446744073709551616 := by rw [← Nat.pow_add, show m + (64 - m) = 64 by omega]
  have hq := Nat.two_pow_pos (64 - m)
  have hr := Nat.two_pow_pos m
  apply Nat.div_eq_of_lt_le
  · rw [Nat.sub_mul]; omega
  · rw [Nat.sub_add_cancel hr]; omega

theorem fld_go (x a n : Int) (h1 : 0 ≤ n) (h2 : n ≤ 64) (h5 : 0 ≤ x) (h6 : x < 18446744073709551616) :
    bits .and .u64 (x / 2 ^ a.toNat) (18446744073709551615 / 2 ^ (64 - n).toNat) = fld x a n := by
  obtain ⟨X, rfl⟩ := Int.eq_ofNat_of_zero_le h5
  rw [mask_eq n h1 h2]
  have e : ((X : Int) / 2 ^ a.toNat) = ((X / 2 ^ a.toNat : Nat) : Int) := by simp
  have hle := Nat.div_le_self X (2 ^ a.toNat)
  have hm := mask_lt 0 n.toNat (by omega)
  rw [e, bits_and_u64_nat _ _ (by omega) (by omega), Nat.and_two_pow_sub_one_eq_mod]
  rfl

theorem sgn_go (x a n : Int) (h1 : 1 ≤ n) (h2 : n ≤ 64) :
    Go.RowKit.wrap64 (IntKind.u64.wrap (fld x a n * 2 ^ (64 - n).toNat)) / 2 ^ (64 - n).toNat = sgn x a n := by
  have hl := fld_lt x a n
  have h0 := fld_nonneg x a n
  unfold sgn
  generalize fld x a n = f at *
  obtain ⟨m, rfl⟩ : ∃ m : Nat, n = (m : Int) + 1 := ⟨(n - 1).toNat, by omega⟩
  have e1 : (64 - ((m : Int) + 1)).toNat = 63 - m := by omega
  have e2 : ((m : Int) + 1).toNat = m + 1 := by omega
  rw [e2] at hl
  rw [e1, e2, show m + 1 - 1 = m by omega]
  have hp : (0 : Int) < 2 ^ (63 - m) := Int.pow_pos (by decide)
  have e3 : (2 : Int) ^ m * 2 ^ (63 - m) = 9223372036854775808 := by rw [← Int.pow_add, show m + (63 - m) = 63 by omega]; rfl
  have e4 : (2 : Int) ^ (m + 1) * 2 ^ (63 - m) = 18446744073709551616 := by rw [← Int.pow_add, show m + 1 + (63 - m) = 64 by omega]; rfl
  generalize (2 : Int) ^ (63 - m) = P at *
  have hfP : f * P < 18446744073709551616 := by rw [← e4]; exact Int.mul_lt_mul_of_pos_right hl hp
  have hf0 : 0 ≤ f * P := Int.mul_nonneg h0 (by omega)
  rw [IntKind.wrap_u64, Int.emod_eq_of_lt hf0 hfP]
  by_cases hc : 2 ^ m ≤ f
  · rw [if_pos hc]
    have hg : 9223372036854775808 ≤ f * P := by rw [← e3]; exact Int.mul_le_mul_of_nonneg_right hc (by omega)
    have hw : Go.RowKit.wrap64 (f * P) = (f - 2 ^ (m + 1)) * P := by
      rw [Int.sub_mul, e4]
      unfold Go.RowKit.wrap64
      omega
    rw [hw, Int.mul_ediv_cancel _ (Int.ne_of_gt hp)]
  · rw [if_neg hc]
    have hg : f * P < 9223372036854775808 := by rw [← e3]; exact Int.mul_lt_mul_of_pos_right (by omega) hp
    have hw : Go.RowKit.wrap64 (f * P) = f * P := by
      unfold Go.RowKit.wrap64
      omega
    rw [hw, Int.mul_ediv_cancel _ (Int.ne_of_gt hp)]

theorem sgn_bd (x a n : Int) (h1 : 1 ≤ n) (h2 : n ≤ 64) : -9223372036854775808 ≤ sgn x a n ∧ sgn x a n ≤ 9223372036854775807 := by
  have hl := fld_lt x a n
  have h0 := fld_nonneg x a n
  unfold sgn
  generalize fld x a n = f at *
  obtain ⟨m, rfl⟩ : ∃ m : Nat, n = (m : Int) + 1 := ⟨(n - 1).toNat, by omega⟩
  have e2 : ((m : Int) + 1).toNat = m + 1 := by omega
  rw [e2] at hl ⊢
  rw [show m + 1 - 1 = m by omega]
  have hp : (2 : Int) ^ (m + 1) = 2 ^ m * 2 := Int.pow_succ ..
  have hm : (2 : Int) ^ m ≤ 2 ^ 63 := by
    have := Nat.pow_le_pow_right (n := 2) (by decide) (show m ≤ 63 by omega)
    have e : (2 : Int) ^ m = ((2 ^ m : Nat) : Int) := by simp
    rw [e]
    omega
  have hm0 : (0 : Int) < 2 ^ m := Int.pow_pos (by decide)
  generalize (2 : Int) ^ m = P at *
  split <;> omega

/-! ## The words of bytes -/
/-- byte i of a word -/
def byteOf (w : Int) (i : Nat) : Int := w / 256 ^ i % 256

theorem byteOf_bd (w : Int) (i : Nat) : 0 ≤ byteOf w i ∧ byteOf w i < 256 := by unfold byteOf; omega

/-- element i of a list, 0 behind its end (a name that simp does not open) -/
def zat (l : List Int) (i : Nat) : Int := l.getD i 0

def bytes8 (w : Int) : List Int := (List.range 8).map (byteOf w)
def bytesOf (l : List Int) : List Int := l.flatMap bytes8

def Bts (b : List Int) : Prop := ∀ z ∈ b, 0 ≤ z ∧ z < 256
def Wds (l : List Int) : Prop := ∀ z ∈ l, 0 ≤ z ∧ z < 18446744073709551616

theorem zat_mem {l : List Int} {i : Nat} (h : i < l.length) : zat l i ∈ l := by
  rw [zat, List.getD_eq_getElem?_getD, List.getElem?_eq_getElem h]
  exact List.getElem_mem h

theorem zat_out {l : List Int} {i : Nat} (h : l.length ≤ i) : zat l i = 0 := by
  rw [zat, List.getD_eq_getElem?_getD, List.getElem?_eq_none h]; rfl

theorem Bts.at {b : List Int} (h : Bts b) (i : Nat) : 0 ≤ zat b i ∧ zat b i < 256 := by
  by_cases hi : i < b.length
  · exact h _ (zat_mem hi)
  · rw [zat_out (by omega)]; omega

theorem Wds.at {b : List Int} (h : Wds b) (i : Nat) : 0 ≤ zat b i ∧ zat b i < 18446744073709551616 := by
  by_cases hi : i < b.length
  · exact h _ (zat_mem hi)
  · rw [zat_out (by omega)]; omega

theorem bytes8_length (w : Int) : (bytes8 w).length = 8 := by simp [bytes8]
theorem bytesOf_cons (w : Int) (l : List Int) : bytesOf (w :: l) = bytes8 w ++ bytesOf l := by simp [bytesOf]
theorem bytesOf_append (a b : List Int) : bytesOf (a ++ b) = bytesOf a ++ bytesOf b := by simp [bytesOf]
theorem bytesOf_one (w : Int) : bytesOf [w] = bytes8 w := by simp [bytesOf]
theorem bytesOf_length (l : List Int) : (bytesOf l).length = 8 * l.length := by
  induction l with
  | nil => rfl
  | cons w l ih => rw [bytesOf_cons, List.length_append, bytes8_length, ih, List.length_cons]; omega
theorem bytes8_bts (w : Int) : Bts (bytes8 w) := by
  intro z hz
  simp only [bytes8, List.mem_map] at hz
  obtain ⟨i, _, rfl⟩ := hz
  exact byteOf_bd w i
theorem bytesOf_bts (l : List Int) : Bts (bytesOf l) := by
  intro z hz
  simp only [bytesOf, List.mem_flatMap] at hz
  obtain ⟨w, _, hz⟩ := hz
  exact bytes8_bts w z hz

theorem bytes8_zat (w : Int) (j : Nat) (h : j < 8) : zat (bytes8 w) j = byteOf w j := by
  simp [bytes8, zat, List.getD_eq_getElem?_getD, h]

theorem zat_append_left (a b : List Int) (i : Nat) (h : i < a.length) : zat (a ++ b) i = zat a i := by
  simp [zat, List.getD_eq_getElem?_getD, List.getElem?_append_left h]
theorem zat_append_right (a b : List Int) (i : Nat) (h : a.length ≤ i) : zat (a ++ b) i = zat b (i - a.length) := by
  simp [zat, List.getD_eq_getElem?_getD, List.getElem?_append_right h]

theorem ext_zat {a b : List Int} (hl : a.length = b.length) (h : ∀ i, i < a.length → zat a i = zat b i) : a = b := by
  apply List.ext_getElem hl
  intro i h1 h2
  have := h i h1
  simpa [zat, List.getD_eq_getElem?_getD, h1, h2] using this

/-! ## Writing into a list -/
theorem zat_set (l : List Int) (i j : Nat) (x : Int) (hi : i < l.length) : zat (l.set i x) j = if i = j then x else zat l j := by
  simp only [zat, List.getD_eq_getElem?_getD, List.getElem?_set]
  by_cases h : i = j
  · subst h; simp [hi]
  · simp [h]

theorem zat_take (l : List Int) (n j : Nat) (h : j < n) : zat (l.take n) j = zat l j := by
  simp [zat, List.getD_eq_getElem?_getD, h]
theorem zat_drop (l : List Int) (n j : Nat) : zat (l.drop n) j = zat l (n + j) := by
  simp [zat, List.getD_eq_getElem?_getD]
/-- the list zs with the numbers ys written over it from place o on -/
def splice (zs : List Int) (o : Nat) (ys : List Int) : List Int := zs.take o ++ ys ++ zs.drop (o + ys.length)

theorem splice_nil (zs : List Int) (o : Nat) : splice zs o [] = zs := by simp [splice]
theorem splice_length {zs ys : List Int} {o : Nat} (h : o + ys.length ≤ zs.length) : (splice zs o ys).length = zs.length := by
  simp [splice]; omega
theorem splice_zat {zs ys : List Int} {o : Nat} (h : o + ys.length ≤ zs.length) (i : Nat) :
    zat (splice zs o ys) i = if o ≤ i ∧ i < o + ys.length then zat ys (i - o) else zat zs i := by
  have hl : (zs.take o).length = o := by simp; omega
  unfold splice
  by_cases h1 : i < o
  · rw [if_neg (by omega), List.append_assoc, zat_append_left _ _ _ (by omega), zat_take _ _ _ h1]
  · rw [List.append_assoc, zat_append_right _ _ _ (by omega), hl]
    by_cases h2 : i < o + ys.length
    · rw [if_pos (by omega), zat_append_left _ _ _ (by omega)]
    · rw [if_neg (by omega), zat_append_right _ _ _ (by omega), zat_drop]
      congr 1
      omega

theorem splice_step {zs ys : List Int} {o k : Nat} (h : o + ys.length ≤ zs.length) (hk : k < ys.length) :
    (splice zs o (ys.take k)).set (o + k) (zat ys k) = splice zs o (ys.take (k + 1)) := by
  have l1 : (ys.take k).length = k := by simp; omega
  have l2 : (ys.take (k + 1)).length = k + 1 := by simp; omega
  have h1 : o + (ys.take k).length ≤ zs.length := by omega
  have h2 : o + (ys.take (k + 1)).length ≤ zs.length := by omega
  apply ext_zat
  · rw [List.length_set, splice_length h1, splice_length h2]
  · intro i hi
    rw [List.length_set, splice_length h1] at hi
    rw [zat_set _ _ _ _ (by rw [splice_length h1]; omega), splice_zat h1, splice_zat h2, l1, l2]
    by_cases e : o + k = i
    · subst e
      rw [if_pos rfl, if_pos (by omega), zat_take _ _ _ (by omega)]
      congr 1
      omega
    · rw [if_neg e]
      by_cases hc : o ≤ i ∧ i < o + k
      · rw [if_pos hc, if_pos (by omega), zat_take _ _ _ (by omega), zat_take _ _ _ (by omega)]
      · rw [if_neg hc, if_neg (by omega)]

theorem byteOf_go (x : Int) (k : Nat) : x / 2 ^ (8 * k) % 256 = byteOf x k := by
  unfold byteOf
  rw [Int.pow_mul]
  rfl

theorem bytesOf_take_succ (l : List Int) (i : Nat) (h : i < l.length) : bytesOf (l.take (i + 1)) = bytesOf (l.take i) ++ bytes8 (zat l i) := by
  have e : l.take (i + 1) = l.take i ++ [zat l i] := by
    rw [List.take_succ_eq_append_getElem h]
    simp [zat, List.getD_eq_getElem?_getD, h]
  rw [e, bytesOf_append, bytesOf_one]

theorem splice_bytes {zs l : List Int} {i : Nat} (h : 8 * l.length ≤ zs.length) (hi : i < l.length) :
    splice (splice zs 0 (bytesOf (l.take i))) (8 * i) (bytes8 (zat l i)) = splice zs 0 (bytesOf (l.take (i + 1))) := by
  have l1 : (bytesOf (l.take i)).length = 8 * i := by rw [bytesOf_length]; simp; omega
  have l2 : (bytesOf (l.take (i + 1))).length = 8 * i + 8 := by rw [bytesOf_length]; simp; omega
  have l3 := bytes8_length (zat l i)
  have h1 : 0 + (bytesOf (l.take i)).length ≤ zs.length := by omega
  have h2 : 0 + (bytesOf (l.take (i + 1))).length ≤ zs.length := by omega
  have h3 : 8 * i + (bytes8 (zat l i)).length ≤ (splice zs 0 (bytesOf (l.take i))).length := by rw [splice_length h1]; omega
  apply ext_zat
  · rw [splice_length h3, splice_length h1, splice_length h2]
  · intro j hj
    rw [splice_zat h3, splice_zat h1, splice_zat h2, l1, l2, l3]
    by_cases c1 : j < 8 * i
    · rw [if_neg (by omega), if_pos (by omega), if_pos (by omega), bytesOf_take_succ _ _ hi, zat_append_left _ _ _ (by omega)]
    · by_cases c2 : j < 8 * i + 8
      · rw [if_pos (by omega), if_pos (by omega), bytesOf_take_succ _ _ hi, zat_append_right _ _ _ (by omega), l1]
        rfl
      · rw [if_neg (by omega), if_neg (by omega), if_neg (by omega)]

theorem splice_all {zs ys : List Int} (h : ys.length = zs.length) : splice zs 0 ys = ys := by
  simp [splice, h]

theorem Bts.splice {zs ys : List Int} {o : Nat} (h1 : Bts zs) (h2 : Bts ys) : Bts (splice zs o ys) := by
  intro z hz
  simp only [Go.Proofs.YtnmanhediiooaaaGreatDoor.splice, List.mem_append] at hz
  rcases hz with (hz | hz) | hz
  · exact h1 z (List.mem_of_mem_take hz)
  · exact h2 z hz
  · exact h1 z (List.mem_of_mem_drop hz)

theorem take_succ_zat (l : List Int) (k : Nat) (h : k < l.length) : l.take (k + 1) = l.take k ++ [zat l k] := by
  rw [List.take_succ_eq_append_getElem h]
  simp [zat, List.getD_eq_getElem?_getD, h]

end Go.Proofs.YtnmanhediiooaaaGreatDoor

/- What is known of slices of integers in memory: of one that came in ('Ri'), and of one that the call made ('Got'). -/
namespace Go.Proofs.YtnmanhediiooaaaGreatDoor
open Go.RowKit

/-- at A the numbers zs lie one after the other (nothing is said of A where there are none) -/
def Ri (w : World) (k : IntKind) (A : Option Addr) (zs : List Int) : Prop :=
  zs = [] ∨ ∃ b off, A = some ⟨b, off, none⟩ ∧ ∀ j, j < zs.length → w.cell? ⟨b, off + j, none⟩ = some (.int k (zat zs j))

section
variable {w w' : World} {k : IntKind} {A : Option Addr} {zs : List Int}

theorem Ri.nil (w : World) (k : IntKind) (A : Option Addr) : Ri w k A [] := .inl rfl

theorem Ri.at (h : Ri w k A zs) {i : Nat} (hi : i < zs.length) :
    ∃ b off, A = some ⟨b, off, none⟩ ∧ ∀ j, j < zs.length → w.cell? ⟨b, off + j, none⟩ = some (.int k (zat zs j)) := by
  rcases h with rfl | h
  · simp at hi
  · exact h

theorem Ri.below (h : Ri w k A zs) {B : Nat} (hb : Below B w w') (hB : w.heap.size ≤ B) : Ri w' k A zs := by
  rcases h with rfl | ⟨b, off, rfl, h⟩
  · exact .inl rfl
  · by_cases h0 : 0 < zs.length
    · have hlt : b < w.heap.size := World.block_lt_of_cell? w ⟨b, off + 0, none⟩ (h 0 h0)
      exact .inr ⟨b, off, rfl, fun j hj => (hb.cell (p := ⟨b, off + j, none⟩) (by show b < B; omega)).trans (h j hj)⟩
    · exact .inl (List.eq_nil_of_length_eq_zero (by omega))

theorem Ri.drop (h : Ri w k A zs) {b off n : Nat} (hA : A = some ⟨b, off, none⟩) : Ri w k (some ⟨b, off + n, none⟩) (zs.drop n) := by
  rcases h with rfl | ⟨b', off', hA', h⟩
  · simp; exact .inl rfl
  · subst hA
    injection hA' with e
    injection e with e1 e2
    subst e1
    subst e2
    refine .inr ⟨b, off + n, rfl, fun j hj => ?_⟩
    rw [List.length_drop] at hj
    have := h (n + j) (by omega)
    rw [Nat.add_assoc, this]
    simp [zat, List.getD_eq_getElem?_getD]

theorem Ri.take (h : Ri w k A zs) (n : Nat) : Ri w k A (zs.take n) := by
  rcases h with rfl | ⟨b, off, hA, h⟩
  · simp; exact .inl rfl
  · refine .inr ⟨b, off, hA, fun j hj => ?_⟩
    rw [List.length_take] at hj
    rw [h j (by omega)]
    simp [zat, List.getD_eq_getElem?_getD, show j < n by omega]
end

/-- v is a slice that the call owns (it lies at 'base' or behind it), of the element type E, and its elements are the numbers zs -/
def Got (w : World) (base : Nat) (E : TypeId) (k : IntKind) (v : Value) (zs : List Int) : Prop := w.ownsRow base E 1 v zs.length (zs.map (Value.int k))

section
variable {w w' : World} {base B : Nat} {E : TypeId} {k : IntKind} {v : Value} {zs : List Int}

theorem Got.empty (w : World) (base : Nat) (E : TypeId) (k : IntKind) : Got w base E k (.slice none 0 0) [] := World.ownsRow_nil w base E 1

theorem Got.lt (h : Got w base E k v zs) : ∀ g, v.ownBlock = some g → base ≤ g ∧ g < w.heap.size := World.ownsRow.lt h

theorem Got.below (h : Got w base E k v zs) (hb : Below B w w') (hB : w.heap.size ≤ B) : Got w' base E k v zs := by
  obtain ⟨h1, h2⟩ := h
  refine ⟨h1, ?_⟩
  rcases h2 with h2 | ⟨g, cap, cur, hv, hg, hh, r⟩
  · exact .inl h2
  · refine .inr ⟨g, cap, cur, hv, hg, ?_, r⟩
    have hlt : g < w.heap.size := by
      rcases Nat.lt_or_ge g w.heap.size with hlt | hge
      · exact hlt
      · rw [Array.getElem?_eq_none hge] at hh; cases hh
    rw [hb.block g (by omega)]
    exact hh

theorem Got.mono (h : Got w base E k v zs) {base' : Nat} (hb : base' ≤ base) : Got w base' E k v zs := by
  obtain ⟨h1, h2⟩ := h
  refine ⟨h1, ?_⟩
  rcases h2 with h2 | ⟨g, cap, cur, hv, hg, r⟩
  · exact .inl h2
  · exact .inr ⟨g, cap, cur, hv, by omega, r⟩

theorem Got.slice (h : Got w base E k v zs) : ∃ A cap, v = .slice A zs.length cap ∧ zs.length ≤ cap ∧ cap ≤ maxLen ∧ Ri w k A zs := by
  have h0 := h
  obtain ⟨h1, h2⟩ := h
  rcases h2 with ⟨rfl, hn⟩ | ⟨g, cap, cur, rfl, hg, hh, hc, hm, hs, ht⟩
  · have hz : zs = [] := List.eq_nil_of_length_eq_zero hn
    subst hz
    exact ⟨none, 0, rfl, Nat.le_refl _, Nat.zero_le _, .inl rfl⟩
  · refine ⟨some ⟨g, 0, none⟩, cap, rfl, hc, hm, .inr ⟨g, 0, rfl, fun j hj => ?_⟩⟩
    have := World.ownsRow.cellAt (g := g) (cap := cap) h0 j (by omega)
    rw [Nat.zero_add, this]
    simp [zat, List.getD_eq_getElem?_getD, hj]

/-- a store into a place of it -/
theorem Got.put {g cap : Nat} (h : Got w base E k (.slice (some ⟨g, 0, none⟩) zs.length cap) zs) (j : Nat) (x : Int) :
    Got (w.setCell ⟨g, j, none⟩ (.int k x)) base E k (.slice (some ⟨g, 0, none⟩) zs.length cap) (zs.set j x) := by
  have := (World.ownsRow.stored h j (.int k x)).1
  unfold Got
  simpa [List.map_set] using this

theorem Got.cell {g cap : Nat} (h : Got w base E k (.slice (some ⟨g, 0, none⟩) zs.length cap) zs) (j : Nat) (hj : j < zs.length) :
    w.cell? ⟨g, j, none⟩ = some (.int k (zat zs j)) := by
  rw [World.ownsRow.cellAt h j (by omega)]
  simp [zat, List.getD_eq_getElem?_getD, hj]

theorem Got.free {g cap : Nat} (h : Got w base E k (.slice (some ⟨g, 0, none⟩) zs.length cap) zs) (j : Nat) : w.frozen? ⟨g, j, none⟩ = false :=
  World.ownsRow.frozenAt h j

theorem Got.base_le {g n cap : Nat} (h : Got w base E k (.slice (some ⟨g, 0, none⟩) n cap) zs) : base ≤ g := (h.lt g rfl).1

/-- what make gives: zeros -/
theorem got_made {g n : Nat} (h : w.ownsRow base E 1 (.slice (some ⟨g, 0, none⟩) n n) n (madeCells (Value.int k 0).cells (n * 1)).toList) :
    Got w base E k (.slice (some ⟨g, 0, none⟩) n n) (List.replicate n 0) := by
  have e : (madeCells (Value.int k 0).cells (n * 1)).toList = (List.replicate n (0 : Int)).map (Value.int k) := by
    rw [Nat.mul_one, List.map_replicate]
    exact toList_madeCells_one _ _
  rw [e] at h
  unfold Got
  rw [List.length_replicate]
  exact h

theorem Got.cast {v' : Value} {zs' : List Int} (h : Got w base E k v zs) (hv : v = v') (hz : zs = zs') : Got w base E k v' zs' := by
  subst hv; subst hz; exact h

end

/-- 'append(s, x)': one number behind a slice of the call's own (x stands in a new block of one cell) -/
theorem wpList_app1 {P : Program} {ops : Array Oper} {rest : List Oper} {o : Oper} {a : Act} {Q : Exit → Act → World → Prop} {w : World} (hgd : o.guard = none) (s x : Operand) (t : TypeId)
    (ho : o.op = .call { callee := .builtin .append, args := #[s, x], argTypes := #[t, t] })
    {base : Nat} {e : TypeId} {i : TypeInfo} {k : IntKind} {bytes : Nat} (ht : P.underlying t = some (.slice e)) (hi : P.info? e = some i) (hz : i.zero = some (.int k 0)) (hsize : i.size = 1) (hby : i.bytes = bytes)
    {v : Value} {zs : List Int} {y : Int} (hs : a.eval s = v) (hown : Got w base e k v zs) {T : TypeId} (hx : a.eval x = .slice (some ⟨w.heap.size, 0, none⟩) 1 1)
    (h63 : zs.length + 1 ≤ maxLen) (hbytes : (zs.length + 1) * bytes ≤ 140737488355328) (hbase : base ≤ w.heap.size)
    (h : ∀ v' w', Got w' base e k v' (zs ++ [y]) → Below base w w' → wpList P ops Q rest (a.put o.dst v') w') : wpList P ops Q (o :: rest) a (w.alloc (.cells #[.int k y] T)) := by
  refine wpList_append_own _ hgd s x t ho base e i (.int k 0) 1 bytes ht hi hz hsize hby rfl (by decide) v zs.length (zs.map (Value.int k)) hs (hown.alloc _)
    ⟨w.heap.size, 0, none⟩ 1 1 [.int k y] hx rfl ?_ ?_ h63 hbytes (by simp; omega) ?_
  · intro j u hj
    cases j with
    | zero => simp at hj; subst hj; simp [Addr.add]
    | succ j => simp at hj
  · intro u hu
    simp at hu
    subst hu
    rfl
  · intro v' w' h1 h2 _
    refine h v' w' ?_ ?_
    · unfold Got
      simpa using h1
    · exact ((Below.refl base w).alloc hbase _).grown h2 (by simp; omega) (fun g hg => (hown.lt g hg).1)


theorem Ri.alloc {w : World} {k : IntKind} {A : Option Addr} {zs : List Int} (h : Ri w k A zs) (o : Obj) : Ri (w.alloc o) k A zs :=
  h.below ((Below.refl _ _).alloc (Nat.le_refl _) o) (Nat.le_refl _)
theorem Ri.drew {w : World} {k : IntKind} {A : Option Addr} {zs : List Int} (h : Ri w k A zs) : Ri w.drew k A zs := h
theorem Ri.drewN {w : World} {k : IntKind} {A : Option Addr} {zs : List Int} (h : Ri w k A zs) (n : Nat) : Ri (w.drewN n) k A zs := h
/-- a new block of numbers -/
theorem Ri.lit (w : World) (k : IntKind) (zs : List Int) (T : TypeId) : Ri (w.alloc (.cells (zs.map (Value.int k)).toArray T)) k (some ⟨w.heap.size, 0, none⟩) zs := by
  refine .inr ⟨w.heap.size, 0, rfl, fun j hj => ?_⟩
  rw [World.cell?_alloc_new]
  simp [zat, List.getD_eq_getElem?_getD, hj]

theorem bel_drewN {B : Nat} {a w : World} (h : Below B a w) (n : Nat) : Below B a (w.drewN n) := ⟨h.os, h.tape, h.output, h.size, h.block⟩


/-- a call made on the way changes nothing that was there before -/
theorem bel_on {a b c : World} (h : Below a.heap.size a b) (k : Below b.heap.size b c) : Below a.heap.size a c := h.trans (k.mono h.size)


theorem add_plain (b off j : Nat) : (⟨b, off, none⟩ : Addr).add j = ⟨b, off + j, none⟩ := by
  by_cases h : j = 0
  · subst h; simp [Addr.add]
  · simp [Addr.add, h]

/-- 'append(s, xs...)': the numbers of any slice behind a slice of the call's own -/
theorem wpList_appN {P : Program} {ops : Array Oper} {rest : List Oper} {o : Oper} {a : Act} {Q : Exit → Act → World → Prop} {w : World} (hgd : o.guard = none) (s x : Operand) (t : TypeId)
    (ho : o.op = .call { callee := .builtin .append, args := #[s, x], argTypes := #[t, t] })
    {base : Nat} {e : TypeId} {i : TypeInfo} {k : IntKind} {bytes : Nat} (ht : P.underlying t = some (.slice e)) (hi : P.info? e = some i) (hz : i.zero = some (.int k 0)) (hsize : i.size = 1) (hby : i.bytes = bytes)
    {v : Value} {zs ys : List Int} {A : Option Addr} {c : Nat} (hs : a.eval s = v) (hown : Got w base e k v zs) (hx : a.eval x = .slice A ys.length c) (hr : Ri w k A ys) (hc : A = none → c = 0)
    (h63 : zs.length + ys.length ≤ maxLen) (hbytes : (zs.length + ys.length) * bytes ≤ 140737488355328) (hbase : base ≤ w.heap.size)
    (h : ∀ v' w', Got w' base e k v' (zs ++ ys) → Below base w w' → wpList P ops Q rest (a.put o.dst v') w') : wpList P ops Q (o :: rest) a w := by
  cases A with
  | none =>
    have hy : ys = [] := by
      rcases hr with h0 | ⟨b, off, h0, _⟩
      · exact h0
      · cases h0
    subst hy
    obtain rfl := hc rfl
    exact wpList_append_own_none hgd s x t ho base e i 1 ht hi v zs.length _ hs hown hx (h v w (by simpa using hown) (Below.refl _ _))
  | some ad =>
    refine wpList_append_own _ hgd s x t ho base e i (.int k 0) 1 bytes ht hi hz hsize hby rfl (by decide) v zs.length (zs.map (Value.int k)) hs hown
      ad ys.length c (ys.map (Value.int k)) hx (by simp) ?_ ?_ h63 hbytes hbase ?_
    · intro j u hj
      rcases hr with rfl | ⟨b, off, h0, hcell⟩
      · simp at hj
      · injection h0 with h0
        subst h0
        have hlt : j < ys.length := by
          rcases Nat.lt_or_ge j ys.length with h1 | h1
          · exact h1
          · rw [List.getElem?_eq_none (by simpa using h1)] at hj; cases hj
        have h2 := hcell j hlt
        have e1 : (⟨b, off, none⟩ : Addr).add j = ⟨b, off + j, none⟩ := add_plain b off j
        rw [e1, h2]
        simp [hlt] at hj
        subst hj
        simp [zat, List.getD_eq_getElem?_getD, hlt]
    · intro u hu
      simp at hu
      obtain ⟨z, _, rfl⟩ := hu
      rfl
    · intro v' w' h1 h2 _
      refine h v' w' ?_ ?_
      · unfold Got
        simpa using h1
      · exact (Below.refl base w).grown h2 hbase (fun g hg => (hown.lt g hg).1)

/-- the same, where the length is written as a number -/
theorem wpList_appNn {P : Program} {ops : Array Oper} {rest : List Oper} {o : Oper} {a : Act} {Q : Exit → Act → World → Prop} {w : World} (n : Nat) (hgd : o.guard = none) (s x : Operand) (t : TypeId)
    (ho : o.op = .call { callee := .builtin .append, args := #[s, x], argTypes := #[t, t] })
    {base : Nat} {e : TypeId} {i : TypeInfo} {k : IntKind} {bytes : Nat} (ht : P.underlying t = some (.slice e)) (hi : P.info? e = some i) (hz : i.zero = some (.int k 0)) (hsize : i.size = 1) (hby : i.bytes = bytes)
    {v : Value} {zs ys : List Int} {A : Option Addr} {c : Nat} (hn : n = ys.length) (hs : a.eval s = v) (hown : Got w base e k v zs) (hx : a.eval x = .slice A n c) (hr : Ri w k A ys) (hc : A = none → c = 0)
    (h63 : zs.length + n ≤ maxLen) (hbytes : (zs.length + n) * bytes ≤ 140737488355328) (hbase : base ≤ w.heap.size)
    (h : ∀ v' w', Got w' base e k v' (zs ++ ys) → Below base w w' → wpList P ops Q rest (a.put o.dst v') w') : wpList P ops Q (o :: rest) a w := by
  subst hn
  exact wpList_appN hgd s x t ho ht hi hz hsize hby hs hown hx hr hc h63 hbytes hbase h

/-- an empty slice that the call made -/
theorem Got.empty_made (w : World) {base : Nat} (E : TypeId) (k : IntKind) (hb : base ≤ w.heap.size) : Got (w.alloc (.cells #[] E)) base E k (.slice (some ⟨w.heap.size, 0, none⟩) 0 0) [] :=
  World.ownsRow_made w #[] 0 hb (Nat.zero_le _) rfl


/-- a store into another block -/
theorem Got.far {w : World} {base : Nat} {E : TypeId} {k : IntKind} {v : Value} {zs : List Int} (h : Got w base E k v zs) {p : Addr} (hp : p.block < base) (u : Value) : Got (w.setCell p u) base E k v zs :=
  ownsRow_setCell_below h hp u

theorem Got.addr {w : World} {base : Nat} {E : TypeId} {k : IntKind} {A : Option Addr} {n c : Nat} {zs : List Int} (h : Got w base E k (.slice A n c) zs) (h0 : 0 < n) :
    ∃ g, A = some ⟨g, 0, none⟩ ∧ base ≤ g ∧ g < w.heap.size ∧ n = zs.length := by
  have hl := h.lt
  rcases h.2 with ⟨h1, h2⟩ | ⟨g, cap, cur, h1, hg, hh, _⟩
  · injection h1 with h3 h4
    omega
  · injection h1 with h3 h4
    subst h3
    exact ⟨g, rfl, hg, (hl g rfl).2, h4⟩

theorem Got.ri {w : World} {base : Nat} {E : TypeId} {k : IntKind} {A : Option Addr} {n c : Nat} {zs : List Int} (h : Got w base E k (.slice A n c) zs) : Ri w k A zs ∧ n = zs.length := by
  obtain ⟨A', c', hv, _, _, hr⟩ := h.slice
  injection hv with h1 h2 h3
  subst h1
  exact ⟨hr, h2⟩

theorem Got.full {w : World} {base : Nat} {E : TypeId} {k : IntKind} {v : Value} {zs : List Int} (h : Got w base E k v zs) : ∃ A cap, v = .slice A zs.length cap ∧ zs.length ≤ cap ∧ cap ≤ maxLen ∧ Ri w k A zs ∧ (A = none → cap = 0) := by
  obtain ⟨A, c, h1, h2, h3, h4⟩ := h.slice
  refine ⟨A, c, h1, h2, h3, h4, fun hA => ?_⟩
  subst hA
  rcases h.2 with ⟨hv, hn⟩ | ⟨g, cap, cur, hv, _⟩
  · rw [h1] at hv
    injection hv
  · rw [h1] at hv
    injection hv with e
    cases e

end Go.Proofs.YtnmanhediiooaaaGreatDoor

/- How the arguments of a law are opened: slices of integers. -/
namespace Go.Proofs.YtnmanhediiooaaaGreatDoor
open Go.ChangeShapes Go.WideShapes Go.ChangeAt Go.RowKit

theorem own : ownKnob Tryz.prog.godebug = none := by kernel_rfl
theorem laidOut : laidOutB Tryz.prog = true := by kernel_rfl

/-- a slice of integers that came in -/
structure Row (k : IntKind) (w : World) (A : Option Addr) (len cap : Nat) (zs : List Int) : Prop where
  ri : Ri w k A zs
  len_eq : len = zs.length
  le : len ≤ cap
  cap_le : cap ≤ maxLen
  nil : A = none → cap = 0
  fits : ∀ z ∈ zs, (Lit.int k z).wf = true

theorem Row.none {k : IntKind} {w : World} : Row k w .none 0 0 [] := ⟨Ri.nil _ _ _, rfl, Nat.le_refl _, Nat.zero_le _, fun _ => rfl, fun z hz => by cases hz⟩

theorem Row.some {k : IntKind} {w : World} {x : Addr} {len cap : Nat} {zs : List Int} (hl : len ≤ cap) (hm : cap ≤ maxLen) (hz : zs.length = cap) (hc : ∀ i, i < zs.length → w.cell? (x.add i) = .some (.int k (zs.getD i 0))) (hw : ∀ n ∈ zs, (Lit.int k n).wf = true) :
    Row k w (.some x) len cap (zs.take len) := by
  have hlen : (zs.take len).length = len := by simp; omega
  refine ⟨?_, hlen.symm, hl, hm, (fun h => by cases h), fun z h => hw z (List.mem_of_mem_take h)⟩
  by_cases h0 : 0 < len
  · obtain ⟨b, off, spot⟩ := x
    have hs : spot = .none := by
      have := World.cell?_spot (hc 0 (by omega))
      simpa [Addr.add] using this
    subst hs
    refine .inr ⟨b, off, rfl, fun j hj => ?_⟩
    rw [hlen] at hj
    have := hc j (by omega)
    rw [add_plain] at this
    rw [this, zat_take _ _ _ hj]
    rfl
  · exact .inl (List.eq_nil_of_length_eq_zero (by omega))

theorem Row.wds {w : World} {A : Option Addr} {len cap : Nat} {zs : List Int} (h : Row .u64 w A len cap zs) : Wds zs := fun z hz => by
  have := h.fits z hz
  simp [Lit.wf, IntKind.min, IntKind.max, IntKind.signed, IntKind.bits] at this
  omega
theorem of_wf_i64 {n : Int} (h : (Lit.int .i64 n).wf = true) : -9223372036854775808 ≤ n ∧ n < 9223372036854775808 := by
  simp [Lit.wf, IntKind.min, IntKind.max, IntKind.signed, IntKind.bits] at h
  omega
/-! ## A struct of fields of one cell each, by value -/
theorem open_struct {H : Type} {enc : TypeId × Value → H} {P : Program} {w : World} {base : Nat} {spare : Nat → Bool} {held : Bool} {r : Reach} {b0 : Nat} {t : TypeId} {fs : Array Field} {v : Value} {d : DataW H} {ps : List MemPlace}
    (hs : P.underlying t = some (.struct fs)) (hone : Go.Deep.oneCellFields P fs = true) (hC : P.cellsOf t = fs.size) (hv : Value.okWide P w r b0 t v) (h : DataW.Trod enc P w base spare held t v d ps) :
    ∃ cs : Array Value, v = .agg cs ∧ cs.size = fs.size ∧ ∀ (j : Nat) (f : Field) (u : Value), fs[j]? = some f → cs[j]? = some u → ∃ (n : Nat) (y : DataW H × List MemPlace), DataW.trod enc P w base spare held n f.type [u] = some y := by
  obtain ⟨cs, rfl, hsz⟩ := okWide_struct hs hv
  obtain ⟨fuel, hf⟩ := h
  obtain ⟨xs, n, _, _, _, hlen, hg⟩ := DataW.trod_struct hs hf
  refine ⟨cs, rfl, hsz.trans hC, fun j f u hj hu => ?_⟩
  obtain ⟨ho, hk⟩ := Go.Deep.hone_of hone j f hj
  have h1 := hg j f hj
  rw [ho, hk] at h1
  have hj2 : j < fs.size := (Array.getElem?_eq_some_iff.1 hj).1
  have hj3 : j < xs.length := by omega
  have hcs : (Value.agg cs).cells.toList = cs.toList := by simp [Value.cells]
  rw [hcs] at h1
  have hu2 : cs.toList[j]? = some u := by simpa using hu
  have hone2 : (cs.toList.drop j).take 1 = [u] := by
    obtain ⟨hlt, he⟩ := List.getElem?_eq_some_iff.1 hu2
    rw [List.drop_eq_getElem_cons hlt, he]
    rfl
  rw [hone2, List.getElem?_eq_getElem hj3] at h1
  exact ⟨n, _, h1⟩
theorem arr3 {cs : Array Value} (h : cs.size = 3) : ∃ a b c, cs = #[a, b, c] := by
  obtain ⟨l⟩ := cs
  match l, h with
  | [a, b, c], _ => exact ⟨a, b, c, rfl⟩
end Go.Proofs.YtnmanhediiooaaaGreatDoor

/- Maps with integer keys whose entries are written out: the run of an insertion, of a look-up. Nothing of the program's text is named here. -/
namespace Go.Proofs.YtnmanhediiooaaaGreatDoor
set_option linter.unusedVariables false
set_option linter.unusedSimpArgs false
set_option maxRecDepth 100000
open Go.RowKit

theorem alloc_setAt (w : World) (o o' : Obj) : { (w.alloc o) with heap := (w.alloc o).heap.setIfInBounds w.heap.size o' } = w.alloc o' := by
  unfold World.alloc
  simp only [World.mk.injEq, and_true]
  apply Array.ext'
  simp

theorem run_insert_new {P : Program} (w : World) (t k e : TypeId) (es : Array MapEntry) (clock : Nat) (key : Int) (val : Value) (ht : P.underlying t = some (.map k e)) (hk : P.underlying k = some (.int .i64))
    (hf : Instr.findNow (.int .i64) (.int .i64 key) es.toList 0 = some none) :
    (Instr.mapUpdate t (.map (some w.heap.size)) (.int .i64 key) val).run P (w.alloc (.map es clock)) = .ok () (w.alloc (.map (es.push { key := .int .i64 key, val := val, born := clock }) (clock + 1))) := by
  have hc : (Instr.checkKey false 10000 k (.int .i64 key)).run P (w.alloc (.map es clock)) = .ok () (w.alloc (.map es clock)) := MapKept.run_checkKey hk (by simp [MapKept.IsKey]) false 9999
  have hb : (w.alloc (.map es clock)).heap[w.heap.size]? = some (.map es clock) := by unfold World.alloc; simp
  simp [Instr.mapUpdate, run_underlying ht, MapKept.run_getObj_map hb, hc, MapKept.run_findKey hk hf, MapKept.run_setObj_map _ hb, Result.andThen]
  exact alloc_setAt w _ _

theorem run_lookup_yes {P : Program} (w : World) (t k e : TypeId) (r : Nat) (es : Array MapEntry) (clock : Nat) (key : Int) (i : Nat) (v : Value) (ht : P.underlying t = some (.map k e)) (hk : P.underlying k = some (.int .i64))
    (hb : w.heap[r]? = some (.map es clock)) (hf : Instr.findNow (.int .i64) (.int .i64 key) es.toList 0 = some (some (i, v))) :
    (Instr.lookup t (.map (some r)) (.int .i64 key) true).run P w = .ok (.tuple #[v, .bool true]) w := by
  have hc : (Instr.checkKey es.isEmpty 10000 k (.int .i64 key)).run P w = .ok () w := MapKept.run_checkKey hk (by simp [MapKept.IsKey]) _ 9999
  simp [Instr.lookup, run_underlying ht, MapKept.run_getObj_map hb, hc, MapKept.run_findKey hk hf, Result.andThen]

/-- r is a map of the entries -/
def IsMap (es : Array MapEntry) (clock : Nat) (v : Value) (w : World) : Prop := ∃ r, v = .map (some r) ∧ w.heap[r]? = some (.map es clock)
theorem IsMap.below {es : Array MapEntry} {clock : Nat} {v : Value} {w w' : World} (h : IsMap es clock v w) (hb : Below w.heap.size w w') : IsMap es clock v w' := by
  obtain ⟨r, rfl, h⟩ := h
  refine ⟨r, rfl, ?_⟩
  have hlt : r < w.heap.size := by
    rcases Nat.lt_or_ge r w.heap.size with hlt | hge
    · exact hlt
    · rw [Array.getElem?_eq_none hge] at h; cases h
  rw [hb.block r hlt]
  exact h

theorem bel_drew {B : Nat} {a w : World} (h : Below B a w) : Below B a w.drew := ⟨h.os, h.tape, h.output, h.size, h.block⟩
theorem bcell {W w1 : World} (hb : Below W.heap.size W w1) : (∀ b o, b < W.heap.size → w1.cell? ⟨b, o, none⟩ = W.cell? ⟨b, o, none⟩) ∧ (∀ b o, b < W.heap.size → w1.frozen? ⟨b, o, none⟩ = W.frozen? ⟨b, o, none⟩) :=
  ⟨fun b o h => hb.cell (p := ⟨b, o, none⟩) h, fun b o h => hb.frozen (p := ⟨b, o, none⟩) h⟩
/-! ## A block that is known whole: '∀ o, w.cell? ⟨b, o, none⟩ = cs[o]?' -/
theorem blk_new (w : World) (cs : Array Value) (T : TypeId) : ∀ o, (w.alloc (.cells cs T)).cell? ⟨w.heap.size, o, none⟩ = cs[o]? := fun o => World.cell?_alloc_new w cs T o
theorem blk_below {w w' : World} {B b : Nat} {cs : Array Value} (h : ∀ o, w.cell? ⟨b, o, none⟩ = cs[o]?) (hb : Below B w w') (hB : b < B) : ∀ o, w'.cell? ⟨b, o, none⟩ = cs[o]? :=
  fun o => (hb.cell (p := ⟨b, o, none⟩) hB).trans (h o)
theorem blk_alloc {w : World} {b : Nat} {cs : Array Value} (h : ∀ o, w.cell? ⟨b, o, none⟩ = cs[o]?) (hB : b < w.heap.size) (x : Obj) : ∀ o, (w.alloc x).cell? ⟨b, o, none⟩ = cs[o]? :=
  blk_below h ((Below.refl _ _).alloc (Nat.le_refl _) x) hB
end Go.Proofs.YtnmanhediiooaaaGreatDoor

/- What is known of a message in memory: a slice of slices of words. -/
namespace Go.Proofs.YtnmanhediiooaaaGreatDoor
open Go.RowKit
set_option linter.unusedVariables false
set_option linter.unusedSimpArgs false
set_option maxRecDepth 100000

/-- segment j of a message, empty behind its end (a name that simp does not open) -/
def seg (ls : List (List Int)) (j : Nat) : List Int := ls.getD j []
theorem seg_mem {ls : List (List Int)} {j : Nat} (h : j < ls.length) : seg ls j ∈ ls := by
  rw [seg, List.getD_eq_getElem?_getD, List.getElem?_eq_getElem h]
  exact List.getElem_mem h
theorem seg_out {ls : List (List Int)} {j : Nat} (h : ls.length ≤ j) : seg ls j = [] := by
  rw [seg, List.getD_eq_getElem?_getD, List.getElem?_eq_none h]; rfl
def Wd2 (ls : List (List Int)) : Prop := ∀ l ∈ ls, Wds l
theorem Wd2.at {ls : List (List Int)} (h : Wd2 ls) (j : Nat) : Wds (seg ls j) := by
  by_cases hj : j < ls.length
  · exact h _ (seg_mem hj)
  · rw [seg_out (by omega)]; intro z hz; cases hz

/-- the slice value v holds the words l -/
def Holds (w : World) (v : Value) (l : List Int) : Prop := ∃ A c, v = .slice A l.length c ∧ Ri w .u64 A l ∧ (A = none → c = 0) ∧ l.length ≤ c ∧ c ≤ maxLen
theorem Holds.below {w w' : World} {v : Value} {l : List Int} {B : Nat} (h : Holds w v l) (hb : Below B w w') (hB : w.heap.size ≤ B) : Holds w' v l := by
  obtain ⟨A, c, h1, h2, h3⟩ := h
  exact ⟨A, c, h1, h2.below hb hB, h3⟩

/-- at A lie the segments ls one after the other -/
def Sg (w : World) (A : Option Addr) (ls : List (List Int)) : Prop :=
  ls = [] ∨ ∃ b off, A = some ⟨b, off, none⟩ ∧ ∀ j, j < ls.length → ∃ v, w.cell? ⟨b, off + j, none⟩ = some v ∧ Holds w v (seg ls j)

theorem Sg.nil (w : World) (A : Option Addr) : Sg w A [] := .inl rfl

theorem Sg.at {w : World} {A : Option Addr} {ls : List (List Int)} (h : Sg w A ls) {i : Nat} (hi : i < ls.length) :
    ∃ b off, A = some ⟨b, off, none⟩ ∧ ∀ j, j < ls.length → ∃ v, w.cell? ⟨b, off + j, none⟩ = some v ∧ Holds w v (seg ls j) := by
  rcases h with rfl | h
  · simp at hi
  · exact h

/-- the segment i: its cell and what it holds -/
theorem Sg.one {w : World} {A : Option Addr} {ls : List (List Int)} (h : Sg w A ls) {i : Nat} (hi : i < ls.length) :
    ∃ b off A' c, A = some ⟨b, off, none⟩ ∧ w.cell? ⟨b, off + i, none⟩ = some (.slice A' (seg ls i).length c) ∧ Ri w .u64 A' (seg ls i) ∧ (A' = none → c = 0) ∧ (seg ls i).length ≤ c ∧ c ≤ 9223372036854775807 := by
  obtain ⟨b, off, hA, hc⟩ := h.at hi
  obtain ⟨v, hv, A', c, rfl, h1, h2, h3, h4⟩ := hc i hi
  unfold maxLen at h4
  exact ⟨b, off, A', c, hA, hv, h1, h2, h3, by omega⟩

theorem Sg.below {w w' : World} {A : Option Addr} {ls : List (List Int)} {B : Nat} (h : Sg w A ls) (hb : Below B w w') (hB : w.heap.size ≤ B) : Sg w' A ls := by
  rcases h with rfl | ⟨b, off, rfl, h⟩
  · exact .inl rfl
  · refine .inr ⟨b, off, rfl, fun j hj => ?_⟩
    obtain ⟨v, hv, hh⟩ := h j hj
    have hlt : b < w.heap.size := World.block_lt_of_cell? w ⟨b, off + j, none⟩ hv
    exact ⟨v, (hb.cell (p := ⟨b, off + j, none⟩) (by show b < B; omega)).trans hv, hh.below hb hB⟩

/-! ## Places of a message -/
def inB (ls : List (List Int)) (s a n : Int) : Bool := decide (0 ≤ s ∧ s < ls.length ∧ 0 ≤ a ∧ 0 ≤ n ∧ a ≤ (seg ls s.toNat).length ∧ n ≤ (seg ls s.toNat).length - a)
def hasB (ls : List (List Int)) (s a : Int) : Bool := decide (0 ≤ s ∧ s < ls.length ∧ 0 ≤ a ∧ a < (seg ls s.toNat).length)
def wordV (ls : List (List Int)) (s a : Int) : Int := if hasB ls s a then zat (seg ls s.toNat) a.toNat else 0
def sliceL (ls : List (List Int)) (s a n : Int) : List Int := ((seg ls s.toNat).drop a.toNat).take n.toNat
def fewB (ls : List (List Int)) : Bool := decide ((∀ j, j < ls.length → (seg ls j).length ≤ 300) ∧ ls.length ≤ 20)

theorem few_fits {ls : List (List Int)} (h : fewB ls = true) : (∀ j, (seg ls j).length ≤ 300) ∧ ls.length ≤ 20 := by
  obtain ⟨h1, h2⟩ := of_decide_eq_true h
  refine ⟨fun j => ?_, h2⟩
  by_cases hj : j < ls.length
  · exact h1 j hj
  · rw [seg_out (by omega)]; simp
end Go.Proofs.YtnmanhediiooaaaGreatDoor

/- How a message that came in (a slice of slices of words) is opened. -/
namespace Go.Proofs.YtnmanhediiooaaaGreatDoor
open Go.ChangeShapes Go.WideShapes Go.ChangeAt Go.RowKit
set_option linter.unusedVariables false

structure RowS (w : World) (A : Option Addr) (len cap : Nat) (ls : List (List Int)) : Prop where
  sg : Sg w A ls
  len_eq : len = ls.length
  le : len ≤ cap
  cap_le : cap ≤ maxLen
  nil : A = none → cap = 0
  wd : Wd2 ls

theorem RowS.none {w : World} : RowS w .none 0 0 [] := ⟨Sg.nil _ _, rfl, Nat.le_refl _, Nat.zero_le _, fun _ => rfl, fun z hz => by cases hz⟩

theorem RowS.some {w : World} {x : Addr} {len cap : Nat} {A : Nat → Option Addr} {L C : Nat → Nat} {Z : Nat → List Int} (hl : len ≤ cap) (hm : cap ≤ maxLen)
    (h : ∀ r, r < cap → w.cell? (x.add r) = .some (.slice (A r) (L r) (C r)) ∧ L r ≤ C r ∧ C r ≤ maxLen ∧ (Z r).length = C r ∧ (∀ n ∈ Z r, (Lit.int .u64 n).wf = true) ∧ (A r = .none → C r = 0) ∧
        ∀ a', A r = .some a' → ∀ c, c < C r → w.cell? (a'.add c) = .some (.int .u64 ((Z r).getD c 0))) :
    RowS w (.some x) len cap ((List.range len).map fun r => (Z r).take (L r)) := by
  have hlen : ((List.range len).map fun r => (Z r).take (L r)).length = len := by simp
  have hseg : ∀ r, r < len → seg ((List.range len).map fun r => (Z r).take (L r)) r = (Z r).take (L r) := by
    intro r hr
    simp [seg, List.getD_eq_getElem?_getD, hr]
  have hrow : ∀ r, r < len → Row .u64 w (A r) (L r) (C r) ((Z r).take (L r)) := by
    intro r hr
    obtain ⟨h1, h2, h3, h4, h5, h6, h7⟩ := h r (by omega)
    cases hA : A r with
    | none =>
      have hC := h6 hA
      have hL : L r = 0 := by omega
      have : (Z r).take (L r) = [] := by rw [hL]; rfl
      rw [this, hL, hC]
      exact Row.none
    | some a' => exact Row.some h2 h3 h4 (fun i hi => h7 a' hA i (by omega)) h5
  refine ⟨?_, hlen.symm, hl, hm, (fun h => by cases h), ?_⟩
  · by_cases h0 : 0 < len
    · obtain ⟨b, off, spot⟩ := x
      have hs : spot = .none := by
        have := World.cell?_spot (h 0 (by omega)).1
        simpa [Addr.add] using this
      subst hs
      refine .inr ⟨b, off, rfl, fun j hj => ?_⟩
      rw [hlen] at hj
      have h1 := (h j (by omega)).1
      rw [add_plain] at h1
      have hr := hrow j hj
      refine ⟨_, h1, A j, C j, ?_, ?_, hr.nil, ?_, hr.cap_le⟩
      · rw [hseg j hj]
        exact congrArg (fun n => Value.slice (A j) n (C j)) hr.len_eq
      · rw [hseg j hj]; exact hr.ri
      · rw [hseg j hj, ← hr.len_eq]; exact hr.le
    · exact .inl (List.eq_nil_of_length_eq_zero (by omega))
  · intro l hl2
    simp only [List.mem_map, List.mem_range] at hl2
    obtain ⟨r, hr, rfl⟩ := hl2
    exact (hrow r hr).wds

end Go.Proofs.YtnmanhediiooaaaGreatDoor

/- The package-level variables that the program lays and never writes: what they hold ('TabOK'), and that it stays so. -/
namespace Go.Proofs.YtnmanhediiooaaaGreatDoor
open Go.RowKit
set_option linter.unusedVariables false

/-- listsize.elementBits -/
def elemZ : List Int := [0, 1, 8, 16, 32, 64, 64, 0]
def TabOK (w : World) : Prop := ∀ i, i < 8 → w.cell? ⟨0, i, none⟩ = some (.int .i64 (elemZ.getD i 0))
theorem TabOK.below {w w' : World} (h : TabOK w) {B : Nat} (hb : Below B w w') (hB : w.heap.size ≤ B) : TabOK w' := fun i hi => cell_later (hb.mono hB) (h i hi)
theorem TabOK.on {w w' : World} (h : TabOK w) (hb : Below w.heap.size w w') : TabOK w' := h.below hb (Nat.le_refl _)
theorem TabOK.alloc {w : World} (h : TabOK w) (o : Obj) : TabOK (w.alloc o) := h.on ((Below.refl _ _).alloc (Nat.le_refl _) o)
theorem TabOK.drew {w : World} (h : TabOK w) : TabOK w.drew := h
theorem TabOK.drewN {w : World} (h : TabOK w) (n : Nat) : TabOK (w.drewN n) := h
theorem TabOK.lt {w : World} (h : TabOK w) : 0 < w.heap.size := World.block_lt_of_cell? w _ (h 0 (by decide))
theorem TabOK.setCell {w : World} (h : TabOK w) {p : Addr} (hp : w.heap.size ≤ p.block) (u : Value) : TabOK (w.setCell p u) := h.on ((Below.refl _ _).setCell hp u)
end Go.Proofs.YtnmanhediiooaaaGreatDoor

/- From what a row lists of package-level variables to 'TabOK', and a world for the witnesses. -/
namespace Go.Proofs.YtnmanhediiooaaaGreatDoor
open Go.ChangeShapes Go.WideShapes Go.ChangeAt Go.RowKit
set_option linter.unusedVariables false

theorem gTab : Tryz.prog.globalNamed "capnp/listsize.elementBits" = some 0 := by kernel_rfl
theorem gTabType : (Tryz.prog.globals[0]?).map (·.type) = some 154 := by kernel_rfl
theorem cellsTab : Tryz.prog.cellsOf 154 = 8 := by kernel_rfl
theorem cellsInt : Tryz.prog.cellsOf 3 = 1 := by kernel_rfl
theorem tab_laid {W : World} (h : laidMetH Tryz.prog [("capnp/listsize.elementBits", Rows.laid_capnp_listsize_elementBits)] W) : TabOK W := by
  have hT : Lib.TabIs Tryz.prog W "capnp/listsize.elementBits" .i64 elemZ := Lib.tabIs_of_head (rest := []) gTab gTabType Tryz.underlying154 Tryz.underlying3 cellsInt cellsTab h
  exact fun i hi => hT.cell gTab i hi
noncomputable def laidWorld (os : Os) : World :=
  { World.holding Tryz.prog os ⟨#[], #[], []⟩ with heap := (World.holding Tryz.prog os ⟨#[], #[], []⟩).heap.modify 0 fun
      | .cells _ t frozen => .cells #[.int .i64 0, .int .i64 1, .int .i64 8, .int .i64 16, .int .i64 32, .int .i64 64, .int .i64 64, .int .i64 0] t frozen
      | o => o }
end Go.Proofs.YtnmanhediiooaaaGreatDoor

/- What the functions of package word do, each by a contract. -/
namespace Go.Proofs.YtnmanhediiooaaaGreatDoor
open Go.ChangeShapes Go.WideShapes Go.ChangeAt Go.RowKit
set_option linter.unusedVariables false

theorem lowBits_any (n : Int) (w : World) (h1 : 1 ≤ n) (h2 : n ≤ 64) :
    Calls Tryz.prog 115 #[.int .i64 n] w fun e w' => e = .returned (.int .u64 (18446744073709551615 / 2 ^ (64 - n).toNat)) ∧ w = w' := by
  go_enter Tryz.func115, Tryz.ntmps115
  go_wp2
  go_ret
  exact ⟨rfl, rfl⟩

theorem Field_any (x a n : Int) (w : World) (h1 : 1 ≤ n) (h2 : 0 ≤ a) (h3 : a + n ≤ 64) (h5 : 0 ≤ x) (h6 : x < 18446744073709551616) :
    Calls Tryz.prog 106 #[.int .u64 x, .int .i64 a, .int .i64 n] w fun e w' => e = .returned (.int .u64 (fld x a n)) ∧ w = w' := by
  have HF := Lib.hid (fld_go x a n (by omega) (by omega) h5 h6)
  go_enter Tryz.func106, Tryz.ntmps106
  go_wp2_with (go_at_call 115; refine (lowBits_any _ _ (by omega) (by omega)).mono ?_; rintro e w' ⟨rfl, rfl⟩)
  go_ret
  exact ⟨congrArg (fun z => Ending.returned (.int .u64 z)) HF.out, rfl⟩

theorem Signed_any (x a n : Int) (w : World) (h1 : 1 ≤ n) (h2 : 0 ≤ a) (h3 : a + n ≤ 64) (h5 : 0 ≤ x) (h6 : x < 18446744073709551616) :
    Calls Tryz.prog 116 #[.int .u64 x, .int .i64 a, .int .i64 n] w fun e w' => e = .returned (.int .i64 (sgn x a n)) ∧ w = w' := by
  have hb := fld_bd x a n (by omega)
  have HF := Lib.hid (sgn_go x a n h1 (by omega))
  go_enter Tryz.func116, Tryz.ntmps116
  go_wp2_with (go_at_call 106; refine (Field_any _ _ _ _ h1 h2 h3 h5 h6).mono ?_; rintro e w' ⟨rfl, rfl⟩)
  go_ret
  exact ⟨congrArg (fun z => Ending.returned (.int .i64 z)) HF.out, rfl⟩

theorem encode_any (base g n off len cap : Nat) (zs : List Int) (x : Int) (w : World) (h8 : 8 ≤ len) (hm : len ≤ 9223372036854775807) (hz : off + 8 ≤ zs.length) (hn : n = zs.length)
    (cap0 : Nat) (hg : Got w base 5 .u8 (.slice (some ⟨g, 0, none⟩) n cap0) zs) :
    Calls Tryz.prog 102 #[.slice (some ⟨g, off, none⟩) len cap, .int .u64 x] w fun e w' => e = .returned (.tuple #[]) ∧
      Got w' base 5 .u8 (.slice (some ⟨g, 0, none⟩) n cap0) (splice zs off (bytes8 x)) ∧ Below base w w' := by
  have Hn := Lib.hid hn
  clear hn
  have hbase := hg.base_le
  go_enter Tryz.func102, Tryz.ntmps102
  go_wp2
  go_loopw [5] (fun i wr => ∃ k : Nat, k ≤ 8 ∧ i = .int .i64 k ∧ Got wr base 5 .u8 (.slice (some ⟨g, 0, none⟩) n cap0) (splice zs off ((bytes8 x).take k)) ∧ Below base w wr) (fun i _ => 8 - (intOf i).toNat)
  case atStart => exact ⟨0, by omega, rfl, by rw [List.take_zero, splice_nil]; exact hg, Below.refl _ _⟩
  case round =>
    obtain ⟨k, hk, rfl, hgk, hbk⟩ := hrel
    have l8 := bytes8_length x
    by_cases hlt : k < 8
    · have hlk : off + ((bytes8 x).take k).length ≤ zs.length := by simp; omega
      have HL := Lib.hid (splice_length hlk)
      have hn2 : n = (splice zs off ((bytes8 x).take k)).length := by rw [HL.out, Hn.out]
      have hgk' : Got wr base 5 .u8 (.slice (some ⟨g, 0, none⟩) (splice zs off ((bytes8 x).take k)).length cap0) (splice zs off ((bytes8 x).take k)) := by rw [← hn2]; exact hgk
      have hcell := hgk'.cell (off + k) (by rw [HL.out]; omega)
      have hfree := hgk'.free (off + k)
      have HG := Lib.hid hgk'
      have HB := Lib.hid hbk
      have HN := Lib.hid hn2
      clear hgk hgk' hbk hn2
      have hl : (k : Int) < (len : Int) := by omega
      go_wp2
      go_roundw
      case rel =>
        have e := splice_step (zs := zs) (ys := bytes8 x) (o := off) (k := k) (by omega) (by omega)
        rw [bytes8_zat x k hlt] at e
        rw [byteOf_go]
        refine ⟨k + 1, by omega, by go_num, ?_, HB.out.setCell (by show base ≤ g; omega) _⟩
        exact (HG.out.put (off + k) (byteOf x k)).cast (by rw [← HN.out]) e
      case measure => simp [intOf]; omega
    · obtain rfl : k = 8 := by omega
      go_wp2
      go_end0
      exact ⟨rfl, hgk.cast rfl (by rw [List.take_of_length_le (by omega)]), hbk⟩

theorem int8_info : (Tryz.prog.info? 5).map (fun i => (i.zero, i.size, i.bytes)) = some (some (.int .u8 0), 1, 1) := by kernel_rfl
theorem int64_info : (Tryz.prog.info? 41).map (fun i => (i.zero, i.size, i.bytes)) = some (some (.int .u64 0), 1, 8) := by kernel_rfl

theorem Bytes_any (A : Option Addr) (c : Nat) (l : List Int) (w : World) (hr : Ri w .u64 A l) (hb : Wds l) (hm : l.length ≤ 17592186044416) :
    Calls Tryz.prog 90 #[.slice A l.length c] w fun e w' => ∃ v, e = .returned v ∧ Got w' w.heap.size 5 .u8 v (bytesOf l) ∧ Below w.heap.size w w' := by
  obtain ⟨i0, hi, hz0, hz1, hz2⟩ := info_parts int8_info
  have Hr := Lib.hid hr
  have Hb := Lib.hid hb
  clear hr hb
  go_enter Tryz.func90, Tryz.ntmps90
  go_wp2_with (at_make; refine wpList_make_full _ rfl _ _ 27 rfl w.heap.size 5 i0 (.int .u8 0) 1 Tryz.underlying27 hi hz0 hz1 .i64 .i64 _ _ (8 * l.length) rfl rfl (by omega) (by omega) (by rw [hz2]; omega) (by unfold maxLen; omega) (Nat.le_refl _) ?_; intro w0 hown0 hgrow0)
  have hb0 : Below w.heap.size w w0 := (Below.refl _ _).grown hgrow0 (Nat.le_refl _) (by simp)
  have hg0 := got_made hown0
  have hlz : (List.replicate (8 * l.length) (0 : Int)).length = 8 * l.length := by simp
  go_loopw [12] (fun i wr => ∃ k : Nat, k ≤ l.length ∧ i = .int .i64 k ∧ Got wr w.heap.size 5 .u8 (.slice (some ⟨w.heap.size, 0, none⟩) (8 * l.length) (8 * l.length)) (splice (List.replicate (8 * l.length) 0) 0 (bytesOf (l.take k))) ∧ Below w.heap.size w wr) (fun i _ => l.length - (intOf i).toNat)
  case atStart => exact ⟨0, by omega, rfl, by rw [List.take_zero]; exact hg0.cast rfl (splice_nil _ _).symm, hb0⟩
  case round =>
    obtain ⟨k, hk, rfl, hgk, hbk⟩ := hrel
    clear hg0 hb0 hown0 hgrow0
    by_cases hlt : k < l.length
    · have hlk : 0 + (bytesOf (l.take k)).length ≤ (List.replicate (8 * l.length) (0 : Int)).length := by rw [bytesOf_length, List.length_take, hlz]; omega
      have HL := Lib.hid (splice_length hlk)
      have hr := Hr.out.below hbk (Nat.le_refl _)
      obtain ⟨g, off, rfl, hc3⟩ := hr.at (i := k) hlt
      have hcell := hc3 k hlt
      have hzk := Hb.out.at k
      have hl : (k : Int) < (l.length : Int) := by omega
      have HE := Lib.hid (encode_any w.heap.size w.heap.size (8 * l.length) (8 * k) (8 * l.length - 8 * k) (8 * l.length - 8 * k) _ (zat l k) wr (by omega) (by omega)
        (by rw [HL.out, hlz]; omega) (by rw [HL.out, hlz]) (8 * l.length) hgk)
      have HB := Lib.hid hbk
      have HZ := Lib.hid hlz
      clear hgk hbk hc3 hr hlz hlk
      go_wp2_with (go_at_call 102; refine HE.out.mono ?_; rintro e w' ⟨rfl, hg1, hb1⟩)
      go_roundw
      case rel =>
        refine ⟨k + 1, by omega, by go_num, hg1.cast rfl (splice_bytes (by rw [HZ.out]; omega) hlt), HB.out.trans hb1⟩
      case measure => simp [intOf]; omega
    · obtain rfl : k = l.length := by omega
      go_wp2
      go_ret
      exact ⟨_, rfl, hgk.cast rfl (by rw [List.take_of_length_le (by omega), splice_all (by rw [bytesOf_length, hlz])]), hbk⟩
end Go.Proofs.YtnmanhediiooaaaGreatDoor

/- What the reference functions of layer 1 do, each by a contract. -/
namespace Go.Proofs.YtnmanhediiooaaaGreatDoor
open Go.ChangeShapes Go.WideShapes Go.ChangeAt Go.RowKit
set_option linter.unusedVariables false

/-- are the two lists the same? -/
def sameB (a b : List Int) : Bool := decide (a = b)

theorem sameB_no (a b : List Int) (k : Nat) (h : zat a k ≠ zat b k) : sameB a b = false := by
  unfold sameB
  simp
  rintro rfl
  exact h rfl

theorem sameB_len (a b : List Int) (h : a.length ≠ b.length) : sameB a b = false := by
  unfold sameB
  simp
  rintro rfl
  exact h rfl

theorem sameB_yes (a b : List Int) (hl : a.length = b.length) (h : ∀ i, i < a.length → zat a i = zat b i) : sameB a b = true := by
  unfold sameB
  simp [ext_zat hl h]

theorem sameB_self (a : List Int) : sameB a a = true := by simp [sameB]

theorem Same_any (A B : Option Addr) (c d : Nat) (a b : List Int) (w : World) (ha : Ri w .u8 A a) (hb : Ri w .u8 B b) (hm : a.length ≤ 9223372036854775807) (hm2 : b.length ≤ 9223372036854775807) :
    Calls Tryz.prog 12 #[.slice A a.length c, .slice B b.length d] w fun e w' => e = .returned (.bool (sameB a b)) ∧ ∃ m, w' = w.drewN m := by
  have Ha := Lib.hid ha
  have Hb := Lib.hid hb
  clear ha hb
  by_cases hl : a.length = b.length
  · have HL := Lib.hid hl
    have hlen : ((a.length : Int) != (b.length : Int)) = false := by simp [hl]
    have hlen2 : ((a.length : Int) == (b.length : Int)) = true := by simp [hl]
    clear hl
    go_enter Tryz.func12, Tryz.ntmps12
    go_wp2
    go_loopw [5] (fun i wr => ∃ k : Nat, k ≤ a.length ∧ i = .int .i64 k ∧ (∀ j, j < k → zat a j = zat b j) ∧ ∃ m, wr = w.drewN m) (fun i _ => a.length - (intOf i).toNat)
    case atStart => exact ⟨0, by omega, rfl, by intro j hj; omega, 0, rfl⟩
    case round =>
      obtain ⟨k, hk, rfl, hsame, m, rfl⟩ := hrel
      have HS := Lib.hid hsame
      clear hsame
      by_cases hlt : k < a.length
      · obtain ⟨g, off, rfl, hc1⟩ := Ha.out.at hlt
        have hc1k := hc1 k hlt
        have hltb : k < b.length := by rw [← HL.out]; exact hlt
        obtain ⟨g', off', rfl, hc2⟩ := Hb.out.at hltb
        have hc2k := hc2 k hltb
        clear hc1 hc2
        have hi1 : (k : Int) < (a.length : Int) := by omega
        have hi2 : (k : Int) < (b.length : Int) := by omega
        by_cases hz : zat a k = zat b k
        · have hz1 : (zat a k != zat b k) = false := by simp [hz]
          have hz2 : (zat a k == zat b k) = true := by simp [hz]
          have HZ := Lib.hid hz
          clear hz
          go_wp2
          go_quiet (fail)
          go_wp2
          go_roundw
          case rel => exact ⟨k + 1, by omega, by go_num, fun j hj => by
            by_cases e : j = k
            · subst e; exact HZ.out
            · exact HS.out j (by omega), _, rfl⟩
          case measure => simp [intOf]; omega
        · have hz1 : (zat a k != zat b k) = true := by simp [hz]
          have hz2 : (zat a k == zat b k) = false := by simp [hz]
          have HZ := Lib.hid hz
          clear hz
          go_wp2
          go_quiet (fail)
          go_wp2
          go_ret
          exact ⟨by rw [sameB_no a b k HZ.out]; rfl, _, World.drewN_drewN _ _ _⟩
      · obtain rfl : k = a.length := by omega
        go_wp2
        go_ret
        exact ⟨by rw [sameB_yes a b HL.out HS.out]; rfl, _, rfl⟩
  · have HL := Lib.hid (sameB_len a b hl)
    have hlen : ((a.length : Int) != (b.length : Int)) = true := by simp; omega
    have hlen2 : ((a.length : Int) == (b.length : Int)) = false := by simp; omega
    clear hl
    go_enter Tryz.func12, Tryz.ntmps12
    go_wp2
    go_ret
    exact ⟨by rw [HL.out]; rfl, 0, rfl⟩


/-! ## Numbers -/
def p2 (n : Int) : Int := 2 ^ n.toNat

theorem p2_pos (n : Int) : 1 ≤ p2 n := by
  have : (0 : Int) < 2 ^ n.toNat := Int.pow_pos (by decide)
  unfold p2; omega

theorem p2_bd (n : Int) (h : n ≤ 63) : p2 n ≤ 9223372036854775808 := by
  have := Nat.pow_le_pow_right (n := 2) (by decide) (show n.toNat ≤ 63 by omega)
  have e : (2 : Int) ^ n.toNat = ((2 ^ n.toNat : Nat) : Int) := by simp
  unfold p2
  rw [e]; omega

theorem p2_succ (k : Nat) : p2 ((k : Int) + 1) = p2 k * 2 := by
  unfold p2
  rw [show ((k : Int) + 1).toNat = k + 1 by omega, Int.toNat_natCast, Int.pow_succ]

theorem Pow_any (n : Int) (w : World) (h0 : 0 ≤ n) (h1 : n ≤ 63) :
    Calls Tryz.prog 94 #[.int .i64 n] w fun e w' => e = .returned (.int .u64 (p2 n)) ∧ w = w' := by
  obtain ⟨m, rfl⟩ := Int.eq_ofNat_of_zero_le h0
  go_enter Tryz.func94, Tryz.ntmps94
  go_wp2
  go_loop [3, 4] (fun p i => ∃ k : Nat, k ≤ m ∧ i = .int .i64 k ∧ p = .int .u64 (p2 k)) (fun _ i => m - (intOf i).toNat)
  case atStart => exact ⟨0, by omega, rfl, rfl⟩
  case round =>
    obtain ⟨k, hk, rfl, rfl⟩ := hrel
    by_cases hlt : k < m
    · have hp := p2_pos k
      have hb := p2_bd ((k : Int) + 1) (by omega)
      have HS := Lib.hid (p2_succ k)
      rw [HS.out] at hb
      go_wp2
      go_round
      case rel => exact ⟨k + 1, by omega, by go_num, by rw [← HS.out]; go_num⟩
      case measure => simp [intOf]; omega
    · obtain rfl : k = m := by omega
      go_wp2
      go_ret
      exact ⟨rfl, rfl⟩

theorem fld_zero (x a : Int) : fld x a 0 = 0 := by simp [fld, fldN, Nat.mod_one]

theorem fld_succ (x a : Int) (k : Nat) (hx : 0 ≤ x) (ha : 0 ≤ a) : fld x a ((k : Int) + 1) = fld x a k + x / p2 (a + k) % 2 * p2 k := by
  obtain ⟨X, rfl⟩ := Int.eq_ofNat_of_zero_le hx
  obtain ⟨A, rfl⟩ := Int.eq_ofNat_of_zero_le ha
  unfold fld p2
  rw [show ((k : Int) + 1).toNat = k + 1 by omega, show ((A : Int) + k).toNat = A + k by omega]
  simp only [Int.toNat_natCast]
  rw [fldN_step]
  simp

theorem quo_bd (x n : Int) (h5 : 0 ≤ x) (h6 : x < 18446744073709551616) : 0 ≤ x / p2 n ∧ x / p2 n < 18446744073709551616 := by
  have hp := p2_pos n
  have h1 := Int.ediv_nonneg h5 (by omega : 0 ≤ p2 n)
  have h2 := Int.ediv_le_self (p2 n) h5
  omega

theorem RefField_any (x a n : Int) (w : World) (h1 : 1 ≤ n) (h2 : 0 ≤ a) (h3 : a + n ≤ 64) (h5 : 0 ≤ x) (h6 : x < 18446744073709551616) :
    Calls Tryz.prog 76 #[.int .u64 x, .int .i64 a, .int .i64 n] w fun e w' => e = .returned (.int .u64 (fld x a n)) ∧ w = w' := by
  obtain ⟨m, rfl⟩ := Int.eq_ofNat_of_zero_le (by omega : 0 ≤ n)
  go_enter Tryz.func76, Tryz.ntmps76
  go_wp2
  go_loop [7, 8] (fun v i => ∃ k : Nat, k ≤ m ∧ i = .int .i64 k ∧ v = .int .u64 (fld x a k)) (fun _ i => m - (intOf i).toNat)
  case atStart => exact ⟨0, by omega, rfl, by rw [show ((0 : Nat) : Int) = 0 from rfl, fld_zero]⟩
  case round =>
    obtain ⟨k, hk, rfl, rfl⟩ := hrel
    by_cases hlt : k < m
    · have hp := p2_pos (a + k)
      have hp2 := p2_pos k
      have hq := quo_bd x (a + k) h5 h6
      have hb := fld_bd x a k (by omega)
      have hb1 := fld_bd x a (k + 1) (by omega)
      have hs := fld_succ x a k h5 h2
      by_cases hbit : x / p2 (a + k) % 2 = 1
      · rw [hbit, Int.one_mul] at hs
        rw [hs] at hb1
        have t1 : (x / p2 (a + k) % 2 == 1) = true := by simp [hbit]
        have HS := Lib.hid hs
        clear hs hbit
        go_wp2_with (go_at_call 94; refine (Pow_any _ _ (by omega) (by omega)).mono ?_; rintro e w' ⟨rfl, rfl⟩)
        go_round
        case rel => exact ⟨k + 1, by omega, by go_num, by rw [← HS.out]; go_num⟩
        case measure => simp [intOf]; omega
      · have hbit0 : x / p2 (a + k) % 2 = 0 := by omega
        rw [hbit0, Int.zero_mul, Int.add_zero] at hs
        have t1 : (x / p2 (a + k) % 2 == 1) = false := by simp [hbit0]
        have HS := Lib.hid hs
        clear hs hbit hbit0
        go_wp2_with (go_at_call 94; refine (Pow_any _ _ (by omega) (by omega)).mono ?_; rintro e w' ⟨rfl, rfl⟩)
        go_round
        case rel => exact ⟨k + 1, by omega, by go_num, by rw [← HS.out]; go_num⟩
        case measure => simp [intOf]; omega
    · obtain rfl : k = m := by omega
      go_wp2
      go_ret
      exact ⟨rfl, rfl⟩

theorem sgn_ref (x a n : Int) (h : 1 ≤ n) : sgn x a n = if p2 (n - 1) ≤ fld x a n then fld x a n - p2 (n - 1) - p2 (n - 1) else fld x a n := by
  obtain ⟨m, rfl⟩ : ∃ m : Nat, n = (m : Int) + 1 := ⟨(n - 1).toNat, by omega⟩
  unfold sgn p2
  rw [show ((m : Int) + 1).toNat = m + 1 by omega, show ((m : Int) + 1 - 1).toNat = m by omega, show m + 1 - 1 = m by omega, Int.pow_succ]
  split <;> omega

theorem sgn_yes (x a n : Int) (h : 1 ≤ n) (hc : p2 (n - 1) ≤ fld x a n) : fld x a n - p2 (n - 1) - p2 (n - 1) = sgn x a n := by rw [sgn_ref x a n h, if_pos hc]
theorem sgn_no (x a n : Int) (h : 1 ≤ n) (hc : ¬ p2 (n - 1) ≤ fld x a n) : fld x a n = sgn x a n := by rw [sgn_ref x a n h, if_neg hc]
theorem sgn_64 (x a : Int) : wrap64 (fld x a 64) = sgn x a 64 := by
  have h0 := fld_bd x a 64 (by omega)
  rw [sgn_ref x a 64 (by omega)]
  have e : p2 (64 - 1) = 9223372036854775808 := by decide
  rw [e]
  unfold wrap64
  split <;> omega
theorem fld_lt63 (x a n : Int) (h : n ≤ 63) : fld x a n < 9223372036854775808 := by
  have h1 := fld_lt x a n
  have h2 := p2_bd n h
  unfold p2 at h2
  omega

theorem RefSigned_any (x a n : Int) (w : World) (h1 : 1 ≤ n) (h2 : 0 ≤ a) (h3 : a + n ≤ 64) (h5 : 0 ≤ x) (h6 : x < 18446744073709551616) :
    Calls Tryz.prog 75 #[.int .u64 x, .int .i64 a, .int .i64 n] w fun e w' => e = .returned (.int .i64 (sgn x a n)) ∧ w = w' := by
  have hb := fld_bd x a n (by omega)
  by_cases hn : n = 64
  · subst hn
    go_enter Tryz.func75, Tryz.ntmps75
    go_wp2_with (go_at_call 76; refine (RefField_any _ _ _ _ (by omega) (by omega) (by omega) (by omega) (by omega)).mono ?_; rintro e w' ⟨rfl, rfl⟩)
    go_ret
    exact ⟨congrArg (fun z => Ending.returned (.int .i64 z)) (sgn_64 x a), rfl⟩
  · have hl := fld_lt63 x a n (by omega)
    have hn1 : (n == 64) = false := by simp [hn]
    have hp := p2_pos (n - 1)
    have hp2 := p2_bd (n - 1) (by omega)
    have hp3 := p2_bd n (by omega)
    have hp4 : p2 (n - 1) < 9223372036854775808 := by
      have := p2_succ (n - 1).toNat
      rw [show (((n - 1).toNat : Int)) = n - 1 by omega, show n - 1 + 1 = n by omega] at this
      omega
    by_cases hc : p2 (n - 1) ≤ fld x a n
    · have HS := Lib.hid (sgn_yes x a n h1 hc)
      go_enter Tryz.func75, Tryz.ntmps75
      go_wp2_with (first
        | (go_at_call 76; refine (RefField_any _ _ _ _ (by omega) (by omega) (by omega) (by omega) (by omega)).mono ?_; rintro e w' ⟨rfl, rfl⟩)
        | (go_at_call 94; refine (Pow_any _ _ (by omega) (by omega)).mono ?_; rintro e w' ⟨rfl, rfl⟩))
      go_ret
      exact ⟨congrArg (fun z => Ending.returned (.int .i64 z)) HS.out, rfl⟩
    · have HS := Lib.hid (sgn_no x a n h1 hc)
      have hc2 : decide (p2 (n - 1) ≤ fld x a n) = false := by simp; omega
      clear hc
      go_enter Tryz.func75, Tryz.ntmps75
      go_wp2_with (first
        | (go_at_call 76; refine (RefField_any _ _ _ _ (by omega) (by omega) (by omega) (by omega) (by omega)).mono ?_; rintro e w' ⟨rfl, rfl⟩)
        | (go_at_call 94; refine (Pow_any _ _ (by omega) (by omega)).mono ?_; rintro e w' ⟨rfl, rfl⟩))
      go_ret
      exact ⟨congrArg (fun z => Ending.returned (.int .i64 z)) HS.out, rfl⟩

set_option maxRecDepth 100000 in
theorem RefBytes_any (A : Option Addr) (c : Nat) (l : List Int) (w : World) (hr : Ri w .u64 A l) (hb : Wds l) (hm : l.length ≤ 17592186044415) :
    Calls Tryz.prog 42 #[.slice A l.length c] w fun e w' => ∃ v, e = .returned v ∧ Got w' w.heap.size 5 .u8 v (bytesOf l) ∧ Below w.heap.size w w' := by
  obtain ⟨i0, hi, hz0, hz1, hz2⟩ := info_parts int8_info
  have Hr := Lib.hid hr
  have Hb := Lib.hid hb
  clear hr hb
  go_enter Tryz.func42, Tryz.ntmps42
  go_wp2
  go_loopw [3, 4] (fun v i wr => ∃ k : Nat, k ≤ l.length ∧ i = .int .i64 k ∧ Got wr w.heap.size 5 .u8 v (bytesOf (l.take k)) ∧ Below w.heap.size w wr) (fun _ i _ => l.length - (intOf i).toNat)
  case atStart => exact ⟨0, by omega, rfl, Got.empty _ _ _ _, Below.refl _ _⟩
  case round =>
    obtain ⟨k, hk, rfl, hgk, hbk⟩ := hrel
    obtain ⟨wo, rfl⟩ : ∃ wo : World, wo = wr := ⟨_, rfl⟩
    by_cases hlt : k < l.length
    · obtain ⟨g, off, rfl, hc3⟩ := (Hr.out.below hbk (Nat.le_refl _)).at hlt
      have hcell := hc3 k hlt
      have hzk := Hb.out.at k
      clear hc3
      have hl : (k : Int) < (l.length : Int) := by omega
      have HB := Lib.hid hbk
      have HG := Lib.hid hgk
      clear hbk hgk
      go_wp2
      go_loopw [3, 5, 6] (fun v x j wr => ∃ m : Nat, m ≤ 8 ∧ j = .int .i64 m ∧ x = .int .u64 (zat l k / 256 ^ m) ∧ Got wr w.heap.size 5 .u8 v (bytesOf (l.take k) ++ (bytes8 (zat l k)).take m) ∧ Below w.heap.size w wr) (fun _ _ j _ => 8 - (intOf j).toNat)
      case atStart => exact ⟨0, by omega, rfl, by simp, by simpa using HG.out, HB.out⟩
      case round =>
        obtain ⟨m, hmm, rfl, rfl, hgm, hbm⟩ := hrel
        by_cases hm8 : m < 8
        · have hq : 0 ≤ zat l k / 256 ^ m := Int.ediv_nonneg hzk.1 (Int.le_of_lt (Int.pow_pos (by decide)))
          have hq2 : zat l k / 256 ^ m ≤ zat l k := Int.ediv_le_self _ hzk.1
          have HL : Hid ((bytesOf (l.take k) ++ (bytes8 (zat l k)).take m).length = 8 * k + m) := Lib.hid (by rw [List.length_append, bytesOf_length, List.length_take, List.length_take, bytes8_length]; omega)
          have hsz := hbm.size
          have HB2 := Lib.hid hbm
          clear hbm
          go_wp2_with (at_builtin; refine wpList_app1 rfl (.tmp 21) (.tmp 25) 27 rfl Tryz.underlying27 hi hz0 hz1 hz2 rfl hgm rfl (by rw [HL.out]; unfold maxLen; omega) (by rw [HL.out]; omega) hsz ?_; intro v1 w1 hg1 hb1)
          go_roundw
          case rel =>
            refine ⟨m + 1, by omega, by go_num, ?_, ?_, HB2.out.trans hb1⟩
            · rw [Int.pow_succ, Int.ediv_ediv_of_nonneg (Int.le_of_lt (Int.pow_pos (by decide)))]
            · rw [take_succ_zat _ _ (by rw [bytes8_length]; exact hm8), ← List.append_assoc, bytes8_zat _ _ hm8]
              exact hg1
          case measure => simp [intOf]; omega
        · obtain rfl : m = 8 := by omega
          go_wp2
          go_roundw
          case rel =>
            refine ⟨k + 1, by omega, by go_num, ?_, hbm⟩
            rw [bytesOf_take_succ _ _ hlt]
            exact hgm.cast rfl (by rw [List.take_of_length_le (l := bytes8 (zat l k)) (by rw [bytes8_length]; omega)])
          case measure => simp [intOf]; omega
    · obtain rfl : k = l.length := by omega
      go_wp2
      go_ret
      exact ⟨_, rfl, hgk.cast rfl (by rw [List.take_of_length_le (by omega)]), hbk⟩
end Go.Proofs.YtnmanhediiooaaaGreatDoor

/- What the functions of package pointer do, each by a contract. -/
namespace Go.Proofs.YtnmanhediiooaaaGreatDoor
set_option linter.unusedVariables false
set_option linter.unusedSimpArgs false
set_option maxRecDepth 100000
open Go.ChangeShapes Go.WideShapes Go.ChangeAt Go.RowKit

theorem unsigned_dec (b j : Nat) (x y a n : Int) (w : World) (hx : w.cell? ⟨b, 0, none⟩ = some (.int .u64 x)) (he : w.cell? ⟨b, 11, none⟩ = some (.bool false)) (hy : w.cell? ⟨b, j, none⟩ = some (.int .i64 y)) (hf : w.frozen? ⟨b, j, none⟩ = false)
    (h1 : 1 ≤ n) (h2 : 0 ≤ a) (h3 : a + n ≤ 64) (h4 : n ≤ 63) (h5 : 0 ≤ x) (h6 : x < 18446744073709551616) :
    Calls Tryz.prog 98 #[.pointer (some ⟨b, 0, none⟩), .int .i64 a, .int .i64 n, .pointer (some ⟨b, j, none⟩)] w fun e w' => e = .returned (.tuple #[]) ∧ w' = w.setCell ⟨b, j, none⟩ (.int .i64 (fld x a n)) := by
  have hb := fld_bd x a n (by omega)
  have hl := fld_lt63 x a n h4
  go_enter Tryz.func98, Tryz.ntmps98
  go_wp2_with (go_at_call 106; refine (Field_any _ _ _ _ h1 h2 h3 h5 h6).mono ?_; rintro e w' ⟨rfl, rfl⟩)
  go_end0
  exact ⟨rfl, rfl⟩

theorem signed_dec (b j : Nat) (x y a n : Int) (w : World) (hx : w.cell? ⟨b, 0, none⟩ = some (.int .u64 x)) (he : w.cell? ⟨b, 11, none⟩ = some (.bool false)) (hy : w.cell? ⟨b, j, none⟩ = some (.int .i64 y)) (hf : w.frozen? ⟨b, j, none⟩ = false)
    (h1 : 1 ≤ n) (h2 : 0 ≤ a) (h3 : a + n ≤ 64) (h5 : 0 ≤ x) (h6 : x < 18446744073709551616) :
    Calls Tryz.prog 108 #[.pointer (some ⟨b, 0, none⟩), .int .i64 a, .int .i64 n, .pointer (some ⟨b, j, none⟩)] w fun e w' => e = .returned (.tuple #[]) ∧ w' = w.setCell ⟨b, j, none⟩ (.int .i64 (sgn x a n)) := by
  have hm := sgn_bd x a n h1 (by omega)
  go_enter Tryz.func108, Tryz.ntmps108
  go_wp2_with (go_at_call 116; refine (Signed_any _ _ _ _ h1 h2 h3 h5 h6).mono ?_; rintro e w' ⟨rfl, rfl⟩)
  go_end0
  exact ⟨rfl, rfl⟩

theorem fld_lt32 (x a n : Int) (h : n ≤ 32) : fld x a n < 4294967296 := by
  have := fld_lt x a n
  have h2 := Nat.pow_le_pow_right (n := 2) (by decide) (show n.toNat ≤ 32 by omega)
  have e : (2 : Int) ^ n.toNat = ((2 ^ n.toNat : Nat) : Int) := by simp
  rw [e] at this
  omega

theorem unsigned32_dec (b j : Nat) (x y a n : Int) (w : World) (hx : w.cell? ⟨b, 0, none⟩ = some (.int .u64 x)) (he : w.cell? ⟨b, 11, none⟩ = some (.bool false)) (hy : w.cell? ⟨b, j, none⟩ = some (.int .u32 y)) (hf : w.frozen? ⟨b, j, none⟩ = false)
    (h1 : 1 ≤ n) (h2 : 0 ≤ a) (h3 : a + n ≤ 64) (h4 : n ≤ 32) (h5 : 0 ≤ x) (h6 : x < 18446744073709551616) :
    Calls Tryz.prog 112 #[.pointer (some ⟨b, 0, none⟩), .int .i64 a, .int .i64 n, .pointer (some ⟨b, j, none⟩)] w fun e w' => e = .returned (.tuple #[]) ∧ w' = w.setCell ⟨b, j, none⟩ (.int .u32 (fld x a n)) := by
  have hb := fld_bd x a n (by omega)
  have hl := fld_lt32 x a n h4
  have HW : Hid (IntKind.u32.wrap (fld x a n) = fld x a n) := Lib.hid (by rw [IntKind.wrap_u32]; omega)
  go_enter Tryz.func112, Tryz.ntmps112
  go_wp2_with (go_at_call 106; refine (Field_any _ _ _ _ h1 h2 h3 h5 h6).mono ?_; rintro e w' ⟨rfl, rfl⟩)
  go_end0
  exact ⟨rfl, by first | rfl | rw [HW.out]⟩

theorem flag_dec (b j : Nat) (x a : Int) (y : Bool) (w : World) (hx : w.cell? ⟨b, 0, none⟩ = some (.int .u64 x)) (he : w.cell? ⟨b, 11, none⟩ = some (.bool false)) (hy : w.cell? ⟨b, j, none⟩ = some (.bool y)) (hf : w.frozen? ⟨b, j, none⟩ = false)
    (h2 : 0 ≤ a) (h3 : a + 1 ≤ 64) (h5 : 0 ≤ x) (h6 : x < 18446744073709551616) :
    Calls Tryz.prog 111 #[.pointer (some ⟨b, 0, none⟩), .int .i64 a, .pointer (some ⟨b, j, none⟩)] w fun e w' => e = .returned (.tuple #[]) ∧ w' = w.setCell ⟨b, j, none⟩ (.bool (fld x a 1 == 1)) := by
  go_enter Tryz.func111, Tryz.ntmps111
  go_wp2_with (go_at_call 106; refine (Field_any _ _ _ _ (by omega) h2 h3 h5 h6).mono ?_; rintro e w' ⟨rfl, rfl⟩)
  go_end0
  exact ⟨rfl, rfl⟩

set_option maxHeartbeats 400000 in
theorem layout1_dec (x k o d p el c pa sg lo : Int) (db : Bool) (w : World) (h5 : 0 ≤ x) (h6 : x < 18446744073709551616) :
    Calls Tryz.prog 107 #[.agg #[.int .u64 x, .int .i64 k, .int .i64 o, .int .i64 d, .int .i64 p, .int .i64 el, .int .i64 c, .bool db, .int .i64 pa, .int .u32 sg, .int .u32 lo, .bool false]] w fun e w' =>
      e = .returned (.agg #[.int .u64 x, .int .i64 k, .int .i64 (sgn x 2 30), .int .i64 (fld x 32 16), .int .i64 (fld x 48 16), .int .i64 el, .int .i64 c, .bool db, .int .i64 pa, .int .u32 sg, .int .u32 lo, .bool false]) ∧ Below w.heap.size w w' := by
  go_enter Tryz.func107, Tryz.ntmps107
  go_wp2_with fail
  refine (signed_dec w.heap.size 2 x o 2 30 _ (by go_simp) (by go_simp) (by go_simp) (by go_simp) (by omega) (by omega) (by omega) h5 h6).mono ?_
  rintro e w' ⟨rfl, rfl⟩
  go_wp2_with fail
  refine (unsigned_dec w.heap.size 3 x d 32 16 _ (by go_simp) (by go_simp) (by go_simp) (by go_simp) (by omega) (by omega) (by omega) (by omega) h5 h6).mono ?_
  rintro e w' ⟨rfl, rfl⟩
  go_wp2_with fail
  refine (unsigned_dec w.heap.size 4 x p 48 16 _ (by go_simp) (by go_simp) (by go_simp) (by go_simp) (by omega) (by omega) (by omega) (by omega) h5 h6).mono ?_
  rintro e w' ⟨rfl, rfl⟩
  go_wp2
  refine bodyPost_ret (v := .agg #[.int .u64 x, .int .i64 k, .int .i64 (sgn x 2 30), .int .i64 (fld x 32 16), .int .i64 (fld x 48 16), .int .i64 el, .int .i64 c, .bool db, .int .i64 pa, .int .u32 sg, .int .u32 lo, .bool false]) (by simp [results, Tryz.results107, go_sem]) rfl ⟨rfl, ?_⟩
  exact ((Below.refl _ _).alloc (Nat.le_refl _) _).alloc (by simp) _

set_option maxHeartbeats 400000 in
theorem layout2_dec (x k o d p el c pa sg lo : Int) (db : Bool) (w : World) (h5 : 0 ≤ x) (h6 : x < 18446744073709551616) :
    Calls Tryz.prog 109 #[.agg #[.int .u64 x, .int .i64 k, .int .i64 o, .int .i64 d, .int .i64 p, .int .i64 el, .int .i64 c, .bool db, .int .i64 pa, .int .u32 sg, .int .u32 lo, .bool false]] w fun e w' =>
      e = .returned (.agg #[.int .u64 x, .int .i64 k, .int .i64 (sgn x 2 30), .int .i64 d, .int .i64 p, .int .i64 (fld x 32 3), .int .i64 (fld x 35 29), .bool db, .int .i64 pa, .int .u32 sg, .int .u32 lo, .bool false]) ∧ Below w.heap.size w w' := by
  go_enter Tryz.func109, Tryz.ntmps109
  go_wp2_with fail
  refine (signed_dec w.heap.size 2 x o 2 30 _ (by go_simp) (by go_simp) (by go_simp) (by go_simp) (by omega) (by omega) (by omega) h5 h6).mono ?_
  rintro e w' ⟨rfl, rfl⟩
  go_wp2_with fail
  refine (unsigned_dec w.heap.size 5 x el 32 3 _ (by go_simp) (by go_simp) (by go_simp) (by go_simp) (by omega) (by omega) (by omega) (by omega) h5 h6).mono ?_
  rintro e w' ⟨rfl, rfl⟩
  go_wp2_with fail
  refine (unsigned_dec w.heap.size 6 x c 35 29 _ (by go_simp) (by go_simp) (by go_simp) (by go_simp) (by omega) (by omega) (by omega) (by omega) h5 h6).mono ?_
  rintro e w' ⟨rfl, rfl⟩
  go_wp2
  refine bodyPost_ret (v := .agg #[.int .u64 x, .int .i64 k, .int .i64 (sgn x 2 30), .int .i64 d, .int .i64 p, .int .i64 (fld x 32 3), .int .i64 (fld x 35 29), .bool db, .int .i64 pa, .int .u32 sg, .int .u32 lo, .bool false]) (by simp [results, Tryz.results109, go_sem]) rfl ⟨rfl, ?_⟩
  exact ((Below.refl _ _).alloc (Nat.le_refl _) _).alloc (by simp) _

set_option maxHeartbeats 400000 in
theorem layout3_dec (x k o d p el c pa sg lo : Int) (db : Bool) (w : World) (h5 : 0 ≤ x) (h6 : x < 18446744073709551616) :
    Calls Tryz.prog 110 #[.agg #[.int .u64 x, .int .i64 k, .int .i64 o, .int .i64 d, .int .i64 p, .int .i64 el, .int .i64 c, .bool db, .int .i64 pa, .int .u32 sg, .int .u32 lo, .bool false]] w fun e w' =>
      e = .returned (.agg #[.int .u64 x, .int .i64 k, .int .i64 o, .int .i64 d, .int .i64 p, .int .i64 el, .int .i64 c, .bool (fld x 2 1 == 1), .int .i64 (fld x 3 29), .int .u32 (fld x 32 32), .int .u32 lo, .bool false]) ∧ Below w.heap.size w w' := by
  have HB := Lib.hid (rfl : (fld x 2 1 == 1) = (fld x 2 1 == 1))
  go_enter Tryz.func110, Tryz.ntmps110
  go_wp2_with fail
  refine (flag_dec w.heap.size 7 x 2 db _ (by go_simp) (by go_simp) (by go_simp) (by go_simp) (by omega) (by omega) h5 h6).mono ?_
  rintro e w' ⟨rfl, rfl⟩
  go_wp2_with fail
  refine (unsigned_dec w.heap.size 8 x pa 3 29 _ (by go_simp) (by go_simp) (by go_simp) (by go_simp) (by omega) (by omega) (by omega) (by omega) h5 h6).mono ?_
  rintro e w' ⟨rfl, rfl⟩
  go_wp2_with fail
  refine (unsigned32_dec w.heap.size 9 x sg 32 32 _ (by go_simp) (by go_simp) (by go_simp) (by go_simp) (by omega) (by omega) (by omega) (by omega) h5 h6).mono ?_
  rintro e w' ⟨rfl, rfl⟩
  go_wp2
  refine bodyPost_ret (v := .agg #[.int .u64 x, .int .i64 k, .int .i64 o, .int .i64 d, .int .i64 p, .int .i64 el, .int .i64 c, .bool (fld x 2 1 == 1), .int .i64 (fld x 3 29), .int .u32 (fld x 32 32), .int .u32 lo, .bool false]) (by simp [results, Tryz.results110, go_sem]) rfl ⟨rfl, ?_⟩
  exact ((Below.refl _ _).alloc (Nat.le_refl _) _).alloc (by simp) _

set_option maxHeartbeats 400000 in
theorem layout4_dec (x k o d p el c pa sg lo : Int) (db : Bool) (w : World) (h5 : 0 ≤ x) (h6 : x < 18446744073709551616) :
    Calls Tryz.prog 113 #[.agg #[.int .u64 x, .int .i64 k, .int .i64 o, .int .i64 d, .int .i64 p, .int .i64 el, .int .i64 c, .bool db, .int .i64 pa, .int .u32 sg, .int .u32 lo, .bool false]] w fun e w' =>
      e = .returned (.agg #[.int .u64 x, .int .i64 k, .int .i64 o, .int .i64 d, .int .i64 p, .int .i64 el, .int .i64 c, .bool db, .int .i64 pa, .int .u32 (fld x 32 32), .int .u32 (fld x 2 30), .bool false]) ∧ Below w.heap.size w w' := by
  go_enter Tryz.func113, Tryz.ntmps113
  go_wp2_with fail
  refine (unsigned32_dec w.heap.size 10 x lo 2 30 _ (by go_simp) (by go_simp) (by go_simp) (by go_simp) (by omega) (by omega) (by omega) (by omega) h5 h6).mono ?_
  rintro e w' ⟨rfl, rfl⟩
  go_wp2_with fail
  refine (unsigned32_dec w.heap.size 9 x sg 32 32 _ (by go_simp) (by go_simp) (by go_simp) (by go_simp) (by omega) (by omega) (by omega) (by omega) h5 h6).mono ?_
  rintro e w' ⟨rfl, rfl⟩
  go_wp2
  refine bodyPost_ret (v := .agg #[.int .u64 x, .int .i64 k, .int .i64 o, .int .i64 d, .int .i64 p, .int .i64 el, .int .i64 c, .bool db, .int .i64 pa, .int .u32 (fld x 32 32), .int .u32 (fld x 2 30), .bool false]) (by simp [results, Tryz.results113, go_sem]) rfl ⟨rfl, ?_⟩
  exact ((Below.refl _ _).alloc (Nat.le_refl _) _).alloc (by simp) _

end Go.Proofs.YtnmanhediiooaaaGreatDoor

/- Pointer words as numbers. Nothing of the program's text is named here. -/
namespace Go.Proofs.YtnmanhediiooaaaGreatDoor
set_option linter.unusedVariables false
set_option linter.unusedSimpArgs false
set_option maxRecDepth 100000

structure Ptr where
  k : Int
  o : Int
  d : Int
  p : Int
  el : Int
  c : Int
  db : Bool
  pa : Int
  sg : Int
  lo : Int

theorem fld_eq (x a n : Int) (hx : 0 ≤ x) : fld x a n = x / ((2 ^ a.toNat : Nat) : Int) % ((2 ^ n.toNat : Nat) : Int) := by
  obtain ⟨X, rfl⟩ := Int.eq_ofNat_of_zero_le hx
  unfold fld fldN
  rw [Int.toNat_natCast]
  simp

theorem f_0_2 (x : Int) (hx : 0 ≤ x) : fld x 0 2 = x % 4 := by
  rw [fld_eq x 0 2 hx]; show x / 1 % 4 = x % 4; omega
theorem f_2_1 (x : Int) (hx : 0 ≤ x) : fld x 2 1 = x / 4 % 2 := by rw [fld_eq x _ _ hx]; rfl
theorem f_2_30 (x : Int) (hx : 0 ≤ x) : fld x 2 30 = x / 4 % 1073741824 := by rw [fld_eq x _ _ hx]; rfl
theorem f_3_29 (x : Int) (hx : 0 ≤ x) : fld x 3 29 = x / 8 % 536870912 := by rw [fld_eq x _ _ hx]; rfl
theorem f_32_3 (x : Int) (hx : 0 ≤ x) : fld x 32 3 = x / 4294967296 % 8 := by rw [fld_eq x _ _ hx]; rfl
theorem f_32_16 (x : Int) (hx : 0 ≤ x) : fld x 32 16 = x / 4294967296 % 65536 := by rw [fld_eq x _ _ hx]; rfl
theorem f_32_32 (x : Int) (hx : 0 ≤ x) : fld x 32 32 = x / 4294967296 % 4294967296 := by rw [fld_eq x _ _ hx]; rfl
theorem f_35_29 (x : Int) (hx : 0 ≤ x) : fld x 35 29 = x / 34359738368 % 536870912 := by rw [fld_eq x _ _ hx]; rfl
theorem f_48_16 (x : Int) (hx : 0 ≤ x) : fld x 48 16 = x / 281474976710656 % 65536 := by rw [fld_eq x _ _ hx]; rfl

def off30 (x : Int) : Int := if 536870912 ≤ x / 4 % 1073741824 then x / 4 % 1073741824 - 1073741824 else x / 4 % 1073741824
theorem s_2_30 (x : Int) (hx : 0 ≤ x) : sgn x 2 30 = off30 x := by
  unfold sgn off30
  rw [f_2_30 x hx]
  rfl

/-- the pointer that a word encodes -/
def decP (x : Int) : Ptr :=
  if x % 4 = 0 then ⟨0, off30 x, x / 4294967296 % 65536, x / 281474976710656 % 65536, 0, 0, false, 0, 0, 0⟩
  else if x % 4 = 1 then ⟨1, off30 x, 0, 0, x / 4294967296 % 8, x / 34359738368 % 536870912, false, 0, 0, 0⟩
  else if x % 4 = 2 then ⟨2, 0, 0, 0, 0, 0, x / 4 % 2 == 1, x / 8 % 536870912, x / 4294967296 % 4294967296, 0⟩
  else ⟨3, 0, 0, 0, 0, 0, false, 0, x / 4294967296 % 4294967296, x / 4 % 1073741824⟩

/-- the word of a pointer of the kinds 0 to 3, each field cut to its bits -/
def encW (q : Ptr) : Int :=
  if q.k = 0 then 4 * (q.o % 1073741824) + 4294967296 * (q.d % 65536) + 281474976710656 * (q.p % 65536)
  else if q.k = 1 then 1 + 4 * (q.o % 1073741824) + 4294967296 * (q.el % 8) + 34359738368 * (q.c % 536870912)
  else if q.k = 2 then 2 + (if q.db then 4 else 0) + 8 * (q.pa % 536870912) + 4294967296 * (q.sg % 4294967296)
  else 3 + 4 * (q.lo % 1073741824) + 4294967296 * (q.sg % 4294967296)

/-- is the pointer valid? -/
def Vld (q : Ptr) : Prop :=
  (q.k = 0 ∧ -536870912 ≤ q.o ∧ q.o ≤ 536870911 ∧ 0 ≤ q.d ∧ q.d ≤ 65535 ∧ 0 ≤ q.p ∧ q.p ≤ 65535 ∧ q.el = 0 ∧ q.c = 0 ∧ q.db = false ∧ q.pa = 0 ∧ q.sg = 0 ∧ q.lo = 0) ∨
  (q.k = 1 ∧ -536870912 ≤ q.o ∧ q.o ≤ 536870911 ∧ q.d = 0 ∧ q.p = 0 ∧ 0 ≤ q.el ∧ q.el ≤ 7 ∧ 0 ≤ q.c ∧ q.c ≤ 536870911 ∧ q.db = false ∧ q.pa = 0 ∧ q.sg = 0 ∧ q.lo = 0) ∨
  (q.k = 2 ∧ q.o = 0 ∧ q.d = 0 ∧ q.p = 0 ∧ q.el = 0 ∧ q.c = 0 ∧ 0 ≤ q.pa ∧ q.pa ≤ 536870911 ∧ 0 ≤ q.sg ∧ q.sg ≤ 4294967295 ∧ q.lo = 0) ∨
  (q.k = 3 ∧ q.o = 0 ∧ q.d = 0 ∧ q.p = 0 ∧ q.el = 0 ∧ q.c = 0 ∧ q.db = false ∧ q.pa = 0 ∧ 0 ≤ q.sg ∧ q.sg ≤ 4294967295 ∧ 0 ≤ q.lo ∧ q.lo ≤ 1073741823)
instance (q : Ptr) : Decidable (Vld q) := by unfold Vld; infer_instance

theorem decP_vld (x : Int) (h0 : 0 ≤ x) (h1 : x < 18446744073709551616) : Vld (decP x) := by
  unfold decP Vld off30
  by_cases c0 : x % 4 = 0
  · rw [if_pos c0]; left; simp; split <;> omega
  · rw [if_neg c0]
    by_cases c1 : x % 4 = 1
    · rw [if_pos c1]; right; left; simp; split <;> omega
    · rw [if_neg c1]
      by_cases c2 : x % 4 = 2
      · rw [if_pos c2]; right; right; left; simp; omega
      · rw [if_neg c2]; right; right; right; simp; omega

/-! The chains of insertions -/
end Go.Proofs.YtnmanhediiooaaaGreatDoor

/- A statement whose order of evaluation is open, whose operations make memory but write none that was there: one walk in the order of the text, with a fact on each operation's value that lasts while memory is made, serves every order. -/
namespace Go.Proofs.YtnmanhediiooaaaGreatDoor
open Go.RowKit

/-- what is known of a value in a world -/
def Fact : Type := Value → World → Prop
def stable (T : Fact) : Prop := ∀ v w w', T v w → Below w.heap.size w w' → T v w'
def Is (u : Value) : Fact := fun v _ => v = u
theorem stable_is (u : Value) : stable (Is u) := fun _ _ _ h _ => h

def look : List (Tmp × Fact) → Tmp → Option Fact
  | [], _ => none
  | x :: r, s => if x.1 = s then some x.2 else look r s

def Knows (F : List (Tmp × Fact)) (a0 a : Act) (w : World) (s : Tmp) : Prop :=
  match look F s with
  | some T => T (a.tmps.getD s undef) w
  | none => a.tmps.getD s undef = a0.tmps.getD s undef

def After (T : Fact) (a : Act) (dst : Option Tmp) (w : World) (a' : Act) (w' : World) : Prop := ∃ v, a' = a.put dst v ∧ T v w' ∧ Below w.heap.size w w'

def NoWay : Exit → Act → World → Prop := fun _ _ _ => False

def StepOK (P : Program) (ops : Array Oper) (F : List (Tmp × Fact)) (a0 : Act) (w0 : World) (o : Oper) (T : Fact) : Prop :=
  ∀ a w, Below w0.heap.size w0 w → (∀ s ∈ o.looksAt ops, Knows F a0 a w s) →
    if Region.wanted o (yielded ops a.tmps) then o.wp P a w (After T a o.dst w) NoWay else T undef w

def Chain (P : Program) (ops : Array Oper) (a0 : Act) (w0 : World) (Q : Exit → Act → World → Prop) : List Oper → List (Tmp × Fact) → Prop
  | [], F => ∀ a w, Below w0.heap.size w0 w → a.defers = a0.defers → a.tmps.size = a0.tmps.size → (∀ s, s < a0.tmps.size → Knows F a0 a w s) → Q .normal a w
  | o :: r, F => ∃ d T, o.dst = some d ∧ stable T ∧ StepOK P ops F a0 w0 o T ∧ Chain P ops a0 w0 Q r ((d, T) :: F)

def dstAt (l : List Oper) (i : Nat) : Option Tmp := (l[i]?).bind (·.dst)

def chainB (m : Nat) (l : List Oper) : Bool :=
  (List.range l.length).all fun i => match l[i]? with
    | none => true
    | some o =>
      (match o.dst with
       | none => false
       | some d => decide (d < m)) &&
      (List.range l.length).all (fun j => j == i || dstAt l j != o.dst) &&
      o.after.all (fun e => !Region.binds .any e || decide (e.on < i)) &&
      (o.looksAt l.toArray).all (fun s => decide (s < m) && (List.range l.length).all fun j => dstAt l j != some s || o.after.any (fun e => Region.binds .any e && e.on == j))

theorem look_some {F : List (Tmp × Fact)} {s : Tmp} {T : Fact} (h : look F s = some T) : (s, T) ∈ F := by
  induction F with
  | nil => simp [look] at h
  | cons x r ih =>
    unfold look at h
    by_cases hx : x.1 = s
    · rw [if_pos hx] at h
      injection h with h
      subst h
      subst hx
      exact List.mem_cons_self ..
    · rw [if_neg hx] at h
      exact List.mem_cons_of_mem _ (ih h)

theorem look_mem {F : List (Tmp × Fact)} {s : Tmp} (h : ∃ x ∈ F, x.1 = s) : ∃ T, look F s = some T := by
  obtain ⟨x, hx, e⟩ := h
  cases hl : look F s with
  | some T => exact ⟨T, rfl⟩
  | none =>
    exfalso
    induction F with
    | nil => simp at hx
    | cons y r ih =>
      unfold look at hl
      by_cases hy : y.1 = s
      · rw [if_pos hy] at hl; cases hl
      · rw [if_neg hy] at hl
        rcases List.mem_cons.1 hx with rfl | hx
        · exact hy e
        · exact ih hx hl

/-- the facts on the first i operations -/
def factsTo (l : List Oper) (Ts : List Fact) : Nat → List (Tmp × Fact)
  | 0 => []
  | i + 1 => match dstAt l i, Ts[i]? with
    | some d, some T => (d, T) :: factsTo l Ts i
    | _, _ => factsTo l Ts i

theorem mem_factsTo {l : List Oper} {Ts : List Fact} {i : Nat} {x : Tmp × Fact} (h : x ∈ factsTo l Ts i) : ∃ j, j < i ∧ dstAt l j = some x.1 ∧ Ts[j]? = some x.2 := by
  induction i with
  | zero => simp [factsTo] at h
  | succ i ih =>
    unfold factsTo at h
    split at h
    · rename_i d T hd hT
      rcases List.mem_cons.1 h with rfl | h
      · exact ⟨i, by omega, hd, hT⟩
      · obtain ⟨j, hj, r⟩ := ih h
        exact ⟨j, by omega, r⟩
    · obtain ⟨j, hj, r⟩ := ih h
      exact ⟨j, by omega, r⟩

theorem factsTo_mem {l : List Oper} {Ts : List Fact} {i j : Nat} (hj : j < i) {d : Tmp} {T : Fact} (hd : dstAt l j = some d) (hT : Ts[j]? = some T) : (d, T) ∈ factsTo l Ts i := by
  induction i with
  | zero => omega
  | succ i ih =>
    unfold factsTo
    by_cases e : j = i
    · subst e
      rw [hd, hT]
      exact List.mem_cons_self ..
    · have := ih (by omega)
      split
      · exact List.mem_cons_of_mem _ this
      · exact this

/-- a chain gives the facts one by one -/
theorem chain_facts {P : Program} {ops : Array Oper} {a0 : Act} {w0 : World} {Q : Exit → Act → World → Prop} {l : List Oper} :
    ∀ (r : List Oper) (i : Nat) (Ts : List Fact), Ts.length = i → l.drop i = r → i ≤ l.length → Chain P ops a0 w0 Q r (factsTo l Ts i) →
      (∀ (j : Nat) (T : Fact), Ts[j]? = some T → stable T) →
      (∀ (j : Nat) (o : Oper) (T : Fact), l[j]? = some o → Ts[j]? = some T → StepOK P ops (factsTo l Ts j) a0 w0 o T) →
      ∃ Us : List Fact, Us.length = l.length ∧ (∀ (j : Nat) (T : Fact), Us[j]? = some T → stable T) ∧
        (∀ (j : Nat) (o : Oper) (T : Fact), l[j]? = some o → Us[j]? = some T → StepOK P ops (factsTo l Us j) a0 w0 o T) ∧ Chain P ops a0 w0 Q [] (factsTo l Us l.length) := by
  intro r
  induction r with
  | nil =>
    intro i Ts hT hd hi hc hs hst
    have : i = l.length := by
      have := congrArg List.length hd
      simp at this
      omega
    subst this
    exact ⟨Ts, hT, hs, hst, hc⟩
  | cons o r ih =>
    intro i Ts hT hd hi hc hs hst
    obtain ⟨d, T, hdst, hstab, hstep, hrest⟩ := hc
    have hlt : i < l.length := by
      have := congrArg List.length hd
      simp at this
      omega
    have hli : l[i]? = some o := by
      have := congrArg (fun x => x[0]?) hd
      simpa using this
    have hdi : dstAt l i = some d := by simp [dstAt, hli, hdst]
    have hfacts : ∀ j, j ≤ i → factsTo l (Ts ++ [T]) j = factsTo l Ts j := by
      intro j
      induction j with
      | zero => intro _; rfl
      | succ j ihj =>
        intro hj
        unfold factsTo
        rw [ihj (by omega), List.getElem?_append_left (by omega)]
    have hget : (Ts ++ [T])[i]? = some T := by rw [List.getElem?_append_right (by omega)]; simp [hT]
    refine ih (i + 1) (Ts ++ [T]) (by simp [hT]) ?_ (by omega) ?_ ?_ ?_
    · rw [← List.drop_drop, hd]; rfl
    · have e : factsTo l (Ts ++ [T]) (i + 1) = (d, T) :: factsTo l Ts i := by
        rw [factsTo, hdi, hget, hfacts i (Nat.le_refl _)]
      rw [e]
      exact hrest
    · intro j U hU
      by_cases hj : j < Ts.length
      · rw [List.getElem?_append_left hj] at hU
        exact hs j U hU
      · rw [List.getElem?_append_right (by omega)] at hU
        have : j - Ts.length = 0 := by
          rcases Nat.eq_zero_or_pos (j - Ts.length) with h | h
          · exact h
          · rw [List.getElem?_eq_none (by simp; omega)] at hU; cases hU
        rw [this] at hU
        simp at hU
        subst hU
        exact hstab
    · intro j o' U ho' hU
      by_cases hj : j < Ts.length
      · rw [List.getElem?_append_left hj] at hU
        rw [hfacts j (by omega)]
        exact hst j o' U ho' hU
      · rw [List.getElem?_append_right (by omega)] at hU
        have h0 : j - Ts.length = 0 := by
          rcases Nat.eq_zero_or_pos (j - Ts.length) with h | h
          · exact h
          · rw [List.getElem?_eq_none (by simp; omega)] at hU; cases hU
        rw [h0] at hU
        simp at hU
        subst hU
        obtain rfl : j = i := by omega
        rw [hli] at ho'
        injection ho' with ho'
        subst ho'
        rw [hfacts j (Nat.le_refl _)]
        exact hstep


/-- what holds while the operations come up -/
structure Inv (l : List Oper) (Ts : List Fact) (a0 : Act) (w0 : World) (listed : Array Bool) (a : Act) (w : World) : Prop where
  below : Below w0.heap.size w0 w
  defers : a.defers = a0.defers
  size : a.tmps.size = a0.tmps.size
  done : ∀ (j : Nat) (d : Tmp) (T : Fact), listed.getD j false = true → dstAt l j = some d → Ts[j]? = some T → T (a.tmps.getD d undef) w
  rest : ∀ s : Tmp, (∀ j, listed.getD j false = true → dstAt l j ≠ some s) → a.tmps.getD s undef = a0.tmps.getD s undef

theorem chainB_at {m : Nat} {l : List Oper} (h : chainB m l = true) {i : Nat} {o : Oper} (ho : l[i]? = some o) :
    (∃ d, o.dst = some d ∧ d < m) ∧ (∀ j, j < l.length → j ≠ i → dstAt l j ≠ o.dst) ∧ (∀ e ∈ o.after, Region.binds .any e = true → e.on < i) ∧
    (∀ s ∈ o.looksAt l.toArray, s < m ∧ ∀ j, j < l.length → dstAt l j = some s → ∃ e ∈ o.after, Region.binds .any e = true ∧ e.on = j) := by
  have hlt : i < l.length := by
    rcases Nat.lt_or_ge i l.length with h1 | h1
    · exact h1
    · rw [List.getElem?_eq_none h1] at ho; cases ho
  unfold chainB at h
  rw [List.all_eq_true] at h
  have h1 := h i (List.mem_range.2 hlt)
  rw [ho] at h1
  simp only [Bool.and_eq_true, List.all_eq_true, List.mem_range, Bool.or_eq_true, beq_iff_eq, bne_iff_ne, Bool.not_eq_true', decide_eq_true_eq, Array.all_eq_true_iff_forall_mem, Array.any_eq_true'] at h1
  obtain ⟨⟨⟨h2, h3⟩, h4⟩, h5⟩ := h1
  refine ⟨?_, fun j hj hne => ?_, fun e he hb => ?_, fun s hs => ⟨(h5 s hs).1, fun j hj hd => ?_⟩⟩
  · cases hd : o.dst with
    | none => rw [hd] at h2; cases h2
    | some d => rw [hd] at h2; exact ⟨d, rfl, by simpa using h2⟩
  · rcases h3 j hj with h | h
    · exact absurd h hne
    · exact h
  · rcases h4 e he with h | h
    · rw [h] at hb; cases hb
    · exact h
  · rcases (h5 s hs).2 j hj with h | ⟨e, he, hb⟩
    · exact absurd hd h
    · exact ⟨e, he, hb⟩

theorem getD_put_same {a : Act} {d : Tmp} {v : Value} (h : d < a.tmps.size) : (a.put (some d) v).tmps.getD d undef = v := by
  simp [Act.put, Array.getD, h]
theorem getD_put_ne {a : Act} {d s : Tmp} {v : Value} (h : d ≠ s) : (a.put (some d) v).tmps.getD s undef = a.tmps.getD s undef := by
  simp [Act.put, Array.getElem?_setIfInBounds_ne h]

theorem wpOp_noWay {P : Program} {ops : Array Oper} {Q : Exit → Act → World → Prop} {i : Nat} {o : Oper} {a : Act} {w : World} {K K' : Act → World → Prop} (hi : ops[i]? = some o)
    (hk : ∀ a' w', K a' w' → K' a' w')
    (h : if Region.wanted o (yielded ops a.tmps) then o.wp P a w K NoWay else K (a.put o.dst undef) w) : wpOp P ops Q i K' a w := by
  unfold wpOp
  rw [hi]
  simp only
  by_cases hw : Region.wanted o (yielded ops a.tmps) = true
  · rw [if_pos hw] at h ⊢
    left
    unfold Oper.wp at *
    generalize (execOp a.eval o).run P w = r at *
    cases r with
    | ok n w' =>
      cases n <;> simp only [Oper.upon] at h ⊢ <;>
        first
          | exact hk _ _ h
          | exact Calls.mono h (fun e w'' he => by
              cases e with
              | returned v => exact hk _ _ he
              | panicked c => exact he.elim
              | outgrown => obtain ⟨_, _, h'⟩ := he; exact h'.elim)
          | exact Rows.mono h (fun _ _ he => hk _ _ he)
    | halt x w' => cases x <;> simp only [Oper.upon] at h ⊢ <;> exact h.elim
  · rw [if_neg hw] at h ⊢
    exact hk _ _ h


theorem getD_set_cases {listed : Array Bool} {i j : Nat} (h : (listed.setIfInBounds i true).getD j false = true) : j = i ∨ listed.getD j false = true := by
  by_cases e : i = j
  · exact .inl e.symm
  · right
    rwa [getD_set_ne false e] at h

theorem getD_ff {listed : Array Bool} {j : Nat} (h : listed.getD j true = false) : listed.getD j false = false := by
  simp only [Array.getD_eq_getD_getElem?] at *
  cases hj : listed[j]? with
  | none => rfl
  | some b => rw [hj] at h; exact h

theorem countP_lt {l : List Nat} {p q : Nat → Bool} {i : Nat} (h : ∀ x ∈ l, q x = true → p x = true) (hi : i ∈ l) (hp : p i = true) (hq : q i = false) : l.countP q < l.countP p := by
  induction l with
  | nil => cases hi
  | cons x r ih =>
    have hr : r.countP q ≤ r.countP p := List.countP_mono_left fun y hy => h y (List.mem_cons_of_mem _ hy)
    rw [List.countP_cons, List.countP_cons]
    rcases List.mem_cons.1 hi with rfl | hi
    · rw [hp, hq]; simp; omega
    · have := ih (fun y hy => h y (List.mem_cons_of_mem _ hy)) hi
      have hx := h x (List.mem_cons_self ..)
      cases hqx : q x with
      | false => simp; omega
      | true => rw [hx hqx]; simp; omega

theorem inv_any {P : Program} {l : List Oper} {Ts : List Fact} {a0 : Act} {w0 : World} {Q : Exit → Act → World → Prop} (hB : chainB a0.tmps.size l = true) (hlen : Ts.length = l.length)
    (hst : ∀ (j : Nat) (T : Fact), Ts[j]? = some T → stable T)
    (hstep : ∀ (j : Nat) (o : Oper) (T : Fact), l[j]? = some o → Ts[j]? = some T → StepOK P l.toArray (factsTo l Ts j) a0 w0 o T)
    (hend : Chain P l.toArray a0 w0 Q [] (factsTo l Ts l.length)) :
    ∀ (fuel : Nat) (listed : Array Bool) (a : Act) (w : World), listed.size = l.length → (∃ n, n ≤ fuel ∧ n = (List.range l.length).countP (fun j => !listed.getD j true)) → Inv l Ts a0 w0 listed a w → wpAny P .any l.toArray Q fuel listed a w := by
  have hfin : ∀ (listed : Array Bool) (a : Act) (w : World), listed.size = l.length → Region.ready .any l.toArray listed = [] → Inv l Ts a0 w0 listed a w → Q .normal a w := by
    intro listed a w hsz hr hI
    have hall : ∀ j, j < l.length → listed.getD j false = true := by
      intro j
      induction j using Nat.strongRecOn with
      | _ j ih =>
        intro hj
        cases hb : listed.getD j false with
        | true => rfl
        | false =>
          exfalso
          have hj' : l[j]? = some l[j] := List.getElem?_eq_getElem hj
          have hc := chainB_at hB hj'
          have hm : j ∈ Region.ready .any l.toArray listed := by
            rw [mem_ready]
            refine ⟨?_, l[j], by simp [hj], fun e he hbi => ih e.on (hc.2.2.1 e he hbi) (Nat.lt_trans (hc.2.2.1 e he hbi) hj)⟩
            have : j < listed.size := by omega
            simp only [Array.getD_eq_getD_getElem?, Array.getElem?_eq_getElem this, Option.getD_some] at hb ⊢
            exact hb
          rw [hr] at hm
          cases hm
    refine hend a w hI.below hI.defers hI.size fun s hs => ?_
    unfold Knows
    cases hl : look (factsTo l Ts l.length) s with
    | some T =>
      obtain ⟨j, hj, hd, hT⟩ := mem_factsTo (look_some hl)
      exact hI.done j s T (hall j hj) hd hT
    | none =>
      refine hI.rest s fun j hj hd => ?_
      have hjl : j < l.length := by
        rcases Nat.lt_or_ge j l.length with h1 | h1
        · exact h1
        · simp [dstAt, List.getElem?_eq_none h1] at hd
      have hT : Ts[j]? = some (Ts[j]'(by omega)) := List.getElem?_eq_getElem (by omega)
      obtain ⟨T, hT'⟩ := look_mem ⟨_, factsTo_mem (i := l.length) hjl hd hT, rfl⟩
      rw [hT'] at hl
      cases hl
  intro fuel
  induction fuel with
  | zero =>
    intro listed a w hsz hn hI
    obtain ⟨n, hn0, hn⟩ := hn
    have hr : Region.ready .any l.toArray listed = [] := by
      rw [List.eq_nil_iff_forall_not_mem]
      intro j hj
      obtain ⟨hu, o, ho, _⟩ := mem_ready.1 hj
      have hjl : j < l.length := by
        rcases Nat.lt_or_ge j l.length with h1 | h1
        · exact h1
        · simp [h1] at ho
      have : 0 < (List.range l.length).countP (fun j => !listed.getD j true) := List.countP_pos_iff.2 ⟨j, List.mem_range.2 hjl, by simp [hu]⟩
      omega
    exact ⟨hr, hfin listed a w hsz hr hI⟩
  | succ fuel ih =>
    intro listed a w hsz hn hI
    refine ⟨fun hr => hfin listed a w hsz hr hI, fun i hi => ?_⟩
    obtain ⟨hu, o, ho, hedges⟩ := mem_ready.1 hi
    have hol : l[i]? = some o := by simpa using ho
    have hil : i < l.length := by
      rcases Nat.lt_or_ge i l.length with h1 | h1
      · exact h1
      · rw [List.getElem?_eq_none h1] at hol; cases hol
    obtain ⟨⟨d, hd, hdm⟩, hdis, hbe, hlook⟩ := chainB_at hB hol
    have hdi : dstAt l i = some d := by simp [dstAt, hol, hd]
    have hTi : Ts[i]? = some (Ts[i]'(by omega)) := List.getElem?_eq_getElem (by omega)
    have hS := hstep i o _ hol hTi a w hI.below (fun s hs => by
      unfold Knows
      cases hl : look (factsTo l Ts i) s with
      | some T =>
        obtain ⟨j, hj, hdj, hTj⟩ := mem_factsTo (look_some hl)
        obtain ⟨e, he, hb, rfl⟩ := (hlook s hs).2 j (by omega) hdj
        exact hI.done _ s T (hedges e he hb) hdj hTj
      | none =>
        refine hI.rest s fun j hj hdj => ?_
        have hjl : j < l.length := by
          rcases Nat.lt_or_ge j l.length with h1 | h1
          · exact h1
          · simp [dstAt, List.getElem?_eq_none h1] at hdj
        obtain ⟨e, he, hb, rfl⟩ := (hlook s hs).2 j hjl hdj
        have hlt := hbe e he hb
        have hT : Ts[e.on]? = some (Ts[e.on]'(by omega)) := List.getElem?_eq_getElem (by omega)
        obtain ⟨T, hT'⟩ := look_mem ⟨_, factsTo_mem (i := i) hlt hdj hT, rfl⟩
        rw [hT'] at hl
        cases hl)
    refine wpOp_noWay ho (K := After (Ts[i]'(by omega)) a o.dst w) ?_ ?_
    · rintro a' w' ⟨v, rfl, hT, hbel⟩
      have hds : d < a.tmps.size := by rw [hI.size]; exact hdm
      refine ih _ _ _ (by simpa using hsz) ?_ ⟨hI.below.trans (hbel.mono hI.below.size), ?_, ?_, ?_, ?_⟩
      · obtain ⟨n, hn0, hn⟩ := hn
        refine ⟨_, ?_, rfl⟩
        have hlt : (List.range l.length).countP (fun j => !(listed.setIfInBounds i true).getD j true) < (List.range l.length).countP (fun j => !listed.getD j true) := by
          refine countP_lt (i := i) (fun x _ hx => ?_) (List.mem_range.2 hil) (by simp [hu]) ?_
          · by_cases e : i = x
            · subst e; simp [hu]
            · rw [getD_set_ne true e] at hx; exact hx
          · have : i < listed.size := by omega
            simp [this]
        omega
      · rw [hd]; exact hI.defers
      · rw [hd]; simp [Act.put, hI.size]
      · intro j d' T hj hdj hTj
        rw [hd]
        rcases getD_set_cases hj with rfl | hj2
        · rw [hdi] at hdj
          injection hdj with hdj
          subst hdj
          rw [hTi] at hTj
          injection hTj with hTj
          subst hTj
          rw [getD_put_same hds]
          exact hT
        · have hne : d ≠ d' := by
            rintro rfl
            have hji : j ≠ i := by
              rintro rfl
              rw [getD_ff hu] at hj2
              cases hj2
            have hjl : j < l.length := by
              rcases Nat.lt_or_ge j l.length with h1 | h1
              · exact h1
              · simp [dstAt, List.getElem?_eq_none h1] at hdj
            exact hdis j hjl hji (by rw [hdj, hd])
          rw [getD_put_ne hne]
          exact hst j T hTj _ _ _ (hI.done j d' T hj2 hdj hTj) hbel
      · intro s hs
        have hne : d ≠ s := by
          rintro rfl
          refine hs i ?_ hdi
          have : i < listed.size := by omega
          simp [this]
        rw [hd, getD_put_ne hne]
        refine hI.rest s fun j hj hdj => hs j (getD_set_true hj) hdj
    · by_cases hw : Region.wanted o (yielded l.toArray a.tmps) = true
      · rw [if_pos hw] at hS ⊢
        exact hS
      · rw [if_neg hw] at hS ⊢
        exact ⟨undef, rfl, hS, Below.refl _ _⟩

/-- the rule: one walk in the order of the text -/
theorem wp_region_chain {P : Program} {id : Nat} {l : List Oper} {Q : Exit → Act → World → Prop} {a : Act} {w : World} (hm : P.follows .mixedOrders = true) (hB : chainB a.tmps.size l = true)
    (h : Chain P l.toArray a w.drew Q l []) : (Code.region id l.toArray true).wp P Q a w := by
  obtain ⟨Us, hlen, hst, hstep, hend⟩ := chain_facts (l := l) l 0 [] rfl rfl (Nat.zero_le _) h (fun j T hT => by simp at hT) (fun j o T _ hT => by simp at hT)
  refine wp_region_any hm ?_
  refine inv_any hB hlen hst hstep hend _ _ _ _ (by simp) ⟨_, ?_, rfl⟩ ⟨Below.refl _ _, rfl, rfl, ?_, fun s _ => rfl⟩
  · refine Nat.le_trans List.countP_le_length ?_
    simp
  · intro j d T hj
    exfalso
    by_cases hlt : j < l.length <;> simp [hlt] at hj


/-! ## The steps of a chain -/
/-- what is known of the value x of slot s -/
def KnowsV (F : List (Tmp × Fact)) (a0 : Act) (w : World) (s : Tmp) (x : Value) : Prop :=
  match look F s with
  | some T => T x w
  | none => x = a0.tmps.getD s undef

def AllK (F : List (Tmp × Fact)) (a0 : Act) (w : World) (ρ : Operand → Value) : List Tmp → Prop
  | [] => True
  | s :: r => KnowsV F a0 w s (ρ (.tmp s)) ∧ AllK F a0 w ρ r

theorem allK_of {F : List (Tmp × Fact)} {a0 a : Act} {w : World} {X L : List Tmp} (h : ∀ s ∈ X, Knows F a0 a w s) (hL : (L.all fun s => X.contains s) = true) : AllK F a0 w a.eval L := by
  induction L with
  | nil => trivial
  | cons s r ih =>
    simp only [List.all_cons, Bool.and_eq_true] at hL
    exact ⟨h s (by simpa using hL.1), ih hL.2⟩

/-- the constants of an evaluation of operands -/
def Plain (ρ : Operand → Value) : Prop := (∀ v, ρ (.const v) = v) ∧ (∀ f, ρ (.func f) = .func (.func f) #[] #[])

theorem plain_eval (a : Act) : Plain a.eval := ⟨fun _ => rfl, fun _ => rfl⟩

/-- is the operation carried out? Its guard's value is known. -/
def GuardOK (ops : Array Oper) (F : List (Tmp × Fact)) (a0 : Act) (o : Oper) : Prop :=
  match o.guard with
  | none => True
  | some (g, b) => ∃ s, s ∈ o.looksAt ops ∧ (ops[g]?).bind (·.dst) = some s ∧ ∀ w x, KnowsV F a0 w s x → x = .bool b

theorem wanted_of {ops : Array Oper} {F : List (Tmp × Fact)} {a0 a : Act} {w : World} {o : Oper} (hg : GuardOK ops F a0 o) (h : ∀ s ∈ o.looksAt ops, Knows F a0 a w s) : Region.wanted o (yielded ops a.tmps) = true := by
  unfold GuardOK at hg
  unfold Region.wanted
  split at hg
  · rename_i h0; rw [h0]
  · rename_i g b h0
    rw [h0]
    obtain ⟨s, hs, hb, hv⟩ := hg
    have hx := hv w _ (h s hs)
    have : yielded ops a.tmps g = some b := by
      unfold yielded
      rw [hb]
      simp only [Option.bind_some]
      simp only [Array.getD_eq_getD_getElem?] at hx
      cases ht : a.tmps[s]? with
      | none => rw [ht] at hx; simp [undef] at hx
      | some v => rw [ht] at hx; simp at hx; subst hx; rfl
    simp [this]

section
variable {P : Program} {ops : Array Oper} {a0 : Act} {w0 : World} {Q : Exit → Act → World → Prop} {o : Oper} {r : List Oper} {F : List (Tmp × Fact)} {d : Tmp}

/-- an operation that leaves a known value and the world as it was -/
theorem chain_val {u : Value} (L : List Tmp) (hd : o.dst = some d) (hL : (L.all fun s => (o.looksAt ops).contains s) = true) (hg : GuardOK ops F a0 o)
    (h : ∀ ρ w, Below w0.heap.size w0 w → Plain ρ → AllK F a0 w ρ L → (execOp ρ o).run P w = .ok (.value u) w) (hr : Chain P ops a0 w0 Q r ((d, Is u) :: F)) : Chain P ops a0 w0 Q (o :: r) F := by
  refine ⟨d, Is u, hd, stable_is u, fun a w hb hk => ?_, hr⟩
  rw [if_pos (wanted_of hg hk)]
  unfold Oper.wp
  rw [h a.eval w hb (plain_eval a) (allK_of hk hL)]
  exact ⟨u, rfl, rfl, Below.refl _ _⟩

/-- an operation that makes memory -/
theorem chain_new {T : Fact} (L : List Tmp) (hd : o.dst = some d) (hL : (L.all fun s => (o.looksAt ops).contains s) = true) (hg : GuardOK ops F a0 o) (hs : stable T)
    (h : ∀ ρ w, Below w0.heap.size w0 w → Plain ρ → AllK F a0 w ρ L → ∃ v w', (execOp ρ o).run P w = .ok (.value v) w' ∧ T v w' ∧ Below w.heap.size w w') (hr : Chain P ops a0 w0 Q r ((d, T) :: F)) : Chain P ops a0 w0 Q (o :: r) F := by
  refine ⟨d, T, hd, hs, fun a w hb hk => ?_, hr⟩
  rw [if_pos (wanted_of hg hk)]
  obtain ⟨v, w', h1, h2, h3⟩ := h a.eval w hb (plain_eval a) (allK_of hk hL)
  unfold Oper.wp
  rw [h1]
  exact ⟨v, rfl, h2, h3⟩

/-- a call -/
theorem chain_call {T : Fact} (f : FuncId) (L : List Tmp) (hd : o.dst = some d) (hL : (L.all fun s => (o.looksAt ops).contains s) = true) (hg : GuardOK ops F a0 o) (hs : stable T)
    (h : ∀ ρ w, Below w0.heap.size w0 w → Plain ρ → AllK F a0 w ρ L → ∃ args, (execOp ρ o).run P w = .ok (.enter f args) w ∧ Calls P f args w fun e w' => ∃ v, e = .returned v ∧ T v w' ∧ Below w.heap.size w w') (hr : Chain P ops a0 w0 Q r ((d, T) :: F)) : Chain P ops a0 w0 Q (o :: r) F := by
  refine ⟨d, T, hd, hs, fun a w hb hk => ?_, hr⟩
  rw [if_pos (wanted_of hg hk)]
  obtain ⟨args, h1, h2⟩ := h a.eval w hb (plain_eval a) (allK_of hk hL)
  unfold Oper.wp
  rw [h1]
  refine h2.mono fun e w' ⟨v, he, hT, hbel⟩ => ?_
  subst he
  exact ⟨v, rfl, hT, hbel⟩

end

/-- P of the first n numbers -/
def AllN (P : Nat → Prop) : Nat → Nat → Prop
  | 0, _ => True
  | n + 1, s => P s ∧ AllN P n (s + 1)

theorem allN_of {P : Nat → Prop} : ∀ (n s : Nat), (∀ j, s ≤ j → j < s + n → P j) → AllN P n s
  | 0, _, _ => trivial
  | n + 1, s, h => ⟨h s (Nat.le_refl _) (by omega), allN_of n (s + 1) fun j h1 h2 => h j (by omega) (by omega)⟩

/-- the frame that a function of the slots lays -/
def frameL (f : Tmp → Value) : Nat → Nat → List Value
  | 0, _ => []
  | n + 1, s => f s :: frameL f n (s + 1)

theorem frameL_length (f : Tmp → Value) : ∀ n s, (frameL f n s).length = n
  | 0, _ => rfl
  | n + 1, s => by simp [frameL, frameL_length f n (s + 1)]

theorem frameL_get (f : Tmp → Value) : ∀ (n s j : Nat), j < n → (frameL f n s)[j]? = some (f (s + j))
  | 0, _, _, h => by omega
  | n + 1, s, 0, _ => by simp [frameL]
  | n + 1, s, j + 1, h => by
    simp only [frameL, List.getElem?_cons_succ]
    rw [frameL_get f n (s + 1) j (by omega), show s + 1 + j = s + (j + 1) by omega]

section
variable {P : Program} {ops : Array Oper} {a0 : Act} {w0 : World} {Q : Exit → Act → World → Prop} {F : List (Tmp × Fact)}
/-- the end, where more code follows: the frame slot by slot -/
theorem chain_end_lit (n : Nat) (hn : a0.tmps.size = n)
    (h : ∀ (f : Tmp → Value) (w : World), Below w0.heap.size w0 w → AllN (fun s => KnowsV F a0 w s (f s)) n 0 → Q .normal { tmps := (frameL f n 0).toArray, defers := a0.defers } w) : Chain P ops a0 w0 Q [] F := by
  intro a w hb hd hs hk
  have e : a = { tmps := (frameL (fun s => a.tmps.getD s undef) n 0).toArray, defers := a0.defers } := by
    obtain ⟨tm, df⟩ := a
    simp only at hd hs
    subst hd
    congr 1
    apply Array.ext'
    apply List.ext_getElem?
    intro j
    by_cases hj : j < n
    · rw [show ((frameL (fun s => tm.getD s undef) n 0).toArray.toList) = frameL (fun s => tm.getD s undef) n 0 from rfl, frameL_get _ _ _ _ hj]
      have : j < tm.size := by omega
      simp [this]
    · rw [show ((frameL (fun s => tm.getD s undef) n 0).toArray.toList) = frameL (fun s => tm.getD s undef) n 0 from rfl]
      rw [List.getElem?_eq_none (by simp; omega), List.getElem?_eq_none (by rw [frameL_length]; omega)]
  rw [e]
  exact h _ w hb (allN_of n 0 fun j _ hj => hk j (by rw [hn]; omega))
end
end Go.Proofs.YtnmanhediiooaaaGreatDoor

/- Packages pointer's functions, each by a contract. -/
namespace Go.Proofs.YtnmanhediiooaaaGreatDoor
set_option linter.unusedVariables false
set_option linter.unusedSimpArgs false
set_option maxRecDepth 100000
open Go.ChangeShapes Go.WideShapes Go.ChangeAt Go.RowKit

theorem lay_map : Tryz.prog.underlying 145 = some (.map 3 143) := by kernel_rfl
theorem lay_key : Tryz.prog.underlying 3 = some (.int .i64) := by kernel_rfl

/-- the four entries of the map of layouts -/
def ents : Array MapEntry := #[{ key := .int .i64 0, val := .func (.func 107) #[] #[], born := 0 }, { key := .int .i64 1, val := .func (.func 109) #[] #[], born := 1 },
  { key := .int .i64 2, val := .func (.func 110) #[] #[], born := 2 }, { key := .int .i64 3, val := .func (.func 113) #[] #[], born := 3 }]

theorem layouts_any (w : World) : Calls Tryz.prog 99 #[] w fun e w' => e = .returned (.map (some w.heap.size)) ∧ w' = w.alloc (.map ents 4) := by
  have hmm := @run_makeMap Tryz.prog
  have h0 : (Instr.mapUpdate 145 (.map (some w.heap.size)) (.int .i64 0) (.func (.func 107) #[] #[])).run Tryz.prog (w.alloc (.map #[] 0)) = .ok () (w.alloc (.map #[{ key := .int .i64 0, val := .func (.func 107) #[] #[], born := 0 }] 1)) :=
    run_insert_new w _ _ _ _ _ _ _ lay_map lay_key (by rfl)
  have h1 : (Instr.mapUpdate 145 (.map (some w.heap.size)) (.int .i64 1) (.func (.func 109) #[] #[])).run Tryz.prog (w.alloc (.map #[{ key := .int .i64 0, val := .func (.func 107) #[] #[], born := 0 }] 1)) = .ok () (w.alloc (.map #[{ key := .int .i64 0, val := .func (.func 107) #[] #[], born := 0 }, { key := .int .i64 1, val := .func (.func 109) #[] #[], born := 1 }] 2)) :=
    run_insert_new w _ _ _ _ _ _ _ lay_map lay_key (by rfl)
  have h2 : (Instr.mapUpdate 145 (.map (some w.heap.size)) (.int .i64 2) (.func (.func 110) #[] #[])).run Tryz.prog (w.alloc (.map #[{ key := .int .i64 0, val := .func (.func 107) #[] #[], born := 0 }, { key := .int .i64 1, val := .func (.func 109) #[] #[], born := 1 }] 2)) = .ok () (w.alloc (.map #[{ key := .int .i64 0, val := .func (.func 107) #[] #[], born := 0 }, { key := .int .i64 1, val := .func (.func 109) #[] #[], born := 1 }, { key := .int .i64 2, val := .func (.func 110) #[] #[], born := 2 }] 3)) :=
    run_insert_new w _ _ _ _ _ _ _ lay_map lay_key (by rfl)
  have h3 : (Instr.mapUpdate 145 (.map (some w.heap.size)) (.int .i64 3) (.func (.func 113) #[] #[])).run Tryz.prog (w.alloc (.map #[{ key := .int .i64 0, val := .func (.func 107) #[] #[], born := 0 }, { key := .int .i64 1, val := .func (.func 109) #[] #[], born := 1 }, { key := .int .i64 2, val := .func (.func 110) #[] #[], born := 2 }] 3)) = .ok () (w.alloc (.map #[{ key := .int .i64 0, val := .func (.func 107) #[] #[], born := 0 }, { key := .int .i64 1, val := .func (.func 109) #[] #[], born := 1 }, { key := .int .i64 2, val := .func (.func 110) #[] #[], born := 2 }, { key := .int .i64 3, val := .func (.func 113) #[] #[], born := 3 }] 4)) :=
    run_insert_new w _ _ _ _ _ _ _ lay_map lay_key (by rfl)
  go_enter Tryz.func99, Tryz.ntmps99
  go_wp2
  go_ret
  exact ⟨rfl, rfl⟩

theorem IsMap.stab (es : Array MapEntry) (n : Nat) : stable (IsMap es n) := fun v w w' h hb => h.below hb

attribute [local simp] AllK KnowsV look Is

/-- the look-up of a layout -/
def Lays (K : Int) (fv : Value) (ok : Bool) : Prop := ∀ (w : World) (r : Nat), w.heap[r]? = some (.map ents 4) → (Instr.lookup 145 (.map (some r)) (.int .i64 K) true).run Tryz.prog w = .ok (.tuple #[fv, .bool ok]) w
theorem lays0 : Lays 0 (.func (.func 107) #[] #[]) true := fun w r h => run_lookup_yes w _ _ _ r _ _ 0 0 _ lay_map lay_key h (by rfl)
theorem lays1 : Lays 1 (.func (.func 109) #[] #[]) true := fun w r h => run_lookup_yes w _ _ _ r _ _ 1 1 _ lay_map lay_key h (by rfl)
theorem lays2 : Lays 2 (.func (.func 110) #[] #[]) true := fun w r h => run_lookup_yes w _ _ _ r _ _ 2 2 _ lay_map lay_key h (by rfl)
theorem lays3 : Lays 3 (.func (.func 113) #[] #[]) true := fun w r h => run_lookup_yes w _ _ _ r _ _ 3 3 _ lay_map lay_key h (by rfl)
set_option maxHeartbeats 1000000 in
theorem run_dec0 (x : Int) (w : World) (h5 : 0 ≤ x) (h6 : x < 18446744073709551616) (hk : x % 4 = 0) :
    Calls Tryz.prog 81 #[.agg #[.int .u64 x, .int .i64 0, .int .i64 0, .int .i64 0, .int .i64 0, .int .i64 0, .int .i64 0, .bool false, .int .i64 0, .int .u32 0, .int .u32 0, .bool false]] w fun e w' => e = .returned (.tuple #[.agg #[.int .u64 x, .int .i64 0, .int .i64 (sgn x 2 30), .int .i64 (fld x 32 16), .int .i64 (fld x 48 16), .int .i64 0, .int .i64 0, .bool false, .int .i64 0, .int .u32 0, .int .u32 0, .bool false], .bool true]) ∧ Below w.heap.size w w' := by
  have HK := Lib.hid ((f_0_2 x h5).trans hk)
  clear hk
  go_enter Tryz.func81, Tryz.ntmps81
  go_wp2_with fail
  refine (unsigned_dec w.heap.size 1 x 0 0 2 _ (by go_simp) (by go_simp) (by go_simp) (by go_simp) (by omega) (by omega) (by omega) (by omega) h5 h6).mono ?_
  rintro e w' ⟨rfl, rfl⟩
  rw [HK.out]
  go_wp2_with fail
  rename_i KK hKK
  refine wp_region_chain (by kernel_rfl) (by kernel_rfl) ?_
  refine chain_call (T := IsMap ents 4) 99 [] rfl (by kernel_rfl) trivial (IsMap.stab _ _) (fun ρ w1 hb hc hk => ?_) ?_
  · obtain ⟨hc, hfn⟩ := hc
    refine ⟨_, by go_simp; rfl, ?_⟩
    refine (layouts_any _).mono ?_
    rintro e w' ⟨rfl, rfl⟩
    exact ⟨_, rfl, ⟨_, rfl, by unfold World.alloc; simp⟩, (Below.refl _ _).alloc (Nat.le_refl _) _⟩
  refine chain_val (u := ?_) [1] rfl (by kernel_rfl) trivial (fun ρ w1 hb hc hk => ?_) ?_; rotate_left
  · obtain ⟨hc, hfn⟩ := hc
    simp at hk
    go_simp
    rfl
  refine chain_val (u := ?_) [11] rfl (by kernel_rfl) trivial (fun ρ w1 hb hc hk => ?_) ?_; rotate_left
  · obtain ⟨hc, hfn⟩ := hc
    simp at hk
    go_simp
    rfl
  refine chain_val (u := .int .i64 0) [12] rfl (by kernel_rfl) trivial (fun ρ w1 hb hc hk => ?_) ?_
  · obtain ⟨hc, hfn⟩ := hc
    simp at hk
    have hcell := hb.cell (p := ⟨w.heap.size, 1, none⟩) (by simp; omega)
    simp at hcell
    go_simp
  refine chain_val (u := ?_) [10, 13] rfl (by kernel_rfl) trivial (fun ρ w1 hb hc hk => ?_) ?_; rotate_left
  · obtain ⟨hc, hfn⟩ := hc
    simp at hk
    obtain ⟨⟨r, hk1, hk3⟩, hk2⟩ := hk
    have hl := lays0 w1 r hk3
    go_simp
    rfl
  refine chain_val (u := ?_) [14] rfl (by kernel_rfl) trivial (fun ρ w1 hb hc hk => ?_) ?_; rotate_left
  · obtain ⟨hc, hfn⟩ := hc
    simp at hk
    go_simp
    rfl
  refine chain_val (u := ?_) [9] rfl (by kernel_rfl) trivial (fun ρ w1 hb hc hk => ?_) ?_; rotate_left
  · obtain ⟨hc, hfn⟩ := hc
    simp at hk
    go_simp
    rfl
  refine chain_val (u := ?_) [9] rfl (by kernel_rfl) trivial (fun ρ w1 hb hc hk => ?_) ?_; rotate_left
  · obtain ⟨hc, hfn⟩ := hc
    simp at hk
    go_simp
    rfl
  refine chain_val (u := ?_) [15] rfl (by kernel_rfl) trivial (fun ρ w1 hb hc hk => ?_) ?_; rotate_left
  · obtain ⟨hc, hfn⟩ := hc
    simp at hk
    go_simp
    rfl
  refine chain_val (u := ?_) [16] rfl (by kernel_rfl) trivial (fun ρ w1 hb hc hk => ?_) ?_; rotate_left
  · obtain ⟨hc, hfn⟩ := hc
    simp at hk
    go_simp
    rfl
  refine chain_end_lit 23 rfl (fun ff w1 hb hk => ?_)
  refine hKK _ _ ?_
  clear hKK KK
  simp [AllN] at hk
  simp only [frameL, hk]
  obtain ⟨hc, hf⟩ := bcell hb
  have hz : w.heap.size + 1 < w1.heap.size := by have := hb.size; simp at this; omega
  have HB := Lib.hid hb
  clear hb hk
  simp at hc hf
  go_wp2_with fail
  refine (layout1_dec x 0 0 0 0 0 0 0 0 0 false w1 h5 h6).mono ?_
  rintro e w2 ⟨rfl, hb2⟩
  have hz2 : w.heap.size + 1 < w2.heap.size := by have := hb2.size; omega
  obtain ⟨hc2, hf2⟩ := bcell hb2
  have HB2 := Lib.hid hb2
  clear hb2
  go_wp2
  refine bodyPost_ret (v := .tuple #[.agg #[.int .u64 x, .int .i64 0, .int .i64 (sgn x 2 30), .int .i64 (fld x 32 16), .int .i64 (fld x 48 16), .int .i64 0, .int .i64 0, .bool false, .int .i64 0, .int .u32 0, .int .u32 0, .bool false], .bool true]) (by simp [results, Tryz.results81, go_sem, hc2, hc, hz, hz2]) rfl ⟨rfl, ?_⟩
  have b1 : Below w.heap.size w w1 := by
    refine Below.trans ?_ (HB.out.mono (by simp; omega))
    repeat (first | refine bel_drew ?_ | refine Below.setCell ?_ (by simp) _)
    exact ((Below.refl _ _).alloc (Nat.le_refl _) _).alloc (by simp) _
  have b2 : Below w.heap.size w w2 := b1.trans (HB2.out.mono (by omega))
  repeat (refine Below.setCell ?_ (by simp) _)
  exact b2

set_option maxHeartbeats 1000000 in
theorem run_dec1 (x : Int) (w : World) (h5 : 0 ≤ x) (h6 : x < 18446744073709551616) (hk : x % 4 = 1) :
    Calls Tryz.prog 81 #[.agg #[.int .u64 x, .int .i64 0, .int .i64 0, .int .i64 0, .int .i64 0, .int .i64 0, .int .i64 0, .bool false, .int .i64 0, .int .u32 0, .int .u32 0, .bool false]] w fun e w' => e = .returned (.tuple #[.agg #[.int .u64 x, .int .i64 1, .int .i64 (sgn x 2 30), .int .i64 0, .int .i64 0, .int .i64 (fld x 32 3), .int .i64 (fld x 35 29), .bool false, .int .i64 0, .int .u32 0, .int .u32 0, .bool false], .bool true]) ∧ Below w.heap.size w w' := by
  have HK := Lib.hid ((f_0_2 x h5).trans hk)
  clear hk
  go_enter Tryz.func81, Tryz.ntmps81
  go_wp2_with fail
  refine (unsigned_dec w.heap.size 1 x 0 0 2 _ (by go_simp) (by go_simp) (by go_simp) (by go_simp) (by omega) (by omega) (by omega) (by omega) h5 h6).mono ?_
  rintro e w' ⟨rfl, rfl⟩
  rw [HK.out]
  go_wp2_with fail
  rename_i KK hKK
  refine wp_region_chain (by kernel_rfl) (by kernel_rfl) ?_
  refine chain_call (T := IsMap ents 4) 99 [] rfl (by kernel_rfl) trivial (IsMap.stab _ _) (fun ρ w1 hb hc hk => ?_) ?_
  · obtain ⟨hc, hfn⟩ := hc
    refine ⟨_, by go_simp; rfl, ?_⟩
    refine (layouts_any _).mono ?_
    rintro e w' ⟨rfl, rfl⟩
    exact ⟨_, rfl, ⟨_, rfl, by unfold World.alloc; simp⟩, (Below.refl _ _).alloc (Nat.le_refl _) _⟩
  refine chain_val (u := ?_) [1] rfl (by kernel_rfl) trivial (fun ρ w1 hb hc hk => ?_) ?_; rotate_left
  · obtain ⟨hc, hfn⟩ := hc
    simp at hk
    go_simp
    rfl
  refine chain_val (u := ?_) [11] rfl (by kernel_rfl) trivial (fun ρ w1 hb hc hk => ?_) ?_; rotate_left
  · obtain ⟨hc, hfn⟩ := hc
    simp at hk
    go_simp
    rfl
  refine chain_val (u := .int .i64 1) [12] rfl (by kernel_rfl) trivial (fun ρ w1 hb hc hk => ?_) ?_
  · obtain ⟨hc, hfn⟩ := hc
    simp at hk
    have hcell := hb.cell (p := ⟨w.heap.size, 1, none⟩) (by simp; omega)
    simp at hcell
    go_simp
  refine chain_val (u := ?_) [10, 13] rfl (by kernel_rfl) trivial (fun ρ w1 hb hc hk => ?_) ?_; rotate_left
  · obtain ⟨hc, hfn⟩ := hc
    simp at hk
    obtain ⟨⟨r, hk1, hk3⟩, hk2⟩ := hk
    have hl := lays1 w1 r hk3
    go_simp
    rfl
  refine chain_val (u := ?_) [14] rfl (by kernel_rfl) trivial (fun ρ w1 hb hc hk => ?_) ?_; rotate_left
  · obtain ⟨hc, hfn⟩ := hc
    simp at hk
    go_simp
    rfl
  refine chain_val (u := ?_) [9] rfl (by kernel_rfl) trivial (fun ρ w1 hb hc hk => ?_) ?_; rotate_left
  · obtain ⟨hc, hfn⟩ := hc
    simp at hk
    go_simp
    rfl
  refine chain_val (u := ?_) [9] rfl (by kernel_rfl) trivial (fun ρ w1 hb hc hk => ?_) ?_; rotate_left
  · obtain ⟨hc, hfn⟩ := hc
    simp at hk
    go_simp
    rfl
  refine chain_val (u := ?_) [15] rfl (by kernel_rfl) trivial (fun ρ w1 hb hc hk => ?_) ?_; rotate_left
  · obtain ⟨hc, hfn⟩ := hc
    simp at hk
    go_simp
    rfl
  refine chain_val (u := ?_) [16] rfl (by kernel_rfl) trivial (fun ρ w1 hb hc hk => ?_) ?_; rotate_left
  · obtain ⟨hc, hfn⟩ := hc
    simp at hk
    go_simp
    rfl
  refine chain_end_lit 23 rfl (fun ff w1 hb hk => ?_)
  refine hKK _ _ ?_
  clear hKK KK
  simp [AllN] at hk
  simp only [frameL, hk]
  obtain ⟨hc, hf⟩ := bcell hb
  have hz : w.heap.size + 1 < w1.heap.size := by have := hb.size; simp at this; omega
  have HB := Lib.hid hb
  clear hb hk
  simp at hc hf
  go_wp2_with fail
  refine (layout2_dec x 1 0 0 0 0 0 0 0 0 false w1 h5 h6).mono ?_
  rintro e w2 ⟨rfl, hb2⟩
  have hz2 : w.heap.size + 1 < w2.heap.size := by have := hb2.size; omega
  obtain ⟨hc2, hf2⟩ := bcell hb2
  have HB2 := Lib.hid hb2
  clear hb2
  go_wp2
  refine bodyPost_ret (v := .tuple #[.agg #[.int .u64 x, .int .i64 1, .int .i64 (sgn x 2 30), .int .i64 0, .int .i64 0, .int .i64 (fld x 32 3), .int .i64 (fld x 35 29), .bool false, .int .i64 0, .int .u32 0, .int .u32 0, .bool false], .bool true]) (by simp [results, Tryz.results81, go_sem, hc2, hc, hz, hz2]) rfl ⟨rfl, ?_⟩
  have b1 : Below w.heap.size w w1 := by
    refine Below.trans ?_ (HB.out.mono (by simp; omega))
    repeat (first | refine bel_drew ?_ | refine Below.setCell ?_ (by simp) _)
    exact ((Below.refl _ _).alloc (Nat.le_refl _) _).alloc (by simp) _
  have b2 : Below w.heap.size w w2 := b1.trans (HB2.out.mono (by omega))
  repeat (refine Below.setCell ?_ (by simp) _)
  exact b2

set_option maxHeartbeats 1000000 in
theorem run_dec2 (x : Int) (w : World) (h5 : 0 ≤ x) (h6 : x < 18446744073709551616) (hk : x % 4 = 2) :
    Calls Tryz.prog 81 #[.agg #[.int .u64 x, .int .i64 0, .int .i64 0, .int .i64 0, .int .i64 0, .int .i64 0, .int .i64 0, .bool false, .int .i64 0, .int .u32 0, .int .u32 0, .bool false]] w fun e w' => e = .returned (.tuple #[.agg #[.int .u64 x, .int .i64 2, .int .i64 0, .int .i64 0, .int .i64 0, .int .i64 0, .int .i64 0, .bool (fld x 2 1 == 1), .int .i64 (fld x 3 29), .int .u32 (fld x 32 32), .int .u32 0, .bool false], .bool true]) ∧ Below w.heap.size w w' := by
  have HK := Lib.hid ((f_0_2 x h5).trans hk)
  clear hk
  go_enter Tryz.func81, Tryz.ntmps81
  go_wp2_with fail
  refine (unsigned_dec w.heap.size 1 x 0 0 2 _ (by go_simp) (by go_simp) (by go_simp) (by go_simp) (by omega) (by omega) (by omega) (by omega) h5 h6).mono ?_
  rintro e w' ⟨rfl, rfl⟩
  rw [HK.out]
  go_wp2_with fail
  rename_i KK hKK
  refine wp_region_chain (by kernel_rfl) (by kernel_rfl) ?_
  refine chain_call (T := IsMap ents 4) 99 [] rfl (by kernel_rfl) trivial (IsMap.stab _ _) (fun ρ w1 hb hc hk => ?_) ?_
  · obtain ⟨hc, hfn⟩ := hc
    refine ⟨_, by go_simp; rfl, ?_⟩
    refine (layouts_any _).mono ?_
    rintro e w' ⟨rfl, rfl⟩
    exact ⟨_, rfl, ⟨_, rfl, by unfold World.alloc; simp⟩, (Below.refl _ _).alloc (Nat.le_refl _) _⟩
  refine chain_val (u := ?_) [1] rfl (by kernel_rfl) trivial (fun ρ w1 hb hc hk => ?_) ?_; rotate_left
  · obtain ⟨hc, hfn⟩ := hc
    simp at hk
    go_simp
    rfl
  refine chain_val (u := ?_) [11] rfl (by kernel_rfl) trivial (fun ρ w1 hb hc hk => ?_) ?_; rotate_left
  · obtain ⟨hc, hfn⟩ := hc
    simp at hk
    go_simp
    rfl
  refine chain_val (u := .int .i64 2) [12] rfl (by kernel_rfl) trivial (fun ρ w1 hb hc hk => ?_) ?_
  · obtain ⟨hc, hfn⟩ := hc
    simp at hk
    have hcell := hb.cell (p := ⟨w.heap.size, 1, none⟩) (by simp; omega)
    simp at hcell
    go_simp
  refine chain_val (u := ?_) [10, 13] rfl (by kernel_rfl) trivial (fun ρ w1 hb hc hk => ?_) ?_; rotate_left
  · obtain ⟨hc, hfn⟩ := hc
    simp at hk
    obtain ⟨⟨r, hk1, hk3⟩, hk2⟩ := hk
    have hl := lays2 w1 r hk3
    go_simp
    rfl
  refine chain_val (u := ?_) [14] rfl (by kernel_rfl) trivial (fun ρ w1 hb hc hk => ?_) ?_; rotate_left
  · obtain ⟨hc, hfn⟩ := hc
    simp at hk
    go_simp
    rfl
  refine chain_val (u := ?_) [9] rfl (by kernel_rfl) trivial (fun ρ w1 hb hc hk => ?_) ?_; rotate_left
  · obtain ⟨hc, hfn⟩ := hc
    simp at hk
    go_simp
    rfl
  refine chain_val (u := ?_) [9] rfl (by kernel_rfl) trivial (fun ρ w1 hb hc hk => ?_) ?_; rotate_left
  · obtain ⟨hc, hfn⟩ := hc
    simp at hk
    go_simp
    rfl
  refine chain_val (u := ?_) [15] rfl (by kernel_rfl) trivial (fun ρ w1 hb hc hk => ?_) ?_; rotate_left
  · obtain ⟨hc, hfn⟩ := hc
    simp at hk
    go_simp
    rfl
  refine chain_val (u := ?_) [16] rfl (by kernel_rfl) trivial (fun ρ w1 hb hc hk => ?_) ?_; rotate_left
  · obtain ⟨hc, hfn⟩ := hc
    simp at hk
    go_simp
    rfl
  refine chain_end_lit 23 rfl (fun ff w1 hb hk => ?_)
  refine hKK _ _ ?_
  clear hKK KK
  simp [AllN] at hk
  simp only [frameL, hk]
  obtain ⟨hc, hf⟩ := bcell hb
  have hz : w.heap.size + 1 < w1.heap.size := by have := hb.size; simp at this; omega
  have HB := Lib.hid hb
  clear hb hk
  simp at hc hf
  go_wp2_with fail
  refine (layout3_dec x 2 0 0 0 0 0 0 0 0 false w1 h5 h6).mono ?_
  rintro e w2 ⟨rfl, hb2⟩
  have hz2 : w.heap.size + 1 < w2.heap.size := by have := hb2.size; omega
  obtain ⟨hc2, hf2⟩ := bcell hb2
  have HB2 := Lib.hid hb2
  clear hb2
  go_wp2
  refine bodyPost_ret (v := .tuple #[.agg #[.int .u64 x, .int .i64 2, .int .i64 0, .int .i64 0, .int .i64 0, .int .i64 0, .int .i64 0, .bool (fld x 2 1 == 1), .int .i64 (fld x 3 29), .int .u32 (fld x 32 32), .int .u32 0, .bool false], .bool true]) (by simp [results, Tryz.results81, go_sem, hc2, hc, hz, hz2]) rfl ⟨rfl, ?_⟩
  have b1 : Below w.heap.size w w1 := by
    refine Below.trans ?_ (HB.out.mono (by simp; omega))
    repeat (first | refine bel_drew ?_ | refine Below.setCell ?_ (by simp) _)
    exact ((Below.refl _ _).alloc (Nat.le_refl _) _).alloc (by simp) _
  have b2 : Below w.heap.size w w2 := b1.trans (HB2.out.mono (by omega))
  repeat (refine Below.setCell ?_ (by simp) _)
  exact b2

set_option maxHeartbeats 1000000 in
theorem run_dec3 (x : Int) (w : World) (h5 : 0 ≤ x) (h6 : x < 18446744073709551616) (hk : x % 4 = 3) :
    Calls Tryz.prog 81 #[.agg #[.int .u64 x, .int .i64 0, .int .i64 0, .int .i64 0, .int .i64 0, .int .i64 0, .int .i64 0, .bool false, .int .i64 0, .int .u32 0, .int .u32 0, .bool false]] w fun e w' => e = .returned (.tuple #[.agg #[.int .u64 x, .int .i64 3, .int .i64 0, .int .i64 0, .int .i64 0, .int .i64 0, .int .i64 0, .bool false, .int .i64 0, .int .u32 (fld x 32 32), .int .u32 (fld x 2 30), .bool false], .bool true]) ∧ Below w.heap.size w w' := by
  have HK := Lib.hid ((f_0_2 x h5).trans hk)
  clear hk
  go_enter Tryz.func81, Tryz.ntmps81
  go_wp2_with fail
  refine (unsigned_dec w.heap.size 1 x 0 0 2 _ (by go_simp) (by go_simp) (by go_simp) (by go_simp) (by omega) (by omega) (by omega) (by omega) h5 h6).mono ?_
  rintro e w' ⟨rfl, rfl⟩
  rw [HK.out]
  go_wp2_with fail
  rename_i KK hKK
  refine wp_region_chain (by kernel_rfl) (by kernel_rfl) ?_
  refine chain_call (T := IsMap ents 4) 99 [] rfl (by kernel_rfl) trivial (IsMap.stab _ _) (fun ρ w1 hb hc hk => ?_) ?_
  · obtain ⟨hc, hfn⟩ := hc
    refine ⟨_, by go_simp; rfl, ?_⟩
    refine (layouts_any _).mono ?_
    rintro e w' ⟨rfl, rfl⟩
    exact ⟨_, rfl, ⟨_, rfl, by unfold World.alloc; simp⟩, (Below.refl _ _).alloc (Nat.le_refl _) _⟩
  refine chain_val (u := ?_) [1] rfl (by kernel_rfl) trivial (fun ρ w1 hb hc hk => ?_) ?_; rotate_left
  · obtain ⟨hc, hfn⟩ := hc
    simp at hk
    go_simp
    rfl
  refine chain_val (u := ?_) [11] rfl (by kernel_rfl) trivial (fun ρ w1 hb hc hk => ?_) ?_; rotate_left
  · obtain ⟨hc, hfn⟩ := hc
    simp at hk
    go_simp
    rfl
  refine chain_val (u := .int .i64 3) [12] rfl (by kernel_rfl) trivial (fun ρ w1 hb hc hk => ?_) ?_
  · obtain ⟨hc, hfn⟩ := hc
    simp at hk
    have hcell := hb.cell (p := ⟨w.heap.size, 1, none⟩) (by simp; omega)
    simp at hcell
    go_simp
  refine chain_val (u := ?_) [10, 13] rfl (by kernel_rfl) trivial (fun ρ w1 hb hc hk => ?_) ?_; rotate_left
  · obtain ⟨hc, hfn⟩ := hc
    simp at hk
    obtain ⟨⟨r, hk1, hk3⟩, hk2⟩ := hk
    have hl := lays3 w1 r hk3
    go_simp
    rfl
  refine chain_val (u := ?_) [14] rfl (by kernel_rfl) trivial (fun ρ w1 hb hc hk => ?_) ?_; rotate_left
  · obtain ⟨hc, hfn⟩ := hc
    simp at hk
    go_simp
    rfl
  refine chain_val (u := ?_) [9] rfl (by kernel_rfl) trivial (fun ρ w1 hb hc hk => ?_) ?_; rotate_left
  · obtain ⟨hc, hfn⟩ := hc
    simp at hk
    go_simp
    rfl
  refine chain_val (u := ?_) [9] rfl (by kernel_rfl) trivial (fun ρ w1 hb hc hk => ?_) ?_; rotate_left
  · obtain ⟨hc, hfn⟩ := hc
    simp at hk
    go_simp
    rfl
  refine chain_val (u := ?_) [15] rfl (by kernel_rfl) trivial (fun ρ w1 hb hc hk => ?_) ?_; rotate_left
  · obtain ⟨hc, hfn⟩ := hc
    simp at hk
    go_simp
    rfl
  refine chain_val (u := ?_) [16] rfl (by kernel_rfl) trivial (fun ρ w1 hb hc hk => ?_) ?_; rotate_left
  · obtain ⟨hc, hfn⟩ := hc
    simp at hk
    go_simp
    rfl
  refine chain_end_lit 23 rfl (fun ff w1 hb hk => ?_)
  refine hKK _ _ ?_
  clear hKK KK
  simp [AllN] at hk
  simp only [frameL, hk]
  obtain ⟨hc, hf⟩ := bcell hb
  have hz : w.heap.size + 1 < w1.heap.size := by have := hb.size; simp at this; omega
  have HB := Lib.hid hb
  clear hb hk
  simp at hc hf
  go_wp2_with fail
  refine (layout4_dec x 3 0 0 0 0 0 0 0 0 false w1 h5 h6).mono ?_
  rintro e w2 ⟨rfl, hb2⟩
  have hz2 : w.heap.size + 1 < w2.heap.size := by have := hb2.size; omega
  obtain ⟨hc2, hf2⟩ := bcell hb2
  have HB2 := Lib.hid hb2
  clear hb2
  go_wp2
  refine bodyPost_ret (v := .tuple #[.agg #[.int .u64 x, .int .i64 3, .int .i64 0, .int .i64 0, .int .i64 0, .int .i64 0, .int .i64 0, .bool false, .int .i64 0, .int .u32 (fld x 32 32), .int .u32 (fld x 2 30), .bool false], .bool true]) (by simp [results, Tryz.results81, go_sem, hc2, hc, hz, hz2]) rfl ⟨rfl, ?_⟩
  have b1 : Below w.heap.size w w1 := by
    refine Below.trans ?_ (HB.out.mono (by simp; omega))
    repeat (first | refine bel_drew ?_ | refine Below.setCell ?_ (by simp) _)
    exact ((Below.refl _ _).alloc (Nat.le_refl _) _).alloc (by simp) _
  have b2 : Below w.heap.size w w2 := b1.trans (HB2.out.mono (by omega))
  repeat (refine Below.setCell ?_ (by simp) _)
  exact b2

theorem run_dec (x : Int) (w : World) (h5 : 0 ≤ x) (h6 : x < 18446744073709551616) :
    Calls Tryz.prog 81 #[.agg #[.int .u64 x, .int .i64 0, .int .i64 0, .int .i64 0, .int .i64 0, .int .i64 0, .int .i64 0, .bool false, .int .i64 0, .int .u32 0, .int .u32 0, .bool false]] w fun e w' => e = .returned (.tuple #[.agg #[.int .u64 x, .int .i64 (decP x).k, .int .i64 (decP x).o, .int .i64 (decP x).d, .int .i64 (decP x).p, .int .i64 (decP x).el, .int .i64 (decP x).c, .bool (decP x).db, .int .i64 (decP x).pa, .int .u32 (decP x).sg, .int .u32 (decP x).lo, .bool false], .bool true]) ∧ Below w.heap.size w w' := by
  have c4 : x % 4 = 0 ∨ x % 4 = 1 ∨ x % 4 = 2 ∨ x % 4 = 3 := by omega
  rcases c4 with c | c | c | c
  · refine (run_dec0 x w h5 h6 c).mono fun e w' ⟨he, hb⟩ => ⟨he.trans ?_, hb⟩
    rw [s_2_30 x h5, f_32_16 x h5, f_48_16 x h5]
    simp [decP, c]
  · refine (run_dec1 x w h5 h6 c).mono fun e w' ⟨he, hb⟩ => ⟨he.trans ?_, hb⟩
    rw [s_2_30 x h5, f_32_3 x h5, f_35_29 x h5]
    simp [decP, c]
  · refine (run_dec2 x w h5 h6 c).mono fun e w' ⟨he, hb⟩ => ⟨he.trans ?_, hb⟩
    rw [f_2_1 x h5, f_3_29 x h5, f_32_32 x h5]
    simp [decP, c]
  · refine (run_dec3 x w h5 h6 c).mono fun e w' ⟨he, hb⟩ => ⟨he.trans ?_, hb⟩
    rw [f_2_30 x h5, f_32_32 x h5]
    simp [decP, c]

end Go.Proofs.YtnmanhediiooaaaGreatDoor

/- The functions of package pointer. -/
namespace Go.Proofs.YtnmanhediiooaaaGreatDoor
set_option linter.unusedVariables false
set_option linter.unusedSimpArgs false
set_option maxRecDepth 100000
open Go.ChangeShapes Go.WideShapes Go.ChangeAt Go.RowKit

set_option maxHeartbeats 1000000 in
theorem Decode_any (x : Int) (w : World) (h5 : 0 ≤ x) (h6 : x < 18446744073709551616) :
    Calls Tryz.prog 69 #[.int .u64 x] w fun e w' => e = .returned (.agg #[.int .i64 (decP x).k, .int .i64 (decP x).o, .int .i64 (decP x).d, .int .i64 (decP x).p, .int .i64 (decP x).el, .int .i64 (decP x).c, .bool (decP x).db, .int .i64 (decP x).pa, .int .u32 (decP x).sg, .int .u32 (decP x).lo]) ∧ Below w.heap.size w w' := by
  go_enter Tryz.func69, Tryz.ntmps69
  go_wp2_with fail
  refine (run_dec x _ h5 h6).mono ?_
  rintro e w1 ⟨rfl, hb⟩
  obtain ⟨hc, hf⟩ := bcell hb
  have hz : w.heap.size < w1.heap.size := by have := hb.size; simp at this; omega
  have HB := Lib.hid hb
  clear hb
  simp at hc hf
  go_wp2
  refine bodyPost_ret (v := .agg #[.int .i64 (decP x).k, .int .i64 (decP x).o, .int .i64 (decP x).d, .int .i64 (decP x).p, .int .i64 (decP x).el, .int .i64 (decP x).c, .bool (decP x).db, .int .i64 (decP x).pa, .int .u32 (decP x).sg, .int .u32 (decP x).lo]) (by simp [results, Tryz.results69, go_sem, hc, hz]) rfl ⟨rfl, ?_⟩
  repeat (first | with_reducible refine Below.alloc ?_ (by first | omega | (simp; omega)) _ | with_reducible refine Below.setCell ?_ (by simp) _)
  exact bel_on ((Below.refl _ _).alloc (Nat.le_refl _) _) HB.out

/-- are two pointers the same, field by field? -/
def peq (k o d p el c pa sg lo : Int) (db : Bool) (k' o' d' p' el' c' pa' sg' lo' : Int) (db' : Bool) : Bool := decide (k = k' ∧ o = o' ∧ d = d' ∧ p = p' ∧ el = el' ∧ c = c' ∧ db = db' ∧ pa = pa' ∧ sg = sg' ∧ lo = lo')

theorem run_eql_ptr (k o d p el c pa sg lo : Int) (db : Bool) (k' o' d' p' el' c' pa' sg' lo' : Int) (db' : Bool) (w : World) : (binOp .eql 45 (.agg #[.int .i64 k, .int .i64 o, .int .i64 d, .int .i64 p, .int .i64 el, .int .i64 c, .bool db, .int .i64 pa, .int .u32 sg, .int .u32 lo]) (.agg #[.int .i64 k', .int .i64 o', .int .i64 d', .int .i64 p', .int .i64 el', .int .i64 c', .bool db', .int .i64 pa', .int .u32 sg', .int .u32 lo'])).run Tryz.prog w = .ok (.bool (peq k o d p el c pa sg lo db k' o' d' p' el' c' pa' sg' lo' db')) w := by
  go_simp
  unfold peq
  by_cases h1 : k = k'
  · by_cases h2 : o = o'
    · by_cases h3 : d = d'
      · by_cases h4 : p = p'
        · by_cases h5 : el = el'
          · by_cases h6 : c = c'
            · by_cases h7 : db = db'
              · by_cases h8 : pa = pa'
                · by_cases h9 : sg = sg' <;> by_cases h10 : lo = lo' <;> simp [h1, h2, h3, h4, h5, h6, h7, h8, h9, h10]
                · simp [h8]
              · simp [h7]
            · simp [h6]
          · simp [h5]
        · simp [h4]
      · simp [h3]
    · simp [h2]
  · simp [h1]
theorem IsCapability_any (k o d p el c pa sg lo : Int) (db : Bool) (w : World) :
    Calls Tryz.prog 88 #[.agg #[.int .i64 k, .int .i64 o, .int .i64 d, .int .i64 p, .int .i64 el, .int .i64 c, .bool db, .int .i64 pa, .int .u32 sg, .int .u32 lo]] w fun e w' => e = .returned (.bool (k == 3 && lo == 0)) ∧ Below w.heap.size w w' := by
  by_cases h : k = 3
  · subst h
    go_enter Tryz.func88, Tryz.ntmps88
    go_wp2
    go_ret
    exact ⟨rfl, (Below.refl _ _).alloc (Nat.le_refl _) _⟩
  · have h1 : (k == 3) = false := by rw [beq_eq_false_iff_ne]; exact h
    have HH := Lib.hid h1
    clear h
    go_enter Tryz.func88, Tryz.ntmps88
    go_wp2
    go_ret
    exact ⟨by rw [HH.out]; rfl, (Below.refl _ _).alloc (Nat.le_refl _) _⟩

theorem IsNull_any (x : Int) (w : World) :
    Calls Tryz.prog 53 #[.int .u64 x] w fun e w' => e = .returned (.bool (x == 0)) ∧ w = w' := by
  go_enter Tryz.func53, Tryz.ntmps53
  go_wp2
  go_ret
  exact ⟨rfl, rfl⟩

attribute [local simp] AllK KnowsV look Is

/-- what Encode returns -/
def okE (q : Ptr) : Bool := decide (Vld q)
def encE (q : Ptr) : Int := if okE q then encW q else 0

end Go.Proofs.YtnmanhediiooaaaGreatDoor

/- What the reference functions of layer 2 do, each by a contract. -/
namespace Go.Proofs.YtnmanhediiooaaaGreatDoor
open Go.ChangeShapes Go.WideShapes Go.ChangeAt Go.RowKit
set_option linter.unusedVariables false
set_option linter.unusedSimpArgs false
set_option maxRecDepth 100000

set_option maxHeartbeats 1000000 in
theorem RefDecode0 (x : Int) (w : World) (h5 : 0 ≤ x) (h6 : x < 18446744073709551616) (hk : x % 4 = 0) :
    Calls Tryz.prog 62 #[.int .u64 x] w fun e w' => e = .returned (.agg #[.int .i64 0, .int .i64 (sgn x 2 30), .int .i64 (fld x 32 16), .int .i64 (fld x 48 16), .int .i64 0, .int .i64 0, .bool false, .int .i64 0, .int .u32 0, .int .u32 0]) ∧ Below w.heap.size w w' := by
  have l32 := fld_lt63 x 32 16 (by omega)
  have m32 := fld_nonneg x 32 16
  have l48 := fld_lt63 x 48 16 (by omega)
  have m48 := fld_nonneg x 48 16
  go_enter Tryz.func62, Tryz.ntmps62
  go_wp2_with (first
    | (go_at_call 75; refine (RefSigned_any _ _ _ _ (by omega) (by omega) (by omega) h5 h6).mono ?_; rintro e w' ⟨rfl, rfl⟩)
    | (go_at_call 76; refine (RefField_any _ _ _ _ (by omega) (by omega) (by omega) h5 h6).mono ?_; rintro e w' ⟨rfl, rfl⟩))
  refine bodyPost_ret (v := .agg #[.int .i64 0, .int .i64 (sgn x 2 30), .int .i64 (fld x 32 16), .int .i64 (fld x 48 16), .int .i64 0, .int .i64 0, .bool false, .int .i64 0, .int .u32 0, .int .u32 0]) (by simp [results, Tryz.results62, go_sem]) rfl ⟨rfl, ?_⟩
  repeat (first | with_reducible refine bel_drew ?_ | with_reducible refine Below.alloc ?_ (by first | omega | (simp; done) | (simp; omega)) _ | with_reducible refine Below.setCell ?_ (by simp) _)
  exact Below.refl _ _

set_option maxHeartbeats 1000000 in
theorem RefDecode1 (x : Int) (w : World) (h5 : 0 ≤ x) (h6 : x < 18446744073709551616) (hk : x % 4 = 1) :
    Calls Tryz.prog 62 #[.int .u64 x] w fun e w' => e = .returned (.agg #[.int .i64 1, .int .i64 (sgn x 2 30), .int .i64 0, .int .i64 0, .int .i64 (fld x 32 3), .int .i64 (fld x 35 29), .bool false, .int .i64 0, .int .u32 0, .int .u32 0]) ∧ Below w.heap.size w w' := by
  have l32 := fld_lt63 x 32 3 (by omega)
  have m32 := fld_nonneg x 32 3
  have l35 := fld_lt63 x 35 29 (by omega)
  have m35 := fld_nonneg x 35 29
  go_enter Tryz.func62, Tryz.ntmps62
  go_wp2_with (first
    | (go_at_call 75; refine (RefSigned_any _ _ _ _ (by omega) (by omega) (by omega) h5 h6).mono ?_; rintro e w' ⟨rfl, rfl⟩)
    | (go_at_call 76; refine (RefField_any _ _ _ _ (by omega) (by omega) (by omega) h5 h6).mono ?_; rintro e w' ⟨rfl, rfl⟩))
  refine bodyPost_ret (v := .agg #[.int .i64 1, .int .i64 (sgn x 2 30), .int .i64 0, .int .i64 0, .int .i64 (fld x 32 3), .int .i64 (fld x 35 29), .bool false, .int .i64 0, .int .u32 0, .int .u32 0]) (by simp [results, Tryz.results62, go_sem]) rfl ⟨rfl, ?_⟩
  repeat (first | with_reducible refine bel_drew ?_ | with_reducible refine Below.alloc ?_ (by first | omega | (simp; done) | (simp; omega)) _ | with_reducible refine Below.setCell ?_ (by simp) _)
  exact Below.refl _ _

set_option maxHeartbeats 1000000 in
theorem RefDecode2 (x : Int) (w : World) (h5 : 0 ≤ x) (h6 : x < 18446744073709551616) (hk : x % 4 = 2) :
    Calls Tryz.prog 62 #[.int .u64 x] w fun e w' => e = .returned (.agg #[.int .i64 2, .int .i64 0, .int .i64 0, .int .i64 0, .int .i64 0, .int .i64 0, .bool (fld x 2 1 == 1), .int .i64 (fld x 3 29), .int .u32 (x / 4294967296), .int .u32 0]) ∧ Below w.heap.size w w' := by
  have l2 := fld_lt63 x 2 1 (by omega)
  have m2 := fld_nonneg x 2 1
  have l3 := fld_lt63 x 3 29 (by omega)
  have m3 := fld_nonneg x 3 29
  have HS : Hid (IntKind.u32.wrap (x / 4294967296) = x / 4294967296) := Lib.hid (by rw [IntKind.wrap_u32]; omega)
  go_enter Tryz.func62, Tryz.ntmps62
  go_wp2_with (first
    | (go_at_call 75; refine (RefSigned_any _ _ _ _ (by omega) (by omega) (by omega) h5 h6).mono ?_; rintro e w' ⟨rfl, rfl⟩)
    | (go_at_call 76; refine (RefField_any _ _ _ _ (by omega) (by omega) (by omega) h5 h6).mono ?_; rintro e w' ⟨rfl, rfl⟩))
  refine bodyPost_ret (v := .agg #[.int .i64 2, .int .i64 0, .int .i64 0, .int .i64 0, .int .i64 0, .int .i64 0, .bool (fld x 2 1 == 1), .int .i64 (fld x 3 29), .int .u32 (x / 4294967296), .int .u32 0]) (by simp [results, Tryz.results62, go_sem]) rfl ⟨rfl, ?_⟩
  repeat (first | with_reducible refine bel_drew ?_ | with_reducible refine Below.alloc ?_ (by first | omega | (simp; done) | (simp; omega)) _ | with_reducible refine Below.setCell ?_ (by simp) _)
  exact Below.refl _ _

set_option maxHeartbeats 1000000 in
theorem RefDecode3 (x : Int) (w : World) (h5 : 0 ≤ x) (h6 : x < 18446744073709551616) (hk : x % 4 = 3) :
    Calls Tryz.prog 62 #[.int .u64 x] w fun e w' => e = .returned (.agg #[.int .i64 3, .int .i64 0, .int .i64 0, .int .i64 0, .int .i64 0, .int .i64 0, .bool false, .int .i64 0, .int .u32 (x / 4294967296), .int .u32 (fld x 2 30)]) ∧ Below w.heap.size w w' := by
  have l2 := fld_lt63 x 2 30 (by omega)
  have m2 := fld_nonneg x 2 30
  have l32 := fld_lt32 x 2 30 (by omega)
  have HS : Hid (IntKind.u32.wrap (x / 4294967296) = x / 4294967296) := Lib.hid (by rw [IntKind.wrap_u32]; omega)
  go_enter Tryz.func62, Tryz.ntmps62
  go_wp2_with (first
    | (go_at_call 75; refine (RefSigned_any _ _ _ _ (by omega) (by omega) (by omega) h5 h6).mono ?_; rintro e w' ⟨rfl, rfl⟩)
    | (go_at_call 76; refine (RefField_any _ _ _ _ (by omega) (by omega) (by omega) h5 h6).mono ?_; rintro e w' ⟨rfl, rfl⟩))
  refine bodyPost_ret (v := .agg #[.int .i64 3, .int .i64 0, .int .i64 0, .int .i64 0, .int .i64 0, .int .i64 0, .bool false, .int .i64 0, .int .u32 (x / 4294967296), .int .u32 (fld x 2 30)]) (by simp [results, Tryz.results62, go_sem]) rfl ⟨rfl, ?_⟩
  repeat (first | with_reducible refine bel_drew ?_ | with_reducible refine Below.alloc ?_ (by first | omega | (simp; done) | (simp; omega)) _ | with_reducible refine Below.setCell ?_ (by simp) _)
  exact Below.refl _ _

theorem RefDecode_any (x : Int) (w : World) (h5 : 0 ≤ x) (h6 : x < 18446744073709551616) :
    Calls Tryz.prog 62 #[.int .u64 x] w fun e w' => e = .returned (.agg #[.int .i64 (decP x).k, .int .i64 (decP x).o, .int .i64 (decP x).d, .int .i64 (decP x).p, .int .i64 (decP x).el, .int .i64 (decP x).c, .bool (decP x).db, .int .i64 (decP x).pa, .int .u32 (decP x).sg, .int .u32 (decP x).lo]) ∧ Below w.heap.size w w' := by
  have c4 : x % 4 = 0 ∨ x % 4 = 1 ∨ x % 4 = 2 ∨ x % 4 = 3 := by omega
  have hm : x / 4294967296 % 4294967296 = x / 4294967296 := by omega
  rcases c4 with c | c | c | c
  · refine (RefDecode0 x w h5 h6 c).mono fun e w' ⟨he, hb⟩ => ⟨he.trans ?_, hb⟩
    rw [s_2_30 x h5, f_32_16 x h5, f_48_16 x h5]
    simp [decP, c]
  · refine (RefDecode1 x w h5 h6 c).mono fun e w' ⟨he, hb⟩ => ⟨he.trans ?_, hb⟩
    rw [s_2_30 x h5, f_32_3 x h5, f_35_29 x h5]
    simp [decP, c]
  · refine (RefDecode2 x w h5 h6 c).mono fun e w' ⟨he, hb⟩ => ⟨he.trans ?_, hb⟩
    rw [f_2_1 x h5, f_3_29 x h5]
    simp [decP, c, hm]
  · refine (RefDecode3 x w h5 h6 c).mono fun e w' ⟨he, hb⟩ => ⟨he.trans ?_, hb⟩
    rw [f_2_30 x h5]
    simp [decP, c, hm]

def offB (n : Int) : Bool := decide (-536870912 ≤ n ∧ n ≤ 536870911)
theorem offset_any (n : Int) (w : World) : Calls Tryz.prog 67 #[.int .i64 n] w fun e w' => e = .returned (.bool (offB n)) ∧ w = w' := by
  by_cases h1 : -536870912 ≤ n
  · by_cases h2 : n ≤ 536870911
    · have h3 : offB n = true := by simp [offB, h1, h2]
      have H3 := Lib.hid h3
      clear h3
      go_enter Tryz.func67, Tryz.ntmps67
      go_wp2
      go_ret
      exact ⟨by rw [H3.out]; rfl, rfl⟩
    · have h3 : offB n = false := by simp [offB, h2]
      have H3 := Lib.hid h3
      clear h3
      go_enter Tryz.func67, Tryz.ntmps67
      go_wp2
      go_ret
      exact ⟨by rw [H3.out]; rfl, rfl⟩
  · have h3 : offB n = false := by simp [offB, h1]
    have H3 := Lib.hid h3
    clear h3
    go_enter Tryz.func67, Tryz.ntmps67
    go_wp2
    go_ret
    exact ⟨by rw [H3.out]; rfl, rfl⟩

theorem ok0 (o d p el c pa sg lo : Int) (db : Bool) (s0 : 0 ≤ sg) (s1 : sg < 4294967296) (l0 : 0 ≤ lo) : okE ⟨0, o, d, p, el, c, db, pa, sg, lo⟩ = (peq 0 o d p 0 0 0 0 0 false 0 o d p el c pa sg lo db && (offB o && decide (0 ≤ d) && decide (d ≤ 65535) && decide (0 ≤ p) && decide (p ≤ 65535))) := by
  rw [Bool.eq_iff_iff]
  cases db <;> simp [okE, Vld, peq, offB] <;> omega

set_option maxHeartbeats 1000000 in
theorem RefValid0 (o d p el c pa sg lo : Int) (db : Bool) (w : World) (s0 : 0 ≤ sg) (s1 : sg < 4294967296) (l0 : 0 ≤ lo) :
    Calls Tryz.prog 48 #[.agg #[.int .i64 0, .int .i64 o, .int .i64 d, .int .i64 p, .int .i64 el, .int .i64 c, .bool db, .int .i64 pa, .int .u32 sg, .int .u32 lo]] w fun e w' => e = .returned (.bool (okE ⟨0, o, d, p, el, c, db, pa, sg, lo⟩)) ∧ Below w.heap.size w w' := by
  have heq := fun w => run_eql_ptr 0 o d p 0 0 0 0 0 false 0 o d p el c pa sg lo db w
  have hp : peq 0 o d p 0 0 0 0 0 false 0 o d p el c pa sg lo db = true ∨ peq 0 o d p 0 0 0 0 0 false 0 o d p el c pa sg lo db = false := by cases peq 0 o d p 0 0 0 0 0 false 0 o d p el c pa sg lo db <;> simp
  rcases hp with hp | hp
  · have h2 := of_decide_eq_true hp
    have H2 := Lib.hid h2
    clear h2
    go_enter Tryz.func48, Tryz.ntmps48
    go_wp2_with (go_at_call 67; refine (offset_any _ _).mono ?_; rintro e w' ⟨rfl, rfl⟩)
    all_goals
      go_ret
      refine ⟨?_, ((Below.refl _ _).alloc (Nat.le_refl _) _).alloc (by simp) _⟩
      rw [ok0 _ _ _ _ _ _ _ _ _ s0 s1 l0, hp]
      first | (simp [*]; done) | (simp [*]; omega)
  · go_enter Tryz.func48, Tryz.ntmps48
    go_wp2_with (go_at_call 67; refine (offset_any _ _).mono ?_; rintro e w' ⟨rfl, rfl⟩)
    go_ret
    refine ⟨?_, ((Below.refl _ _).alloc (Nat.le_refl _) _).alloc (by simp) _⟩
    rw [ok0 _ _ _ _ _ _ _ _ _ s0 s1 l0, hp]
    rfl

theorem ok1 (o d p el c pa sg lo : Int) (db : Bool) (s0 : 0 ≤ sg) (s1 : sg < 4294967296) (l0 : 0 ≤ lo) : okE ⟨1, o, d, p, el, c, db, pa, sg, lo⟩ = (peq 1 o 0 0 el c 0 0 0 false 1 o d p el c pa sg lo db && (offB o && decide (0 ≤ el) && decide (el ≤ 7) && decide (0 ≤ c) && decide (c ≤ 536870911))) := by
  rw [Bool.eq_iff_iff]
  cases db <;> simp [okE, Vld, peq, offB] <;> omega

set_option maxHeartbeats 1000000 in
theorem RefValid1 (o d p el c pa sg lo : Int) (db : Bool) (w : World) (s0 : 0 ≤ sg) (s1 : sg < 4294967296) (l0 : 0 ≤ lo) :
    Calls Tryz.prog 48 #[.agg #[.int .i64 1, .int .i64 o, .int .i64 d, .int .i64 p, .int .i64 el, .int .i64 c, .bool db, .int .i64 pa, .int .u32 sg, .int .u32 lo]] w fun e w' => e = .returned (.bool (okE ⟨1, o, d, p, el, c, db, pa, sg, lo⟩)) ∧ Below w.heap.size w w' := by
  have heq := fun w => run_eql_ptr 1 o 0 0 el c 0 0 0 false 1 o d p el c pa sg lo db w
  have hp : peq 1 o 0 0 el c 0 0 0 false 1 o d p el c pa sg lo db = true ∨ peq 1 o 0 0 el c 0 0 0 false 1 o d p el c pa sg lo db = false := by cases peq 1 o 0 0 el c 0 0 0 false 1 o d p el c pa sg lo db <;> simp
  rcases hp with hp | hp
  · have h2 := of_decide_eq_true hp
    have H2 := Lib.hid h2
    clear h2
    go_enter Tryz.func48, Tryz.ntmps48
    go_wp2_with (go_at_call 67; refine (offset_any _ _).mono ?_; rintro e w' ⟨rfl, rfl⟩)
    all_goals
      go_ret
      refine ⟨?_, ((Below.refl _ _).alloc (Nat.le_refl _) _).alloc (by simp) _⟩
      rw [ok1 _ _ _ _ _ _ _ _ _ s0 s1 l0, hp]
      first | (simp [*]; done) | (simp [*]; omega)
  · go_enter Tryz.func48, Tryz.ntmps48
    go_wp2_with (go_at_call 67; refine (offset_any _ _).mono ?_; rintro e w' ⟨rfl, rfl⟩)
    go_ret
    refine ⟨?_, ((Below.refl _ _).alloc (Nat.le_refl _) _).alloc (by simp) _⟩
    rw [ok1 _ _ _ _ _ _ _ _ _ s0 s1 l0, hp]
    rfl

theorem ok2 (o d p el c pa sg lo : Int) (db : Bool) (s0 : 0 ≤ sg) (s1 : sg < 4294967296) (l0 : 0 ≤ lo) : okE ⟨2, o, d, p, el, c, db, pa, sg, lo⟩ = (peq 2 0 0 0 0 0 pa sg 0 db 2 o d p el c pa sg lo db && (decide (0 ≤ pa) && decide (pa ≤ 536870911))) := by
  rw [Bool.eq_iff_iff]
  cases db <;> simp [okE, Vld, peq, offB] <;> omega

set_option maxHeartbeats 1000000 in
theorem RefValid2 (o d p el c pa sg lo : Int) (db : Bool) (w : World) (s0 : 0 ≤ sg) (s1 : sg < 4294967296) (l0 : 0 ≤ lo) :
    Calls Tryz.prog 48 #[.agg #[.int .i64 2, .int .i64 o, .int .i64 d, .int .i64 p, .int .i64 el, .int .i64 c, .bool db, .int .i64 pa, .int .u32 sg, .int .u32 lo]] w fun e w' => e = .returned (.bool (okE ⟨2, o, d, p, el, c, db, pa, sg, lo⟩)) ∧ Below w.heap.size w w' := by
  have heq := fun w => run_eql_ptr 2 0 0 0 0 0 pa sg 0 db 2 o d p el c pa sg lo db w
  have hp : peq 2 0 0 0 0 0 pa sg 0 db 2 o d p el c pa sg lo db = true ∨ peq 2 0 0 0 0 0 pa sg 0 db 2 o d p el c pa sg lo db = false := by cases peq 2 0 0 0 0 0 pa sg 0 db 2 o d p el c pa sg lo db <;> simp
  rcases hp with hp | hp
  · have h2 := of_decide_eq_true hp
    have H2 := Lib.hid h2
    clear h2
    go_enter Tryz.func48, Tryz.ntmps48
    go_wp2_with (go_at_call 67; refine (offset_any _ _).mono ?_; rintro e w' ⟨rfl, rfl⟩)
    all_goals
      go_ret
      refine ⟨?_, ((Below.refl _ _).alloc (Nat.le_refl _) _).alloc (by simp) _⟩
      rw [ok2 _ _ _ _ _ _ _ _ _ s0 s1 l0, hp]
      first | (simp [*]; done) | (simp [*]; omega)
  · go_enter Tryz.func48, Tryz.ntmps48
    go_wp2_with (go_at_call 67; refine (offset_any _ _).mono ?_; rintro e w' ⟨rfl, rfl⟩)
    go_ret
    refine ⟨?_, ((Below.refl _ _).alloc (Nat.le_refl _) _).alloc (by simp) _⟩
    rw [ok2 _ _ _ _ _ _ _ _ _ s0 s1 l0, hp]
    rfl

theorem ok3 (o d p el c pa sg lo : Int) (db : Bool) (s0 : 0 ≤ sg) (s1 : sg < 4294967296) (l0 : 0 ≤ lo) : okE ⟨3, o, d, p, el, c, db, pa, sg, lo⟩ = (peq 3 0 0 0 0 0 0 sg lo false 3 o d p el c pa sg lo db && (decide (lo ≤ 1073741823))) := by
  rw [Bool.eq_iff_iff]
  cases db <;> simp [okE, Vld, peq, offB] <;> omega

set_option maxHeartbeats 1000000 in
theorem RefValid3 (o d p el c pa sg lo : Int) (db : Bool) (w : World) (s0 : 0 ≤ sg) (s1 : sg < 4294967296) (l0 : 0 ≤ lo) :
    Calls Tryz.prog 48 #[.agg #[.int .i64 3, .int .i64 o, .int .i64 d, .int .i64 p, .int .i64 el, .int .i64 c, .bool db, .int .i64 pa, .int .u32 sg, .int .u32 lo]] w fun e w' => e = .returned (.bool (okE ⟨3, o, d, p, el, c, db, pa, sg, lo⟩)) ∧ Below w.heap.size w w' := by
  have heq := fun w => run_eql_ptr 3 0 0 0 0 0 0 sg lo false 3 o d p el c pa sg lo db w
  have hp : peq 3 0 0 0 0 0 0 sg lo false 3 o d p el c pa sg lo db = true ∨ peq 3 0 0 0 0 0 0 sg lo false 3 o d p el c pa sg lo db = false := by cases peq 3 0 0 0 0 0 0 sg lo false 3 o d p el c pa sg lo db <;> simp
  rcases hp with hp | hp
  · have h2 := of_decide_eq_true hp
    have H2 := Lib.hid h2
    clear h2
    go_enter Tryz.func48, Tryz.ntmps48
    go_wp2_with (go_at_call 67; refine (offset_any _ _).mono ?_; rintro e w' ⟨rfl, rfl⟩)
    all_goals
      go_ret
      refine ⟨?_, ((Below.refl _ _).alloc (Nat.le_refl _) _).alloc (by simp) _⟩
      rw [ok3 _ _ _ _ _ _ _ _ _ s0 s1 l0, hp]
      first | (simp [*]; done) | (simp [*]; omega)
  · go_enter Tryz.func48, Tryz.ntmps48
    go_wp2_with (go_at_call 67; refine (offset_any _ _).mono ?_; rintro e w' ⟨rfl, rfl⟩)
    go_ret
    refine ⟨?_, ((Below.refl _ _).alloc (Nat.le_refl _) _).alloc (by simp) _⟩
    rw [ok3 _ _ _ _ _ _ _ _ _ s0 s1 l0, hp]
    rfl

theorem okN (k o d p el c pa sg lo : Int) (db : Bool) (h : k < 0 ∨ 3 < k) : okE ⟨k, o, d, p, el, c, db, pa, sg, lo⟩ = false := by
  unfold okE
  rw [decide_eq_false_iff_not]
  unfold Vld
  simp only
  omega

set_option maxHeartbeats 1000000 in
theorem RefValidN (k o d p el c pa sg lo : Int) (db : Bool) (w : World) (h : k < 0 ∨ 3 < k) :
    Calls Tryz.prog 48 #[.agg #[.int .i64 k, .int .i64 o, .int .i64 d, .int .i64 p, .int .i64 el, .int .i64 c, .bool db, .int .i64 pa, .int .u32 sg, .int .u32 lo]] w fun e w' => e = .returned (.bool (okE ⟨k, o, d, p, el, c, db, pa, sg, lo⟩)) ∧ Below w.heap.size w w' := by
  have h0 : (k == 0) = false := by rw [beq_eq_false_iff_ne]; omega
  have h1 : (k == 1) = false := by rw [beq_eq_false_iff_ne]; omega
  have h2 : (k == 2) = false := by rw [beq_eq_false_iff_ne]; omega
  have h3 : (k == 3) = false := by rw [beq_eq_false_iff_ne]; omega
  have HN := Lib.hid (okN k o d p el c pa sg lo db h)
  clear h
  go_enter Tryz.func48, Tryz.ntmps48
  go_wp2
  go_ret
  refine ⟨?_, ((Below.refl _ _).alloc (Nat.le_refl _) _).alloc (by simp) _⟩
  rw [HN.out]
  rfl

theorem RefValid_any (k o d p el c pa sg lo : Int) (db : Bool) (w : World) (s0 : 0 ≤ sg) (s1 : sg < 4294967296) (l0 : 0 ≤ lo) :
    Calls Tryz.prog 48 #[.agg #[.int .i64 k, .int .i64 o, .int .i64 d, .int .i64 p, .int .i64 el, .int .i64 c, .bool db, .int .i64 pa, .int .u32 sg, .int .u32 lo]] w fun e w' => e = .returned (.bool (okE ⟨k, o, d, p, el, c, db, pa, sg, lo⟩)) ∧ Below w.heap.size w w' := by
  by_cases h : k < 0 ∨ 3 < k
  · exact RefValidN k o d p el c pa sg lo db w h
  · have c4 : k = 0 ∨ k = 1 ∨ k = 2 ∨ k = 3 := by omega
    rcases c4 with rfl | rfl | rfl | rfl
    · exact RefValid0 o d p el c pa sg lo db w s0 s1 l0
    · exact RefValid1 o d p el c pa sg lo db w s0 s1 l0
    · exact RefValid2 o d p el c pa sg lo db w s0 s1 l0
    · exact RefValid3 o d p el c pa sg lo db w s0 s1 l0


set_option maxHeartbeats 1000000 in
theorem RefEncode_no (k o d p el c pa sg lo : Int) (db : Bool) (w : World) (s0 : 0 ≤ sg) (s1 : sg < 4294967296) (l0 : 0 ≤ lo) (hv : okE ⟨k, o, d, p, el, c, db, pa, sg, lo⟩ = false) :
    Calls Tryz.prog 25 #[.agg #[.int .i64 k, .int .i64 o, .int .i64 d, .int .i64 p, .int .i64 el, .int .i64 c, .bool db, .int .i64 pa, .int .u32 sg, .int .u32 lo]] w fun e w' => e = .returned (.tuple #[.int .u64 (encE ⟨k, o, d, p, el, c, db, pa, sg, lo⟩), .bool (okE ⟨k, o, d, p, el, c, db, pa, sg, lo⟩)]) ∧ Below w.heap.size w w' := by
  have HV := Lib.hid hv
  clear hv
  go_enter Tryz.func25, Tryz.ntmps25
  go_wp2_with fail
  refine (RefValid_any k o d p el c pa sg lo db _ s0 s1 l0).mono ?_
  rintro e w1 ⟨rfl, hb⟩
  rw [HV.out]
  have HB := Lib.hid hb
  clear hb
  go_wp2
  go_ret2
  exact ⟨by rw [encE, HV.out]; rfl, bel_on ((Below.refl _ _).alloc (Nat.le_refl _) _) HB.out⟩

set_option maxHeartbeats 1000000 in
theorem RefEncode0 (o d p el c pa sg lo : Int) (db : Bool) (w : World) (s0 : 0 ≤ sg) (s1 : sg < 4294967296) (l0 : 0 ≤ lo) (hv : Vld ⟨0, o, d, p, el, c, db, pa, sg, lo⟩) (hn : 0 ≤ o) :
    Calls Tryz.prog 25 #[.agg #[.int .i64 0, .int .i64 o, .int .i64 d, .int .i64 p, .int .i64 el, .int .i64 c, .bool db, .int .i64 pa, .int .u32 sg, .int .u32 lo]] w fun e w' => e = .returned (.tuple #[.int .u64 (encE ⟨0, o, d, p, el, c, db, pa, sg, lo⟩), .bool (okE ⟨0, o, d, p, el, c, db, pa, sg, lo⟩)]) ∧ Below w.heap.size w w' := by
  have hw := hv
  unfold Vld at hw
  simp at hw
  have b1 : -536870912 ≤ o ∧ o ≤ 536870911 := by omega
  have b2 : 0 ≤ d ∧ d ≤ 65535 := by omega
  have b3 : 0 ≤ p ∧ p ≤ 65535 := by omega
  have b4 : 0 ≤ el ∧ el ≤ 7 := by omega
  have b5 : 0 ≤ c ∧ c ≤ 536870911 := by omega
  have b6 : 0 ≤ pa ∧ pa ≤ 536870911 := by omega
  have b7 : lo ≤ 1073741823 := by omega
  clear hw
  have hk : okE ⟨0, o, d, p, el, c, db, pa, sg, lo⟩ = true := by simp [okE, hv]
  have HV := Lib.hid hk
  clear hk hv
  go_enter Tryz.func25, Tryz.ntmps25
  go_wp2_with fail
  refine (RefValid_any _ _ _ _ _ _ _ _ _ _ _ s0 s1 l0).mono ?_
  rintro e w1 ⟨rfl, hb⟩
  rw [HV.out]
  obtain ⟨hc, hf⟩ := bcell hb
  have hz : w.heap.size < w1.heap.size := by have := hb.size; simp at this; omega
  have HB := Lib.hid hb
  clear hb
  simp at hc hf
  go_wp2
  go_ret2
  refine ⟨?_, bel_on ((Below.refl _ _).alloc (Nat.le_refl _) _) HB.out⟩
  rw [encE, HV.out]
  simp [encW]
  omega

set_option maxHeartbeats 1000000 in
theorem RefEncode0n (o d p el c pa sg lo : Int) (db : Bool) (w : World) (s0 : 0 ≤ sg) (s1 : sg < 4294967296) (l0 : 0 ≤ lo) (hv : Vld ⟨0, o, d, p, el, c, db, pa, sg, lo⟩) (hn : o < 0) :
    Calls Tryz.prog 25 #[.agg #[.int .i64 0, .int .i64 o, .int .i64 d, .int .i64 p, .int .i64 el, .int .i64 c, .bool db, .int .i64 pa, .int .u32 sg, .int .u32 lo]] w fun e w' => e = .returned (.tuple #[.int .u64 (encE ⟨0, o, d, p, el, c, db, pa, sg, lo⟩), .bool (okE ⟨0, o, d, p, el, c, db, pa, sg, lo⟩)]) ∧ Below w.heap.size w w' := by
  have hw := hv
  unfold Vld at hw
  simp at hw
  have b1 : -536870912 ≤ o ∧ o ≤ 536870911 := by omega
  have b2 : 0 ≤ d ∧ d ≤ 65535 := by omega
  have b3 : 0 ≤ p ∧ p ≤ 65535 := by omega
  have b4 : 0 ≤ el ∧ el ≤ 7 := by omega
  have b5 : 0 ≤ c ∧ c ≤ 536870911 := by omega
  have b6 : 0 ≤ pa ∧ pa ≤ 536870911 := by omega
  have b7 : lo ≤ 1073741823 := by omega
  clear hw
  have hk : okE ⟨0, o, d, p, el, c, db, pa, sg, lo⟩ = true := by simp [okE, hv]
  have HV := Lib.hid hk
  clear hk hv
  go_enter Tryz.func25, Tryz.ntmps25
  go_wp2_with fail
  refine (RefValid_any _ _ _ _ _ _ _ _ _ _ _ s0 s1 l0).mono ?_
  rintro e w1 ⟨rfl, hb⟩
  rw [HV.out]
  obtain ⟨hc, hf⟩ := bcell hb
  have hz : w.heap.size < w1.heap.size := by have := hb.size; simp at this; omega
  have HB := Lib.hid hb
  clear hb
  simp at hc hf
  go_wp2
  go_ret2
  refine ⟨?_, bel_on ((Below.refl _ _).alloc (Nat.le_refl _) _) HB.out⟩
  rw [encE, HV.out]
  simp [encW]
  omega

set_option maxHeartbeats 1000000 in
theorem RefEncode1 (o d p el c pa sg lo : Int) (db : Bool) (w : World) (s0 : 0 ≤ sg) (s1 : sg < 4294967296) (l0 : 0 ≤ lo) (hv : Vld ⟨1, o, d, p, el, c, db, pa, sg, lo⟩) (hn : 0 ≤ o) :
    Calls Tryz.prog 25 #[.agg #[.int .i64 1, .int .i64 o, .int .i64 d, .int .i64 p, .int .i64 el, .int .i64 c, .bool db, .int .i64 pa, .int .u32 sg, .int .u32 lo]] w fun e w' => e = .returned (.tuple #[.int .u64 (encE ⟨1, o, d, p, el, c, db, pa, sg, lo⟩), .bool (okE ⟨1, o, d, p, el, c, db, pa, sg, lo⟩)]) ∧ Below w.heap.size w w' := by
  have hw := hv
  unfold Vld at hw
  simp at hw
  have b1 : -536870912 ≤ o ∧ o ≤ 536870911 := by omega
  have b2 : 0 ≤ d ∧ d ≤ 65535 := by omega
  have b3 : 0 ≤ p ∧ p ≤ 65535 := by omega
  have b4 : 0 ≤ el ∧ el ≤ 7 := by omega
  have b5 : 0 ≤ c ∧ c ≤ 536870911 := by omega
  have b6 : 0 ≤ pa ∧ pa ≤ 536870911 := by omega
  have b7 : lo ≤ 1073741823 := by omega
  clear hw
  have hk : okE ⟨1, o, d, p, el, c, db, pa, sg, lo⟩ = true := by simp [okE, hv]
  have HV := Lib.hid hk
  clear hk hv
  go_enter Tryz.func25, Tryz.ntmps25
  go_wp2_with fail
  refine (RefValid_any _ _ _ _ _ _ _ _ _ _ _ s0 s1 l0).mono ?_
  rintro e w1 ⟨rfl, hb⟩
  rw [HV.out]
  obtain ⟨hc, hf⟩ := bcell hb
  have hz : w.heap.size < w1.heap.size := by have := hb.size; simp at this; omega
  have HB := Lib.hid hb
  clear hb
  simp at hc hf
  go_wp2
  go_ret2
  refine ⟨?_, bel_on ((Below.refl _ _).alloc (Nat.le_refl _) _) HB.out⟩
  rw [encE, HV.out]
  simp [encW]
  omega

set_option maxHeartbeats 1000000 in
theorem RefEncode1n (o d p el c pa sg lo : Int) (db : Bool) (w : World) (s0 : 0 ≤ sg) (s1 : sg < 4294967296) (l0 : 0 ≤ lo) (hv : Vld ⟨1, o, d, p, el, c, db, pa, sg, lo⟩) (hn : o < 0) :
    Calls Tryz.prog 25 #[.agg #[.int .i64 1, .int .i64 o, .int .i64 d, .int .i64 p, .int .i64 el, .int .i64 c, .bool db, .int .i64 pa, .int .u32 sg, .int .u32 lo]] w fun e w' => e = .returned (.tuple #[.int .u64 (encE ⟨1, o, d, p, el, c, db, pa, sg, lo⟩), .bool (okE ⟨1, o, d, p, el, c, db, pa, sg, lo⟩)]) ∧ Below w.heap.size w w' := by
  have hw := hv
  unfold Vld at hw
  simp at hw
  have b1 : -536870912 ≤ o ∧ o ≤ 536870911 := by omega
  have b2 : 0 ≤ d ∧ d ≤ 65535 := by omega
  have b3 : 0 ≤ p ∧ p ≤ 65535 := by omega
  have b4 : 0 ≤ el ∧ el ≤ 7 := by omega
  have b5 : 0 ≤ c ∧ c ≤ 536870911 := by omega
  have b6 : 0 ≤ pa ∧ pa ≤ 536870911 := by omega
  have b7 : lo ≤ 1073741823 := by omega
  clear hw
  have hk : okE ⟨1, o, d, p, el, c, db, pa, sg, lo⟩ = true := by simp [okE, hv]
  have HV := Lib.hid hk
  clear hk hv
  go_enter Tryz.func25, Tryz.ntmps25
  go_wp2_with fail
  refine (RefValid_any _ _ _ _ _ _ _ _ _ _ _ s0 s1 l0).mono ?_
  rintro e w1 ⟨rfl, hb⟩
  rw [HV.out]
  obtain ⟨hc, hf⟩ := bcell hb
  have hz : w.heap.size < w1.heap.size := by have := hb.size; simp at this; omega
  have HB := Lib.hid hb
  clear hb
  simp at hc hf
  go_wp2
  go_ret2
  refine ⟨?_, bel_on ((Below.refl _ _).alloc (Nat.le_refl _) _) HB.out⟩
  rw [encE, HV.out]
  simp [encW]
  omega

set_option maxHeartbeats 1000000 in
theorem RefEncode2_true (o d p el c pa sg lo : Int) (w : World) (s0 : 0 ≤ sg) (s1 : sg < 4294967296) (l0 : 0 ≤ lo) (hv : Vld ⟨2, o, d, p, el, c, true, pa, sg, lo⟩) :
    Calls Tryz.prog 25 #[.agg #[.int .i64 2, .int .i64 o, .int .i64 d, .int .i64 p, .int .i64 el, .int .i64 c, .bool true, .int .i64 pa, .int .u32 sg, .int .u32 lo]] w fun e w' => e = .returned (.tuple #[.int .u64 (encE ⟨2, o, d, p, el, c, true, pa, sg, lo⟩), .bool (okE ⟨2, o, d, p, el, c, true, pa, sg, lo⟩)]) ∧ Below w.heap.size w w' := by
  have hw := hv
  unfold Vld at hw
  simp at hw
  have b1 : -536870912 ≤ o ∧ o ≤ 536870911 := by omega
  have b2 : 0 ≤ d ∧ d ≤ 65535 := by omega
  have b3 : 0 ≤ p ∧ p ≤ 65535 := by omega
  have b4 : 0 ≤ el ∧ el ≤ 7 := by omega
  have b5 : 0 ≤ c ∧ c ≤ 536870911 := by omega
  have b6 : 0 ≤ pa ∧ pa ≤ 536870911 := by omega
  have b7 : lo ≤ 1073741823 := by omega
  have b8 : 0 ≤ o := by omega
  clear hw
  have hk : okE ⟨2, o, d, p, el, c, true, pa, sg, lo⟩ = true := by simp [okE, hv]
  have HV := Lib.hid hk
  clear hk hv
  go_enter Tryz.func25, Tryz.ntmps25
  go_wp2_with fail
  refine (RefValid_any _ _ _ _ _ _ _ _ _ _ _ s0 s1 l0).mono ?_
  rintro e w1 ⟨rfl, hb⟩
  rw [HV.out]
  obtain ⟨hc, hf⟩ := bcell hb
  have hz : w.heap.size < w1.heap.size := by have := hb.size; simp at this; omega
  have HB := Lib.hid hb
  clear hb
  simp at hc hf
  go_wp2
  go_ret2
  refine ⟨?_, bel_on ((Below.refl _ _).alloc (Nat.le_refl _) _) HB.out⟩
  rw [encE, HV.out]
  simp [encW]
  omega

set_option maxHeartbeats 1000000 in
theorem RefEncode2_false (o d p el c pa sg lo : Int) (w : World) (s0 : 0 ≤ sg) (s1 : sg < 4294967296) (l0 : 0 ≤ lo) (hv : Vld ⟨2, o, d, p, el, c, false, pa, sg, lo⟩) :
    Calls Tryz.prog 25 #[.agg #[.int .i64 2, .int .i64 o, .int .i64 d, .int .i64 p, .int .i64 el, .int .i64 c, .bool false, .int .i64 pa, .int .u32 sg, .int .u32 lo]] w fun e w' => e = .returned (.tuple #[.int .u64 (encE ⟨2, o, d, p, el, c, false, pa, sg, lo⟩), .bool (okE ⟨2, o, d, p, el, c, false, pa, sg, lo⟩)]) ∧ Below w.heap.size w w' := by
  have hw := hv
  unfold Vld at hw
  simp at hw
  have b1 : -536870912 ≤ o ∧ o ≤ 536870911 := by omega
  have b2 : 0 ≤ d ∧ d ≤ 65535 := by omega
  have b3 : 0 ≤ p ∧ p ≤ 65535 := by omega
  have b4 : 0 ≤ el ∧ el ≤ 7 := by omega
  have b5 : 0 ≤ c ∧ c ≤ 536870911 := by omega
  have b6 : 0 ≤ pa ∧ pa ≤ 536870911 := by omega
  have b7 : lo ≤ 1073741823 := by omega
  have b8 : 0 ≤ o := by omega
  clear hw
  have hk : okE ⟨2, o, d, p, el, c, false, pa, sg, lo⟩ = true := by simp [okE, hv]
  have HV := Lib.hid hk
  clear hk hv
  go_enter Tryz.func25, Tryz.ntmps25
  go_wp2_with fail
  refine (RefValid_any _ _ _ _ _ _ _ _ _ _ _ s0 s1 l0).mono ?_
  rintro e w1 ⟨rfl, hb⟩
  rw [HV.out]
  obtain ⟨hc, hf⟩ := bcell hb
  have hz : w.heap.size < w1.heap.size := by have := hb.size; simp at this; omega
  have HB := Lib.hid hb
  clear hb
  simp at hc hf
  go_wp2
  go_ret2
  refine ⟨?_, bel_on ((Below.refl _ _).alloc (Nat.le_refl _) _) HB.out⟩
  rw [encE, HV.out]
  simp [encW]
  omega

set_option maxHeartbeats 1000000 in
theorem RefEncode3 (o d p el c pa sg lo : Int) (db : Bool) (w : World) (s0 : 0 ≤ sg) (s1 : sg < 4294967296) (l0 : 0 ≤ lo) (hv : Vld ⟨3, o, d, p, el, c, db, pa, sg, lo⟩) :
    Calls Tryz.prog 25 #[.agg #[.int .i64 3, .int .i64 o, .int .i64 d, .int .i64 p, .int .i64 el, .int .i64 c, .bool db, .int .i64 pa, .int .u32 sg, .int .u32 lo]] w fun e w' => e = .returned (.tuple #[.int .u64 (encE ⟨3, o, d, p, el, c, db, pa, sg, lo⟩), .bool (okE ⟨3, o, d, p, el, c, db, pa, sg, lo⟩)]) ∧ Below w.heap.size w w' := by
  have hw := hv
  unfold Vld at hw
  simp at hw
  have b1 : -536870912 ≤ o ∧ o ≤ 536870911 := by omega
  have b2 : 0 ≤ d ∧ d ≤ 65535 := by omega
  have b3 : 0 ≤ p ∧ p ≤ 65535 := by omega
  have b4 : 0 ≤ el ∧ el ≤ 7 := by omega
  have b5 : 0 ≤ c ∧ c ≤ 536870911 := by omega
  have b6 : 0 ≤ pa ∧ pa ≤ 536870911 := by omega
  have b7 : lo ≤ 1073741823 := by omega
  have b8 : 0 ≤ o := by omega
  clear hw
  have hk : okE ⟨3, o, d, p, el, c, db, pa, sg, lo⟩ = true := by simp [okE, hv]
  have HV := Lib.hid hk
  clear hk hv
  go_enter Tryz.func25, Tryz.ntmps25
  go_wp2_with fail
  refine (RefValid_any _ _ _ _ _ _ _ _ _ _ _ s0 s1 l0).mono ?_
  rintro e w1 ⟨rfl, hb⟩
  rw [HV.out]
  obtain ⟨hc, hf⟩ := bcell hb
  have hz : w.heap.size < w1.heap.size := by have := hb.size; simp at this; omega
  have HB := Lib.hid hb
  clear hb
  simp at hc hf
  go_wp2
  go_ret2
  refine ⟨?_, bel_on ((Below.refl _ _).alloc (Nat.le_refl _) _) HB.out⟩
  rw [encE, HV.out]
  simp [encW]
  omega

theorem RefEncode_any (k o d p el c pa sg lo : Int) (db : Bool) (w : World) (s0 : 0 ≤ sg) (s1 : sg < 4294967296) (l0 : 0 ≤ lo) :
    Calls Tryz.prog 25 #[.agg #[.int .i64 k, .int .i64 o, .int .i64 d, .int .i64 p, .int .i64 el, .int .i64 c, .bool db, .int .i64 pa, .int .u32 sg, .int .u32 lo]] w fun e w' => e = .returned (.tuple #[.int .u64 (encE ⟨k, o, d, p, el, c, db, pa, sg, lo⟩), .bool (okE ⟨k, o, d, p, el, c, db, pa, sg, lo⟩)]) ∧ Below w.heap.size w w' := by
  by_cases hv : Vld ⟨k, o, d, p, el, c, db, pa, sg, lo⟩
  · have hk : 0 ≤ k ∧ k ≤ 3 := by have h := hv; unfold Vld at h; simp at h; omega
    have c4 : k = 0 ∨ k = 1 ∨ k = 2 ∨ k = 3 := by omega
    rcases c4 with rfl | rfl | rfl | rfl
    · by_cases hn : 0 ≤ o
      · exact RefEncode0 o d p el c pa sg lo db w s0 s1 l0 hv hn
      · exact RefEncode0n o d p el c pa sg lo db w s0 s1 l0 hv (by omega)
    · by_cases hn : 0 ≤ o
      · exact RefEncode1 o d p el c pa sg lo db w s0 s1 l0 hv hn
      · exact RefEncode1n o d p el c pa sg lo db w s0 s1 l0 hv (by omega)
    · cases db
      · exact RefEncode2_false o d p el c pa sg lo w s0 s1 l0 hv
      · exact RefEncode2_true o d p el c pa sg lo w s0 s1 l0 hv
    · exact RefEncode3 o d p el c pa sg lo db w s0 s1 l0 hv
  · exact RefEncode_no k o d p el c pa sg lo db w s0 s1 l0 (by simp [okE, hv])
end Go.Proofs.YtnmanhediiooaaaGreatDoor

/- What the reference functions of layer 5 do, and the small ones of layer 4, each by a contract. -/
namespace Go.Proofs.YtnmanhediiooaaaGreatDoor
open Go.ChangeShapes Go.WideShapes Go.ChangeAt Go.RowKit
set_option linter.unusedVariables false
set_option linter.unusedSimpArgs false
set_option maxRecDepth 100000

theorem Few_any (A : Option Addr) (c : Nat) (ls : List (List Int)) (w : World) (hs : Sg w A ls) (hm : ls.length ≤ 9223372036854775807) :
    Calls Tryz.prog 13 #[.slice A ls.length c] w fun e w' => e = .returned (.bool (fewB ls)) ∧ w = w' := by
  have Hs := Lib.hid hs
  clear hs
  go_enter Tryz.func13, Tryz.ntmps13
  go_wp2
  go_loop [3] (fun i => ∃ k : Nat, k ≤ ls.length ∧ i = .int .i64 k ∧ ∀ j, j < k → (seg ls j).length ≤ 300) (fun i => ls.length - (intOf i).toNat)
  case atStart => exact ⟨0, by omega, rfl, by intro j hj; omega⟩
  case round =>
    obtain ⟨k, hk, rfl, hfew⟩ := hrel
    have HF := Lib.hid hfew
    clear hfew
    by_cases hlt : k < ls.length
    · obtain ⟨b, off, A', c', rfl, hcell, hri, -, -, -⟩ := Hs.out.one hlt
      have hi1 : (k : Int) < (ls.length : Int) := by omega
      clear hri
      by_cases h3 : (seg ls k).length ≤ 300
      · have h4 : ¬ (300 : Int) < ((seg ls k).length : Int) := by omega
        have H3 := Lib.hid h3
        go_wp2
        go_round
        case rel => exact ⟨k + 1, by omega, by go_num, fun j hj => by
          by_cases e : j = k
          · subst e; exact H3.out
          · exact HF.out j (by omega)⟩
        case measure => simp [intOf]; omega
      · have h4 : (300 : Int) < ((seg ls k).length : Int) := by omega
        have HR : Hid (fewB ls = false) := Lib.hid (by
          unfold fewB
          simp
          intro hh
          exact absurd (hh k hlt) h3)
        go_wp2
        go_ret
        exact ⟨by rw [HR.out]; rfl, rfl⟩
    · obtain rfl : k = ls.length := by omega
      have HR : Hid (fewB ls = decide ((ls.length : Int) ≤ 20)) := Lib.hid (by
        unfold fewB
        rw [decide_eq_decide]
        constructor
        · intro h; omega
        · intro h; exact ⟨HF.out, by omega⟩)
      go_wp2
      go_ret
      exact ⟨by rw [HR.out]; rfl, rfl⟩

theorem RefInBounds_any (A : Option Addr) (c : Nat) (ls : List (List Int)) (s a n : Int) (w : World) (hs : Sg w A ls) (hm : ls.length ≤ 140737488355328) :
    Calls Tryz.prog 63 #[.slice A ls.length c, .int .i64 s, .int .i64 a, .int .i64 n] w fun e w' => e = .returned (.bool (inB ls s a n)) ∧ w = w' := by
  have Hs := Lib.hid hs
  clear hs
  by_cases h1 : s < 0
  · have HR : Hid (inB ls s a n = false) := Lib.hid (by unfold inB; simp; omega)
    go_enter Tryz.func63, Tryz.ntmps63
    go_wp2
    go_ret
    exact ⟨by rw [HR.out]; rfl, rfl⟩
  by_cases h2 : (ls.length : Int) ≤ s
  · have HR : Hid (inB ls s a n = false) := Lib.hid (by unfold inB; simp; omega)
    go_enter Tryz.func63, Tryz.ntmps63
    go_wp2
    go_ret
    exact ⟨by rw [HR.out]; rfl, rfl⟩
  by_cases h3 : a < 0
  · have HR : Hid (inB ls s a n = false) := Lib.hid (by unfold inB; simp; omega)
    go_enter Tryz.func63, Tryz.ntmps63
    go_wp2
    go_ret
    exact ⟨by rw [HR.out]; rfl, rfl⟩
  by_cases h4 : n < 0
  · have HR : Hid (inB ls s a n = false) := Lib.hid (by unfold inB; simp; omega)
    go_enter Tryz.func63, Tryz.ntmps63
    go_wp2
    go_ret
    exact ⟨by rw [HR.out]; rfl, rfl⟩
  obtain ⟨k, rfl⟩ := Int.eq_ofNat_of_zero_le (by omega : 0 ≤ s)
  obtain ⟨b, off, A', c', rfl, hcell, hri, -, hc1, hc2⟩ := Hs.out.one (i := k) (by omega)
  clear hri
  have hk2 : (k : Int) < (ls.length : Int) := by omega
  by_cases h5 : a ≤ (seg ls k).length
  · have HR : Hid (inB ls k a n = decide (n ≤ (seg ls k).length - a)) := Lib.hid (by
      unfold inB
      rw [decide_eq_decide, Int.toNat_natCast]
      constructor
      · intro h; omega
      · intro h; omega)
    go_enter Tryz.func63, Tryz.ntmps63
    go_wp2
    go_ret
    exact ⟨by rw [HR.out]; rfl, rfl⟩
  · have HR : Hid (inB ls k a n = false) := Lib.hid (by unfold inB; simp; omega)
    go_enter Tryz.func63, Tryz.ntmps63
    go_wp2
    go_ret
    exact ⟨by rw [HR.out]; rfl, rfl⟩

theorem RefWord_no (A : Option Addr) (c : Nat) (ls : List (List Int)) (s a : Int) (w : World) (hs : Sg w A ls) (hm : ls.length ≤ 140737488355328) (hh : hasB ls s a = false) :
    Calls Tryz.prog 59 #[.slice A ls.length c, .int .i64 s, .int .i64 a] w fun e w' => e = .returned (.tuple #[.int .u64 0, .bool false]) ∧ w = w' := by
  have Hs := Lib.hid hs
  have hno : ∀ i q : Nat, i < ls.length → q < (seg ls i).length → (i : Int) = s → (q : Int) = a → False := by
    intro i q h1 h2 h3 h4
    subst h3 h4
    unfold hasB at hh
    rw [decide_eq_false_iff_not, Int.toNat_natCast] at hh
    omega
  have HN := Lib.hid hno
  clear hs hno hh
  go_enter Tryz.func59, Tryz.ntmps59
  go_wp2
  go_loop [8] (fun x => ∃ i : Nat, i ≤ ls.length ∧ x = .int .i64 i) (fun x => ls.length - (intOf x).toNat)
  case atStart => exact ⟨0, by omega, rfl⟩
  case round =>
    obtain ⟨i, hi, rfl⟩ := hrel
    by_cases hlt : i < ls.length
    · obtain ⟨b, off, A', c', rfl, hcell, hri, -, hc1, hc2⟩ := Hs.out.one hlt
      have hi1 : (i : Int) < (ls.length : Int) := by omega
      clear hri
      go_wp2
      go_loop [9] (fun x => ∃ q : Nat, q ≤ (seg ls i).length ∧ x = .int .i64 q) (fun x => (seg ls i).length - (intOf x).toNat)
      case atStart => exact ⟨0, by omega, rfl⟩
      case round =>
        obtain ⟨q, hq, rfl⟩ := hrel
        by_cases hlt2 : q < (seg ls i).length
        · have hq1 : (q : Int) < ((seg ls i).length : Int) := by omega
          by_cases e1 : (i : Int) = s
          · have e2 : ((q : Int) == a) = false := by rw [beq_eq_false_iff_ne]; exact fun h => HN.out i q hlt hlt2 e1 h
            have e3 : ((i : Int) == s) = true := by rw [beq_iff_eq]; exact e1
            clear e1
            go_wp2
            go_round
            case rel => exact ⟨q + 1, by omega, by go_num⟩
            case measure => simp [intOf]; omega
          · have e3 : ((i : Int) == s) = false := by rw [beq_eq_false_iff_ne]; exact e1
            clear e1
            go_wp2
            go_round
            case rel => exact ⟨q + 1, by omega, by go_num⟩
            case measure => simp [intOf]; omega
        · have hq1 : ¬ (q : Int) < ((seg ls i).length : Int) := by omega
          go_wp2
          go_round
          case rel => exact ⟨i + 1, by omega, by go_num⟩
          case measure => simp [intOf]; omega
    · obtain rfl : i = ls.length := by omega
      go_wp2
      go_ret2
      exact ⟨rfl, rfl⟩

theorem RefWord_yes (A : Option Addr) (c : Nat) (ls : List (List Int)) (S K : Nat) (w : World) (hs : Sg w A ls) (hm : ls.length ≤ 140737488355328) (hS : S < ls.length) (hK : K < (seg ls S).length) :
    Calls Tryz.prog 59 #[.slice A ls.length c, .int .i64 S, .int .i64 K] w fun e w' => e = .returned (.tuple #[.int .u64 (zat (seg ls S) K), .bool true]) ∧ w = w' := by
  have Hs := Lib.hid hs
  clear hs
  go_enter Tryz.func59, Tryz.ntmps59
  go_wp2
  go_loop [8] (fun x => ∃ i : Nat, i ≤ S ∧ x = .int .i64 i) (fun x => ls.length - (intOf x).toNat)
  case atStart => exact ⟨0, by omega, rfl⟩
  case round =>
    obtain ⟨i, hi, rfl⟩ := hrel
    have hlt : i < ls.length := by omega
    obtain ⟨b, off, A', c', rfl, hcell, hri, -, hc1, hc2⟩ := Hs.out.one hlt
    have hi1 : (i : Int) < (ls.length : Int) := by omega
    by_cases e1 : i = S
    · subst e1
      obtain ⟨b2, off2, rfl, hw⟩ := hri.at hK
      have hword := hw K hK
      clear hw hri
      go_wp2
      go_loop [9] (fun x => ∃ q : Nat, q ≤ K ∧ x = .int .i64 q) (fun x => (seg ls i).length - (intOf x).toNat)
      case atStart => exact ⟨0, by omega, rfl⟩
      case round =>
        obtain ⟨q, hq, rfl⟩ := hrel
        have hq1 : (q : Int) < ((seg ls i).length : Int) := by omega
        by_cases e2 : q = K
        · subst e2
          go_wp2
          go_ret2
          exact ⟨rfl, rfl⟩
        · have e3 : ((q : Int) == (K : Int)) = false := by rw [beq_eq_false_iff_ne]; omega
          go_wp2
          go_round
          case rel => exact ⟨q + 1, by omega, by go_num⟩
          case measure => simp [intOf]; omega
    · have e3 : ((i : Int) == (S : Int)) = false := by rw [beq_eq_false_iff_ne]; omega
      clear hri
      go_wp2
      go_loop [9] (fun x => ∃ q : Nat, q ≤ (seg ls i).length ∧ x = .int .i64 q) (fun x => (seg ls i).length - (intOf x).toNat)
      case atStart => exact ⟨0, by omega, rfl⟩
      case round =>
        obtain ⟨q, hq, rfl⟩ := hrel
        by_cases hlt2 : q < (seg ls i).length
        · have hq1 : (q : Int) < ((seg ls i).length : Int) := by omega
          go_wp2
          go_round
          case rel => exact ⟨q + 1, by omega, by go_num⟩
          case measure => simp [intOf]; omega
        · have hq1 : ¬ (q : Int) < ((seg ls i).length : Int) := by omega
          go_wp2
          go_round
          case rel => exact ⟨i + 1, by omega, by go_num⟩
          case measure => simp [intOf]; omega

theorem RefWord_any (A : Option Addr) (c : Nat) (ls : List (List Int)) (s a : Int) (w : World) (hs : Sg w A ls) (hm : ls.length ≤ 140737488355328) :
    Calls Tryz.prog 59 #[.slice A ls.length c, .int .i64 s, .int .i64 a] w fun e w' => e = .returned (.tuple #[.int .u64 (wordV ls s a), .bool (hasB ls s a)]) ∧ w = w' := by
  cases hh : hasB ls s a
  · exact (RefWord_no A c ls s a w hs hm hh).mono fun e w' ⟨h1, h2⟩ => ⟨h1.trans (by simp [wordV, hh]), h2⟩
  · have h := hh
    unfold hasB at h
    have h2 := of_decide_eq_true h
    obtain ⟨S, rfl⟩ := Int.eq_ofNat_of_zero_le h2.1
    obtain ⟨K, rfl⟩ := Int.eq_ofNat_of_zero_le h2.2.2.1
    rw [Int.toNat_natCast] at h2
    exact (RefWord_yes A c ls S K w hs hm (by omega) (by omega)).mono fun e w' ⟨h3, h4⟩ => ⟨h3.trans (by simp [wordV, hh]), h4⟩

theorem sliceL_length {ls : List (List Int)} {s a n : Int} (h : inB ls s a n = true) : ((sliceL ls s a n).length : Int) = n := by
  have h2 := of_decide_eq_true h
  unfold sliceL
  rw [List.length_take, List.length_drop]
  omega

theorem RefSlice_no (A : Option Addr) (c : Nat) (ls : List (List Int)) (s a n : Int) (w : World) (hs : Sg w A ls) (hm : ls.length ≤ 140737488355328) (hh : inB ls s a n = false) :
    Calls Tryz.prog 40 #[.slice A ls.length c, .int .i64 s, .int .i64 a, .int .i64 n] w fun e w' => e = .returned (.tuple #[.slice none 0 0, .bool false]) ∧ w = w' := by
  have HH := Lib.hid hh
  clear hh
  go_enter Tryz.func40, Tryz.ntmps40
  go_wp2_with fail
  refine (RefInBounds_any _ _ _ _ _ _ _ hs hm).mono ?_
  rintro e w' ⟨rfl, rfl⟩
  rw [HH.out]
  go_wp2
  go_ret2
  exact ⟨rfl, rfl⟩

set_option maxRecDepth 100000 in
theorem RefSlice_yes (A : Option Addr) (c : Nat) (ls : List (List Int)) (S K n : Nat) (w : World) (hs : Sg w A ls) (hm : ls.length ≤ 140737488355328) (hS : S < ls.length) (hK : K + n ≤ (seg ls S).length) (hlen : (seg ls S).length ≤ 17592186044415) (hh : inB ls S K n = true) :
    Calls Tryz.prog 40 #[.slice A ls.length c, .int .i64 S, .int .i64 K, .int .i64 n] w fun e w' => ∃ v, e = .returned (.tuple #[v, .bool true]) ∧ Got w' w.heap.size 41 .u64 v (sliceL ls S K n) ∧ Below w.heap.size w w' := by
  obtain ⟨i0, hi, hz0, hz1, hz2⟩ := info_parts int64_info
  have HL0 := sliceL_length hh
  have HL : Hid ((sliceL ls S K n).length = n) := Lib.hid (by omega)
  have HZ : Hid (∀ q, q < n → zat (sliceL ls S K n) q = zat (seg ls S) (K + q)) := Lib.hid (by
    intro q hq
    unfold sliceL
    rw [Int.toNat_natCast, Int.toNat_natCast, Int.toNat_natCast, zat_take _ _ _ hq, zat_drop])
  have Hs := Lib.hid hs
  have HH := Lib.hid hh
  clear hs hh HL0
  go_enter Tryz.func40, Tryz.ntmps40
  go_wp2_with fail
  refine (RefInBounds_any _ _ _ _ _ _ _ Hs.out hm).mono ?_
  rintro e w' ⟨rfl, rfl⟩
  rw [HH.out]
  go_wp2
  go_loopw [10, 11] (fun v x wr => ∃ q : Nat, q ≤ n ∧ x = .int .i64 q ∧ Got wr w.heap.size 41 .u64 v ((sliceL ls S K n).take q) ∧ Below w.heap.size w wr) (fun _ x _ => n - (intOf x).toNat)
  case atStart => exact ⟨0, by omega, rfl, Got.empty _ _ _ _, Below.refl _ _⟩
  case round =>
    obtain ⟨q, hq, rfl, hgk, hbk⟩ := hrel
    by_cases hlt : q < n
    · have hsg := Hs.out.below hbk (Nat.le_refl _)
      obtain ⟨b, off, A', c', rfl, hcell, hri, -, hc1, hc2⟩ := hsg.one hS
      obtain ⟨b2, off2, rfl, hw⟩ := hri.at (i := K + q) (by omega)
      have hword := hw (K + q) (by omega)
      have hq1 : (q : Int) < (n : Int) := by omega
      have hq2 : (K : Int) + q < ((seg ls S).length : Int) := by omega
      have hS1 : (S : Int) < (ls.length : Int) := by omega
      have HLK : Hid (((sliceL ls S K n).take q).length = q) := Lib.hid (by rw [List.length_take, HL.out]; omega)
      have HT : Hid ((sliceL ls S K n).take (q + 1) = (sliceL ls S K n).take q ++ [zat (seg ls S) (K + q)]) := Lib.hid (by rw [take_succ_zat _ _ (by rw [HL.out]; omega), HZ.out q hlt])
      have hsz := hbk.size
      have HB := Lib.hid hbk
      clear hsg hri hw hbk
      go_wp2_with (at_builtin; refine wpList_app1 rfl (.tmp 23) (.tmp 33) 46 rfl Tryz.underlying46 hi hz0 hz1 hz2 rfl hgk rfl (by rw [HLK.out]; unfold maxLen; omega) (by rw [HLK.out]; omega) hsz ?_; intro v1 w1 hg1 hb1)
      go_roundw
      case rel => exact ⟨q + 1, by omega, by go_num, by rw [HT.out]; exact hg1, HB.out.trans hb1⟩
      case measure => simp [intOf]; omega
    · obtain rfl : q = n := by omega
      go_wp2
      go_ret2
      exact ⟨_, rfl, hgk.cast rfl (by rw [List.take_of_length_le (by rw [HL.out]; omega)]), hbk⟩

end Go.Proofs.YtnmanhediiooaaaGreatDoor
