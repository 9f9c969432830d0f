/- Trimming as a function on trees: the words and pointers that stay, the trimmed node, the uniform size. -/
import Derived.Test.YtcmljjhnfpfcfaaDoorNode
namespace Go.Proofs.YtcmljjhnfpfcfaaDoor
open Go.ChangeShapes Go.WideShapes Go.ChangeAt Go.RowKit
set_option linter.unusedVariables false
set_option linter.unusedSimpArgs false
set_option maxRecDepth 100000

/-- the words up to the last byte, of the first i, that is not zero -/
def wordsF (d : List Int) : Nat → Nat
  | 0 => 0
  | i + 1 => if zat d i = 0 then wordsF d i else i / 8 + 1
def wordsT (d : List Int) : Nat := wordsF d d.length
def kAt (ks : List Nd) (i : Nat) : Int := (ks[i]?.map Nd.k).getD 0
/-- the pointers up to the last one, of the first i, that is not null -/
def ptrsF (ks : List Nd) : Nat → Nat
  | 0 => 0
  | i + 1 => if kAt ks i = 0 then ptrsF ks i else i + 1
def ptrsT (ks : List Nd) : Nat := ptrsF ks ks.length
theorem kAt_get {ks : List Nd} {i : Nat} (h : i < ks.length) : kAt ks i = (ks[i]).k := by simp [kAt, h]
theorem wordsF_le (d : List Int) : ∀ i, 8 * wordsF d i < i + 8
  | 0 => by simp [wordsF]
  | i + 1 => by
    have := wordsF_le d i
    unfold wordsF
    split <;> omega
theorem wordsT_le (d : List Int) (h : d.length % 8 = 0) : 8 * wordsT d ≤ d.length := by
  have := wordsF_le d d.length
  unfold wordsT
  omega
theorem ptrsF_le (ks : List Nd) : ∀ i, ptrsF ks i ≤ i
  | 0 => by simp [ptrsF]
  | i + 1 => by
    have := ptrsF_le ks i
    unfold ptrsF
    split <;> omega
theorem ptrsT_le (ks : List Nd) : ptrsT ks ≤ ks.length := ptrsF_le ks ks.length

mutual
/-- the trimmed node -/
def trimN : Nd → Nd
  | .mk k e n d ks => .mk k e n (if k = 1 then d.take (8 * wordsT d) else d) (if k = 1 then (trimK ks).take (ptrsT ks) else trimK ks)
def trimK : List Nd → List Nd
  | [] => []
  | x :: xs => trimN x :: trimK xs
end
theorem trimK_map (ks : List Nd) : trimK ks = ks.map trimN := by
  induction ks with
  | nil => simp [trimK]
  | cons x xs ih => simp [trimK, ih]
theorem trimK_length (ks : List Nd) : (trimK ks).length = ks.length := by rw [trimK_map, List.length_map]
theorem trimK_get (ks : List Nd) (j : Nat) (h : j < ks.length) : (trimK ks)[j]'(by rw [trimK_length]; exact h) = trimN ks[j] := by simp [trimK_map]
theorem trimK_take (ks : List Nd) (j : Nat) : trimK (ks.take j) = (trimK ks).take j := by simp [trimK_map, List.map_take]
theorem trimN_k (x : Nd) : (trimN x).k = x.k := by obtain ⟨k, e, n, d, ks⟩ := x; simp [trimN, Nd.k]
theorem trimN_e (x : Nd) : (trimN x).e = x.e := by obtain ⟨k, e, n, d, ks⟩ := x; simp [trimN, Nd.e]
theorem trimN_n (x : Nd) : (trimN x).n = x.n := by obtain ⟨k, e, n, d, ks⟩ := x; simp [trimN, Nd.n]

mutual
/-- is the node trimmed? -/
def trimmedN : Nd → Bool
  | .mk k e n d ks => decide (k = 1 → 8 * wordsT d = d.length ∧ ptrsT ks = ks.length) && trimmedK ks
def trimmedK : List Nd → Bool
  | [] => true
  | x :: xs => trimmedN x && trimmedK xs
end
theorem trimmedK_append (a b : List Nd) : trimmedK (a ++ b) = (trimmedK a && trimmedK b) := by
  induction a with
  | nil => simp [trimmedK]
  | cons x xs ih => simp only [List.cons_append, trimmedK, ih, Bool.and_assoc]
theorem trimmedK_take (l : List Nd) (j : Nat) (h : j < l.length) : trimmedK (l.take (j + 1)) = (trimmedK (l.take j) && trimmedN l[j]) := by
  rw [List.take_succ_eq_append_getElem h, trimmedK_append]
  simp [trimmedK]
theorem trimmedK_no (l : List Nd) (j : Nat) (h : j < l.length) (hb : trimmedN l[j] = false) : trimmedK l = false := by
  have h1 := trimmedK_take l j h
  have h2 := trimmedK_append (l.take (j + 1)) (l.drop (j + 1))
  rw [List.take_append_drop] at h2
  rw [h2, h1, hb]
  simp
/-- a trimmed node is what trimming gives of it -/
theorem trimmed_fix : ∀ x : Nd, trimmedN x = true → trimN x = x := Nd.ind (by
  intro k e n d ks ih h
  simp only [trimmedN, Bool.and_eq_true, decide_eq_true_eq] at h
  obtain ⟨h1, h2⟩ := h
  have hk : trimK ks = ks := by
    rw [trimK_map]
    apply List.ext_getElem (by simp)
    intro j hj hj'
    rw [List.getElem_map]
    refine ih _ (List.getElem_mem hj') ?_
    rcases Bool.eq_false_or_eq_true (trimmedN ks[j]) with h3 | h3
    · exact h3
    · rw [trimmedK_no ks j hj' h3] at h2; cases h2
  simp only [trimN, hk]
  by_cases h0 : k = 1
  · obtain ⟨g1, g2⟩ := h1 h0
    rw [if_pos h0, if_pos h0, g1, g2, List.take_length, List.take_length]
  · rw [if_neg h0, if_neg h0])

/-- the uniform size of the first i elements -/
def uniD (ks : List Nd) : Nat → Nat
  | 0 => 0
  | i + 1 => max (uniD ks i) (((ks[i]?.map Nd.d).getD []).length / 8)
def uniP (ks : List Nd) : Nat → Nat
  | 0 => 0
  | i + 1 => max (uniP ks i) (((ks[i]?.map Nd.ks).getD []).length)
theorem uniD_succ {ks : List Nd} {i : Nat} (h : i < ks.length) : uniD ks (i + 1) = max (uniD ks i) ((ks[i]).d.length / 8) := by simp [uniD, h]
theorem uniP_succ {ks : List Nd} {i : Nat} (h : i < ks.length) : uniP ks (i + 1) = max (uniP ks i) ((ks[i]).ks.length) := by simp [uniP, h]
end Go.Proofs.YtcmljjhnfpfcfaaDoor
