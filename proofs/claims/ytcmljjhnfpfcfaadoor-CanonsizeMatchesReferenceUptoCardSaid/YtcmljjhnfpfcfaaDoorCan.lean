/- The canonical size of a node. -/
import Derived.Test.YtcmljjhnfpfcfaaDoorTrimN3
import Derived.Test.YtcmljjhnfpfcfaaDoorRef06
namespace Go.Proofs.YtcmljjhnfpfcfaaDoor
open Go.ChangeShapes Go.WideShapes Go.ChangeAt Go.RowKit
set_option linter.unusedVariables false
set_option linter.unusedSimpArgs false
set_option maxRecDepth 100000

/-- of the object alone -/
def canOf (k e n : Int) (d : List Int) (ks : List Nd) : Int :=
  if k = 0 then 0
  else if k = 1 then ((d.length / 8 + ks.length : Nat) : Int)
  else if e = 7 then 1 + n * ((uniD ks ks.length + uniP ks ks.length : Nat) : Int)
  else wordsI e n
def canO (x : Nd) : Int := canOf x.k x.e x.n x.d x.ks
mutual
/-- of the node -/
def canN : Nd → Int
  | .mk k e n d ks => canOf k e n d ks + if k = 2 ∧ e = 7 then canG ks else canK ks
def canK : List Nd → Int
  | [] => 0
  | x :: xs => canN x + canK xs
def canG : List Nd → Int
  | [] => 0
  | .mk _ _ _ _ ks :: xs => canK ks + canG xs
end
theorem canK_append (a b : List Nd) : canK (a ++ b) = canK a + canK b := by
  induction a with
  | nil => simp [canK]
  | cons x xs ih => simp only [List.cons_append, canK, ih]; omega
theorem canG_kk (l : List Nd) : canG l = canK (kk l) := by
  induction l with
  | nil => simp [canG, kk, canK]
  | cons x xs ih =>
    obtain ⟨k, e, n, d, ks⟩ := x
    have h : kk (.mk k e n d ks :: xs) = ks ++ kk xs := by simp [kk, Nd.ks]
    rw [h, canK_append]
    simp only [canG, ih]
theorem canN_eq (x : Nd) : canN x = canO x + canK (targN x) := by
  obtain ⟨k, e, n, d, ks⟩ := x
  simp only [canN, targN, canO, Nd.k, Nd.e, Nd.n, Nd.d, Nd.ks]
  by_cases h : k = 2 ∧ e = 7
  · rw [if_pos h, if_pos h, canG_kk]
  · rw [if_neg h, if_neg h]
theorem canK_take (l : List Nd) (j : Nat) (h : j < l.length) : canK (l.take (j + 1)) = canK (l.take j) + canN l[j] := by
  rw [List.take_succ_eq_append_getElem h, canK_append]
  simp [canK]
/-- a well-formed node's numbers -/
theorem valid_k {x : Nd} (h : validN x = true) : x.k = 0 ∨ x.k = 1 ∨ x.k = 2 := by
  obtain ⟨k, e, n, d, ks⟩ := x
  have h2 : headB k e n d ks = true := by
    simp only [validN, Bool.and_eq_true] at h
    exact h.2
  unfold headB at h2
  show k = 0 ∨ k = 1 ∨ k = 2
  split at h2
  · exact .inl (by assumption)
  · split at h2
    · exact .inr (.inl (by assumption))
    · split at h2
      · exact .inr (.inr (by assumption))
      · cases h2
end Go.Proofs.YtcmljjhnfpfcfaaDoor
