/- How large a canonical size is: the node's size bounds it. -/
import Derived.Test.YtcmljjhnfpfcfaaDoorCan
import Derived.Test.YtcmljjhnfpfcfaaDoorTrimN2
namespace Go.Proofs.YtcmljjhnfpfcfaaDoor
open Go.ChangeShapes Go.WideShapes Go.ChangeAt Go.RowKit
set_option linter.unusedVariables false
set_option linter.unusedSimpArgs false
set_option maxRecDepth 100000

/-- the head of a well-formed node -/
theorem valid_head {k e n : Int} {d : List Int} {ks : List Nd} (h : validN (.mk k e n d ks) = true) :
    (k = 0 ∧ d.length = 0 ∧ ks.length = 0) ∨ (k = 1 ∧ d.length % 8 = 0 ∧ d.length ≤ 524280 ∧ ks.length ≤ 65535) ∨ (k = 2 ∧ 0 ≤ n ∧ n ≤ 536870911 ∧ 0 ≤ e ∧ e ≤ 7 ∧ (6 ≤ e → d.length = 0 ∧ (ks.length : Int) = n) ∧ (e < 6 → ks.length = 0 ∧ (d.length : Int) = bytesI e n)) := by
  simp only [validN, Bool.and_eq_true] at h
  have h2 := h.2
  unfold headB at h2
  by_cases h0 : k = 0
  · rw [if_pos h0, decide_eq_true_iff] at h2
    exact .inl ⟨h0, h2.2.2⟩
  rw [if_neg h0] at h2
  by_cases h1 : k = 1
  · rw [if_pos h1, decide_eq_true_iff] at h2
    exact .inr (.inl ⟨h1, h2.2.2⟩)
  rw [if_neg h1] at h2
  by_cases h3 : k = 2
  · rw [if_pos h3, decide_eq_true_iff] at h2
    exact .inr (.inr ⟨h3, h2.1, h2.2.1, h2.2.2.1, h2.2.2.2.1, h2.2.2.2.2.1, fun h => ⟨(h2.2.2.2.2.2 h).1, (h2.2.2.2.2.2 h).2.1⟩⟩)
  · rw [if_neg h3] at h2
    cases h2
theorem valid_mem {k e n : Int} {d : List Int} {ks : List Nd} (h : validN (.mk k e n d ks) = true) {y : Nd} (hy : y ∈ ks) : validN y = true ∧ ¬ (k = 2 ∧ e = 7 ∧ y.k ≠ 1) := by
  simp only [validN, Bool.and_eq_true] at h
  exact validK_mem h.1 hy
/-- the elements of a well-formed composite list -/
theorem valid_elem {n : Int} {d : List Int} {ks : List Nd} (h : validN (.mk 2 7 n d ks) = true) {y : Nd} (hy : y ∈ ks) : y.k = 1 ∧ y.d.length / 8 ≤ 65535 ∧ y.ks.length ≤ 65535 := by
  obtain ⟨h1, h2⟩ := valid_mem h hy
  have hk : y.k = 1 := Classical.byContradiction fun h3 => h2 ⟨rfl, rfl, h3⟩
  obtain ⟨k, e, n', d', ks'⟩ := y
  simp only [Nd.k] at hk
  rcases valid_head h1 with h3 | h3 | h3
  · omega
  · exact ⟨hk, by show d'.length / 8 ≤ 65535; omega, h3.2.2.2⟩
  · omega
theorem uni_bd {n : Int} {d : List Int} {ks : List Nd} (h : validN (.mk 2 7 n d ks) = true) : uniD ks ks.length ≤ 65535 ∧ uniP ks ks.length ≤ 65535 :=
  ⟨uniD_le ks 65535 ks.length (Nat.le_refl _) fun y hy => (valid_elem h hy).2.1, uniP_le ks 65535 ks.length (Nat.le_refl _) fun y hy => (valid_elem h hy).2.2⟩
theorem sizeK_kk2 (l : List Nd) : sizeK (kk l) + l.length ≤ sizeK l := by
  induction l with
  | nil => simp [kk, sizeK]
  | cons x xs ih =>
    have h : kk (x :: xs) = x.ks ++ kk xs := by simp [kk]
    have h2 := sizeK_ks x
    have h3 : sizeK (x.ks ++ kk xs) = sizeK x.ks + sizeK (kk xs) := by
      generalize x.ks = a
      induction a with
      | nil => simp [sizeK]
      | cons y ys ih2 => simp only [List.cons_append, sizeK, ih2]; omega
    rw [h, h3]
    simp only [sizeK, List.length_cons]
    omega
theorem targN_mk (k e n : Int) (d : List Int) (ks : List Nd) : targN (.mk k e n d ks) = if k = 2 ∧ e = 7 then kk ks else ks := rfl
/-- of the object alone -/
theorem canO_size {x : Nd} (h : validN x = true) : 0 ≤ canO x ∧ canO x ≤ 131071 * ((sizeN x : Int) - sizeK (targN x)) - 1 + (targN x).length := by
  obtain ⟨k, e, n, d, ks⟩ := x
  have hs : sizeN (.mk k e n d ks) = 1 + d.length + sizeK ks := by simp [sizeN]
  have ht := sizeK_targ (.mk k e n d ks)
  have hk := sizeK_length ks
  show 0 ≤ canOf k e n d ks ∧ canOf k e n d ks ≤ _
  unfold canOf
  rcases valid_head h with ⟨rfl, h1, h2⟩ | ⟨rfl, h1, h2, h3⟩ | ⟨rfl, h1, h2, h3, h4, h5, h6⟩
  · rw [if_pos rfl]
    omega
  · rw [if_neg (by omega), if_pos rfl]
    have e1 : targN (.mk 1 e n d ks) = ks := by rw [targN_mk, if_neg (by omega)]
    rw [e1, hs]
    omega
  · rw [if_neg (by omega), if_neg (by omega)]
    by_cases h7 : e = 7
    · subst h7
      rw [if_pos rfl]
      have e1 : targN (.mk 2 7 n d ks) = kk ks := by rw [targN_mk, if_pos ⟨rfl, rfl⟩]
      have h8 := sizeK_kk2 ks
      obtain ⟨u1, u2⟩ := uni_bd h
      obtain ⟨-, hn⟩ := h5 (by omega)
      have m1 : 0 ≤ n * ((uniD ks ks.length + uniP ks ks.length : Nat) : Int) := Int.mul_nonneg h1 (by omega)
      have m2 : n * ((uniD ks ks.length + uniP ks ks.length : Nat) : Int) ≤ n * 131070 := Int.mul_le_mul_of_nonneg_left (by omega) h1
      rw [e1, hs]
      omega
    · rw [if_neg h7]
      have e1 : targN (.mk 2 e n d ks) = ks := by rw [targN_mk, if_neg (by omega)]
      have hb := bitsI_mul e n h1
      rw [e1, hs]
      by_cases h8 : e = 6
      · subst h8
        have e3 : wordsI 6 n = n := by unfold wordsI bitsI; simp; omega
        obtain ⟨-, hn⟩ := h5 (by omega)
        rw [e3]
        omega
      · obtain ⟨hk0, hd⟩ := h6 (by omega)
        unfold wordsI
        unfold bytesI at hd
        rw [if_neg h7]
        omega
theorem valid_targ {x : Nd} (h : validN x = true) : ∀ y ∈ targN x, validN y = true := by
  intro y hy
  obtain ⟨k, e, n, d, ks⟩ := x
  rw [targN_mk] at hy
  split at hy
  · unfold kk at hy
    obtain ⟨z, hz, hy⟩ := List.mem_flatMap.1 hy
    have hzv := (valid_mem h hz).1
    obtain ⟨k', e', n', d', ks'⟩ := z
    exact (valid_mem hzv hy).1
  · exact (valid_mem h hy).1
theorem can_size : ∀ x : Nd, validN x = true → 0 ≤ canN x ∧ canN x ≤ 131071 * (sizeN x : Int) - 1 := size_ind (by
  intro x ih h
  have ho := canO_size h
  have hK : ∀ l : List Nd, (∀ y ∈ l, 0 ≤ canN y ∧ canN y ≤ 131071 * (sizeN y : Int) - 1) → 0 ≤ canK l ∧ canK l ≤ 131071 * (sizeK l : Int) - l.length := by
    intro l hl
    induction l with
    | nil => simp [canK, sizeK]
    | cons y ys ih2 =>
      have h1 := hl y (List.mem_cons_self ..)
      have h2 := ih2 (fun z hz => hl z (List.mem_cons_of_mem _ hz))
      simp only [canK, sizeK, List.length_cons]
      omega
  have hv := valid_targ h
  have := hK (targN x) (fun y hy => ih y (targ_lt hy) (hv y hy))
  rw [canN_eq]
  omega)
end Go.Proofs.YtcmljjhnfpfcfaaDoor
