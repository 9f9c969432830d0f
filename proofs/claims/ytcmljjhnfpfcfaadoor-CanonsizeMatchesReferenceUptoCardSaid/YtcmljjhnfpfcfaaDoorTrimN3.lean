/- The uniform size: it covers every element, is attained, grows with an element; trimming never enlarges it. -/
import Derived.Test.YtcmljjhnfpfcfaaDoorTrimN2
namespace Go.Proofs.YtcmljjhnfpfcfaaDoor
open Go.ChangeShapes Go.WideShapes Go.ChangeAt Go.RowKit
set_option linter.unusedVariables false
set_option linter.unusedSimpArgs false
set_option maxRecDepth 100000

theorem uniD_covers (ks : List Nd) (h8 : ∀ y ∈ ks, y.d.length % 8 = 0) : ∀ i, i ≤ ks.length → ∀ j (hj : j < ks.length), j < i → (ks[j]).d.length ≤ 8 * uniD ks i
  | 0, _, j, _, h => by omega
  | i + 1, hi, j, hj, h => by
    rw [uniD_succ (by omega)]
    have h1 := h8 ks[j] (List.getElem_mem hj)
    by_cases e : j = i
    · subst e; omega
    · have := uniD_covers ks h8 i (by omega) j hj (by omega)
      omega
theorem uniP_covers (ks : List Nd) : ∀ i, i ≤ ks.length → ∀ j (hj : j < ks.length), j < i → (ks[j]).ks.length ≤ uniP ks i
  | 0, _, j, _, h => by omega
  | i + 1, hi, j, hj, h => by
    rw [uniP_succ (by omega)]
    by_cases e : j = i
    · subst e; omega
    · have := uniP_covers ks i (by omega) j hj (by omega)
      omega
theorem uniD_attained (ks : List Nd) (h8 : ∀ y ∈ ks, y.d.length % 8 = 0) : ∀ i, i ≤ ks.length → 0 < i → ∃ j, ∃ hj : j < ks.length, j < i ∧ (ks[j]).d.length = 8 * uniD ks i
  | 0, _, h => by omega
  | i + 1, hi, h => by
    rw [uniD_succ (by omega)]
    have h1 := h8 ks[i] (List.getElem_mem (by omega))
    by_cases hc : uniD ks i ≤ (ks[i]).d.length / 8
    · exact ⟨i, by omega, by omega, by omega⟩
    · by_cases hz : i = 0
      · subst hz; simp [uniD] at hc
      · obtain ⟨j, hj, h2, h3⟩ := uniD_attained ks h8 i (by omega) (by omega)
        exact ⟨j, hj, by omega, by omega⟩
theorem uniP_attained (ks : List Nd) : ∀ i, i ≤ ks.length → 0 < i → ∃ j, ∃ hj : j < ks.length, j < i ∧ (ks[j]).ks.length = uniP ks i
  | 0, _, h => by omega
  | i + 1, hi, h => by
    rw [uniP_succ (by omega)]
    by_cases hc : uniP ks i ≤ (ks[i]).ks.length
    · exact ⟨i, by omega, by omega, by omega⟩
    · by_cases hz : i = 0
      · subst hz; simp [uniP] at hc
      · obtain ⟨j, hj, h2, h3⟩ := uniP_attained ks i (by omega) (by omega)
        exact ⟨j, hj, by omega, by omega⟩
theorem uniD_le (ks : List Nd) (m : Nat) : ∀ i, i ≤ ks.length → (∀ y ∈ ks, y.d.length / 8 ≤ m) → uniD ks i ≤ m
  | 0, _, _ => by simp [uniD]
  | i + 1, hi, h => by
    rw [uniD_succ (by omega)]
    have := uniD_le ks m i (by omega) h
    have := h ks[i] (List.getElem_mem (by omega))
    omega
theorem uniP_le (ks : List Nd) (m : Nat) : ∀ i, i ≤ ks.length → (∀ y ∈ ks, y.ks.length ≤ m) → uniP ks i ≤ m
  | 0, _, _ => by simp [uniP]
  | i + 1, hi, h => by
    rw [uniP_succ (by omega)]
    have := uniP_le ks m i (by omega) h
    have := h ks[i] (List.getElem_mem (by omega))
    omega
theorem trimN_d_le (x : Nd) : (trimN x).d.length ≤ x.d.length := by
  obtain ⟨k, e, n, d, ks⟩ := x
  simp only [trimN, Nd.d]
  split
  · rw [List.length_take]; omega
  · exact Nat.le_refl _
theorem trimN_ks_le (x : Nd) : (trimN x).ks.length ≤ x.ks.length := by
  obtain ⟨k, e, n, d, ks⟩ := x
  simp only [trimN, Nd.ks]
  split
  · rw [List.length_take, trimK_length]; omega
  · rw [trimK_length]; exact Nat.le_refl _
/-- the kids of a trimmed list are the trimmed kids -/
theorem trimN_ks {x : Nd} (h : x.k ≠ 1) : (trimN x).ks = x.ks.map trimN := by
  obtain ⟨k, e, n, d, ks⟩ := x
  simp only [Nd.k] at h
  simp only [trimN, Nd.ks, if_neg h, trimK_map]
theorem uniD_trim {x : Nd} (h : x.k ≠ 1) : uniD (trimN x).ks (trimN x).ks.length ≤ uniD x.ks x.ks.length := by
  refine uniD_le _ _ _ (Nat.le_refl _) fun y hy => ?_
  rw [trimN_ks h, List.mem_map] at hy
  obtain ⟨z, hz, rfl⟩ := hy
  obtain ⟨j, hj, rfl⟩ := List.getElem_of_mem hz
  have h1 := trimN_d_le x.ks[j]
  have h2 : ∀ i, i ≤ x.ks.length → j < i → (x.ks[j]).d.length / 8 ≤ uniD x.ks i := by
    intro i
    induction i with
    | zero => intro _ h; omega
    | succ i ih =>
      intro h3 h4
      rw [uniD_succ (by omega)]
      by_cases e : j = i
      · subst e; omega
      · have := ih (by omega) (by omega); omega
  have := h2 _ (Nat.le_refl _) hj
  omega
theorem uniP_trim {x : Nd} (h : x.k ≠ 1) : uniP (trimN x).ks (trimN x).ks.length ≤ uniP x.ks x.ks.length := by
  refine uniP_le _ _ _ (Nat.le_refl _) fun y hy => ?_
  rw [trimN_ks h, List.mem_map] at hy
  obtain ⟨z, hz, rfl⟩ := hy
  obtain ⟨j, hj, rfl⟩ := List.getElem_of_mem hz
  have h1 := trimN_ks_le x.ks[j]
  have := uniP_covers x.ks _ (Nat.le_refl _) j hj hj
  omega
theorem uniD_append (ks ms : List Nd) : ∀ i, i ≤ ks.length → uniD (ks ++ ms) i = uniD ks i
  | 0, _ => by simp [uniD]
  | i + 1, h => by
    rw [uniD_succ (by simp; omega), uniD_succ (by omega), uniD_append ks ms i (by omega), List.getElem_append_left (by omega)]
theorem uniP_append (ks ms : List Nd) : ∀ i, i ≤ ks.length → uniP (ks ++ ms) i = uniP ks i
  | 0, _ => by simp [uniP]
  | i + 1, h => by
    rw [uniP_succ (by simp; omega), uniP_succ (by omega), uniP_append ks ms i (by omega), List.getElem_append_left (by omega)]
theorem uniD_one (ks : List Nd) (m : Nd) : uniD (ks ++ [m]) (ks ++ [m]).length = max (uniD ks ks.length) (m.d.length / 8) := by
  rw [List.length_append, List.length_singleton, uniD_succ (by simp), uniD_append ks [m] _ (Nat.le_refl _), List.getElem_append_right (Nat.le_refl _)]
  simp
theorem uniP_one (ks : List Nd) (m : Nd) : uniP (ks ++ [m]) (ks ++ [m]).length = max (uniP ks ks.length) m.ks.length := by
  rw [List.length_append, List.length_singleton, uniP_succ (by simp), uniP_append ks [m] _ (Nat.le_refl _), List.getElem_append_right (Nat.le_refl _)]
  simp

/-! ## Zero words and null pointers behind a struct -/
theorem wordsT_zeros (d : List Int) (n : Nat) : wordsT (d ++ List.replicate n 0) = wordsT d := by
  refine Nat.le_antisymm ?_ ?_
  · refine (wordsT_iff _ _).2 fun t ht hz => ?_
    by_cases h : t < d.length
    · have e : zat (d ++ List.replicate n 0) t = zat d t := by simp [zat, List.getD, List.getElem?_append_left h]
      exact wordsT_at h (by rw [← e]; exact hz)
    · refine absurd ?_ hz
      rw [List.length_append, List.length_replicate] at ht
      simp [zat, List.getD, List.getElem?_append_right (Nat.le_of_not_lt h)]
      rw [List.getElem?_replicate]
      split <;> rfl
  · refine (wordsT_iff _ _).2 fun t ht hz => ?_
    have e : zat (d ++ List.replicate n 0) t = zat d t := by simp [zat, List.getD, List.getElem?_append_left ht]
    exact wordsT_at (by rw [List.length_append]; omega) (by rw [e]; exact hz)
theorem ptrsT_nulls (ks ms : List Nd) (hm : ∀ y ∈ ms, y.k = 0) : ptrsT (ks ++ ms) = ptrsT ks := by
  refine Nat.le_antisymm ?_ ?_
  · refine (ptrsT_iff _ _).2 fun t ht hz => ?_
    by_cases h : t < ks.length
    · have e : kAt (ks ++ ms) t = kAt ks t := by simp [kAt, List.getElem?_append_left h]
      exact ptrsT_at h (by rw [← e]; exact hz)
    · refine absurd ?_ hz
      rw [List.length_append] at ht
      rw [kAt_get (by rw [List.length_append]; exact ht), List.getElem_append_right (Nat.le_of_not_lt h)]
      exact hm _ (List.getElem_mem _)
  · refine (ptrsT_iff _ _).2 fun t ht hz => ?_
    have e : kAt (ks ++ ms) t = kAt ks t := by simp [kAt, List.getElem?_append_left ht]
    exact ptrsT_at (by rw [List.length_append]; omega) (by rw [e]; exact hz)
/-- appending zero words and null pointers does not change the trimmed form -/
theorem trim_extend {e n : Int} {d : List Int} {ks ms : List Nd} {q : Nat} (h8 : d.length % 8 = 0) (hm : ∀ y ∈ ms, y.k = 0) : trimN (.mk 1 e n (d ++ List.replicate q 0) (ks ++ ms)) = trimN (.mk 1 e n d ks) := by
  simp only [trimN, if_pos, wordsT_zeros, ptrsT_nulls ks ms hm, trimK_map, List.map_append]
  rw [List.take_append_of_le_length (wordsT_le d h8), List.take_append_of_le_length (by rw [List.length_map]; exact ptrsT_le ks)]
/-- appending a pointer that is not null does -/
theorem trim_more {e n : Int} {d d' : List Int} {ks : List Nd} {m : Nd} (hm : m.k ≠ 0) : trimN (.mk 1 e n d' (ks ++ [m])) ≠ trimN (.mk 1 e n d ks) := by
  intro h
  have h1 : (trimN (.mk 1 e n d' (ks ++ [m]))).ks.length = (trimN (.mk 1 e n d ks)).ks.length := by rw [h]
  simp only [trimN, if_pos, Nd.ks, List.length_take, trimK_length] at h1
  have h2 : kAt (ks ++ [m]) ks.length = m.k := by simp [kAt]
  have h3 := ptrsT_at (ks := ks ++ [m]) (t := ks.length) (by simp) (by rw [h2]; exact hm)
  have h4 := ptrsT_le ks
  have h5 := ptrsT_le (ks ++ [m])
  simp at h1 h5
  omega
/-- appending a word that is not zero does -/
theorem trim_word {e n : Int} {d : List Int} {ks ks' : List Nd} {b : Int} (h8 : d.length % 8 = 0) (hb : b ≠ 0) : trimN (.mk 1 e n (d ++ [0, 0, 0, 0, 0, 0, 0, b]) ks') ≠ trimN (.mk 1 e n d ks) := by
  intro h
  have h1 : (trimN (.mk 1 e n (d ++ [0, 0, 0, 0, 0, 0, 0, b]) ks')).d.length = (trimN (.mk 1 e n d ks)).d.length := by rw [h]
  simp only [trimN, if_pos, Nd.d, List.length_take] at h1
  have h2 : zat (d ++ [0, 0, 0, 0, 0, 0, 0, b]) (d.length + 7) = b := by
    simp [zat, List.getD, List.getElem?_append_right (Nat.le_add_right d.length 7)]
  have h3 := wordsT_at (d := d ++ [0, 0, 0, 0, 0, 0, 0, b]) (t := d.length + 7) (by simp) (by rw [h2]; exact hb)
  have h4 := wordsT_le d h8
  have h5 := wordsT_le (d ++ [0, 0, 0, 0, 0, 0, 0, b]) (by simp; omega)
  simp at h1 h5
  omega
end Go.Proofs.YtcmljjhnfpfcfaaDoor
