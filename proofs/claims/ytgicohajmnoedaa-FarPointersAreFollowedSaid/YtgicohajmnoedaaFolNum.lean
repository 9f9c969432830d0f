/- A message with landing pads: where its pointers lead. -/
import Derived.Test.YtgicohajmnoedaaLaw07
import Derived.Test.YtgicohajmnoedaaFarW
namespace Go.Proofs.Ytgicohajmnoedaa
set_option linter.unusedVariables false
set_option linter.unusedSimpArgs false

/-- the message: a segment of far pointers, the given ones, a segment of landing pads -/
def padL7 (x t1 td : Int) (pp : Nat) : List Int := ([0, 0, 0, t1, td] : List Int).set pp x
def msgP (ls : List (List Int)) (x t1 td : Int) (pp : Nat) : List (List Int) :=
  ([[farW false pp ((ls.length : Int) + 1), farW true 3 ((ls.length : Int) + 1)]] ++ ls) ++ [padL7 x t1 td pp]
theorem msgP_length (ls : List (List Int)) (x t1 td : Int) (pp : Nat) : (msgP ls x t1 td pp).length = ls.length + 2 := by simp [msgP]
theorem padL7_length (x t1 td : Int) (pp : Nat) : (padL7 x t1 td pp).length = 5 := by simp [padL7]
theorem msgP_first (ls : List (List Int)) (x t1 td : Int) (pp : Nat) : seg (msgP ls x t1 td pp) 0 = [farW false pp ((ls.length : Int) + 1), farW true 3 ((ls.length : Int) + 1)] := by
  simp [msgP, seg]
theorem msgP_last (ls : List (List Int)) (x t1 td : Int) (pp : Nat) : seg (msgP ls x t1 td pp) (ls.length + 1) = padL7 x t1 td pp := by
  unfold msgP
  rw [seg_append_right _ _ _ (by simp)]
  simp [seg]
theorem pad_at (x t1 td : Int) (pp : Nat) (h : pp < 3) : zat (padL7 x t1 td pp) pp = x ∧ zat (padL7 x t1 td pp) 3 = t1 ∧ zat (padL7 x t1 td pp) 4 = td := by
  match pp, h with
  | 0, _ => exact ⟨rfl, rfl, rfl⟩
  | 1, _ => exact ⟨rfl, rfl, rfl⟩
  | 2, _ => exact ⟨rfl, rfl, rfl⟩
theorem has_first (ls : List (List Int)) (x t1 td : Int) (pp : Nat) (a : Int) (h0 : 0 ≤ a) (h1 : a ≤ 1) : hasB (msgP ls x t1 td pp) 0 a = true := by
  refine decide_eq_true ⟨by omega, by rw [msgP_length]; omega, h0, ?_⟩
  rw [show (0 : Int).toNat = 0 from rfl, msgP_first]
  simp; omega
theorem has_last (ls : List (List Int)) (x t1 td : Int) (pp : Nat) (a : Int) (h0 : 0 ≤ a) (h1 : a ≤ 4) : hasB (msgP ls x t1 td pp) ((ls.length : Int) + 1) a = true := by
  refine decide_eq_true ⟨by omega, by rw [msgP_length]; omega, h0, ?_⟩
  rw [show ((ls.length : Int) + 1).toNat = ls.length + 1 by omega, msgP_last, padL7_length]
  omega
theorem word_first0 (ls : List (List Int)) (x t1 td : Int) (pp : Nat) : wordV (msgP ls x t1 td pp) 0 0 = farW false pp ((ls.length : Int) + 1) := by
  unfold wordV
  rw [if_pos (has_first _ _ _ _ _ 0 (by omega) (by omega)), show (0 : Int).toNat = 0 from rfl, msgP_first]
  rfl
theorem word_first1 (ls : List (List Int)) (x t1 td : Int) (pp : Nat) : wordV (msgP ls x t1 td pp) 0 1 = farW true 3 ((ls.length : Int) + 1) := by
  unfold wordV
  rw [if_pos (has_first _ _ _ _ _ 1 (by omega) (by omega)), show (0 : Int).toNat = 0 from rfl, msgP_first]
  rfl
theorem word_last (ls : List (List Int)) (x t1 td : Int) (pp : Nat) (a : Int) (h0 : 0 ≤ a) (h1 : a ≤ 4) : wordV (msgP ls x t1 td pp) ((ls.length : Int) + 1) a = zat (padL7 x t1 td pp) a.toNat := by
  unfold wordV
  rw [if_pos (has_last _ _ _ _ _ a h0 h1), show ((ls.length : Int) + 1).toNat = ls.length + 1 by omega, msgP_last]

theorem fol_pad (ls : List (List Int)) (x t1 td : Int) (pp : Nat) (hp : pp < 3) (hx : x % 4 ≠ 2) : followF (msgP ls x t1 td pp) ((ls.length : Int) + 1) pp = ⟨x, (ls.length : Int) + 1, (pp : Int) + 1, 0⟩ := by
  unfold followF
  rw [if_neg (by rw [has_last _ _ _ _ _ _ (by omega) (by omega)]; decide), word_last _ _ _ _ _ _ (by omega) (by omega), Int.toNat_natCast, (pad_at x t1 td pp hp).1, if_pos (by simpa using hx)]
theorem fol_one (ls : List (List Int)) (x t1 td : Int) (pp : Nat) (hp : pp < 3) (hx : x % 4 ≠ 2) (hn : ls.length ≤ 1000) : followF (msgP ls x t1 td pp) 0 0 = ⟨x, (ls.length : Int) + 1, (pp : Int) + 1, 0⟩ := by
  have e0 := word_first0 ls x t1 td pp
  have e1 : farW false pp ((ls.length : Int) + 1) / 4294967296 = (ls.length : Int) + 1 := by unfold farW; simp; omega
  have e2 : farW false pp ((ls.length : Int) + 1) % 4294967296 / 8 = (pp : Int) := by unfold farW; simp; omega
  have e3 : farW false pp ((ls.length : Int) + 1) / 4 % 2 = 0 := by unfold farW; simp; omega
  have e4 : farW false pp ((ls.length : Int) + 1) % 4 = 2 := by unfold farW; simp; omega
  unfold followF
  rw [e0, e1, e2, e3, e4]
  rw [if_neg (by rw [has_first _ _ _ _ _ _ (by omega) (by omega)]; decide), if_neg (by decide), if_neg (by rw [has_last _ _ _ _ _ _ (by omega) (by omega)]; decide), if_pos rfl,
    word_last _ _ _ _ _ _ (by omega) (by omega), Int.toNat_natCast, (pad_at x t1 td pp hp).1, if_neg (by simpa using hx)]
theorem fol_two (ls : List (List Int)) (x td : Int) (pp : Nat) (to bs : Int) (hp : pp < 3) (hn : ls.length ≤ 1000) (h0 : 0 ≤ td) (hto : 0 ≤ to ∧ to < 2147483648) (hbs : 0 ≤ bs ∧ bs < 536870912) :
    followF (msgP ls x (farW false bs to) td pp) 0 1 = if 1 < (decP td).k ∨ (decP td).o ≠ 0 then folE 3 else ⟨td, to, bs, 0⟩ := by
  have e0 := word_first1 ls x (farW false bs to) td pp
  have e1 : farW true 3 ((ls.length : Int) + 1) / 4294967296 = (ls.length : Int) + 1 := by unfold farW; simp; omega
  have e2 : farW true 3 ((ls.length : Int) + 1) % 4294967296 / 8 = 3 := by unfold farW; simp
  have e3 : farW true 3 ((ls.length : Int) + 1) / 4 % 2 = 1 := by unfold farW; simp; omega
  have e4 : farW true 3 ((ls.length : Int) + 1) % 4 = 2 := by unfold farW; simp; omega
  have g1 : farW false bs to / 4294967296 = to := by unfold farW; simp; omega
  have g2 : farW false bs to % 4294967296 / 8 = bs := by unfold farW; simp; omega
  have g3 : farW false bs to / 4 % 2 = 0 := by unfold farW; simp; omega
  have g4 : farW false bs to % 4 = 2 := by unfold farW; simp; omega
  have w3 : wordV (msgP ls x (farW false bs to) td pp) ((ls.length : Int) + 1) 3 = farW false bs to := by
    rw [word_last _ _ _ _ _ _ (by omega) (by omega)]; exact (pad_at x (farW false bs to) td pp hp).2.1
  have w4 : wordV (msgP ls x (farW false bs to) td pp) ((ls.length : Int) + 1) (3 + 1) = td := by
    rw [word_last _ _ _ _ _ _ (by omega) (by omega)]; exact (pad_at x (farW false bs to) td pp hp).2.2
  unfold followF
  rw [e0, e1, e2, e3, e4, w3, w4, g1, g2, g3, g4]
  rw [if_neg (by rw [has_first _ _ _ _ _ _ (by omega) (by omega)]; decide), if_neg (by decide), if_neg (by rw [has_last _ _ _ _ _ _ (by omega) (by omega)]; decide), if_neg (by decide),
    if_neg (by rw [has_last _ _ _ _ _ _ (by omega) (by omega)]; decide)]
  by_cases hc : 1 < (decP td).k ∨ (decP td).o ≠ 0
  · rw [if_pos (hc.elim (fun h => .inr (.inr (.inl h))) (fun h => .inr (.inr (.inr h)))), if_pos hc]
  · rw [if_neg (by rintro (h | h | h | h); exact absurd h (by decide); exact absurd h (by decide); exact hc (.inl h); exact hc (.inr h)), if_neg hc]

theorem msgP_wd {ls : List (List Int)} (hw : Wd2 ls) (x t1 td : Int) (pp : Nat) (hn : ls.length ≤ 1000) (hp : pp < 3) (hx : 0 ≤ x ∧ x < 18446744073709551616) (h1 : 0 ≤ t1 ∧ t1 < 18446744073709551616) (h2 : 0 ≤ td ∧ td < 18446744073709551616) : Wd2 (msgP ls x t1 td pp) := by
  intro l hl
  unfold msgP at hl
  rw [List.mem_append, List.mem_append] at hl
  rcases hl with (hl | hl) | hl
  · rw [List.mem_singleton] at hl
    subst hl
    intro z hz
    have b1 := farW_bd false pp ((ls.length : Int) + 1) (by omega) (by omega) (by omega) (by omega)
    have b2 := farW_bd true 3 ((ls.length : Int) + 1) (by omega) (by omega) (by omega) (by omega)
    simp at hz
    rcases hz with rfl | rfl
    · exact b1
    · exact b2
  · exact hw l hl
  · rw [List.mem_singleton] at hl
    subst hl
    intro z hz
    unfold padL7 at hz
    rcases List.mem_or_eq_of_mem_set hz with h | h
    · simp at h
      rcases h with rfl | rfl | rfl
      · omega
      · exact h1
      · exact h2
    · subst h; exact hx
theorem msgP_seg {ls : List (List Int)} (h : ∀ j, (seg ls j).length ≤ 300) (x t1 td : Int) (pp : Nat) (j : Nat) : (seg (msgP ls x t1 td pp) j).length ≤ 140737488355328 := by
  by_cases h0 : j = 0
  · subst h0; rw [msgP_first]; simp
  · by_cases h1 : j < ls.length + 1
    · have e : seg (msgP ls x t1 td pp) j = seg ls (j - 1) := by
        unfold msgP
        rw [seg_append_left _ _ _ (by simp; omega), seg_append_right _ _ _ (by simp; omega)]
        rfl
      rw [e]
      have := h (j - 1)
      omega
    · by_cases h2 : j = ls.length + 1
      · subst h2; rw [msgP_last, padL7_length]; omega
      · rw [seg_out (by rw [msgP_length]; omega)]; simp
theorem vld_zero {k o d p el c pa sg lo : Int} {db : Bool} (h : Vld ⟨k, o, d, p, el, c, db, pa, sg, lo⟩) : Vld ⟨k, 0, d, p, el, c, db, pa, sg, lo⟩ := by
  unfold Vld at *
  simp only at *
  rcases h with h | h | h | h
  · left; obtain ⟨a, b, c', d', e', f', g', r⟩ := h; exact ⟨a, by omega, by omega, d', e', f', g', r⟩
  · right; left; obtain ⟨a, b, c', r⟩ := h; exact ⟨a, by omega, by omega, r⟩
  · right; right; left; obtain ⟨a, b, r⟩ := h; exact ⟨a, by trivial, r⟩
  · right; right; right; obtain ⟨a, b, r⟩ := h; exact ⟨a, by trivial, r⟩
end Go.Proofs.Ytgicohajmnoedaa
