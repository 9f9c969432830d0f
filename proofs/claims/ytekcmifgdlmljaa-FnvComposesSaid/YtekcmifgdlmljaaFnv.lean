/- FNV-1a as a function on numbers: a byte's step, bytes; different states and different bytes lead to different states. -/
import Derived.Test.YtekcmifgdlmljaaNum
namespace Go.Proofs.Ytekcmifgdlmljaa
open Go.RowKit
set_option linter.unusedVariables false
set_option linter.unusedSimpArgs false
set_option maxRecDepth 100000

/-- the sum of the first k bits in which a and c differ -/
def xorN (a c : Nat) : Nat → Nat
  | 0 => 0
  | k + 1 => xorN a c k + if a / 2 ^ k % 2 ≠ c / 2 ^ k % 2 then 2 ^ k else 0
theorem xorN_lt (a c : Nat) : ∀ k, xorN a c k < 2 ^ k
  | 0 => by simp [xorN]
  | k + 1 => by
    have := xorN_lt a c k
    rw [Nat.pow_succ]
    simp only [xorN]
    split <;> omega
theorem xorN_bits {a b c e : Nat} : ∀ k, xorN a c k = xorN b e k → ∀ j, j < k → ((a / 2 ^ j % 2 ≠ c / 2 ^ j % 2) ↔ (b / 2 ^ j % 2 ≠ e / 2 ^ j % 2))
  | 0, _, j, hj => by omega
  | k + 1, h, j, hj => by
    have h1 := xorN_lt a c k
    have h2 := xorN_lt b e k
    simp only [xorN] at h
    have h0 : xorN a c k = xorN b e k ∧ ((a / 2 ^ k % 2 ≠ c / 2 ^ k % 2) ↔ (b / 2 ^ k % 2 ≠ e / 2 ^ k % 2)) := by
      by_cases p : a / 2 ^ k % 2 ≠ c / 2 ^ k % 2
      · by_cases q : b / 2 ^ k % 2 ≠ e / 2 ^ k % 2
        · rw [if_pos p, if_pos q] at h
          exact ⟨by omega, fun _ => q, fun _ => p⟩
        · rw [if_pos p, if_neg q] at h
          exfalso; omega
      · by_cases q : b / 2 ^ k % 2 ≠ e / 2 ^ k % 2
        · rw [if_neg p, if_pos q] at h
          exfalso; omega
        · rw [if_neg p, if_neg q] at h
          exact ⟨by omega, fun h => absurd h p, fun h => absurd h q⟩
    by_cases hk : j = k
    · subst hk; exact h0.2
    · exact xorN_bits k h0.1 j (by omega)
theorem bits_mod {a b : Nat} : ∀ k, (∀ j, j < k → a / 2 ^ j % 2 = b / 2 ^ j % 2) → a % 2 ^ k = b % 2 ^ k
  | 0, _ => by simp [Nat.mod_one]
  | k + 1, h => by
    rw [Nat.mod_pow_succ, Nat.mod_pow_succ, bits_mod k (fun j hj => h j (by omega)), h k (by omega)]
theorem xorN_left {a b c : Nat} (ha : a < 256) (hb : b < 256) (h : xorN a c 8 = xorN b c 8) : a = b := by
  have h1 := bits_mod (a := a) (b := b) 8 (fun j hj => by
    have h2 := xorN_bits 8 h j hj
    have h3 : a / 2 ^ j % 2 < 2 := Nat.mod_lt _ (by decide)
    have h4 : b / 2 ^ j % 2 < 2 := Nat.mod_lt _ (by decide)
    have h5 : c / 2 ^ j % 2 < 2 := Nat.mod_lt _ (by decide)
    omega)
  have e : (2 : Nat) ^ 8 = 256 := by decide
  rw [e, Nat.mod_eq_of_lt ha, Nat.mod_eq_of_lt hb] at h1
  exact h1
theorem xorN_right {a b c : Nat} (ha : a < 256) (hb : b < 256) (h : xorN c a 8 = xorN c b 8) : a = b := by
  have h1 := bits_mod (a := a) (b := b) 8 (fun j hj => by
    have h2 := xorN_bits 8 h j hj
    have h3 : a / 2 ^ j % 2 < 2 := Nat.mod_lt _ (by decide)
    have h4 : b / 2 ^ j % 2 < 2 := Nat.mod_lt _ (by decide)
    have h5 : c / 2 ^ j % 2 < 2 := Nat.mod_lt _ (by decide)
    omega)
  have e : (2 : Nat) ^ 8 = 256 := by decide
  rw [e, Nat.mod_eq_of_lt ha, Nat.mod_eq_of_lt hb] at h1
  exact h1
theorem xorN_xor (a c : Nat) : ∀ k, xorN a c k = (a ^^^ c) % 2 ^ k
  | 0 => by simp [xorN, Nat.mod_one]
  | k + 1 => by
    rw [Nat.mod_pow_succ, ← xorN_xor a c k]
    simp only [xorN]
    have h : (a ^^^ c) / 2 ^ k % 2 = if a / 2 ^ k % 2 ≠ c / 2 ^ k % 2 then 1 else 0 := by
      have h1 : (a ^^^ c).testBit k = (a.testBit k ^^ c.testBit k) := Nat.testBit_xor ..
      rw [Nat.testBit_eq_decide_div_mod_eq, Nat.testBit_eq_decide_div_mod_eq, Nat.testBit_eq_decide_div_mod_eq] at h1
      have h3 : a / 2 ^ k % 2 < 2 := Nat.mod_lt _ (by decide)
      have h4 : c / 2 ^ k % 2 < 2 := Nat.mod_lt _ (by decide)
      have h5 : (a ^^^ c) / 2 ^ k % 2 < 2 := Nat.mod_lt _ (by decide)
      generalize a / 2 ^ k % 2 = x at *
      generalize c / 2 ^ k % 2 = y at *
      generalize (a ^^^ c) / 2 ^ k % 2 = z at *
      have hx : x = 0 ∨ x = 1 := by omega
      have hy : y = 0 ∨ y = 1 := by omega
      have hz : z = 0 ∨ z = 1 := by omega
      rcases hx with rfl | rfl <;> rcases hy with rfl | rfl <;> rcases hz with rfl | rfl <;> simp_all
    rw [h]
    split <;> simp

/-- the state, combined with a byte -/
def fnvX (s c : Int) : Int := s - s % 256 + (xorN (s % 256).toNat c.toNat 8 : Nat)
theorem fnvX_bd {s c : Int} (h0 : 0 ≤ s) (h1 : s < 18446744073709551616) : 0 ≤ fnvX s c ∧ fnvX s c < 18446744073709551616 := by
  have := xorN_lt (s % 256).toNat c.toNat 8
  have e : (2 : Nat) ^ 8 = 256 := by decide
  rw [e] at this
  unfold fnvX
  omega
theorem fnvX_inj {s t c d : Int} (hc0 : 0 ≤ c) (hc : c < 256) (hd0 : 0 ≤ d) (hd : d < 256) (h : fnvX s c = fnvX t d) : (c = d → s = t) ∧ (s = t → c = d) := by
  have h1 := xorN_lt (s % 256).toNat c.toNat 8
  have h2 := xorN_lt (t % 256).toNat d.toNat 8
  have e : (2 : Nat) ^ 8 = 256 := by decide
  rw [e] at h1 h2
  unfold fnvX at h
  have h3 : xorN (s % 256).toNat c.toNat 8 = xorN (t % 256).toNat d.toNat 8 ∧ s - s % 256 = t - t % 256 := by omega
  refine ⟨fun hcd => ?_, fun hst => ?_⟩
  · subst hcd
    have := xorN_left (by omega) (by omega) h3.1
    omega
  · subst hst
    have := xorN_right (by omega) (by omega) h3.1
    omega
theorem fnv_mul {x y : Int} (hx0 : 0 ≤ x) (hx : x < 18446744073709551616) (hy0 : 0 ≤ y) (hy : y < 18446744073709551616) (h : x * 1099511628211 % 18446744073709551616 = y * 1099511628211 % 18446744073709551616) : x = y := by
  have key : ∀ z : Int, (z * 1099511628211 % 18446744073709551616 * 14886173955864302971) % 18446744073709551616 = z % 18446744073709551616 := by
    intro z
    rw [Int.mul_emod, Int.emod_emod, ← Int.mul_emod, Int.mul_assoc]
    have e : (1099511628211 : Int) * 14886173955864302971 = 1 + 18446744073709551616 * 887285111055 := by decide
    rw [e, Int.mul_add, Int.mul_one, ← Int.mul_assoc, Int.mul_comm z, Int.mul_assoc, Int.add_mul_emod_self_left]
  have h1 := key x
  rw [h, key y, Int.emod_eq_of_lt hx0 hx, Int.emod_eq_of_lt hy0 hy] at h1
  exact h1.symm
/-- a byte -/
def fnvB (s c : Int) : Int := fnvX s c * 1099511628211 % 18446744073709551616
theorem fnvB_bd (s c : Int) : 0 ≤ fnvB s c ∧ fnvB s c < 18446744073709551616 := by unfold fnvB; omega
theorem fnvB_inj {s t c d : Int} (hs0 : 0 ≤ s) (hs : s < 18446744073709551616) (ht0 : 0 ≤ t) (ht : t < 18446744073709551616) (hc0 : 0 ≤ c) (hc : c < 256) (hd0 : 0 ≤ d) (hd : d < 256) (h : fnvB s c = fnvB t d) : (c = d → s = t) ∧ (s = t → c = d) := by
  obtain ⟨a1, a2⟩ := fnvX_bd (c := c) hs0 hs
  obtain ⟨b1, b2⟩ := fnvX_bd (c := d) ht0 ht
  exact fnvX_inj hc0 hc hd0 hd (fnv_mul a1 a2 b1 b2 h)
/-- bytes -/
def fnvA (s : Int) (b : List Int) : Int := b.foldl fnvB s
def fnvS : Int := 14695981039346656037
theorem fnvA_app (s : Int) (a b : List Int) : fnvA s (a ++ b) = fnvA (fnvA s a) b := List.foldl_append ..
theorem fnvA_bd : ∀ (b : List Int) (s : Int), 0 ≤ s → s < 18446744073709551616 → 0 ≤ fnvA s b ∧ fnvA s b < 18446744073709551616
  | [], s, h0, h1 => ⟨h0, h1⟩
  | c :: b, s, _, _ => fnvA_bd b (fnvB s c) (fnvB_bd s c).1 (fnvB_bd s c).2
theorem fnvA_inj : ∀ (b : List Int) (s t : Int), Bts b → 0 ≤ s → s < 18446744073709551616 → 0 ≤ t → t < 18446744073709551616 → (fnvA s b = fnvA t b ↔ s = t)
  | [], s, t, _, _, _, _, _ => Iff.rfl
  | c :: b, s, t, hb, hs0, hs, ht0, ht => by
    have hc := hb c (List.mem_cons_self ..)
    have ih := fnvA_inj b (fnvB s c) (fnvB t c) (fun z hz => hb z (List.mem_cons_of_mem _ hz)) (fnvB_bd s c).1 (fnvB_bd s c).2 (fnvB_bd t c).1 (fnvB_bd t c).2
    refine ⟨fun h => ?_, fun h => by rw [h]⟩
    exact (fnvB_inj hs0 hs ht0 ht hc.1 hc.2 hc.1 hc.2 (ih.1 h)).1 rfl
theorem fnvA_one {s c d : Int} (hs0 : 0 ≤ s) (hs : s < 18446744073709551616) (hc0 : 0 ≤ c) (hc : c < 256) (hd0 : 0 ≤ d) (hd : d < 256) : fnvA s [c] = fnvA s [d] ↔ c = d :=
  ⟨fun h => (fnvB_inj hs0 hs hs0 hs hc0 hc hd0 hd h).2 rfl, fun h => by rw [h]⟩
/-- one byte changed -/
theorem fnvA_set {b : List Int} {s c : Int} {k : Nat} (hb : Bts b) (hs0 : 0 ≤ s) (hs : s < 18446744073709551616) (hc0 : 0 ≤ c) (hc : c < 256) (hk : k < b.length) : fnvA s b = fnvA s (b.set k c) ↔ zat b k = c := by
  have e1 : b = b.take k ++ (zat b k :: b.drop (k + 1)) := by
    have : zat b k = b[k] := by simp [zat, List.getD_eq_getElem?_getD, hk]
    rw [this, ← List.drop_eq_getElem_cons hk, List.take_append_drop]
  have e2 : b.set k c = b.take k ++ (c :: b.drop (k + 1)) := List.set_eq_take_append_cons_drop .. |>.trans (by rw [if_pos hk])
  have hz := hb _ (zat_mem hk)
  have hd : Bts (b.drop (k + 1)) := fun z hz => hb z (List.mem_of_mem_drop hz)
  rw [e2]
  have e3 : fnvA s b = fnvA s (b.take k ++ (zat b k :: b.drop (k + 1))) := congrArg (fnvA s) e1
  rw [e3, fnvA_app, fnvA_app]
  obtain ⟨g1, g2⟩ := fnvA_bd (b.take k) s hs0 hs
  generalize fnvA s (b.take k) = m at *
  have h1 := fnvA_inj (b.drop (k + 1)) (fnvB m (zat b k)) (fnvB m c) hd (fnvB_bd _ _).1 (fnvB_bd _ _).2 (fnvB_bd _ _).1 (fnvB_bd _ _).2
  have h2 := fnvA_one (s := m) g1 g2 hz.1 hz.2 hc0 hc
  exact h1.trans h2
end Go.Proofs.Ytekcmifgdlmljaa
