/- The laws of layer 5. -/
import Derived.Test.YtklahnpimdgpiaaAwake05
namespace Go.Proofs.Ytklahnpimdgpiaa
open Go.ChangeShapes Go.WideShapes Go.ChangeAt Go.RowKit
set_option linter.unusedVariables false
set_option linter.unusedSimpArgs false

theorem fits_few {ls : List (List Int)} (h : fewB ls = true) : Fits ls := fun j => by have := (few_fits h).1 j; omega

/-- is there a word at each of the first k places? -/
def allB (ls : List (List Int)) (s a : Int) (k : Nat) : Bool := decide (∀ i, i < k → hasB ls s (a + (i : Int)) = true)
theorem allB_zero (ls : List (List Int)) (s a : Int) : allB ls s a 0 = true := decide_eq_true fun i h => by omega
theorem allB_succ (ls : List (List Int)) (s a : Int) (k : Nat) : allB ls s a (k + 1) = (allB ls s a k && hasB ls s (a + k)) := by
  rw [Bool.eq_iff_iff, Bool.and_eq_true]
  unfold allB
  rw [decide_eq_true_iff, decide_eq_true_iff]
  constructor
  · intro h
    exact ⟨fun i hi => h i (by omega), h k (by omega)⟩
  · rintro ⟨h1, h2⟩ i hi
    by_cases e : i = k
    · subst e; exact h2
    · exact h1 i (by omega)
theorem inB_all (ls : List (List Int)) (s a : Int) (k : Nat) (h : 0 < k) : inB ls s a k = allB ls s a k := by
  rw [Bool.eq_iff_iff]
  unfold inB allB hasB
  rw [decide_eq_true_iff, decide_eq_true_iff]
  constructor
  · rintro ⟨h1, h2, h3, h4, h5, h6⟩ i hi
    exact decide_eq_true ⟨h1, h2, by omega, by omega⟩
  · intro hh
    have h0 := of_decide_eq_true (hh 0 h)
    have h1 := of_decide_eq_true (hh (k - 1) (by omega))
    obtain ⟨q1, q2, q3, q4⟩ := h0
    obtain ⟨p1, p2, p3, p4⟩ := h1
    exact ⟨q1, q2, by omega, by omega, by omega, by omega⟩
/-- the words at the first k places -/
def wlL (ls : List (List Int)) (s a : Int) (k : Nat) : List Int := (List.range k).map fun (i : Nat) => wordV ls s (a + (i : Int))
theorem wlL_length (ls : List (List Int)) (s a : Int) (k : Nat) : (wlL ls s a k).length = k := by simp [wlL]
theorem wlL_succ (ls : List (List Int)) (s a : Int) (k : Nat) : wlL ls s a (k + 1) = wlL ls s a k ++ [wordV ls s (a + k)] := by simp [wlL, List.range_succ]
theorem slice_words {ls : List (List Int)} {s a : Int} {k : Nat} (h : inB ls s a k = true) (hk : 0 < k) : sliceX ls s a k = wlL ls s a k := by
  have ha : allB ls s a k = true := by rw [← inB_all _ _ _ _ hk]; exact h
  unfold sliceX
  rw [if_pos h]
  obtain ⟨S, K, N, rfl, rfl, hN, hS, hK⟩ := inB_nat h
  have hN' : k = N := by omega
  subst hN'
  have hl : (sliceL ls S K k).length = k := by
    have := sliceL_length h
    omega
  apply ext_zat
  · rw [hl, wlL_length]
  · intro i hi
    rw [hl] at hi
    have e1 : zat (wlL ls S K k) i = wordV ls S (K + (i : Int)) := by simp [wlL, zat, List.getD_eq_getElem?_getD, hi]
    have e2 := (of_decide_eq_true ha : ∀ i, i < k → hasB ls S (K + (i : Int)) = true) i hi
    rw [e1]
    unfold wordV
    rw [if_pos e2]
    unfold sliceL
    rw [Int.toNat_natCast, Int.toNat_natCast, Int.toNat_natCast, show ((K : Int) + (i : Int)).toNat = K + i by omega, zat_take _ _ _ hi, zat_drop]
theorem wordV_bd {ls : List (List Int)} (hw : Wd2 ls) (s a : Int) : 0 ≤ wordV ls s a ∧ wordV ls s a < 18446744073709551616 := by
  unfold wordV
  split
  · exact (hw.at _).at _
  · omega

theorem inB_split {ls : List (List Int)} (s a : Int) (n k : Nat) (h : k ≤ n) : inB ls s a n = (inB ls s a k && inB ls s (a + k) ((n : Int) - k)) := by
  rw [Bool.eq_iff_iff, Bool.and_eq_true]
  unfold inB
  rw [decide_eq_true_iff, decide_eq_true_iff, decide_eq_true_iff]
  constructor
  · rintro ⟨h1, h2, h3, h4, h5, h6⟩
    exact ⟨⟨h1, h2, h3, by omega, by omega, by omega⟩, ⟨h1, h2, by omega, by omega, by omega, by omega⟩⟩
  · rintro ⟨⟨h1, h2, h3, h4, h5, h6⟩, ⟨g1, g2, g3, g4, g5, g6⟩⟩
    exact ⟨h1, h2, h3, by omega, by omega, by omega⟩
theorem slice_split {ls : List (List Int)} {s a : Int} {n k : Nat} (h : k ≤ n) (hi : inB ls s a n = true) : sliceX ls s a k ++ sliceX ls s (a + k) ((n : Int) - k) = sliceX ls s a n := by
  have h2 := inB_split (ls := ls) s a n k h
  rw [hi] at h2
  have h3 := (Bool.and_eq_true _ _ ▸ h2.symm : inB ls s a k = true ∧ inB ls s (a + k) ((n : Int) - k) = true)
  obtain ⟨S, K, N, rfl, rfl, hN, hS, hK⟩ := inB_nat hi
  unfold sliceX
  rw [if_pos h3.1, if_pos h3.2, if_pos hi]
  unfold sliceL
  simp only [Int.toNat_natCast]
  rw [show ((K : Int) + (k : Int)).toNat = K + k by omega, show ((n : Int) - (k : Int)).toNat = n - k by omega]
  have e : n = k + (n - k) := by omega
  conv => rhs; rw [e, List.take_add, List.drop_drop]
theorem sliceX_length {ls : List (List Int)} {s a n : Int} (h : inB ls s a n = true) : ((sliceX ls s a n).length : Int) = n := by
  unfold sliceX
  rw [if_pos h]
  exact sliceL_length h
theorem sliceX_no {ls : List (List Int)} {s a n : Int} (h : inB ls s a n = false) : sliceX ls s a n = [] := by unfold sliceX; rw [if_neg (by rw [h]; exact Bool.false_ne_true)]
theorem sliceX_le {ls : List (List Int)} (hf : ∀ j, (seg ls j).length ≤ 300) (s a n : Int) : (sliceX ls s a n).length ≤ 300 := by
  unfold sliceX
  split
  · unfold sliceL
    rw [List.length_take, List.length_drop]
    have := hf s.toNat
    omega
  · simp

attribute [local irreducible] inB hasB wordV sliceX sizeI fewB allB wlL

set_option maxHeartbeats 4000000 in
theorem MatchesReference5_walk (B : Option Addr) (d : Nat) (ls : List (List Int)) (s a n : Int) (w : World) (hB : Sg w B ls) (hlm : ls.length ≤ 9223372036854775807)
    (hs0 : -9223372036854775808 ≤ s) (hs1 : s < 9223372036854775808) (ha0 : -9223372036854775808 ≤ a) (ha1 : a < 9223372036854775808) (hn0 : -9223372036854775808 ≤ n) (hn1 : n < 9223372036854775808) :
    Calls Try.prog 3 #[.slice B ls.length d, .int .i64 s, .int .i64 a, .int .i64 n] w fun e w' => e = .returned (.bool true) ∧ Below w.heap.size w w' := by
  go_enter Try.func3, Try.ntmps3
  go_wp2_with fail
  refine (awake_any _).mono ?_
  rintro e w1 ⟨rfl, hw1⟩
  have HS1 := Lib.hid (hB.below hw1 (Nat.le_refl _))
  go_wp2_with fail
  refine (Few_any B d ls _ HS1.out hlm).mono ?_
  rintro e w' ⟨rfl, rfl⟩
  cases hf : fewB ls with
  | false =>
    have HF := Lib.hid hf
    clear hf
    go_wp2_with fail
    refine (awake_any _).mono ?_
    rintro e w2 ⟨rfl, hw2⟩
    go_wp2
    go_ret
    exact ⟨rfl, bel_on hw1 hw2⟩
  | true =>
    have hl20 := (few_fits hf).2
    have HFI := Lib.hid (fits_few hf)
    have HFF := Lib.hid (few_fits hf)
    have HLE := Lib.hid (sliceX_le (few_fits hf).1 s a n)
    have HW1 := Lib.hid hw1
    have tw : (wordV ls s a == wordV ls s a) = true := by simp
    have th : (hasB ls s a == hasB ls s a) = true := by simp
    have ti : (inB ls s a n == inB ls s a n) = true := by simp
    have tz : (sizeI ls == sizeI ls) = true := by simp
    clear hf hw1
    go_wp2_with fail
    refine (AWord_any B d ls s a _ HS1.out (by omega) HFI.out hs0 (by omega) ha0 (by omega)).mono ?_
    rintro e w' ⟨rfl, rfl⟩
    go_wp2_with fail
    refine (RefWord_any B d ls s a _ HS1.out (by omega)).mono ?_
    rintro e w' ⟨rfl, rfl⟩
    go_wp2_with fail
    refine (ASlice_any B d ls s a n _ HS1.out (by omega) HFI.out hs0 (by omega) ha0 (by omega) hn0 (by omega)).mono ?_
    rintro e w2 ⟨v2, rfl, hg2, hw2⟩
    obtain ⟨A2, c2, rfl, -, -, hr2⟩ := hg2.slice
    have hb2 := bel_on HW1.out hw2
    have HS2 := Lib.hid (hB.below hb2 (Nat.le_refl _))
    have HR2 := Lib.hid hr2
    have HB2 := Lib.hid hb2
    clear hg2 hw2 hr2 hb2
    have hrs : Calls Try.prog 12 #[.slice B ls.length d, .int .i64 s, .int .i64 a, .int .i64 n] w2 fun e w' => ∃ v, e = .returned (.tuple #[v, .bool (inB ls s a n)]) ∧ Got w' w2.heap.size 25 .u64 v (sliceX ls s a n) ∧ Below w2.heap.size w2 w' := by
      cases hi : inB ls s a n with
      | true =>
        have hX : sliceX ls s a n = sliceL ls s a n := by unfold sliceX; rw [if_pos hi]
        rw [hX]
        obtain ⟨S, K, N, rfl, rfl, rfl, hS, hK⟩ := inB_nat hi
        exact RefSlice_yes B d ls S K N w2 HS2.out (by omega) hS hK (HFI.out S) hi
      | false =>
        rw [sliceX_no hi]
        refine (RefSlice_no B d ls s a n w2 HS2.out (by omega) hi).mono ?_
        rintro e w' ⟨rfl, rfl⟩
        exact ⟨_, rfl, Got.empty _ _ _ _, Below.refl _ _⟩
    have HRS := Lib.hid hrs
    clear hrs
    go_wp2_with fail
    refine HRS.out.mono ?_
    rintro e w3 ⟨v3, rfl, hg3, hw3⟩
    obtain ⟨A3, c3, rfl, -, -, hr3⟩ := hg3.slice
    have hb3 := bel_on HB2.out hw3
    have HQ := Lib.hid (SameWords_any A2 A3 c2 c3 (sliceX ls s a n) (sliceX ls s a n) w3 (HR2.out.below hw3 (Nat.le_refl _)) hr3 (by have := HLE.out; omega) (by have := HLE.out; omega))
    rw [sameB_self] at HQ
    have HS3 := Lib.hid (hB.below hb3 (Nat.le_refl _))
    have HB3 := Lib.hid hb3
    clear hg3 hw3 hr3 hb3
    go_wp2_with fail
    refine HQ.out.mono ?_
    rintro e w' ⟨rfl, m, rfl⟩
    have hs4 : Sg (w3.drewN m) B ls := HS3.out
    have HS4 := Lib.hid hs4
    clear hs4
    go_wp2_with fail
    refine (AIn_any B d ls s a n _ HS4.out (by omega) HFI.out hs0 (by omega) ha0 (by omega) hn0 (by omega)).mono ?_
    rintro e w' ⟨rfl, rfl⟩
    go_wp2_with fail
    refine (RefInBounds_any B d ls s a n _ HS4.out (by omega)).mono ?_
    rintro e w' ⟨rfl, rfl⟩
    go_wp2_with fail
    refine (ASize_any B d ls _ HS4.out hl20 HFF.out.1).mono ?_
    rintro e w' ⟨rfl, rfl⟩
    go_wp2_with fail
    refine (RefSize_any B d ls _ HS4.out hl20 HFF.out.1).mono ?_
    rintro e w' ⟨rfl, rfl⟩
    go_wp2
    go_ret
    exact ⟨rfl, bel_drewN HB3.out m⟩
end Go.Proofs.Ytklahnpimdgpiaa
