/- What the reference functions of layer 4 do, each by a contract. -/
import Derived.Test.YtgicohajmnoedaaRef05
import Derived.Test.YtgicohajmnoedaaMsgOwn
import Derived.Test.YtgicohajmnoedaaFrameNum
namespace Go.Proofs.Ytgicohajmnoedaa
open Go.ChangeShapes Go.WideShapes Go.ChangeAt Go.RowKit
set_option linter.unusedVariables false
set_option linter.unusedSimpArgs false

/-! ## Same -/
def sameS (a b : List (List Int)) : Bool := decide (a = b)
theorem sameS_self (a : List (List Int)) : sameS a a = true := by simp [sameS]
theorem sameS_no (a b : List (List Int)) (k : Nat) (h : sameB (seg a k) (seg b k) = false) : sameS a b = false := by
  unfold sameS
  simp
  rintro rfl
  rw [sameB_self] at h
  cases h
theorem sameS_len (a b : List (List Int)) (h : a.length ≠ b.length) : sameS a b = false := by
  unfold sameS
  simp
  rintro rfl
  exact h rfl
theorem sameS_yes (a b : List (List Int)) (hl : a.length = b.length) (h : ∀ i, i < a.length → sameB (seg a i) (seg b i) = true) : sameS a b = true := by
  unfold sameS
  simp
  exact ext_seg hl fun i hi => of_decide_eq_true (h i hi)

theorem SameWords_is (A B : Option Addr) (c d : Nat) (a b : List Int) (w : World) (ha : Ri w .u64 A a) (hb : Ri w .u64 B b) (hm : a.length ≤ 9223372036854775807) (hm2 : b.length ≤ 9223372036854775807) {x : Bool} (hx : sameB a b = x) :
    Calls Try.prog 25 #[.slice A a.length c, .slice B b.length d] w fun e w' => e = .returned (.bool x) ∧ ∃ m, w' = w.drewN m := by
  subst hx
  exact SameWords_any A B c d a b w ha hb hm hm2

theorem Sg.drewN {w : World} {A : Option Addr} {ls : List (List Int)} (h : Sg w A ls) (n : Nat) : Sg (w.drewN n) A ls := h

theorem Same4_any (A B : Option Addr) (c d : Nat) (a b : List (List Int)) (w : World) (ha : Sg w A a) (hb : Sg w B b) (hm : a.length ≤ 9223372036854775807) (hm2 : b.length ≤ 9223372036854775807) :
    Calls Try.prog 17 #[.slice A a.length c, .slice B b.length d] w fun e w' => e = .returned (.bool (sameS a b)) ∧ ∃ m, w' = w.drewN m := by
  have Ha := Lib.hid ha
  have Hb := Lib.hid hb
  clear ha hb
  by_cases hl : a.length = b.length
  · have HL := Lib.hid hl
    have hlen : ((a.length : Int) != (b.length : Int)) = false := by simp [hl]
    have hlen2 : ((a.length : Int) == (b.length : Int)) = true := by simp [hl]
    clear hl
    go_enter Try.func17, Try.ntmps17
    go_wp2
    go_loopw [5] (fun i wr => ∃ k : Nat, k ≤ a.length ∧ i = .int .i64 k ∧ (∀ j, j < k → sameB (seg a j) (seg b j) = true) ∧ ∃ m, wr = w.drewN m) (fun i _ => a.length - (intOf i).toNat)
    case atStart => exact ⟨0, by omega, rfl, by intro j hj; omega, 0, rfl⟩
    case round =>
      obtain ⟨k, hk, rfl, hsame, hwr⟩ := hrel
      have HS := Lib.hid hsame
      have HW := Lib.hid hwr
      have HA2 : Hid (Sg wr A a) := Lib.hid (by obtain ⟨m, rfl⟩ := hwr; exact Ha.out.drewN m)
      have HB2 : Hid (Sg wr B b) := Lib.hid (by obtain ⟨m, rfl⟩ := hwr; exact Hb.out.drewN m)
      clear hsame hwr
      by_cases hlt : k < a.length
      · obtain ⟨g, off, A1, c1, rfl, hc1, hr1, -, hd1, hd2⟩ := HA2.out.one hlt
        have hltb : k < b.length := by rw [← HL.out]; exact hlt
        obtain ⟨g', off', A2, c2, rfl, hc2, hr2, -, he1, he2⟩ := HB2.out.one hltb
        have hi1 : (k : Int) < (a.length : Int) := by omega
        have hi2 : (k : Int) < (b.length : Int) := by omega
        have HR1 := Lib.hid hr1
        have HR2 := Lib.hid hr2
        clear hr1 hr2
        cases hx : sameB (seg a k) (seg b k)
        · have HX := Lib.hid hx
          clear hx
          go_wp2
          go_quiet ((go_at_call 25; exact Calls.quiet_of (SameWords_is _ _ _ _ _ _ _ (HR1.out.drewN _) (HR2.out.drewN _) (by omega) (by omega) HX.out)))
          go_wp2
          go_ret
          exact ⟨by rw [sameS_no a b k HX.out]; rfl, by obtain ⟨m, h⟩ := HW.out; exact ⟨_, by rw [h, World.drewN_drewN]⟩⟩
        · have HX := Lib.hid hx
          clear hx
          go_wp2
          go_quiet ((go_at_call 25; exact Calls.quiet_of (SameWords_is _ _ _ _ _ _ _ (HR1.out.drewN _) (HR2.out.drewN _) (by omega) (by omega) HX.out)))
          go_wp2
          go_roundw
          case rel => exact ⟨k + 1, by omega, by go_num, fun j hj => by
            by_cases e : j = k
            · subst e; exact HX.out
            · exact HS.out j (by omega), by obtain ⟨m, h⟩ := HW.out; exact ⟨_, by rw [h, World.drewN_drewN]⟩⟩
          case measure => simp [intOf]; omega
      · obtain rfl : k = a.length := by omega
        go_wp2
        go_ret
        exact ⟨by rw [sameS_yes a b HL.out HS.out]; rfl, HW.out⟩
  · have HL := Lib.hid (sameS_len a b hl)
    have hlen : ((a.length : Int) != (b.length : Int)) = true := by simp; omega
    have hlen2 : ((a.length : Int) == (b.length : Int)) = false := by simp; omega
    clear hl
    go_enter Try.func17, Try.ntmps17
    go_wp2
    go_ret
    exact ⟨by rw [HL.out]; rfl, 0, rfl⟩

/-! ## put, Serialize -/
def headL (ls : List (List Int)) : List Int := put4 ((ls.length : Int) - 1) ++ lensL ls ++ padL ls.length
theorem headL_length (ls : List (List Int)) (h : ls.length ≤ 512) : (headL ls).length ≤ 2056 := by
  unfold headL
  rw [List.length_append, List.length_append, put4_length, lensL_length, padL_length]
  split <;> omega

/-! ## Parse -/
def entN (b : List Int) (i : Nat) : Nat := (ent b i).toNat
theorem entN_eq {b : List Int} (hb : Bts b) (i : Nat) : ent b i = (entN b i : Int) := by have := (ent_bd hb i).1; unfold entN; omega
theorem entN_lt {b : List Int} (hb : Bts b) (i : Nat) : entN b i < 4294967296 := by have := (ent_bd hb i).2; have := (ent_bd hb i).1; unfold entN; omega
def atN (b : List Int) (k : Nat) : Nat := (atF b k).toNat
def tblN (n : Nat) : Nat := 8 * (n / 2) + 8
theorem atN_zero {b : List Int} (hb : Bts b) : atN b 0 = tblN (entN b 0 + 1) := by
  have h := entN_eq hb 0
  unfold atN atF tbl cntF tblN
  rw [h]; omega
theorem atN_succ {b : List Int} (hb : Bts b) (k : Nat) : atN b (k + 1) = atN b k + 8 * entN b (k + 1) := by
  have h := entN_eq hb (k + 1)
  have h2 := atF_le hb k
  have h3 := ent_bd hb 0
  have : 0 ≤ tbl (cntF b) := by unfold tbl cntF; omega
  unfold atN
  rw [atF, h]; omega
theorem atF_eq {b : List Int} (hb : Bts b) (k : Nat) : atF b k = (atN b k : Int) := by
  have h2 := atF_le hb k
  have h3 := ent_bd hb 0
  have : 0 ≤ tbl (cntF b) := by unfold tbl cntF; omega
  unfold atN; omega

theorem okF_head {b : List Int} (h : ¬ headP b) : okF b = false := by unfold okF; rw [decide_eq_false_iff_not]; exact fun hh => h hh.1
theorem okF_step {b : List Int} {k : Nat} (hk : k < (cntF b).toNat) (h : ¬ stepP b k) : okF b = false := by unfold okF; rw [decide_eq_false_iff_not]; exact fun hh => h (hh.2.1 k hk)
theorem okF_end {b : List Int} (h : ¬ atF b (cntF b).toNat = b.length) : okF b = false := by unfold okF; rw [decide_eq_false_iff_not]; exact fun hh => h hh.2.2
theorem okF_yes {b : List Int} (h1 : headP b) (h2 : ∀ k, k < (cntF b).toNat → stepP b k) (h3 : atF b (cntF b).toNat = b.length) : okF b = true := decide_eq_true ⟨h1, h2, h3⟩
theorem parse_nil {b : List Int} (h : okF b = false) (w : World) (base : Nat) : Ending.returned (.tuple #[.slice none 0 0, .int .i64 1]) = Ending.returned (.tuple #[.slice none 0 0, .int .i64 (errF b)]) ∧ GotS w base (.slice none 0 0) (resF b) := by
  refine ⟨by simp [errF, h], ?_⟩
  simp only [resF, h]
  exact GotS.empty w base

theorem segF_eq (b : List Int) (k : Nat) : segF b k = wordsOf ((b.drop (atN b k)).take (8 * entN b (k + 1))) := rfl

attribute [local irreducible] atN entN

end Go.Proofs.Ytgicohajmnoedaa
