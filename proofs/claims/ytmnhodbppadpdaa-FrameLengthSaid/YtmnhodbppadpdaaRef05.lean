/- What the reference functions of layer 5 do, and the small ones of layer 4, each by a contract. -/
import Derived.Test.YtmnhodbppadpdaaRef01
import Derived.Test.YtmnhodbppadpdaaMsg
namespace Go.Proofs.Ytmnhodbppadpdaa
open Go.ChangeShapes Go.WideShapes Go.ChangeAt Go.RowKit
set_option linter.unusedVariables false
set_option linter.unusedSimpArgs false

theorem Few_any (A : Option Addr) (c : Nat) (ls : List (List Int)) (w : World) (hs : Sg w A ls) (hm : ls.length ≤ 9223372036854775807) :
    Calls Try.prog 9 #[.slice A ls.length c] w fun e w' => e = .returned (.bool (fewB ls)) ∧ w = w' := by
  have Hs := Lib.hid hs
  clear hs
  go_enter Try.func9, Try.ntmps9
  go_wp2
  go_loop [3] (fun i => ∃ k : Nat, k ≤ ls.length ∧ i = .int .i64 k ∧ ∀ j, j < k → (seg ls j).length ≤ 300) (fun i => ls.length - (intOf i).toNat)
  case atStart => exact ⟨0, by omega, rfl, by intro j hj; omega⟩
  case round =>
    obtain ⟨k, hk, rfl, hfew⟩ := hrel
    have HF := Lib.hid hfew
    clear hfew
    by_cases hlt : k < ls.length
    · obtain ⟨b, off, A', c', rfl, hcell, hri, -, -, -⟩ := Hs.out.one hlt
      have hi1 : (k : Int) < (ls.length : Int) := by omega
      clear hri
      by_cases h3 : (seg ls k).length ≤ 300
      · have h4 : ¬ (300 : Int) < ((seg ls k).length : Int) := by omega
        have H3 := Lib.hid h3
        go_wp2
        go_round
        case rel => exact ⟨k + 1, by omega, by go_num, fun j hj => by
          by_cases e : j = k
          · subst e; exact H3.out
          · exact HF.out j (by omega)⟩
        case measure => simp [intOf]; omega
      · have h4 : (300 : Int) < ((seg ls k).length : Int) := by omega
        have HR : Hid (fewB ls = false) := Lib.hid (by
          unfold fewB
          simp
          intro hh
          exact absurd (hh k hlt) h3)
        go_wp2
        go_ret
        exact ⟨by rw [HR.out]; rfl, rfl⟩
    · obtain rfl : k = ls.length := by omega
      have HR : Hid (fewB ls = decide ((ls.length : Int) ≤ 20)) := Lib.hid (by
        unfold fewB
        rw [decide_eq_decide]
        constructor
        · intro h; omega
        · intro h; exact ⟨HF.out, by omega⟩)
      go_wp2
      go_ret
      exact ⟨by rw [HR.out]; rfl, rfl⟩

theorem sliceL_length {ls : List (List Int)} {s a n : Int} (h : inB ls s a n = true) : ((sliceL ls s a n).length : Int) = n := by
  have h2 := of_decide_eq_true h
  unfold sliceL
  rw [List.length_take, List.length_drop]
  omega

theorem TableBytes_any (n : Int) (w : World) (h0 : 0 ≤ n) (h1 : n ≤ 1000000) :
    Calls Try.prog 17 #[.int .i64 n] w fun e w' => e = .returned (.int .i64 (8 * (n / 2) + 8)) ∧ w = w' := by
  by_cases h : n % 2 = 0
  · have h2 : (n % 2 == 0) = true := by rw [beq_iff_eq]; exact h
    have HE : Hid (8 * (n / 2) + 8 = 4 * n + 8) := Lib.hid (by omega)
    clear h
    go_enter Try.func17, Try.ntmps17
    go_wp2
    go_ret
    exact ⟨by rw [HE.out]; rfl, rfl⟩
  · have h2 : (n % 2 == 0) = false := by rw [beq_eq_false_iff_ne]; exact h
    have HE : Hid (8 * (n / 2) + 8 = 4 * n + 4) := Lib.hid (by omega)
    clear h
    go_enter Try.func17, Try.ntmps17
    go_wp2
    go_ret
    exact ⟨by rw [HE.out]; rfl, rfl⟩
end Go.Proofs.Ytmnhodbppadpdaa
