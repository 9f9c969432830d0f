/- bytes.Clone by its code: the same bytes in memory of the call's own. -/
import Derived.Test.YtgleanjfaecceaaRef06
import Derived.Lib.SliceRun
namespace Go.Proofs.Ytgleanjfaecceaa
open Go.ChangeShapes Go.WideShapes Go.ChangeAt Go.RowKit
set_option linter.unusedVariables false
set_option linter.unusedSimpArgs false

theorem bytesClone_any (A : Option Addr) (cap : Nat) (b : List Int) (w : World) (hr : Ri w .u8 A b) (hm : b.length ≤ 140737488355328) (hnil : A = none → cap = 0) (hc : b.length ≤ cap) (n : Nat) (hn : n = b.length) :
    Calls Try.prog 33 #[.slice A n cap] w fun e w' => ∃ r, e = .returned r ∧ Got w' w.heap.size 5 .u8 r b ∧ Below w.heap.size w w' := by
  obtain ⟨i0, hi, hz0, hz1, hz2⟩ := info_parts int8_info
  have q := fun (w : World) (a : Option Addr) (n c n' c' : Nat) => Lib.run_eql_slice_nil (P := Try.prog) w _ _ a n c n' c' Try.underlying22
  cases A with
  | none =>
    have hz := hnil rfl
    have h0 : b = [] := List.eq_nil_of_length_eq_zero (by omega)
    subst h0
    subst hz
    subst hn
    go_enter Try.func33, Try.ntmps33
    go_wp2
    go_ret
    exact ⟨_, rfl, Got.empty _ _ _ _, Below.refl _ _⟩
  | some a =>
    have HA1 := Lib.hid (hr.alloc (.cells #[] 5))
    have HN := Lib.hid hn
    have hnb : n ≤ 140737488355328 := by omega
    clear hn hr
    go_enter Try.func33, Try.ntmps33
    go_wp2_with (at_builtin; refine wpList_appNn n rfl (.tmp 5) (.tmp 6) 22 rfl Try.underlying22 hi hz0 hz1 hz2 HN.out rfl (Got.empty_made w 5 .u8 (base := w.heap.size) (Nat.le_refl _)) rfl HA1.out (fun h => by cases h) (by unfold maxLen; simp; omega) (by simp; omega) (by simp) ?_; intro v2 w2 hg2 hb2)
    go_ret
    exact ⟨_, rfl, hg2, ((Below.refl _ _).alloc (Nat.le_refl _) _).trans hb2⟩

end Go.Proofs.Ytgleanjfaecceaa
