/- The texts Ref07 (what is wanted of them), one after the other. -/
import Derived.Test.YtcmljjhnfpfcfaaDoorMg1
import Derived.Test.YtcmljjhnfpfcfaaDoorMg2
import Derived.Test.YtcmljjhnfpfcfaaDoorMg7
import Derived.Test.YtcmljjhnfpfcfaaDoorMg17
import Derived.Test.YtcmljjhnfpfcfaaDoorMg18
/- What the reference functions of layer 7 do, each by a contract. -/
namespace Go.Proofs.YtcmljjhnfpfcfaaDoor
open Go.ChangeShapes Go.WideShapes Go.ChangeAt Go.RowKit
set_option linter.unusedVariables false
set_option linter.unusedSimpArgs false
set_option maxRecDepth 100000

theorem wordV_bd {ls : List (List Int)} (h : Wd2 ls) (s a : Int) : 0 ≤ wordV ls s a ∧ wordV ls s a < 18446744073709551616 := by
  unfold wordV
  split
  · exact (h.at s.toNat).at a.toNat
  · omega

theorem IsFar_any (x : Int) (w : World) (h5 : 0 ≤ x) (h6 : x < 18446744073709551616) :
    Calls Tryd.prog 52 #[.int .u64 x] w fun e w' => e = .returned (.bool (x % 4 == 2)) ∧ w = w' := by
  go_enter Tryd.func52, Tryd.ntmps52
  go_wp2
  go_ret
  exact ⟨rfl, rfl⟩
theorem IsFar_is (x : Int) (b : Bool) (w : World) (h5 : 0 ≤ x) (h6 : x < 18446744073709551616) (hb : (x % 4 == 2) = b) :
    Calls Tryd.prog 52 #[.int .u64 x] w fun e w' => e = .returned (.bool b) ∧ w = w' := by
  subst hb
  exact IsFar_any x w h5 h6

theorem Landing_any (x : Int) (w : World) (h5 : 0 ≤ x) (h6 : x < 18446744073709551616) :
    Calls Tryd.prog 53 #[.int .u64 x] w fun e w' => e = .returned (.tuple #[.int .i64 (x / 4294967296), .int .i64 (x % 4294967296 / 8)]) ∧ w = w' := by
  have h7 : x / 4294967296 < 4294967296 := by omega
  go_enter Tryd.func53, Tryd.ntmps53
  go_wp2
  go_ret2
  exact ⟨rfl, rfl⟩

/-- a pointer's descriptor, the segment and the base of its object, and the error -/
structure Fol where
  w : Int
  s : Int
  b : Int
  e : Int
def folE (e : Int) : Fol := ⟨0, 0, 0, e⟩
def followF (ls : List (List Int)) (s a : Int) : Fol :=
  if hasB ls s a = false then folE 2
  else if (wordV ls s a % 4 == 2) = false then ⟨wordV ls s a, s, a + 1, 0⟩
  else if hasB ls (wordV ls s a / 4294967296) (wordV ls s a % 4294967296 / 8) = false then folE 2
  else if wordV ls s a / 4 % 2 = 0 then
    if (wordV ls (wordV ls s a / 4294967296) (wordV ls s a % 4294967296 / 8) % 4 == 2) = true then folE 3
    else ⟨wordV ls (wordV ls s a / 4294967296) (wordV ls s a % 4294967296 / 8), wordV ls s a / 4294967296, wordV ls s a % 4294967296 / 8 + 1, 0⟩
  else if hasB ls (wordV ls s a / 4294967296) (wordV ls s a % 4294967296 / 8 + 1) = false then folE 2
  else if (wordV ls (wordV ls s a / 4294967296) (wordV ls s a % 4294967296 / 8) % 4 == 2) = false ∨ wordV ls (wordV ls s a / 4294967296) (wordV ls s a % 4294967296 / 8) / 4 % 2 = 1 ∨
      1 < (decP (wordV ls (wordV ls s a / 4294967296) (wordV ls s a % 4294967296 / 8 + 1))).k ∨ (decP (wordV ls (wordV ls s a / 4294967296) (wordV ls s a % 4294967296 / 8 + 1))).o ≠ 0 then folE 3
  else ⟨wordV ls (wordV ls s a / 4294967296) (wordV ls s a % 4294967296 / 8 + 1), wordV ls (wordV ls s a / 4294967296) (wordV ls s a % 4294967296 / 8) / 4294967296, wordV ls (wordV ls s a / 4294967296) (wordV ls s a % 4294967296 / 8) % 4294967296 / 8, 0⟩

theorem RefWord_is (A : Option Addr) (c : Nat) (ls : List (List Int)) (s a : Int) (b : Bool) (w : World) (hs : Sg w A ls) (hm : ls.length ≤ 140737488355328) (hb : hasB ls s a = b) :
    Calls Tryd.prog 51 #[.slice A ls.length c, .int .i64 s, .int .i64 a] w fun e w' => e = .returned (.tuple #[.int .u64 (wordV ls s a), .bool b]) ∧ w = w' := by
  subst hb
  exact RefWord_any A c ls s a w hs hm
-- FOLLOW
set_option maxHeartbeats 1000000 in
theorem Follow1 (A : Option Addr) (c : Nat) (ls : List (List Int)) (s a : Int) (w : World) (hs : Sg w A ls) (hw : Wd2 ls) (hm : ls.length ≤ 140737488355328) (hf : ∀ j, (seg ls j).length ≤ 140737488355328) (h1 : hasB ls s a = false) :
    Calls Tryd.prog 43 #[.slice A ls.length c, .int .i64 s, .int .i64 a] w fun e w' => e = .returned (.tuple #[.int .u64 (followF ls s a).w, .int .i64 (followF ls s a).s, .int .i64 (followF ls s a).b, .int .i64 (followF ls s a).e]) ∧ Below w.heap.size w w' := by
  have HF : Hid (followF ls s a = folE 2) := Lib.hid (by simp [followF, folE, h1])
  have Hs := Lib.hid hs
  have bx := wordV_bd hw s a
  have bone := wordV_bd hw (wordV ls s a / 4294967296) (wordV ls s a % 4294967296 / 8)
  have btwo := wordV_bd hw (wordV ls s a / 4294967296) (wordV ls s a % 4294967296 / 8 + 1)
  have q1 : 0 ≤ wordV ls s a / 4294967296 ∧ wordV ls s a / 4294967296 < 4294967296 := by omega
  have q2 : 0 ≤ wordV ls s a % 4294967296 / 8 ∧ wordV ls s a % 4294967296 / 8 < 536870912 := by omega
  clear hs hw hf
  go_enter Tryd.func43, Tryd.ntmps43
  go_wp2_with fail
  refine (RefWord_is _ _ _ _ _ false _ Hs.out hm h1).mono ?_
  rintro e w' ⟨rfl, rfl⟩
  go_wp2
  refine bodyPost_ret (v := .tuple #[.int .u64 0, .int .i64 0, .int .i64 0, .int .i64 2]) (by simp [results, Tryd.results43, go_sem]) rfl ⟨by rw [HF.out]; rfl, Below.refl _ _⟩

set_option maxHeartbeats 1000000 in
theorem Follow2 (A : Option Addr) (c : Nat) (ls : List (List Int)) (s a : Int) (w : World) (hs : Sg w A ls) (hw : Wd2 ls) (hm : ls.length ≤ 140737488355328) (hf : ∀ j, (seg ls j).length ≤ 140737488355328) (h1 : hasB ls s a = true) (h2 : (wordV ls s a % 4 == 2) = false) :
    Calls Tryd.prog 43 #[.slice A ls.length c, .int .i64 s, .int .i64 a] w fun e w' => e = .returned (.tuple #[.int .u64 (followF ls s a).w, .int .i64 (followF ls s a).s, .int .i64 (followF ls s a).b, .int .i64 (followF ls s a).e]) ∧ Below w.heap.size w w' := by
  have HF : Hid (followF ls s a = ⟨wordV ls s a, s, a + 1, 0⟩) := Lib.hid (by simp [followF, folE, h1, h2])
  have Hs := Lib.hid hs
  have bx := wordV_bd hw s a
  have bone := wordV_bd hw (wordV ls s a / 4294967296) (wordV ls s a % 4294967296 / 8)
  have btwo := wordV_bd hw (wordV ls s a / 4294967296) (wordV ls s a % 4294967296 / 8 + 1)
  have q1 : 0 ≤ wordV ls s a / 4294967296 ∧ wordV ls s a / 4294967296 < 4294967296 := by omega
  have q2 : 0 ≤ wordV ls s a % 4294967296 / 8 ∧ wordV ls s a % 4294967296 / 8 < 536870912 := by omega
  have hab : 0 ≤ a ∧ a ≤ 140737488355328 := by
    unfold hasB at h1
    have h7 := of_decide_eq_true h1
    have h8 := hf s.toNat
    omega
  clear hs hw hf
  go_enter Tryd.func43, Tryd.ntmps43
  go_wp2_with fail
  refine (RefWord_is _ _ _ _ _ true _ Hs.out hm h1).mono ?_
  rintro e w' ⟨rfl, rfl⟩
  go_wp2_with fail
  refine (IsFar_is _ false _ bx.1 bx.2 h2).mono ?_
  rintro e w' ⟨rfl, rfl⟩
  go_wp2
  refine bodyPost_ret (v := .tuple #[.int .u64 (wordV ls s a), .int .i64 s, .int .i64 (a + 1), .int .i64 0]) (by simp [results, Tryd.results43, go_sem]) rfl ⟨by rw [HF.out], Below.refl _ _⟩

set_option maxHeartbeats 1000000 in
theorem Follow3 (A : Option Addr) (c : Nat) (ls : List (List Int)) (s a : Int) (w : World) (hs : Sg w A ls) (hw : Wd2 ls) (hm : ls.length ≤ 140737488355328) (hf : ∀ j, (seg ls j).length ≤ 140737488355328) (h1 : hasB ls s a = true) (h2 : (wordV ls s a % 4 == 2) = true) (h3 : hasB ls (wordV ls s a / 4294967296) (wordV ls s a % 4294967296 / 8) = false) :
    Calls Tryd.prog 43 #[.slice A ls.length c, .int .i64 s, .int .i64 a] w fun e w' => e = .returned (.tuple #[.int .u64 (followF ls s a).w, .int .i64 (followF ls s a).s, .int .i64 (followF ls s a).b, .int .i64 (followF ls s a).e]) ∧ Below w.heap.size w w' := by
  have HF : Hid (followF ls s a = folE 2) := Lib.hid (by simp [followF, folE, h1, h2, h3])
  have Hs := Lib.hid hs
  have bx := wordV_bd hw s a
  have bone := wordV_bd hw (wordV ls s a / 4294967296) (wordV ls s a % 4294967296 / 8)
  have btwo := wordV_bd hw (wordV ls s a / 4294967296) (wordV ls s a % 4294967296 / 8 + 1)
  have q1 : 0 ≤ wordV ls s a / 4294967296 ∧ wordV ls s a / 4294967296 < 4294967296 := by omega
  have q2 : 0 ≤ wordV ls s a % 4294967296 / 8 ∧ wordV ls s a % 4294967296 / 8 < 536870912 := by omega
  clear hs hw hf
  go_enter Tryd.func43, Tryd.ntmps43
  go_wp2_with fail
  refine (RefWord_is _ _ _ _ _ true _ Hs.out hm h1).mono ?_
  rintro e w' ⟨rfl, rfl⟩
  go_wp2_with fail
  refine (IsFar_is _ true _ bx.1 bx.2 h2).mono ?_
  rintro e w' ⟨rfl, rfl⟩
  go_wp2_with fail
  refine (Landing_any _ _ bx.1 bx.2).mono ?_
  rintro e w' ⟨rfl, rfl⟩
  go_wp2_with fail
  refine (RefWord_is _ _ _ _ _ false _ Hs.out hm h3).mono ?_
  rintro e w' ⟨rfl, rfl⟩
  go_wp2
  refine bodyPost_ret (v := .tuple #[.int .u64 0, .int .i64 0, .int .i64 0, .int .i64 2]) (by simp [results, Tryd.results43, go_sem]) rfl ⟨by rw [HF.out]; rfl, Below.refl _ _⟩

set_option maxHeartbeats 1000000 in
theorem Follow4 (A : Option Addr) (c : Nat) (ls : List (List Int)) (s a : Int) (w : World) (hs : Sg w A ls) (hw : Wd2 ls) (hm : ls.length ≤ 140737488355328) (hf : ∀ j, (seg ls j).length ≤ 140737488355328) (h1 : hasB ls s a = true) (h2 : (wordV ls s a % 4 == 2) = true) (h3 : hasB ls (wordV ls s a / 4294967296) (wordV ls s a % 4294967296 / 8) = true) (h4 : wordV ls s a / 4 % 2 = 0) (h5 : (wordV ls (wordV ls s a / 4294967296) (wordV ls s a % 4294967296 / 8) % 4 == 2) = true) :
    Calls Tryd.prog 43 #[.slice A ls.length c, .int .i64 s, .int .i64 a] w fun e w' => e = .returned (.tuple #[.int .u64 (followF ls s a).w, .int .i64 (followF ls s a).s, .int .i64 (followF ls s a).b, .int .i64 (followF ls s a).e]) ∧ Below w.heap.size w w' := by
  have HF : Hid (followF ls s a = folE 3) := Lib.hid (by simp [followF, folE, h1, h2, h3, h4, h5])
  have Hs := Lib.hid hs
  have bx := wordV_bd hw s a
  have bone := wordV_bd hw (wordV ls s a / 4294967296) (wordV ls s a % 4294967296 / 8)
  have btwo := wordV_bd hw (wordV ls s a / 4294967296) (wordV ls s a % 4294967296 / 8 + 1)
  have q1 : 0 ≤ wordV ls s a / 4294967296 ∧ wordV ls s a / 4294967296 < 4294967296 := by omega
  have q2 : 0 ≤ wordV ls s a % 4294967296 / 8 ∧ wordV ls s a % 4294967296 / 8 < 536870912 := by omega
  have t4 : (wordV ls s a / 4 % 2 == 0) = true := by rw [beq_iff_eq]; exact h4
  clear hs hw hf
  go_enter Tryd.func43, Tryd.ntmps43
  go_wp2_with fail
  refine (RefWord_is _ _ _ _ _ true _ Hs.out hm h1).mono ?_
  rintro e w' ⟨rfl, rfl⟩
  go_wp2_with fail
  refine (IsFar_is _ true _ bx.1 bx.2 h2).mono ?_
  rintro e w' ⟨rfl, rfl⟩
  go_wp2_with fail
  refine (Landing_any _ _ bx.1 bx.2).mono ?_
  rintro e w' ⟨rfl, rfl⟩
  go_wp2_with fail
  refine (RefWord_is _ _ _ _ _ true _ Hs.out hm h3).mono ?_
  rintro e w' ⟨rfl, rfl⟩
  go_wp2_with fail
  refine (IsFar_is _ true _ bone.1 bone.2 h5).mono ?_
  rintro e w' ⟨rfl, rfl⟩
  go_wp2
  refine bodyPost_ret (v := .tuple #[.int .u64 0, .int .i64 0, .int .i64 0, .int .i64 3]) (by simp [results, Tryd.results43, go_sem]) rfl ⟨by rw [HF.out]; rfl, Below.refl _ _⟩

set_option maxHeartbeats 1000000 in
theorem Follow5 (A : Option Addr) (c : Nat) (ls : List (List Int)) (s a : Int) (w : World) (hs : Sg w A ls) (hw : Wd2 ls) (hm : ls.length ≤ 140737488355328) (hf : ∀ j, (seg ls j).length ≤ 140737488355328) (h1 : hasB ls s a = true) (h2 : (wordV ls s a % 4 == 2) = true) (h3 : hasB ls (wordV ls s a / 4294967296) (wordV ls s a % 4294967296 / 8) = true) (h4 : wordV ls s a / 4 % 2 = 0) (h5 : (wordV ls (wordV ls s a / 4294967296) (wordV ls s a % 4294967296 / 8) % 4 == 2) = false) :
    Calls Tryd.prog 43 #[.slice A ls.length c, .int .i64 s, .int .i64 a] w fun e w' => e = .returned (.tuple #[.int .u64 (followF ls s a).w, .int .i64 (followF ls s a).s, .int .i64 (followF ls s a).b, .int .i64 (followF ls s a).e]) ∧ Below w.heap.size w w' := by
  have HF : Hid (followF ls s a = ⟨wordV ls (wordV ls s a / 4294967296) (wordV ls s a % 4294967296 / 8), (wordV ls s a / 4294967296), (wordV ls s a % 4294967296 / 8) + 1, 0⟩) := Lib.hid (by simp [followF, folE, h1, h2, h3, h4, h5])
  have Hs := Lib.hid hs
  have bx := wordV_bd hw s a
  have bone := wordV_bd hw (wordV ls s a / 4294967296) (wordV ls s a % 4294967296 / 8)
  have btwo := wordV_bd hw (wordV ls s a / 4294967296) (wordV ls s a % 4294967296 / 8 + 1)
  have q1 : 0 ≤ wordV ls s a / 4294967296 ∧ wordV ls s a / 4294967296 < 4294967296 := by omega
  have q2 : 0 ≤ wordV ls s a % 4294967296 / 8 ∧ wordV ls s a % 4294967296 / 8 < 536870912 := by omega
  have t4 : (wordV ls s a / 4 % 2 == 0) = true := by rw [beq_iff_eq]; exact h4
  clear hs hw hf
  go_enter Tryd.func43, Tryd.ntmps43
  go_wp2_with fail
  refine (RefWord_is _ _ _ _ _ true _ Hs.out hm h1).mono ?_
  rintro e w' ⟨rfl, rfl⟩
  go_wp2_with fail
  refine (IsFar_is _ true _ bx.1 bx.2 h2).mono ?_
  rintro e w' ⟨rfl, rfl⟩
  go_wp2_with fail
  refine (Landing_any _ _ bx.1 bx.2).mono ?_
  rintro e w' ⟨rfl, rfl⟩
  go_wp2_with fail
  refine (RefWord_is _ _ _ _ _ true _ Hs.out hm h3).mono ?_
  rintro e w' ⟨rfl, rfl⟩
  go_wp2_with fail
  refine (IsFar_is _ false _ bone.1 bone.2 h5).mono ?_
  rintro e w' ⟨rfl, rfl⟩
  go_wp2
  refine bodyPost_ret (v := .tuple #[.int .u64 (wordV ls (wordV ls s a / 4294967296) (wordV ls s a % 4294967296 / 8)), .int .i64 (wordV ls s a / 4294967296), .int .i64 (wordV ls s a % 4294967296 / 8 + 1), .int .i64 0]) (by simp [results, Tryd.results43, go_sem]) rfl ⟨by rw [HF.out], Below.refl _ _⟩

set_option maxHeartbeats 1000000 in
theorem Follow6 (A : Option Addr) (c : Nat) (ls : List (List Int)) (s a : Int) (w : World) (hs : Sg w A ls) (hw : Wd2 ls) (hm : ls.length ≤ 140737488355328) (hf : ∀ j, (seg ls j).length ≤ 140737488355328) (h1 : hasB ls s a = true) (h2 : (wordV ls s a % 4 == 2) = true) (h3 : hasB ls (wordV ls s a / 4294967296) (wordV ls s a % 4294967296 / 8) = true) (h4 : ¬ wordV ls s a / 4 % 2 = 0) (h6 : hasB ls (wordV ls s a / 4294967296) (wordV ls s a % 4294967296 / 8 + 1) = false) :
    Calls Tryd.prog 43 #[.slice A ls.length c, .int .i64 s, .int .i64 a] w fun e w' => e = .returned (.tuple #[.int .u64 (followF ls s a).w, .int .i64 (followF ls s a).s, .int .i64 (followF ls s a).b, .int .i64 (followF ls s a).e]) ∧ Below w.heap.size w w' := by
  have HF : Hid (followF ls s a = folE 2) := Lib.hid (by simp [followF, folE, h1, h2, h3, h4, h6])
  have Hs := Lib.hid hs
  have bx := wordV_bd hw s a
  have bone := wordV_bd hw (wordV ls s a / 4294967296) (wordV ls s a % 4294967296 / 8)
  have btwo := wordV_bd hw (wordV ls s a / 4294967296) (wordV ls s a % 4294967296 / 8 + 1)
  have q1 : 0 ≤ wordV ls s a / 4294967296 ∧ wordV ls s a / 4294967296 < 4294967296 := by omega
  have q2 : 0 ≤ wordV ls s a % 4294967296 / 8 ∧ wordV ls s a % 4294967296 / 8 < 536870912 := by omega
  have t4 : (wordV ls s a / 4 % 2 == 0) = false := by rw [beq_eq_false_iff_ne]; exact h4
  clear hs hw hf
  go_enter Tryd.func43, Tryd.ntmps43
  go_wp2_with fail
  refine (RefWord_is _ _ _ _ _ true _ Hs.out hm h1).mono ?_
  rintro e w' ⟨rfl, rfl⟩
  go_wp2_with fail
  refine (IsFar_is _ true _ bx.1 bx.2 h2).mono ?_
  rintro e w' ⟨rfl, rfl⟩
  go_wp2_with fail
  refine (Landing_any _ _ bx.1 bx.2).mono ?_
  rintro e w' ⟨rfl, rfl⟩
  go_wp2_with fail
  refine (RefWord_is _ _ _ _ _ true _ Hs.out hm h3).mono ?_
  rintro e w' ⟨rfl, rfl⟩
  go_wp2_with fail
  refine (RefWord_is _ _ _ _ _ false _ Hs.out hm h6).mono ?_
  rintro e w' ⟨rfl, rfl⟩
  go_wp2
  refine bodyPost_ret (v := .tuple #[.int .u64 0, .int .i64 0, .int .i64 0, .int .i64 2]) (by simp [results, Tryd.results43, go_sem]) rfl ⟨by rw [HF.out]; rfl, Below.refl _ _⟩

set_option maxHeartbeats 1000000 in
theorem Follow7 (A : Option Addr) (c : Nat) (ls : List (List Int)) (s a : Int) (w : World) (hs : Sg w A ls) (hw : Wd2 ls) (hm : ls.length ≤ 140737488355328) (hf : ∀ j, (seg ls j).length ≤ 140737488355328) (h1 : hasB ls s a = true) (h2 : (wordV ls s a % 4 == 2) = true) (h3 : hasB ls (wordV ls s a / 4294967296) (wordV ls s a % 4294967296 / 8) = true) (h4 : ¬ wordV ls s a / 4 % 2 = 0) (h6 : hasB ls (wordV ls s a / 4294967296) (wordV ls s a % 4294967296 / 8 + 1) = true) (h5 : (wordV ls (wordV ls s a / 4294967296) (wordV ls s a % 4294967296 / 8) % 4 == 2) = false) :
    Calls Tryd.prog 43 #[.slice A ls.length c, .int .i64 s, .int .i64 a] w fun e w' => e = .returned (.tuple #[.int .u64 (followF ls s a).w, .int .i64 (followF ls s a).s, .int .i64 (followF ls s a).b, .int .i64 (followF ls s a).e]) ∧ Below w.heap.size w w' := by
  have HF : Hid (followF ls s a = folE 3) := Lib.hid (by simp [followF, folE, h1, h2, h3, h4, h5, h6])
  have Hs := Lib.hid hs
  have bx := wordV_bd hw s a
  have bone := wordV_bd hw (wordV ls s a / 4294967296) (wordV ls s a % 4294967296 / 8)
  have btwo := wordV_bd hw (wordV ls s a / 4294967296) (wordV ls s a % 4294967296 / 8 + 1)
  have q1 : 0 ≤ wordV ls s a / 4294967296 ∧ wordV ls s a / 4294967296 < 4294967296 := by omega
  have q2 : 0 ≤ wordV ls s a % 4294967296 / 8 ∧ wordV ls s a % 4294967296 / 8 < 536870912 := by omega
  have t4 : (wordV ls s a / 4 % 2 == 0) = false := by rw [beq_eq_false_iff_ne]; exact h4
  clear hs hw hf
  go_enter Tryd.func43, Tryd.ntmps43
  go_wp2_with fail
  refine (RefWord_is _ _ _ _ _ true _ Hs.out hm h1).mono ?_
  rintro e w' ⟨rfl, rfl⟩
  go_wp2_with fail
  refine (IsFar_is _ true _ bx.1 bx.2 h2).mono ?_
  rintro e w' ⟨rfl, rfl⟩
  go_wp2_with fail
  refine (Landing_any _ _ bx.1 bx.2).mono ?_
  rintro e w' ⟨rfl, rfl⟩
  go_wp2_with fail
  refine (RefWord_is _ _ _ _ _ true _ Hs.out hm h3).mono ?_
  rintro e w' ⟨rfl, rfl⟩
  go_wp2_with fail
  refine (RefWord_is _ _ _ _ _ true _ Hs.out hm h6).mono ?_
  rintro e w' ⟨rfl, rfl⟩
  go_wp2_with fail
  refine (RefDecode_any _ _ btwo.1 btwo.2).mono ?_
  rintro e w1 ⟨rfl, hb1⟩
  have hz1 := hb1.size
  have HB := Lib.hid (hb1.alloc hz1 (.cells #[.int .i64 (decP (wordV ls (wordV ls s a / 4294967296) (wordV ls s a % 4294967296 / 8 + 1))).k, .int .i64 (decP (wordV ls (wordV ls s a / 4294967296) (wordV ls s a % 4294967296 / 8 + 1))).o, .int .i64 (decP (wordV ls (wordV ls s a / 4294967296) (wordV ls s a % 4294967296 / 8 + 1))).d, .int .i64 (decP (wordV ls (wordV ls s a / 4294967296) (wordV ls s a % 4294967296 / 8 + 1))).p, .int .i64 (decP (wordV ls (wordV ls s a / 4294967296) (wordV ls s a % 4294967296 / 8 + 1))).el, .int .i64 (decP (wordV ls (wordV ls s a / 4294967296) (wordV ls s a % 4294967296 / 8 + 1))).c, .bool (decP (wordV ls (wordV ls s a / 4294967296) (wordV ls s a % 4294967296 / 8 + 1))).db, .int .i64 (decP (wordV ls (wordV ls s a / 4294967296) (wordV ls s a % 4294967296 / 8 + 1))).pa, .int .u32 (decP (wordV ls (wordV ls s a / 4294967296) (wordV ls s a % 4294967296 / 8 + 1))).sg, .int .u32 (decP (wordV ls (wordV ls s a / 4294967296) (wordV ls s a % 4294967296 / 8 + 1))).lo] 77))
  clear hb1
  go_wp2_with fail
  refine (IsFar_is _ false _ bone.1 bone.2 h5).mono ?_
  rintro e w' ⟨rfl, rfl⟩
  go_wp2
  refine bodyPost_ret (v := .tuple #[.int .u64 0, .int .i64 0, .int .i64 0, .int .i64 3]) (by simp [results, Tryd.results43, go_sem]) rfl ⟨by rw [HF.out]; rfl, HB.out⟩

set_option maxHeartbeats 1000000 in
theorem Follow8 (A : Option Addr) (c : Nat) (ls : List (List Int)) (s a : Int) (w : World) (hs : Sg w A ls) (hw : Wd2 ls) (hm : ls.length ≤ 140737488355328) (hf : ∀ j, (seg ls j).length ≤ 140737488355328) (h1 : hasB ls s a = true) (h2 : (wordV ls s a % 4 == 2) = true) (h3 : hasB ls (wordV ls s a / 4294967296) (wordV ls s a % 4294967296 / 8) = true) (h4 : ¬ wordV ls s a / 4 % 2 = 0) (h6 : hasB ls (wordV ls s a / 4294967296) (wordV ls s a % 4294967296 / 8 + 1) = true) (h5 : (wordV ls (wordV ls s a / 4294967296) (wordV ls s a % 4294967296 / 8) % 4 == 2) = true) (h7 : wordV ls (wordV ls s a / 4294967296) (wordV ls s a % 4294967296 / 8) / 4 % 2 = 1) :
    Calls Tryd.prog 43 #[.slice A ls.length c, .int .i64 s, .int .i64 a] w fun e w' => e = .returned (.tuple #[.int .u64 (followF ls s a).w, .int .i64 (followF ls s a).s, .int .i64 (followF ls s a).b, .int .i64 (followF ls s a).e]) ∧ Below w.heap.size w w' := by
  have HF : Hid (followF ls s a = folE 3) := Lib.hid (by simp [followF, folE, h1, h2, h3, h4, h5, h6, h7])
  have Hs := Lib.hid hs
  have bx := wordV_bd hw s a
  have bone := wordV_bd hw (wordV ls s a / 4294967296) (wordV ls s a % 4294967296 / 8)
  have btwo := wordV_bd hw (wordV ls s a / 4294967296) (wordV ls s a % 4294967296 / 8 + 1)
  have q1 : 0 ≤ wordV ls s a / 4294967296 ∧ wordV ls s a / 4294967296 < 4294967296 := by omega
  have q2 : 0 ≤ wordV ls s a % 4294967296 / 8 ∧ wordV ls s a % 4294967296 / 8 < 536870912 := by omega
  have t4 : (wordV ls s a / 4 % 2 == 0) = false := by rw [beq_eq_false_iff_ne]; exact h4
  have t7 : (wordV ls (wordV ls s a / 4294967296) (wordV ls s a % 4294967296 / 8) / 4 % 2 == 1) = true := by rw [beq_iff_eq]; exact h7
  clear hs hw hf
  go_enter Tryd.func43, Tryd.ntmps43
  go_wp2_with fail
  refine (RefWord_is _ _ _ _ _ true _ Hs.out hm h1).mono ?_
  rintro e w' ⟨rfl, rfl⟩
  go_wp2_with fail
  refine (IsFar_is _ true _ bx.1 bx.2 h2).mono ?_
  rintro e w' ⟨rfl, rfl⟩
  go_wp2_with fail
  refine (Landing_any _ _ bx.1 bx.2).mono ?_
  rintro e w' ⟨rfl, rfl⟩
  go_wp2_with fail
  refine (RefWord_is _ _ _ _ _ true _ Hs.out hm h3).mono ?_
  rintro e w' ⟨rfl, rfl⟩
  go_wp2_with fail
  refine (RefWord_is _ _ _ _ _ true _ Hs.out hm h6).mono ?_
  rintro e w' ⟨rfl, rfl⟩
  go_wp2_with fail
  refine (RefDecode_any _ _ btwo.1 btwo.2).mono ?_
  rintro e w1 ⟨rfl, hb1⟩
  have hz1 := hb1.size
  have HB := Lib.hid (hb1.alloc hz1 (.cells #[.int .i64 (decP (wordV ls (wordV ls s a / 4294967296) (wordV ls s a % 4294967296 / 8 + 1))).k, .int .i64 (decP (wordV ls (wordV ls s a / 4294967296) (wordV ls s a % 4294967296 / 8 + 1))).o, .int .i64 (decP (wordV ls (wordV ls s a / 4294967296) (wordV ls s a % 4294967296 / 8 + 1))).d, .int .i64 (decP (wordV ls (wordV ls s a / 4294967296) (wordV ls s a % 4294967296 / 8 + 1))).p, .int .i64 (decP (wordV ls (wordV ls s a / 4294967296) (wordV ls s a % 4294967296 / 8 + 1))).el, .int .i64 (decP (wordV ls (wordV ls s a / 4294967296) (wordV ls s a % 4294967296 / 8 + 1))).c, .bool (decP (wordV ls (wordV ls s a / 4294967296) (wordV ls s a % 4294967296 / 8 + 1))).db, .int .i64 (decP (wordV ls (wordV ls s a / 4294967296) (wordV ls s a % 4294967296 / 8 + 1))).pa, .int .u32 (decP (wordV ls (wordV ls s a / 4294967296) (wordV ls s a % 4294967296 / 8 + 1))).sg, .int .u32 (decP (wordV ls (wordV ls s a / 4294967296) (wordV ls s a % 4294967296 / 8 + 1))).lo] 77))
  clear hb1
  go_wp2_with fail
  refine (IsFar_is _ true _ bone.1 bone.2 h5).mono ?_
  rintro e w' ⟨rfl, rfl⟩
  go_wp2
  refine bodyPost_ret (v := .tuple #[.int .u64 0, .int .i64 0, .int .i64 0, .int .i64 3]) (by simp [results, Tryd.results43, go_sem]) rfl ⟨by rw [HF.out]; rfl, HB.out⟩

set_option maxHeartbeats 1000000 in
theorem Follow9 (A : Option Addr) (c : Nat) (ls : List (List Int)) (s a : Int) (w : World) (hs : Sg w A ls) (hw : Wd2 ls) (hm : ls.length ≤ 140737488355328) (hf : ∀ j, (seg ls j).length ≤ 140737488355328) (h1 : hasB ls s a = true) (h2 : (wordV ls s a % 4 == 2) = true) (h3 : hasB ls (wordV ls s a / 4294967296) (wordV ls s a % 4294967296 / 8) = true) (h4 : ¬ wordV ls s a / 4 % 2 = 0) (h6 : hasB ls (wordV ls s a / 4294967296) (wordV ls s a % 4294967296 / 8 + 1) = true) (h5 : (wordV ls (wordV ls s a / 4294967296) (wordV ls s a % 4294967296 / 8) % 4 == 2) = true) (h7 : ¬ wordV ls (wordV ls s a / 4294967296) (wordV ls s a % 4294967296 / 8) / 4 % 2 = 1) (h8 : 1 < (decP (wordV ls (wordV ls s a / 4294967296) (wordV ls s a % 4294967296 / 8 + 1))).k) :
    Calls Tryd.prog 43 #[.slice A ls.length c, .int .i64 s, .int .i64 a] w fun e w' => e = .returned (.tuple #[.int .u64 (followF ls s a).w, .int .i64 (followF ls s a).s, .int .i64 (followF ls s a).b, .int .i64 (followF ls s a).e]) ∧ Below w.heap.size w w' := by
  have HF : Hid (followF ls s a = folE 3) := Lib.hid (by simp [followF, folE, h1, h2, h3, h4, h5, h6, h7, h8])
  have Hs := Lib.hid hs
  have bx := wordV_bd hw s a
  have bone := wordV_bd hw (wordV ls s a / 4294967296) (wordV ls s a % 4294967296 / 8)
  have btwo := wordV_bd hw (wordV ls s a / 4294967296) (wordV ls s a % 4294967296 / 8 + 1)
  have q1 : 0 ≤ wordV ls s a / 4294967296 ∧ wordV ls s a / 4294967296 < 4294967296 := by omega
  have q2 : 0 ≤ wordV ls s a % 4294967296 / 8 ∧ wordV ls s a % 4294967296 / 8 < 536870912 := by omega
  have t4 : (wordV ls s a / 4 % 2 == 0) = false := by rw [beq_eq_false_iff_ne]; exact h4
  have t7 : (wordV ls (wordV ls s a / 4294967296) (wordV ls s a % 4294967296 / 8) / 4 % 2 == 1) = false := by rw [beq_eq_false_iff_ne]; exact h7
  clear hs hw hf
  go_enter Tryd.func43, Tryd.ntmps43
  go_wp2_with fail
  refine (RefWord_is _ _ _ _ _ true _ Hs.out hm h1).mono ?_
  rintro e w' ⟨rfl, rfl⟩
  go_wp2_with fail
  refine (IsFar_is _ true _ bx.1 bx.2 h2).mono ?_
  rintro e w' ⟨rfl, rfl⟩
  go_wp2_with fail
  refine (Landing_any _ _ bx.1 bx.2).mono ?_
  rintro e w' ⟨rfl, rfl⟩
  go_wp2_with fail
  refine (RefWord_is _ _ _ _ _ true _ Hs.out hm h3).mono ?_
  rintro e w' ⟨rfl, rfl⟩
  go_wp2_with fail
  refine (RefWord_is _ _ _ _ _ true _ Hs.out hm h6).mono ?_
  rintro e w' ⟨rfl, rfl⟩
  go_wp2_with fail
  refine (RefDecode_any _ _ btwo.1 btwo.2).mono ?_
  rintro e w1 ⟨rfl, hb1⟩
  have hz1 := hb1.size
  have HB := Lib.hid (hb1.alloc hz1 (.cells #[.int .i64 (decP (wordV ls (wordV ls s a / 4294967296) (wordV ls s a % 4294967296 / 8 + 1))).k, .int .i64 (decP (wordV ls (wordV ls s a / 4294967296) (wordV ls s a % 4294967296 / 8 + 1))).o, .int .i64 (decP (wordV ls (wordV ls s a / 4294967296) (wordV ls s a % 4294967296 / 8 + 1))).d, .int .i64 (decP (wordV ls (wordV ls s a / 4294967296) (wordV ls s a % 4294967296 / 8 + 1))).p, .int .i64 (decP (wordV ls (wordV ls s a / 4294967296) (wordV ls s a % 4294967296 / 8 + 1))).el, .int .i64 (decP (wordV ls (wordV ls s a / 4294967296) (wordV ls s a % 4294967296 / 8 + 1))).c, .bool (decP (wordV ls (wordV ls s a / 4294967296) (wordV ls s a % 4294967296 / 8 + 1))).db, .int .i64 (decP (wordV ls (wordV ls s a / 4294967296) (wordV ls s a % 4294967296 / 8 + 1))).pa, .int .u32 (decP (wordV ls (wordV ls s a / 4294967296) (wordV ls s a % 4294967296 / 8 + 1))).sg, .int .u32 (decP (wordV ls (wordV ls s a / 4294967296) (wordV ls s a % 4294967296 / 8 + 1))).lo] 77))
  clear hb1
  go_wp2_with fail
  refine (IsFar_is _ true _ bone.1 bone.2 h5).mono ?_
  rintro e w' ⟨rfl, rfl⟩
  go_wp2
  refine bodyPost_ret (v := .tuple #[.int .u64 0, .int .i64 0, .int .i64 0, .int .i64 3]) (by simp [results, Tryd.results43, go_sem]) rfl ⟨by rw [HF.out]; rfl, HB.out⟩

set_option maxHeartbeats 1000000 in
theorem Follow10 (A : Option Addr) (c : Nat) (ls : List (List Int)) (s a : Int) (w : World) (hs : Sg w A ls) (hw : Wd2 ls) (hm : ls.length ≤ 140737488355328) (hf : ∀ j, (seg ls j).length ≤ 140737488355328) (h1 : hasB ls s a = true) (h2 : (wordV ls s a % 4 == 2) = true) (h3 : hasB ls (wordV ls s a / 4294967296) (wordV ls s a % 4294967296 / 8) = true) (h4 : ¬ wordV ls s a / 4 % 2 = 0) (h6 : hasB ls (wordV ls s a / 4294967296) (wordV ls s a % 4294967296 / 8 + 1) = true) (h5 : (wordV ls (wordV ls s a / 4294967296) (wordV ls s a % 4294967296 / 8) % 4 == 2) = true) (h7 : ¬ wordV ls (wordV ls s a / 4294967296) (wordV ls s a % 4294967296 / 8) / 4 % 2 = 1) (h8 : ¬ 1 < (decP (wordV ls (wordV ls s a / 4294967296) (wordV ls s a % 4294967296 / 8 + 1))).k) (h9 : (decP (wordV ls (wordV ls s a / 4294967296) (wordV ls s a % 4294967296 / 8 + 1))).o ≠ 0) :
    Calls Tryd.prog 43 #[.slice A ls.length c, .int .i64 s, .int .i64 a] w fun e w' => e = .returned (.tuple #[.int .u64 (followF ls s a).w, .int .i64 (followF ls s a).s, .int .i64 (followF ls s a).b, .int .i64 (followF ls s a).e]) ∧ Below w.heap.size w w' := by
  have HF : Hid (followF ls s a = folE 3) := Lib.hid (by simp [followF, folE, h1, h2, h3, h4, h5, h6, h7, h8, h9])
  have Hs := Lib.hid hs
  have bx := wordV_bd hw s a
  have bone := wordV_bd hw (wordV ls s a / 4294967296) (wordV ls s a % 4294967296 / 8)
  have btwo := wordV_bd hw (wordV ls s a / 4294967296) (wordV ls s a % 4294967296 / 8 + 1)
  have q1 : 0 ≤ wordV ls s a / 4294967296 ∧ wordV ls s a / 4294967296 < 4294967296 := by omega
  have q2 : 0 ≤ wordV ls s a % 4294967296 / 8 ∧ wordV ls s a % 4294967296 / 8 < 536870912 := by omega
  have t4 : (wordV ls s a / 4 % 2 == 0) = false := by rw [beq_eq_false_iff_ne]; exact h4
  have t7 : (wordV ls (wordV ls s a / 4294967296) (wordV ls s a % 4294967296 / 8) / 4 % 2 == 1) = false := by rw [beq_eq_false_iff_ne]; exact h7
  have t9 : ((decP (wordV ls (wordV ls s a / 4294967296) (wordV ls s a % 4294967296 / 8 + 1))).o != 0) = true := by rw [bne_iff_ne]; exact h9
  clear hs hw hf
  go_enter Tryd.func43, Tryd.ntmps43
  go_wp2_with fail
  refine (RefWord_is _ _ _ _ _ true _ Hs.out hm h1).mono ?_
  rintro e w' ⟨rfl, rfl⟩
  go_wp2_with fail
  refine (IsFar_is _ true _ bx.1 bx.2 h2).mono ?_
  rintro e w' ⟨rfl, rfl⟩
  go_wp2_with fail
  refine (Landing_any _ _ bx.1 bx.2).mono ?_
  rintro e w' ⟨rfl, rfl⟩
  go_wp2_with fail
  refine (RefWord_is _ _ _ _ _ true _ Hs.out hm h3).mono ?_
  rintro e w' ⟨rfl, rfl⟩
  go_wp2_with fail
  refine (RefWord_is _ _ _ _ _ true _ Hs.out hm h6).mono ?_
  rintro e w' ⟨rfl, rfl⟩
  go_wp2_with fail
  refine (RefDecode_any _ _ btwo.1 btwo.2).mono ?_
  rintro e w1 ⟨rfl, hb1⟩
  have hz1 := hb1.size
  have HB := Lib.hid (hb1.alloc hz1 (.cells #[.int .i64 (decP (wordV ls (wordV ls s a / 4294967296) (wordV ls s a % 4294967296 / 8 + 1))).k, .int .i64 (decP (wordV ls (wordV ls s a / 4294967296) (wordV ls s a % 4294967296 / 8 + 1))).o, .int .i64 (decP (wordV ls (wordV ls s a / 4294967296) (wordV ls s a % 4294967296 / 8 + 1))).d, .int .i64 (decP (wordV ls (wordV ls s a / 4294967296) (wordV ls s a % 4294967296 / 8 + 1))).p, .int .i64 (decP (wordV ls (wordV ls s a / 4294967296) (wordV ls s a % 4294967296 / 8 + 1))).el, .int .i64 (decP (wordV ls (wordV ls s a / 4294967296) (wordV ls s a % 4294967296 / 8 + 1))).c, .bool (decP (wordV ls (wordV ls s a / 4294967296) (wordV ls s a % 4294967296 / 8 + 1))).db, .int .i64 (decP (wordV ls (wordV ls s a / 4294967296) (wordV ls s a % 4294967296 / 8 + 1))).pa, .int .u32 (decP (wordV ls (wordV ls s a / 4294967296) (wordV ls s a % 4294967296 / 8 + 1))).sg, .int .u32 (decP (wordV ls (wordV ls s a / 4294967296) (wordV ls s a % 4294967296 / 8 + 1))).lo] 77))
  clear hb1
  go_wp2_with fail
  refine (IsFar_is _ true _ bone.1 bone.2 h5).mono ?_
  rintro e w' ⟨rfl, rfl⟩
  go_wp2
  refine bodyPost_ret (v := .tuple #[.int .u64 0, .int .i64 0, .int .i64 0, .int .i64 3]) (by simp [results, Tryd.results43, go_sem]) rfl ⟨by rw [HF.out]; rfl, HB.out⟩

set_option maxHeartbeats 1000000 in
theorem Follow11 (A : Option Addr) (c : Nat) (ls : List (List Int)) (s a : Int) (w : World) (hs : Sg w A ls) (hw : Wd2 ls) (hm : ls.length ≤ 140737488355328) (hf : ∀ j, (seg ls j).length ≤ 140737488355328) (h1 : hasB ls s a = true) (h2 : (wordV ls s a % 4 == 2) = true) (h3 : hasB ls (wordV ls s a / 4294967296) (wordV ls s a % 4294967296 / 8) = true) (h4 : ¬ wordV ls s a / 4 % 2 = 0) (h6 : hasB ls (wordV ls s a / 4294967296) (wordV ls s a % 4294967296 / 8 + 1) = true) (h5 : (wordV ls (wordV ls s a / 4294967296) (wordV ls s a % 4294967296 / 8) % 4 == 2) = true) (h7 : ¬ wordV ls (wordV ls s a / 4294967296) (wordV ls s a % 4294967296 / 8) / 4 % 2 = 1) (h8 : ¬ 1 < (decP (wordV ls (wordV ls s a / 4294967296) (wordV ls s a % 4294967296 / 8 + 1))).k) (h9 : (decP (wordV ls (wordV ls s a / 4294967296) (wordV ls s a % 4294967296 / 8 + 1))).o = 0) :
    Calls Tryd.prog 43 #[.slice A ls.length c, .int .i64 s, .int .i64 a] w fun e w' => e = .returned (.tuple #[.int .u64 (followF ls s a).w, .int .i64 (followF ls s a).s, .int .i64 (followF ls s a).b, .int .i64 (followF ls s a).e]) ∧ Below w.heap.size w w' := by
  have HF : Hid (followF ls s a = ⟨wordV ls (wordV ls s a / 4294967296) (wordV ls s a % 4294967296 / 8 + 1), wordV ls (wordV ls s a / 4294967296) (wordV ls s a % 4294967296 / 8) / 4294967296, wordV ls (wordV ls s a / 4294967296) (wordV ls s a % 4294967296 / 8) % 4294967296 / 8, 0⟩) := Lib.hid (by simp [followF, folE, h1, h2, h3, h4, h5, h6, h7, h8, h9])
  have Hs := Lib.hid hs
  have bx := wordV_bd hw s a
  have bone := wordV_bd hw (wordV ls s a / 4294967296) (wordV ls s a % 4294967296 / 8)
  have btwo := wordV_bd hw (wordV ls s a / 4294967296) (wordV ls s a % 4294967296 / 8 + 1)
  have q1 : 0 ≤ wordV ls s a / 4294967296 ∧ wordV ls s a / 4294967296 < 4294967296 := by omega
  have q2 : 0 ≤ wordV ls s a % 4294967296 / 8 ∧ wordV ls s a % 4294967296 / 8 < 536870912 := by omega
  have t4 : (wordV ls s a / 4 % 2 == 0) = false := by rw [beq_eq_false_iff_ne]; exact h4
  have t7 : (wordV ls (wordV ls s a / 4294967296) (wordV ls s a % 4294967296 / 8) / 4 % 2 == 1) = false := by rw [beq_eq_false_iff_ne]; exact h7
  have t9 : ((decP (wordV ls (wordV ls s a / 4294967296) (wordV ls s a % 4294967296 / 8 + 1))).o != 0) = false := by rw [h9]; rfl
  clear h9
  clear hs hw hf
  go_enter Tryd.func43, Tryd.ntmps43
  go_wp2_with fail
  refine (RefWord_is _ _ _ _ _ true _ Hs.out hm h1).mono ?_
  rintro e w' ⟨rfl, rfl⟩
  go_wp2_with fail
  refine (IsFar_is _ true _ bx.1 bx.2 h2).mono ?_
  rintro e w' ⟨rfl, rfl⟩
  go_wp2_with fail
  refine (Landing_any _ _ bx.1 bx.2).mono ?_
  rintro e w' ⟨rfl, rfl⟩
  go_wp2_with fail
  refine (RefWord_is _ _ _ _ _ true _ Hs.out hm h3).mono ?_
  rintro e w' ⟨rfl, rfl⟩
  go_wp2_with fail
  refine (RefWord_is _ _ _ _ _ true _ Hs.out hm h6).mono ?_
  rintro e w' ⟨rfl, rfl⟩
  go_wp2_with fail
  refine (RefDecode_any _ _ btwo.1 btwo.2).mono ?_
  rintro e w1 ⟨rfl, hb1⟩
  have hz1 := hb1.size
  have HB := Lib.hid (hb1.alloc hz1 (.cells #[.int .i64 (decP (wordV ls (wordV ls s a / 4294967296) (wordV ls s a % 4294967296 / 8 + 1))).k, .int .i64 (decP (wordV ls (wordV ls s a / 4294967296) (wordV ls s a % 4294967296 / 8 + 1))).o, .int .i64 (decP (wordV ls (wordV ls s a / 4294967296) (wordV ls s a % 4294967296 / 8 + 1))).d, .int .i64 (decP (wordV ls (wordV ls s a / 4294967296) (wordV ls s a % 4294967296 / 8 + 1))).p, .int .i64 (decP (wordV ls (wordV ls s a / 4294967296) (wordV ls s a % 4294967296 / 8 + 1))).el, .int .i64 (decP (wordV ls (wordV ls s a / 4294967296) (wordV ls s a % 4294967296 / 8 + 1))).c, .bool (decP (wordV ls (wordV ls s a / 4294967296) (wordV ls s a % 4294967296 / 8 + 1))).db, .int .i64 (decP (wordV ls (wordV ls s a / 4294967296) (wordV ls s a % 4294967296 / 8 + 1))).pa, .int .u32 (decP (wordV ls (wordV ls s a / 4294967296) (wordV ls s a % 4294967296 / 8 + 1))).sg, .int .u32 (decP (wordV ls (wordV ls s a / 4294967296) (wordV ls s a % 4294967296 / 8 + 1))).lo] 77))
  clear hb1
  go_wp2_with fail
  refine (IsFar_is _ true _ bone.1 bone.2 h5).mono ?_
  rintro e w' ⟨rfl, rfl⟩
  go_wp2_with fail
  refine (Landing_any _ _ bone.1 bone.2).mono ?_
  rintro e w' ⟨rfl, rfl⟩
  go_wp2
  refine bodyPost_ret (v := .tuple #[.int .u64 (wordV ls (wordV ls s a / 4294967296) (wordV ls s a % 4294967296 / 8 + 1)), .int .i64 (wordV ls (wordV ls s a / 4294967296) (wordV ls s a % 4294967296 / 8) / 4294967296), .int .i64 (wordV ls (wordV ls s a / 4294967296) (wordV ls s a % 4294967296 / 8) % 4294967296 / 8), .int .i64 0]) (by simp [results, Tryd.results43, go_sem]) rfl ⟨by rw [HF.out], HB.out⟩

theorem RefFollow_any (A : Option Addr) (c : Nat) (ls : List (List Int)) (s a : Int) (w : World) (hs : Sg w A ls) (hw : Wd2 ls) (hm : ls.length ≤ 140737488355328) (hf : ∀ j, (seg ls j).length ≤ 140737488355328) :
    Calls Tryd.prog 43 #[.slice A ls.length c, .int .i64 s, .int .i64 a] w fun e w' => e = .returned (.tuple #[.int .u64 (followF ls s a).w, .int .i64 (followF ls s a).s, .int .i64 (followF ls s a).b, .int .i64 (followF ls s a).e]) ∧ Below w.heap.size w w' := by
  cases h1 : hasB ls s a
  · exact Follow1 A c ls s a w hs hw hm hf h1
  cases h2 : (wordV ls s a % 4 == 2)
  · exact Follow2 A c ls s a w hs hw hm hf h1 h2
  cases h3 : hasB ls (wordV ls s a / 4294967296) (wordV ls s a % 4294967296 / 8)
  · exact Follow3 A c ls s a w hs hw hm hf h1 h2 h3
  by_cases h4 : wordV ls s a / 4 % 2 = 0
  · cases h5 : (wordV ls (wordV ls s a / 4294967296) (wordV ls s a % 4294967296 / 8) % 4 == 2)
    · exact Follow5 A c ls s a w hs hw hm hf h1 h2 h3 h4 h5
    · exact Follow4 A c ls s a w hs hw hm hf h1 h2 h3 h4 h5
  cases h6 : hasB ls (wordV ls s a / 4294967296) (wordV ls s a % 4294967296 / 8 + 1)
  · exact Follow6 A c ls s a w hs hw hm hf h1 h2 h3 h4 h6
  cases h5 : (wordV ls (wordV ls s a / 4294967296) (wordV ls s a % 4294967296 / 8) % 4 == 2)
  · exact Follow7 A c ls s a w hs hw hm hf h1 h2 h3 h4 h6 h5
  by_cases h7 : wordV ls (wordV ls s a / 4294967296) (wordV ls s a % 4294967296 / 8) / 4 % 2 = 1
  · exact Follow8 A c ls s a w hs hw hm hf h1 h2 h3 h4 h6 h5 h7
  by_cases h8 : 1 < (decP (wordV ls (wordV ls s a / 4294967296) (wordV ls s a % 4294967296 / 8 + 1))).k
  · exact Follow9 A c ls s a w hs hw hm hf h1 h2 h3 h4 h6 h5 h7 h8
  by_cases h9 : (decP (wordV ls (wordV ls s a / 4294967296) (wordV ls s a % 4294967296 / 8 + 1))).o = 0
  · exact Follow11 A c ls s a w hs hw hm hf h1 h2 h3 h4 h6 h5 h7 h8 h9
  · exact Follow10 A c ls s a w hs hw hm hf h1 h2 h3 h4 h6 h5 h7 h8 h9
end Go.Proofs.YtcmljjhnfpfcfaaDoor
