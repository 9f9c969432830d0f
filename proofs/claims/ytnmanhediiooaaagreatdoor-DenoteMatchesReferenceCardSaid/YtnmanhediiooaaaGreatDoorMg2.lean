/- The texts Ref07, Ref06, Ref08, Blk, Obj08, Obj08b, ObjNum, Node, TrimN, Ref09, Den, RegionA, NodeO, Ref11, Ref10d, NodeF (what is wanted of them), one after the other. -/
import Derived.Test.YtnmanhediiooaaaGreatDoorMg1
import Derived.Laws.OwnMore
/- What the reference functions of layer 7 do, each by a contract. -/
namespace Go.Proofs.YtnmanhediiooaaaGreatDoor
open Go.ChangeShapes Go.WideShapes Go.ChangeAt Go.RowKit
set_option linter.unusedVariables false
set_option linter.unusedSimpArgs false
set_option maxRecDepth 100000

theorem wordV_bd {ls : List (List Int)} (h : Wd2 ls) (s a : Int) : 0 ≤ wordV ls s a ∧ wordV ls s a < 18446744073709551616 := by
  unfold wordV
  split
  · exact (h.at s.toNat).at a.toNat
  · omega

theorem IsFar_any (x : Int) (w : World) (h5 : 0 ≤ x) (h6 : x < 18446744073709551616) :
    Calls Tryz.prog 60 #[.int .u64 x] w fun e w' => e = .returned (.bool (x % 4 == 2)) ∧ w = w' := by
  go_enter Tryz.func60, Tryz.ntmps60
  go_wp2
  go_ret
  exact ⟨rfl, rfl⟩
theorem IsFar_is (x : Int) (b : Bool) (w : World) (h5 : 0 ≤ x) (h6 : x < 18446744073709551616) (hb : (x % 4 == 2) = b) :
    Calls Tryz.prog 60 #[.int .u64 x] w fun e w' => e = .returned (.bool b) ∧ w = w' := by
  subst hb
  exact IsFar_any x w h5 h6

theorem Landing_any (x : Int) (w : World) (h5 : 0 ≤ x) (h6 : x < 18446744073709551616) :
    Calls Tryz.prog 61 #[.int .u64 x] w fun e w' => e = .returned (.tuple #[.int .i64 (x / 4294967296), .int .i64 (x % 4294967296 / 8)]) ∧ w = w' := by
  have h7 : x / 4294967296 < 4294967296 := by omega
  go_enter Tryz.func61, Tryz.ntmps61
  go_wp2
  go_ret2
  exact ⟨rfl, rfl⟩

/-- a pointer's descriptor, the segment and the base of its object, and the error -/
structure Fol where
  w : Int
  s : Int
  b : Int
  e : Int
def folE (e : Int) : Fol := ⟨0, 0, 0, e⟩
def followF (ls : List (List Int)) (s a : Int) : Fol :=
  if hasB ls s a = false then folE 2
  else if (wordV ls s a % 4 == 2) = false then ⟨wordV ls s a, s, a + 1, 0⟩
  else if hasB ls (wordV ls s a / 4294967296) (wordV ls s a % 4294967296 / 8) = false then folE 2
  else if wordV ls s a / 4 % 2 = 0 then
    if (wordV ls (wordV ls s a / 4294967296) (wordV ls s a % 4294967296 / 8) % 4 == 2) = true then folE 3
    else ⟨wordV ls (wordV ls s a / 4294967296) (wordV ls s a % 4294967296 / 8), wordV ls s a / 4294967296, wordV ls s a % 4294967296 / 8 + 1, 0⟩
  else if hasB ls (wordV ls s a / 4294967296) (wordV ls s a % 4294967296 / 8 + 1) = false then folE 2
  else if (wordV ls (wordV ls s a / 4294967296) (wordV ls s a % 4294967296 / 8) % 4 == 2) = false ∨ wordV ls (wordV ls s a / 4294967296) (wordV ls s a % 4294967296 / 8) / 4 % 2 = 1 ∨
      1 < (decP (wordV ls (wordV ls s a / 4294967296) (wordV ls s a % 4294967296 / 8 + 1))).k ∨ (decP (wordV ls (wordV ls s a / 4294967296) (wordV ls s a % 4294967296 / 8 + 1))).o ≠ 0 then folE 3
  else ⟨wordV ls (wordV ls s a / 4294967296) (wordV ls s a % 4294967296 / 8 + 1), wordV ls (wordV ls s a / 4294967296) (wordV ls s a % 4294967296 / 8) / 4294967296, wordV ls (wordV ls s a / 4294967296) (wordV ls s a % 4294967296 / 8) % 4294967296 / 8, 0⟩

theorem RefWord_is (A : Option Addr) (c : Nat) (ls : List (List Int)) (s a : Int) (b : Bool) (w : World) (hs : Sg w A ls) (hm : ls.length ≤ 140737488355328) (hb : hasB ls s a = b) :
    Calls Tryz.prog 59 #[.slice A ls.length c, .int .i64 s, .int .i64 a] w fun e w' => e = .returned (.tuple #[.int .u64 (wordV ls s a), .bool b]) ∧ w = w' := by
  subst hb
  exact RefWord_any A c ls s a w hs hm
-- FOLLOW
set_option maxHeartbeats 1000000 in
theorem Follow1 (A : Option Addr) (c : Nat) (ls : List (List Int)) (s a : Int) (w : World) (hs : Sg w A ls) (hw : Wd2 ls) (hm : ls.length ≤ 140737488355328) (hf : ∀ j, (seg ls j).length ≤ 140737488355328) (h1 : hasB ls s a = false) :
    Calls Tryz.prog 36 #[.slice A ls.length c, .int .i64 s, .int .i64 a] w fun e w' => e = .returned (.tuple #[.int .u64 (followF ls s a).w, .int .i64 (followF ls s a).s, .int .i64 (followF ls s a).b, .int .i64 (followF ls s a).e]) ∧ Below w.heap.size w w' := by
  have HF : Hid (followF ls s a = folE 2) := Lib.hid (by simp [followF, folE, h1])
  have Hs := Lib.hid hs
  have bx := wordV_bd hw s a
  have bone := wordV_bd hw (wordV ls s a / 4294967296) (wordV ls s a % 4294967296 / 8)
  have btwo := wordV_bd hw (wordV ls s a / 4294967296) (wordV ls s a % 4294967296 / 8 + 1)
  have q1 : 0 ≤ wordV ls s a / 4294967296 ∧ wordV ls s a / 4294967296 < 4294967296 := by omega
  have q2 : 0 ≤ wordV ls s a % 4294967296 / 8 ∧ wordV ls s a % 4294967296 / 8 < 536870912 := by omega
  clear hs hw hf
  go_enter Tryz.func36, Tryz.ntmps36
  go_wp2_with fail
  refine (RefWord_is _ _ _ _ _ false _ Hs.out hm h1).mono ?_
  rintro e w' ⟨rfl, rfl⟩
  go_wp2
  refine bodyPost_ret (v := .tuple #[.int .u64 0, .int .i64 0, .int .i64 0, .int .i64 2]) (by simp [results, Tryz.results36, go_sem]) rfl ⟨by rw [HF.out]; rfl, Below.refl _ _⟩

set_option maxHeartbeats 1000000 in
theorem Follow2 (A : Option Addr) (c : Nat) (ls : List (List Int)) (s a : Int) (w : World) (hs : Sg w A ls) (hw : Wd2 ls) (hm : ls.length ≤ 140737488355328) (hf : ∀ j, (seg ls j).length ≤ 140737488355328) (h1 : hasB ls s a = true) (h2 : (wordV ls s a % 4 == 2) = false) :
    Calls Tryz.prog 36 #[.slice A ls.length c, .int .i64 s, .int .i64 a] w fun e w' => e = .returned (.tuple #[.int .u64 (followF ls s a).w, .int .i64 (followF ls s a).s, .int .i64 (followF ls s a).b, .int .i64 (followF ls s a).e]) ∧ Below w.heap.size w w' := by
  have HF : Hid (followF ls s a = ⟨wordV ls s a, s, a + 1, 0⟩) := Lib.hid (by simp [followF, folE, h1, h2])
  have Hs := Lib.hid hs
  have bx := wordV_bd hw s a
  have bone := wordV_bd hw (wordV ls s a / 4294967296) (wordV ls s a % 4294967296 / 8)
  have btwo := wordV_bd hw (wordV ls s a / 4294967296) (wordV ls s a % 4294967296 / 8 + 1)
  have q1 : 0 ≤ wordV ls s a / 4294967296 ∧ wordV ls s a / 4294967296 < 4294967296 := by omega
  have q2 : 0 ≤ wordV ls s a % 4294967296 / 8 ∧ wordV ls s a % 4294967296 / 8 < 536870912 := by omega
  have hab : 0 ≤ a ∧ a ≤ 140737488355328 := by
    unfold hasB at h1
    have h7 := of_decide_eq_true h1
    have h8 := hf s.toNat
    omega
  clear hs hw hf
  go_enter Tryz.func36, Tryz.ntmps36
  go_wp2_with fail
  refine (RefWord_is _ _ _ _ _ true _ Hs.out hm h1).mono ?_
  rintro e w' ⟨rfl, rfl⟩
  go_wp2_with fail
  refine (IsFar_is _ false _ bx.1 bx.2 h2).mono ?_
  rintro e w' ⟨rfl, rfl⟩
  go_wp2
  refine bodyPost_ret (v := .tuple #[.int .u64 (wordV ls s a), .int .i64 s, .int .i64 (a + 1), .int .i64 0]) (by simp [results, Tryz.results36, go_sem]) rfl ⟨by rw [HF.out], Below.refl _ _⟩

set_option maxHeartbeats 1000000 in
theorem Follow3 (A : Option Addr) (c : Nat) (ls : List (List Int)) (s a : Int) (w : World) (hs : Sg w A ls) (hw : Wd2 ls) (hm : ls.length ≤ 140737488355328) (hf : ∀ j, (seg ls j).length ≤ 140737488355328) (h1 : hasB ls s a = true) (h2 : (wordV ls s a % 4 == 2) = true) (h3 : hasB ls (wordV ls s a / 4294967296) (wordV ls s a % 4294967296 / 8) = false) :
    Calls Tryz.prog 36 #[.slice A ls.length c, .int .i64 s, .int .i64 a] w fun e w' => e = .returned (.tuple #[.int .u64 (followF ls s a).w, .int .i64 (followF ls s a).s, .int .i64 (followF ls s a).b, .int .i64 (followF ls s a).e]) ∧ Below w.heap.size w w' := by
  have HF : Hid (followF ls s a = folE 2) := Lib.hid (by simp [followF, folE, h1, h2, h3])
  have Hs := Lib.hid hs
  have bx := wordV_bd hw s a
  have bone := wordV_bd hw (wordV ls s a / 4294967296) (wordV ls s a % 4294967296 / 8)
  have btwo := wordV_bd hw (wordV ls s a / 4294967296) (wordV ls s a % 4294967296 / 8 + 1)
  have q1 : 0 ≤ wordV ls s a / 4294967296 ∧ wordV ls s a / 4294967296 < 4294967296 := by omega
  have q2 : 0 ≤ wordV ls s a % 4294967296 / 8 ∧ wordV ls s a % 4294967296 / 8 < 536870912 := by omega
  clear hs hw hf
  go_enter Tryz.func36, Tryz.ntmps36
  go_wp2_with fail
  refine (RefWord_is _ _ _ _ _ true _ Hs.out hm h1).mono ?_
  rintro e w' ⟨rfl, rfl⟩
  go_wp2_with fail
  refine (IsFar_is _ true _ bx.1 bx.2 h2).mono ?_
  rintro e w' ⟨rfl, rfl⟩
  go_wp2_with fail
  refine (Landing_any _ _ bx.1 bx.2).mono ?_
  rintro e w' ⟨rfl, rfl⟩
  go_wp2_with fail
  refine (RefWord_is _ _ _ _ _ false _ Hs.out hm h3).mono ?_
  rintro e w' ⟨rfl, rfl⟩
  go_wp2
  refine bodyPost_ret (v := .tuple #[.int .u64 0, .int .i64 0, .int .i64 0, .int .i64 2]) (by simp [results, Tryz.results36, go_sem]) rfl ⟨by rw [HF.out]; rfl, Below.refl _ _⟩

set_option maxHeartbeats 1000000 in
theorem Follow4 (A : Option Addr) (c : Nat) (ls : List (List Int)) (s a : Int) (w : World) (hs : Sg w A ls) (hw : Wd2 ls) (hm : ls.length ≤ 140737488355328) (hf : ∀ j, (seg ls j).length ≤ 140737488355328) (h1 : hasB ls s a = true) (h2 : (wordV ls s a % 4 == 2) = true) (h3 : hasB ls (wordV ls s a / 4294967296) (wordV ls s a % 4294967296 / 8) = true) (h4 : wordV ls s a / 4 % 2 = 0) (h5 : (wordV ls (wordV ls s a / 4294967296) (wordV ls s a % 4294967296 / 8) % 4 == 2) = true) :
    Calls Tryz.prog 36 #[.slice A ls.length c, .int .i64 s, .int .i64 a] w fun e w' => e = .returned (.tuple #[.int .u64 (followF ls s a).w, .int .i64 (followF ls s a).s, .int .i64 (followF ls s a).b, .int .i64 (followF ls s a).e]) ∧ Below w.heap.size w w' := by
  have HF : Hid (followF ls s a = folE 3) := Lib.hid (by simp [followF, folE, h1, h2, h3, h4, h5])
  have Hs := Lib.hid hs
  have bx := wordV_bd hw s a
  have bone := wordV_bd hw (wordV ls s a / 4294967296) (wordV ls s a % 4294967296 / 8)
  have btwo := wordV_bd hw (wordV ls s a / 4294967296) (wordV ls s a % 4294967296 / 8 + 1)
  have q1 : 0 ≤ wordV ls s a / 4294967296 ∧ wordV ls s a / 4294967296 < 4294967296 := by omega
  have q2 : 0 ≤ wordV ls s a % 4294967296 / 8 ∧ wordV ls s a % 4294967296 / 8 < 536870912 := by omega
  have t4 : (wordV ls s a / 4 % 2 == 0) = true := by rw [beq_iff_eq]; exact h4
  clear hs hw hf
  go_enter Tryz.func36, Tryz.ntmps36
  go_wp2_with fail
  refine (RefWord_is _ _ _ _ _ true _ Hs.out hm h1).mono ?_
  rintro e w' ⟨rfl, rfl⟩
  go_wp2_with fail
  refine (IsFar_is _ true _ bx.1 bx.2 h2).mono ?_
  rintro e w' ⟨rfl, rfl⟩
  go_wp2_with fail
  refine (Landing_any _ _ bx.1 bx.2).mono ?_
  rintro e w' ⟨rfl, rfl⟩
  go_wp2_with fail
  refine (RefWord_is _ _ _ _ _ true _ Hs.out hm h3).mono ?_
  rintro e w' ⟨rfl, rfl⟩
  go_wp2_with fail
  refine (IsFar_is _ true _ bone.1 bone.2 h5).mono ?_
  rintro e w' ⟨rfl, rfl⟩
  go_wp2
  refine bodyPost_ret (v := .tuple #[.int .u64 0, .int .i64 0, .int .i64 0, .int .i64 3]) (by simp [results, Tryz.results36, go_sem]) rfl ⟨by rw [HF.out]; rfl, Below.refl _ _⟩

set_option maxHeartbeats 1000000 in
theorem Follow5 (A : Option Addr) (c : Nat) (ls : List (List Int)) (s a : Int) (w : World) (hs : Sg w A ls) (hw : Wd2 ls) (hm : ls.length ≤ 140737488355328) (hf : ∀ j, (seg ls j).length ≤ 140737488355328) (h1 : hasB ls s a = true) (h2 : (wordV ls s a % 4 == 2) = true) (h3 : hasB ls (wordV ls s a / 4294967296) (wordV ls s a % 4294967296 / 8) = true) (h4 : wordV ls s a / 4 % 2 = 0) (h5 : (wordV ls (wordV ls s a / 4294967296) (wordV ls s a % 4294967296 / 8) % 4 == 2) = false) :
    Calls Tryz.prog 36 #[.slice A ls.length c, .int .i64 s, .int .i64 a] w fun e w' => e = .returned (.tuple #[.int .u64 (followF ls s a).w, .int .i64 (followF ls s a).s, .int .i64 (followF ls s a).b, .int .i64 (followF ls s a).e]) ∧ Below w.heap.size w w' := by
  have HF : Hid (followF ls s a = ⟨wordV ls (wordV ls s a / 4294967296) (wordV ls s a % 4294967296 / 8), (wordV ls s a / 4294967296), (wordV ls s a % 4294967296 / 8) + 1, 0⟩) := Lib.hid (by simp [followF, folE, h1, h2, h3, h4, h5])
  have Hs := Lib.hid hs
  have bx := wordV_bd hw s a
  have bone := wordV_bd hw (wordV ls s a / 4294967296) (wordV ls s a % 4294967296 / 8)
  have btwo := wordV_bd hw (wordV ls s a / 4294967296) (wordV ls s a % 4294967296 / 8 + 1)
  have q1 : 0 ≤ wordV ls s a / 4294967296 ∧ wordV ls s a / 4294967296 < 4294967296 := by omega
  have q2 : 0 ≤ wordV ls s a % 4294967296 / 8 ∧ wordV ls s a % 4294967296 / 8 < 536870912 := by omega
  have t4 : (wordV ls s a / 4 % 2 == 0) = true := by rw [beq_iff_eq]; exact h4
  clear hs hw hf
  go_enter Tryz.func36, Tryz.ntmps36
  go_wp2_with fail
  refine (RefWord_is _ _ _ _ _ true _ Hs.out hm h1).mono ?_
  rintro e w' ⟨rfl, rfl⟩
  go_wp2_with fail
  refine (IsFar_is _ true _ bx.1 bx.2 h2).mono ?_
  rintro e w' ⟨rfl, rfl⟩
  go_wp2_with fail
  refine (Landing_any _ _ bx.1 bx.2).mono ?_
  rintro e w' ⟨rfl, rfl⟩
  go_wp2_with fail
  refine (RefWord_is _ _ _ _ _ true _ Hs.out hm h3).mono ?_
  rintro e w' ⟨rfl, rfl⟩
  go_wp2_with fail
  refine (IsFar_is _ false _ bone.1 bone.2 h5).mono ?_
  rintro e w' ⟨rfl, rfl⟩
  go_wp2
  refine bodyPost_ret (v := .tuple #[.int .u64 (wordV ls (wordV ls s a / 4294967296) (wordV ls s a % 4294967296 / 8)), .int .i64 (wordV ls s a / 4294967296), .int .i64 (wordV ls s a % 4294967296 / 8 + 1), .int .i64 0]) (by simp [results, Tryz.results36, go_sem]) rfl ⟨by rw [HF.out], Below.refl _ _⟩

set_option maxHeartbeats 1000000 in
theorem Follow6 (A : Option Addr) (c : Nat) (ls : List (List Int)) (s a : Int) (w : World) (hs : Sg w A ls) (hw : Wd2 ls) (hm : ls.length ≤ 140737488355328) (hf : ∀ j, (seg ls j).length ≤ 140737488355328) (h1 : hasB ls s a = true) (h2 : (wordV ls s a % 4 == 2) = true) (h3 : hasB ls (wordV ls s a / 4294967296) (wordV ls s a % 4294967296 / 8) = true) (h4 : ¬ wordV ls s a / 4 % 2 = 0) (h6 : hasB ls (wordV ls s a / 4294967296) (wordV ls s a % 4294967296 / 8 + 1) = false) :
    Calls Tryz.prog 36 #[.slice A ls.length c, .int .i64 s, .int .i64 a] w fun e w' => e = .returned (.tuple #[.int .u64 (followF ls s a).w, .int .i64 (followF ls s a).s, .int .i64 (followF ls s a).b, .int .i64 (followF ls s a).e]) ∧ Below w.heap.size w w' := by
  have HF : Hid (followF ls s a = folE 2) := Lib.hid (by simp [followF, folE, h1, h2, h3, h4, h6])
  have Hs := Lib.hid hs
  have bx := wordV_bd hw s a
  have bone := wordV_bd hw (wordV ls s a / 4294967296) (wordV ls s a % 4294967296 / 8)
  have btwo := wordV_bd hw (wordV ls s a / 4294967296) (wordV ls s a % 4294967296 / 8 + 1)
  have q1 : 0 ≤ wordV ls s a / 4294967296 ∧ wordV ls s a / 4294967296 < 4294967296 := by omega
  have q2 : 0 ≤ wordV ls s a % 4294967296 / 8 ∧ wordV ls s a % 4294967296 / 8 < 536870912 := by omega
  have t4 : (wordV ls s a / 4 % 2 == 0) = false := by rw [beq_eq_false_iff_ne]; exact h4
  clear hs hw hf
  go_enter Tryz.func36, Tryz.ntmps36
  go_wp2_with fail
  refine (RefWord_is _ _ _ _ _ true _ Hs.out hm h1).mono ?_
  rintro e w' ⟨rfl, rfl⟩
  go_wp2_with fail
  refine (IsFar_is _ true _ bx.1 bx.2 h2).mono ?_
  rintro e w' ⟨rfl, rfl⟩
  go_wp2_with fail
  refine (Landing_any _ _ bx.1 bx.2).mono ?_
  rintro e w' ⟨rfl, rfl⟩
  go_wp2_with fail
  refine (RefWord_is _ _ _ _ _ true _ Hs.out hm h3).mono ?_
  rintro e w' ⟨rfl, rfl⟩
  go_wp2_with fail
  refine (RefWord_is _ _ _ _ _ false _ Hs.out hm h6).mono ?_
  rintro e w' ⟨rfl, rfl⟩
  go_wp2
  refine bodyPost_ret (v := .tuple #[.int .u64 0, .int .i64 0, .int .i64 0, .int .i64 2]) (by simp [results, Tryz.results36, go_sem]) rfl ⟨by rw [HF.out]; rfl, Below.refl _ _⟩

set_option maxHeartbeats 1000000 in
theorem Follow7 (A : Option Addr) (c : Nat) (ls : List (List Int)) (s a : Int) (w : World) (hs : Sg w A ls) (hw : Wd2 ls) (hm : ls.length ≤ 140737488355328) (hf : ∀ j, (seg ls j).length ≤ 140737488355328) (h1 : hasB ls s a = true) (h2 : (wordV ls s a % 4 == 2) = true) (h3 : hasB ls (wordV ls s a / 4294967296) (wordV ls s a % 4294967296 / 8) = true) (h4 : ¬ wordV ls s a / 4 % 2 = 0) (h6 : hasB ls (wordV ls s a / 4294967296) (wordV ls s a % 4294967296 / 8 + 1) = true) (h5 : (wordV ls (wordV ls s a / 4294967296) (wordV ls s a % 4294967296 / 8) % 4 == 2) = false) :
    Calls Tryz.prog 36 #[.slice A ls.length c, .int .i64 s, .int .i64 a] w fun e w' => e = .returned (.tuple #[.int .u64 (followF ls s a).w, .int .i64 (followF ls s a).s, .int .i64 (followF ls s a).b, .int .i64 (followF ls s a).e]) ∧ Below w.heap.size w w' := by
  have HF : Hid (followF ls s a = folE 3) := Lib.hid (by simp [followF, folE, h1, h2, h3, h4, h5, h6])
  have Hs := Lib.hid hs
  have bx := wordV_bd hw s a
  have bone := wordV_bd hw (wordV ls s a / 4294967296) (wordV ls s a % 4294967296 / 8)
  have btwo := wordV_bd hw (wordV ls s a / 4294967296) (wordV ls s a % 4294967296 / 8 + 1)
  have q1 : 0 ≤ wordV ls s a / 4294967296 ∧ wordV ls s a / 4294967296 < 4294967296 := by omega
  have q2 : 0 ≤ wordV ls s a % 4294967296 / 8 ∧ wordV ls s a % 4294967296 / 8 < 536870912 := by omega
  have t4 : (wordV ls s a / 4 % 2 == 0) = false := by rw [beq_eq_false_iff_ne]; exact h4
  clear hs hw hf
  go_enter Tryz.func36, Tryz.ntmps36
  go_wp2_with fail
  refine (RefWord_is _ _ _ _ _ true _ Hs.out hm h1).mono ?_
  rintro e w' ⟨rfl, rfl⟩
  go_wp2_with fail
  refine (IsFar_is _ true _ bx.1 bx.2 h2).mono ?_
  rintro e w' ⟨rfl, rfl⟩
  go_wp2_with fail
  refine (Landing_any _ _ bx.1 bx.2).mono ?_
  rintro e w' ⟨rfl, rfl⟩
  go_wp2_with fail
  refine (RefWord_is _ _ _ _ _ true _ Hs.out hm h3).mono ?_
  rintro e w' ⟨rfl, rfl⟩
  go_wp2_with fail
  refine (RefWord_is _ _ _ _ _ true _ Hs.out hm h6).mono ?_
  rintro e w' ⟨rfl, rfl⟩
  go_wp2_with fail
  refine (RefDecode_any _ _ btwo.1 btwo.2).mono ?_
  rintro e w1 ⟨rfl, hb1⟩
  have hz1 := hb1.size
  have HB := Lib.hid (hb1.alloc hz1 (.cells #[.int .i64 (decP (wordV ls (wordV ls s a / 4294967296) (wordV ls s a % 4294967296 / 8 + 1))).k, .int .i64 (decP (wordV ls (wordV ls s a / 4294967296) (wordV ls s a % 4294967296 / 8 + 1))).o, .int .i64 (decP (wordV ls (wordV ls s a / 4294967296) (wordV ls s a % 4294967296 / 8 + 1))).d, .int .i64 (decP (wordV ls (wordV ls s a / 4294967296) (wordV ls s a % 4294967296 / 8 + 1))).p, .int .i64 (decP (wordV ls (wordV ls s a / 4294967296) (wordV ls s a % 4294967296 / 8 + 1))).el, .int .i64 (decP (wordV ls (wordV ls s a / 4294967296) (wordV ls s a % 4294967296 / 8 + 1))).c, .bool (decP (wordV ls (wordV ls s a / 4294967296) (wordV ls s a % 4294967296 / 8 + 1))).db, .int .i64 (decP (wordV ls (wordV ls s a / 4294967296) (wordV ls s a % 4294967296 / 8 + 1))).pa, .int .u32 (decP (wordV ls (wordV ls s a / 4294967296) (wordV ls s a % 4294967296 / 8 + 1))).sg, .int .u32 (decP (wordV ls (wordV ls s a / 4294967296) (wordV ls s a % 4294967296 / 8 + 1))).lo] 45))
  clear hb1
  go_wp2_with fail
  refine (IsFar_is _ false _ bone.1 bone.2 h5).mono ?_
  rintro e w' ⟨rfl, rfl⟩
  go_wp2
  refine bodyPost_ret (v := .tuple #[.int .u64 0, .int .i64 0, .int .i64 0, .int .i64 3]) (by simp [results, Tryz.results36, go_sem]) rfl ⟨by rw [HF.out]; rfl, HB.out⟩

set_option maxHeartbeats 1000000 in
theorem Follow8 (A : Option Addr) (c : Nat) (ls : List (List Int)) (s a : Int) (w : World) (hs : Sg w A ls) (hw : Wd2 ls) (hm : ls.length ≤ 140737488355328) (hf : ∀ j, (seg ls j).length ≤ 140737488355328) (h1 : hasB ls s a = true) (h2 : (wordV ls s a % 4 == 2) = true) (h3 : hasB ls (wordV ls s a / 4294967296) (wordV ls s a % 4294967296 / 8) = true) (h4 : ¬ wordV ls s a / 4 % 2 = 0) (h6 : hasB ls (wordV ls s a / 4294967296) (wordV ls s a % 4294967296 / 8 + 1) = true) (h5 : (wordV ls (wordV ls s a / 4294967296) (wordV ls s a % 4294967296 / 8) % 4 == 2) = true) (h7 : wordV ls (wordV ls s a / 4294967296) (wordV ls s a % 4294967296 / 8) / 4 % 2 = 1) :
    Calls Tryz.prog 36 #[.slice A ls.length c, .int .i64 s, .int .i64 a] w fun e w' => e = .returned (.tuple #[.int .u64 (followF ls s a).w, .int .i64 (followF ls s a).s, .int .i64 (followF ls s a).b, .int .i64 (followF ls s a).e]) ∧ Below w.heap.size w w' := by
  have HF : Hid (followF ls s a = folE 3) := Lib.hid (by simp [followF, folE, h1, h2, h3, h4, h5, h6, h7])
  have Hs := Lib.hid hs
  have bx := wordV_bd hw s a
  have bone := wordV_bd hw (wordV ls s a / 4294967296) (wordV ls s a % 4294967296 / 8)
  have btwo := wordV_bd hw (wordV ls s a / 4294967296) (wordV ls s a % 4294967296 / 8 + 1)
  have q1 : 0 ≤ wordV ls s a / 4294967296 ∧ wordV ls s a / 4294967296 < 4294967296 := by omega
  have q2 : 0 ≤ wordV ls s a % 4294967296 / 8 ∧ wordV ls s a % 4294967296 / 8 < 536870912 := by omega
  have t4 : (wordV ls s a / 4 % 2 == 0) = false := by rw [beq_eq_false_iff_ne]; exact h4
  have t7 : (wordV ls (wordV ls s a / 4294967296) (wordV ls s a % 4294967296 / 8) / 4 % 2 == 1) = true := by rw [beq_iff_eq]; exact h7
  clear hs hw hf
  go_enter Tryz.func36, Tryz.ntmps36
  go_wp2_with fail
  refine (RefWord_is _ _ _ _ _ true _ Hs.out hm h1).mono ?_
  rintro e w' ⟨rfl, rfl⟩
  go_wp2_with fail
  refine (IsFar_is _ true _ bx.1 bx.2 h2).mono ?_
  rintro e w' ⟨rfl, rfl⟩
  go_wp2_with fail
  refine (Landing_any _ _ bx.1 bx.2).mono ?_
  rintro e w' ⟨rfl, rfl⟩
  go_wp2_with fail
  refine (RefWord_is _ _ _ _ _ true _ Hs.out hm h3).mono ?_
  rintro e w' ⟨rfl, rfl⟩
  go_wp2_with fail
  refine (RefWord_is _ _ _ _ _ true _ Hs.out hm h6).mono ?_
  rintro e w' ⟨rfl, rfl⟩
  go_wp2_with fail
  refine (RefDecode_any _ _ btwo.1 btwo.2).mono ?_
  rintro e w1 ⟨rfl, hb1⟩
  have hz1 := hb1.size
  have HB := Lib.hid (hb1.alloc hz1 (.cells #[.int .i64 (decP (wordV ls (wordV ls s a / 4294967296) (wordV ls s a % 4294967296 / 8 + 1))).k, .int .i64 (decP (wordV ls (wordV ls s a / 4294967296) (wordV ls s a % 4294967296 / 8 + 1))).o, .int .i64 (decP (wordV ls (wordV ls s a / 4294967296) (wordV ls s a % 4294967296 / 8 + 1))).d, .int .i64 (decP (wordV ls (wordV ls s a / 4294967296) (wordV ls s a % 4294967296 / 8 + 1))).p, .int .i64 (decP (wordV ls (wordV ls s a / 4294967296) (wordV ls s a % 4294967296 / 8 + 1))).el, .int .i64 (decP (wordV ls (wordV ls s a / 4294967296) (wordV ls s a % 4294967296 / 8 + 1))).c, .bool (decP (wordV ls (wordV ls s a / 4294967296) (wordV ls s a % 4294967296 / 8 + 1))).db, .int .i64 (decP (wordV ls (wordV ls s a / 4294967296) (wordV ls s a % 4294967296 / 8 + 1))).pa, .int .u32 (decP (wordV ls (wordV ls s a / 4294967296) (wordV ls s a % 4294967296 / 8 + 1))).sg, .int .u32 (decP (wordV ls (wordV ls s a / 4294967296) (wordV ls s a % 4294967296 / 8 + 1))).lo] 45))
  clear hb1
  go_wp2_with fail
  refine (IsFar_is _ true _ bone.1 bone.2 h5).mono ?_
  rintro e w' ⟨rfl, rfl⟩
  go_wp2
  refine bodyPost_ret (v := .tuple #[.int .u64 0, .int .i64 0, .int .i64 0, .int .i64 3]) (by simp [results, Tryz.results36, go_sem]) rfl ⟨by rw [HF.out]; rfl, HB.out⟩

set_option maxHeartbeats 1000000 in
theorem Follow9 (A : Option Addr) (c : Nat) (ls : List (List Int)) (s a : Int) (w : World) (hs : Sg w A ls) (hw : Wd2 ls) (hm : ls.length ≤ 140737488355328) (hf : ∀ j, (seg ls j).length ≤ 140737488355328) (h1 : hasB ls s a = true) (h2 : (wordV ls s a % 4 == 2) = true) (h3 : hasB ls (wordV ls s a / 4294967296) (wordV ls s a % 4294967296 / 8) = true) (h4 : ¬ wordV ls s a / 4 % 2 = 0) (h6 : hasB ls (wordV ls s a / 4294967296) (wordV ls s a % 4294967296 / 8 + 1) = true) (h5 : (wordV ls (wordV ls s a / 4294967296) (wordV ls s a % 4294967296 / 8) % 4 == 2) = true) (h7 : ¬ wordV ls (wordV ls s a / 4294967296) (wordV ls s a % 4294967296 / 8) / 4 % 2 = 1) (h8 : 1 < (decP (wordV ls (wordV ls s a / 4294967296) (wordV ls s a % 4294967296 / 8 + 1))).k) :
    Calls Tryz.prog 36 #[.slice A ls.length c, .int .i64 s, .int .i64 a] w fun e w' => e = .returned (.tuple #[.int .u64 (followF ls s a).w, .int .i64 (followF ls s a).s, .int .i64 (followF ls s a).b, .int .i64 (followF ls s a).e]) ∧ Below w.heap.size w w' := by
  have HF : Hid (followF ls s a = folE 3) := Lib.hid (by simp [followF, folE, h1, h2, h3, h4, h5, h6, h7, h8])
  have Hs := Lib.hid hs
  have bx := wordV_bd hw s a
  have bone := wordV_bd hw (wordV ls s a / 4294967296) (wordV ls s a % 4294967296 / 8)
  have btwo := wordV_bd hw (wordV ls s a / 4294967296) (wordV ls s a % 4294967296 / 8 + 1)
  have q1 : 0 ≤ wordV ls s a / 4294967296 ∧ wordV ls s a / 4294967296 < 4294967296 := by omega
  have q2 : 0 ≤ wordV ls s a % 4294967296 / 8 ∧ wordV ls s a % 4294967296 / 8 < 536870912 := by omega
  have t4 : (wordV ls s a / 4 % 2 == 0) = false := by rw [beq_eq_false_iff_ne]; exact h4
  have t7 : (wordV ls (wordV ls s a / 4294967296) (wordV ls s a % 4294967296 / 8) / 4 % 2 == 1) = false := by rw [beq_eq_false_iff_ne]; exact h7
  clear hs hw hf
  go_enter Tryz.func36, Tryz.ntmps36
  go_wp2_with fail
  refine (RefWord_is _ _ _ _ _ true _ Hs.out hm h1).mono ?_
  rintro e w' ⟨rfl, rfl⟩
  go_wp2_with fail
  refine (IsFar_is _ true _ bx.1 bx.2 h2).mono ?_
  rintro e w' ⟨rfl, rfl⟩
  go_wp2_with fail
  refine (Landing_any _ _ bx.1 bx.2).mono ?_
  rintro e w' ⟨rfl, rfl⟩
  go_wp2_with fail
  refine (RefWord_is _ _ _ _ _ true _ Hs.out hm h3).mono ?_
  rintro e w' ⟨rfl, rfl⟩
  go_wp2_with fail
  refine (RefWord_is _ _ _ _ _ true _ Hs.out hm h6).mono ?_
  rintro e w' ⟨rfl, rfl⟩
  go_wp2_with fail
  refine (RefDecode_any _ _ btwo.1 btwo.2).mono ?_
  rintro e w1 ⟨rfl, hb1⟩
  have hz1 := hb1.size
  have HB := Lib.hid (hb1.alloc hz1 (.cells #[.int .i64 (decP (wordV ls (wordV ls s a / 4294967296) (wordV ls s a % 4294967296 / 8 + 1))).k, .int .i64 (decP (wordV ls (wordV ls s a / 4294967296) (wordV ls s a % 4294967296 / 8 + 1))).o, .int .i64 (decP (wordV ls (wordV ls s a / 4294967296) (wordV ls s a % 4294967296 / 8 + 1))).d, .int .i64 (decP (wordV ls (wordV ls s a / 4294967296) (wordV ls s a % 4294967296 / 8 + 1))).p, .int .i64 (decP (wordV ls (wordV ls s a / 4294967296) (wordV ls s a % 4294967296 / 8 + 1))).el, .int .i64 (decP (wordV ls (wordV ls s a / 4294967296) (wordV ls s a % 4294967296 / 8 + 1))).c, .bool (decP (wordV ls (wordV ls s a / 4294967296) (wordV ls s a % 4294967296 / 8 + 1))).db, .int .i64 (decP (wordV ls (wordV ls s a / 4294967296) (wordV ls s a % 4294967296 / 8 + 1))).pa, .int .u32 (decP (wordV ls (wordV ls s a / 4294967296) (wordV ls s a % 4294967296 / 8 + 1))).sg, .int .u32 (decP (wordV ls (wordV ls s a / 4294967296) (wordV ls s a % 4294967296 / 8 + 1))).lo] 45))
  clear hb1
  go_wp2_with fail
  refine (IsFar_is _ true _ bone.1 bone.2 h5).mono ?_
  rintro e w' ⟨rfl, rfl⟩
  go_wp2
  refine bodyPost_ret (v := .tuple #[.int .u64 0, .int .i64 0, .int .i64 0, .int .i64 3]) (by simp [results, Tryz.results36, go_sem]) rfl ⟨by rw [HF.out]; rfl, HB.out⟩

set_option maxHeartbeats 1000000 in
theorem Follow10 (A : Option Addr) (c : Nat) (ls : List (List Int)) (s a : Int) (w : World) (hs : Sg w A ls) (hw : Wd2 ls) (hm : ls.length ≤ 140737488355328) (hf : ∀ j, (seg ls j).length ≤ 140737488355328) (h1 : hasB ls s a = true) (h2 : (wordV ls s a % 4 == 2) = true) (h3 : hasB ls (wordV ls s a / 4294967296) (wordV ls s a % 4294967296 / 8) = true) (h4 : ¬ wordV ls s a / 4 % 2 = 0) (h6 : hasB ls (wordV ls s a / 4294967296) (wordV ls s a % 4294967296 / 8 + 1) = true) (h5 : (wordV ls (wordV ls s a / 4294967296) (wordV ls s a % 4294967296 / 8) % 4 == 2) = true) (h7 : ¬ wordV ls (wordV ls s a / 4294967296) (wordV ls s a % 4294967296 / 8) / 4 % 2 = 1) (h8 : ¬ 1 < (decP (wordV ls (wordV ls s a / 4294967296) (wordV ls s a % 4294967296 / 8 + 1))).k) (h9 : (decP (wordV ls (wordV ls s a / 4294967296) (wordV ls s a % 4294967296 / 8 + 1))).o ≠ 0) :
    Calls Tryz.prog 36 #[.slice A ls.length c, .int .i64 s, .int .i64 a] w fun e w' => e = .returned (.tuple #[.int .u64 (followF ls s a).w, .int .i64 (followF ls s a).s, .int .i64 (followF ls s a).b, .int .i64 (followF ls s a).e]) ∧ Below w.heap.size w w' := by
  have HF : Hid (followF ls s a = folE 3) := Lib.hid (by simp [followF, folE, h1, h2, h3, h4, h5, h6, h7, h8, h9])
  have Hs := Lib.hid hs
  have bx := wordV_bd hw s a
  have bone := wordV_bd hw (wordV ls s a / 4294967296) (wordV ls s a % 4294967296 / 8)
  have btwo := wordV_bd hw (wordV ls s a / 4294967296) (wordV ls s a % 4294967296 / 8 + 1)
  have q1 : 0 ≤ wordV ls s a / 4294967296 ∧ wordV ls s a / 4294967296 < 4294967296 := by omega
  have q2 : 0 ≤ wordV ls s a % 4294967296 / 8 ∧ wordV ls s a % 4294967296 / 8 < 536870912 := by omega
  have t4 : (wordV ls s a / 4 % 2 == 0) = false := by rw [beq_eq_false_iff_ne]; exact h4
  have t7 : (wordV ls (wordV ls s a / 4294967296) (wordV ls s a % 4294967296 / 8) / 4 % 2 == 1) = false := by rw [beq_eq_false_iff_ne]; exact h7
  have t9 : ((decP (wordV ls (wordV ls s a / 4294967296) (wordV ls s a % 4294967296 / 8 + 1))).o != 0) = true := by rw [bne_iff_ne]; exact h9
  clear hs hw hf
  go_enter Tryz.func36, Tryz.ntmps36
  go_wp2_with fail
  refine (RefWord_is _ _ _ _ _ true _ Hs.out hm h1).mono ?_
  rintro e w' ⟨rfl, rfl⟩
  go_wp2_with fail
  refine (IsFar_is _ true _ bx.1 bx.2 h2).mono ?_
  rintro e w' ⟨rfl, rfl⟩
  go_wp2_with fail
  refine (Landing_any _ _ bx.1 bx.2).mono ?_
  rintro e w' ⟨rfl, rfl⟩
  go_wp2_with fail
  refine (RefWord_is _ _ _ _ _ true _ Hs.out hm h3).mono ?_
  rintro e w' ⟨rfl, rfl⟩
  go_wp2_with fail
  refine (RefWord_is _ _ _ _ _ true _ Hs.out hm h6).mono ?_
  rintro e w' ⟨rfl, rfl⟩
  go_wp2_with fail
  refine (RefDecode_any _ _ btwo.1 btwo.2).mono ?_
  rintro e w1 ⟨rfl, hb1⟩
  have hz1 := hb1.size
  have HB := Lib.hid (hb1.alloc hz1 (.cells #[.int .i64 (decP (wordV ls (wordV ls s a / 4294967296) (wordV ls s a % 4294967296 / 8 + 1))).k, .int .i64 (decP (wordV ls (wordV ls s a / 4294967296) (wordV ls s a % 4294967296 / 8 + 1))).o, .int .i64 (decP (wordV ls (wordV ls s a / 4294967296) (wordV ls s a % 4294967296 / 8 + 1))).d, .int .i64 (decP (wordV ls (wordV ls s a / 4294967296) (wordV ls s a % 4294967296 / 8 + 1))).p, .int .i64 (decP (wordV ls (wordV ls s a / 4294967296) (wordV ls s a % 4294967296 / 8 + 1))).el, .int .i64 (decP (wordV ls (wordV ls s a / 4294967296) (wordV ls s a % 4294967296 / 8 + 1))).c, .bool (decP (wordV ls (wordV ls s a / 4294967296) (wordV ls s a % 4294967296 / 8 + 1))).db, .int .i64 (decP (wordV ls (wordV ls s a / 4294967296) (wordV ls s a % 4294967296 / 8 + 1))).pa, .int .u32 (decP (wordV ls (wordV ls s a / 4294967296) (wordV ls s a % 4294967296 / 8 + 1))).sg, .int .u32 (decP (wordV ls (wordV ls s a / 4294967296) (wordV ls s a % 4294967296 / 8 + 1))).lo] 45))
  clear hb1
  go_wp2_with fail
  refine (IsFar_is _ true _ bone.1 bone.2 h5).mono ?_
  rintro e w' ⟨rfl, rfl⟩
  go_wp2
  refine bodyPost_ret (v := .tuple #[.int .u64 0, .int .i64 0, .int .i64 0, .int .i64 3]) (by simp [results, Tryz.results36, go_sem]) rfl ⟨by rw [HF.out]; rfl, HB.out⟩

set_option maxHeartbeats 1000000 in
theorem Follow11 (A : Option Addr) (c : Nat) (ls : List (List Int)) (s a : Int) (w : World) (hs : Sg w A ls) (hw : Wd2 ls) (hm : ls.length ≤ 140737488355328) (hf : ∀ j, (seg ls j).length ≤ 140737488355328) (h1 : hasB ls s a = true) (h2 : (wordV ls s a % 4 == 2) = true) (h3 : hasB ls (wordV ls s a / 4294967296) (wordV ls s a % 4294967296 / 8) = true) (h4 : ¬ wordV ls s a / 4 % 2 = 0) (h6 : hasB ls (wordV ls s a / 4294967296) (wordV ls s a % 4294967296 / 8 + 1) = true) (h5 : (wordV ls (wordV ls s a / 4294967296) (wordV ls s a % 4294967296 / 8) % 4 == 2) = true) (h7 : ¬ wordV ls (wordV ls s a / 4294967296) (wordV ls s a % 4294967296 / 8) / 4 % 2 = 1) (h8 : ¬ 1 < (decP (wordV ls (wordV ls s a / 4294967296) (wordV ls s a % 4294967296 / 8 + 1))).k) (h9 : (decP (wordV ls (wordV ls s a / 4294967296) (wordV ls s a % 4294967296 / 8 + 1))).o = 0) :
    Calls Tryz.prog 36 #[.slice A ls.length c, .int .i64 s, .int .i64 a] w fun e w' => e = .returned (.tuple #[.int .u64 (followF ls s a).w, .int .i64 (followF ls s a).s, .int .i64 (followF ls s a).b, .int .i64 (followF ls s a).e]) ∧ Below w.heap.size w w' := by
  have HF : Hid (followF ls s a = ⟨wordV ls (wordV ls s a / 4294967296) (wordV ls s a % 4294967296 / 8 + 1), wordV ls (wordV ls s a / 4294967296) (wordV ls s a % 4294967296 / 8) / 4294967296, wordV ls (wordV ls s a / 4294967296) (wordV ls s a % 4294967296 / 8) % 4294967296 / 8, 0⟩) := Lib.hid (by simp [followF, folE, h1, h2, h3, h4, h5, h6, h7, h8, h9])
  have Hs := Lib.hid hs
  have bx := wordV_bd hw s a
  have bone := wordV_bd hw (wordV ls s a / 4294967296) (wordV ls s a % 4294967296 / 8)
  have btwo := wordV_bd hw (wordV ls s a / 4294967296) (wordV ls s a % 4294967296 / 8 + 1)
  have q1 : 0 ≤ wordV ls s a / 4294967296 ∧ wordV ls s a / 4294967296 < 4294967296 := by omega
  have q2 : 0 ≤ wordV ls s a % 4294967296 / 8 ∧ wordV ls s a % 4294967296 / 8 < 536870912 := by omega
  have t4 : (wordV ls s a / 4 % 2 == 0) = false := by rw [beq_eq_false_iff_ne]; exact h4
  have t7 : (wordV ls (wordV ls s a / 4294967296) (wordV ls s a % 4294967296 / 8) / 4 % 2 == 1) = false := by rw [beq_eq_false_iff_ne]; exact h7
  have t9 : ((decP (wordV ls (wordV ls s a / 4294967296) (wordV ls s a % 4294967296 / 8 + 1))).o != 0) = false := by rw [h9]; rfl
  clear h9
  clear hs hw hf
  go_enter Tryz.func36, Tryz.ntmps36
  go_wp2_with fail
  refine (RefWord_is _ _ _ _ _ true _ Hs.out hm h1).mono ?_
  rintro e w' ⟨rfl, rfl⟩
  go_wp2_with fail
  refine (IsFar_is _ true _ bx.1 bx.2 h2).mono ?_
  rintro e w' ⟨rfl, rfl⟩
  go_wp2_with fail
  refine (Landing_any _ _ bx.1 bx.2).mono ?_
  rintro e w' ⟨rfl, rfl⟩
  go_wp2_with fail
  refine (RefWord_is _ _ _ _ _ true _ Hs.out hm h3).mono ?_
  rintro e w' ⟨rfl, rfl⟩
  go_wp2_with fail
  refine (RefWord_is _ _ _ _ _ true _ Hs.out hm h6).mono ?_
  rintro e w' ⟨rfl, rfl⟩
  go_wp2_with fail
  refine (RefDecode_any _ _ btwo.1 btwo.2).mono ?_
  rintro e w1 ⟨rfl, hb1⟩
  have hz1 := hb1.size
  have HB := Lib.hid (hb1.alloc hz1 (.cells #[.int .i64 (decP (wordV ls (wordV ls s a / 4294967296) (wordV ls s a % 4294967296 / 8 + 1))).k, .int .i64 (decP (wordV ls (wordV ls s a / 4294967296) (wordV ls s a % 4294967296 / 8 + 1))).o, .int .i64 (decP (wordV ls (wordV ls s a / 4294967296) (wordV ls s a % 4294967296 / 8 + 1))).d, .int .i64 (decP (wordV ls (wordV ls s a / 4294967296) (wordV ls s a % 4294967296 / 8 + 1))).p, .int .i64 (decP (wordV ls (wordV ls s a / 4294967296) (wordV ls s a % 4294967296 / 8 + 1))).el, .int .i64 (decP (wordV ls (wordV ls s a / 4294967296) (wordV ls s a % 4294967296 / 8 + 1))).c, .bool (decP (wordV ls (wordV ls s a / 4294967296) (wordV ls s a % 4294967296 / 8 + 1))).db, .int .i64 (decP (wordV ls (wordV ls s a / 4294967296) (wordV ls s a % 4294967296 / 8 + 1))).pa, .int .u32 (decP (wordV ls (wordV ls s a / 4294967296) (wordV ls s a % 4294967296 / 8 + 1))).sg, .int .u32 (decP (wordV ls (wordV ls s a / 4294967296) (wordV ls s a % 4294967296 / 8 + 1))).lo] 45))
  clear hb1
  go_wp2_with fail
  refine (IsFar_is _ true _ bone.1 bone.2 h5).mono ?_
  rintro e w' ⟨rfl, rfl⟩
  go_wp2_with fail
  refine (Landing_any _ _ bone.1 bone.2).mono ?_
  rintro e w' ⟨rfl, rfl⟩
  go_wp2
  refine bodyPost_ret (v := .tuple #[.int .u64 (wordV ls (wordV ls s a / 4294967296) (wordV ls s a % 4294967296 / 8 + 1)), .int .i64 (wordV ls (wordV ls s a / 4294967296) (wordV ls s a % 4294967296 / 8) / 4294967296), .int .i64 (wordV ls (wordV ls s a / 4294967296) (wordV ls s a % 4294967296 / 8) % 4294967296 / 8), .int .i64 0]) (by simp [results, Tryz.results36, go_sem]) rfl ⟨by rw [HF.out], HB.out⟩

theorem RefFollow_any (A : Option Addr) (c : Nat) (ls : List (List Int)) (s a : Int) (w : World) (hs : Sg w A ls) (hw : Wd2 ls) (hm : ls.length ≤ 140737488355328) (hf : ∀ j, (seg ls j).length ≤ 140737488355328) :
    Calls Tryz.prog 36 #[.slice A ls.length c, .int .i64 s, .int .i64 a] w fun e w' => e = .returned (.tuple #[.int .u64 (followF ls s a).w, .int .i64 (followF ls s a).s, .int .i64 (followF ls s a).b, .int .i64 (followF ls s a).e]) ∧ Below w.heap.size w w' := by
  cases h1 : hasB ls s a
  · exact Follow1 A c ls s a w hs hw hm hf h1
  cases h2 : (wordV ls s a % 4 == 2)
  · exact Follow2 A c ls s a w hs hw hm hf h1 h2
  cases h3 : hasB ls (wordV ls s a / 4294967296) (wordV ls s a % 4294967296 / 8)
  · exact Follow3 A c ls s a w hs hw hm hf h1 h2 h3
  by_cases h4 : wordV ls s a / 4 % 2 = 0
  · cases h5 : (wordV ls (wordV ls s a / 4294967296) (wordV ls s a % 4294967296 / 8) % 4 == 2)
    · exact Follow5 A c ls s a w hs hw hm hf h1 h2 h3 h4 h5
    · exact Follow4 A c ls s a w hs hw hm hf h1 h2 h3 h4 h5
  cases h6 : hasB ls (wordV ls s a / 4294967296) (wordV ls s a % 4294967296 / 8 + 1)
  · exact Follow6 A c ls s a w hs hw hm hf h1 h2 h3 h4 h6
  cases h5 : (wordV ls (wordV ls s a / 4294967296) (wordV ls s a % 4294967296 / 8) % 4 == 2)
  · exact Follow7 A c ls s a w hs hw hm hf h1 h2 h3 h4 h6 h5
  by_cases h7 : wordV ls (wordV ls s a / 4294967296) (wordV ls s a % 4294967296 / 8) / 4 % 2 = 1
  · exact Follow8 A c ls s a w hs hw hm hf h1 h2 h3 h4 h6 h5 h7
  by_cases h8 : 1 < (decP (wordV ls (wordV ls s a / 4294967296) (wordV ls s a % 4294967296 / 8 + 1))).k
  · exact Follow9 A c ls s a w hs hw hm hf h1 h2 h3 h4 h6 h5 h7 h8
  by_cases h9 : (decP (wordV ls (wordV ls s a / 4294967296) (wordV ls s a % 4294967296 / 8 + 1))).o = 0
  · exact Follow11 A c ls s a w hs hw hm hf h1 h2 h3 h4 h6 h5 h7 h8 h9
  · exact Follow10 A c ls s a w hs hw hm hf h1 h2 h3 h4 h6 h5 h7 h8 h9
end Go.Proofs.YtnmanhediiooaaaGreatDoor

/- What the reference functions of layer 6 do, each by a contract. -/
namespace Go.Proofs.YtnmanhediiooaaaGreatDoor
open Go.ChangeShapes Go.WideShapes Go.ChangeAt Go.RowKit
set_option linter.unusedVariables false
set_option linter.unusedSimpArgs false
set_option maxRecDepth 100000

/-- bits of an element -/
def bitsI (e : Int) : Int := if e = 1 then 1 else if e = 2 then 8 else if e = 3 then 16 else if e = 4 then 32 else if e = 5 ∨ e = 6 then 64 else 0
def wordsI (e c : Int) : Int := if e = 7 then c + 1 else (bitsI e * c + 63) / 64
def bytesI (e c : Int) : Int := (bitsI e * c + 7) / 8
theorem bitsI_cases (e : Int) : bitsI e = 0 ∨ bitsI e = 1 ∨ bitsI e = 8 ∨ bitsI e = 16 ∨ bitsI e = 32 ∨ bitsI e = 64 := by
  unfold bitsI
  repeat' split
  all_goals simp
theorem bitsI_mul (e c : Int) (h0 : 0 ≤ c) : 0 ≤ bitsI e * c ∧ bitsI e * c ≤ 64 * c := by
  rcases bitsI_cases e with h | h | h | h | h | h <;> rw [h] <;> omega

theorem RefBits_any (e : Int) (w : World) : Calls Tryz.prog 77 #[.int .i64 e] w fun r w' => r = .returned (.int .i64 (bitsI e)) ∧ w = w' := by
  have HB : Hid (bitsI e = bitsI e) := Lib.hid rfl
  by_cases h1 : e = 1
  · subst h1; go_enter Tryz.func77, Tryz.ntmps77; go_wp2; go_ret; exact ⟨rfl, rfl⟩
  by_cases h2 : e = 2
  · subst h2; go_enter Tryz.func77, Tryz.ntmps77; go_wp2; go_ret; exact ⟨rfl, rfl⟩
  by_cases h3 : e = 3
  · subst h3; go_enter Tryz.func77, Tryz.ntmps77; go_wp2; go_ret; exact ⟨rfl, rfl⟩
  by_cases h4 : e = 4
  · subst h4; go_enter Tryz.func77, Tryz.ntmps77; go_wp2; go_ret; exact ⟨rfl, rfl⟩
  by_cases h5 : e = 5
  · subst h5; go_enter Tryz.func77, Tryz.ntmps77; go_wp2; go_ret; exact ⟨rfl, rfl⟩
  by_cases h6 : e = 6
  · subst h6; go_enter Tryz.func77, Tryz.ntmps77; go_wp2; go_ret; exact ⟨rfl, rfl⟩
  have HZ : Hid (bitsI e = 0) := Lib.hid (by simp [bitsI, h1, h2, h3, h4, h5, h6])
  have k1 : (e == 1) = false := by rw [beq_eq_false_iff_ne]; exact h1
  have k2 : (e == 2) = false := by rw [beq_eq_false_iff_ne]; exact h2
  have k3 : (e == 3) = false := by rw [beq_eq_false_iff_ne]; exact h3
  have k4 : (e == 4) = false := by rw [beq_eq_false_iff_ne]; exact h4
  have k5 : (e == 5) = false := by rw [beq_eq_false_iff_ne]; exact h5
  have k6 : (e == 6) = false := by rw [beq_eq_false_iff_ne]; exact h6
  clear h1 h2 h3 h4 h5 h6
  go_enter Tryz.func77, Tryz.ntmps77
  go_wp2
  go_ret
  exact ⟨by rw [HZ.out]; rfl, rfl⟩

theorem RefWords6_any (e c : Int) (w : World) (h0 : 0 ≤ c) (h1 : c ≤ 536870911) : Calls Tryz.prog 64 #[.int .i64 e, .int .i64 c] w fun r w' => r = .returned (.int .i64 (wordsI e c)) ∧ w = w' := by
  by_cases h7 : e = 7
  · subst h7
    go_enter Tryz.func64, Tryz.ntmps64
    go_wp2
    go_ret
    exact ⟨rfl, rfl⟩
  · have k7 : (e == 7) = false := by rw [beq_eq_false_iff_ne]; exact h7
    have HW : Hid (wordsI e c = (bitsI e * c + 63) / 64) := Lib.hid (by simp [wordsI, h7])
    have hm := bitsI_mul e c h0
    clear h7
    by_cases hr : bitsI e * c / 64 * 64 < bitsI e * c
    · have HE : Hid ((bitsI e * c + 63) / 64 = bitsI e * c / 64 + 1) := Lib.hid (by omega)
      go_enter Tryz.func64, Tryz.ntmps64
      go_wp2_with (go_at_call 77; refine (RefBits_any _ _).mono ?_; rintro r w' ⟨rfl, rfl⟩)
      go_ret
      exact ⟨by rw [HW.out, HE.out]; rfl, rfl⟩
    · have HE : Hid ((bitsI e * c + 63) / 64 = bitsI e * c / 64) := Lib.hid (by omega)
      go_enter Tryz.func64, Tryz.ntmps64
      go_wp2_with (go_at_call 77; refine (RefBits_any _ _).mono ?_; rintro r w' ⟨rfl, rfl⟩)
      go_ret
      exact ⟨by rw [HW.out, HE.out]; rfl, rfl⟩

theorem RefBytes6_any (e c : Int) (w : World) (h0 : 0 ≤ c) (h1 : c ≤ 536870911) : Calls Tryz.prog 65 #[.int .i64 e, .int .i64 c] w fun r w' => r = .returned (.int .i64 (bytesI e c)) ∧ w = w' := by
  have hm := bitsI_mul e c h0
  have HW : Hid (bytesI e c = (bitsI e * c + 7) / 8) := Lib.hid rfl
  by_cases hr : bitsI e * c / 8 * 8 < bitsI e * c
  · have HE : Hid ((bitsI e * c + 7) / 8 = bitsI e * c / 8 + 1) := Lib.hid (by omega)
    go_enter Tryz.func65, Tryz.ntmps65
    go_wp2_with (go_at_call 77; refine (RefBits_any _ _).mono ?_; rintro r w' ⟨rfl, rfl⟩)
    go_ret
    exact ⟨by rw [HW.out, HE.out]; rfl, rfl⟩
  · have HE : Hid ((bitsI e * c + 7) / 8 = bitsI e * c / 8) := Lib.hid (by omega)
    go_enter Tryz.func65, Tryz.ntmps65
    go_wp2_with (go_at_call 77; refine (RefBits_any _ _).mono ?_; rintro r w' ⟨rfl, rfl⟩)
    go_ret
    exact ⟨by rw [HW.out, HE.out]; rfl, rfl⟩

/-! ## Trim -/
/-- byte i of the trimmed bytes -/
def trimAt (b : List Int) (e c : Int) (i : Nat) : Int := if e = 1 ∧ c < 8 * (i : Int) + 8 then zat b i % p2 (c - 8 * i) else zat b i
def trimL (b : List Int) (e c : Int) : List Int := (List.range (bytesI e c).toNat).map (trimAt b e c)
theorem trimL_length (b : List Int) (e c : Int) : (trimL b e c).length = (bytesI e c).toNat := by simp [trimL]
theorem trimL_zat (b : List Int) (e c : Int) (i : Nat) (h : i < (bytesI e c).toNat) : zat (trimL b e c) i = trimAt b e c i := by
  simp [trimL, zat, List.getD_eq_getElem?_getD, h]
theorem trimAt_bd {b : List Int} (hb : Bts b) (e c : Int) (i : Nat) : 0 ≤ trimAt b e c i ∧ trimAt b e c i < 256 := by
  have hz := hb.at i
  unfold trimAt
  split
  · have hp := p2_pos (c - 8 * i)
    have h1 := Int.emod_nonneg (zat b i) (show p2 (c - 8 * (i : Int)) ≠ 0 by omega)
    have h2 : zat b i % p2 (c - 8 * (i : Int)) ≤ zat b i := by
      rw [Int.emod_def]
      have := Int.mul_nonneg (show 0 ≤ p2 (c - 8 * (i : Int)) by omega) (Int.ediv_nonneg hz.1 (show 0 ≤ p2 (c - 8 * (i : Int)) by omega))
      omega
    omega
  · exact hz
theorem trimL_bts {b : List Int} (hb : Bts b) (e c : Int) : Bts (trimL b e c) := by
  intro z hz
  simp only [trimL, List.mem_map] at hz
  obtain ⟨i, _, rfl⟩ := hz
  exact trimAt_bd hb e c i

theorem p2_7 (q : Nat) (h : q ≤ 7) : p2 q ≤ 128 := by
  have h2 := Nat.pow_le_pow_right (n := 2) (by decide) h
  unfold p2
  rw [Int.toNat_natCast]
  have e : (2 : Int) ^ q = ((2 ^ q : Nat) : Int) := by simp
  rw [e]; omega

attribute [local irreducible] p2

set_option maxHeartbeats 4000000 in
set_option maxRecDepth 100000 in
theorem RefTrim_any (A : Option Addr) (cp : Nat) (b : List Int) (e c : Int) (w : World) (hr : Ri w .u8 A b) (hb : Bts b) (hm : b.length ≤ 140737488355327) (h0 : 0 ≤ c) (h1 : c ≤ 536870911) (hl : bytesI e c ≤ b.length) :
    Calls Tryz.prog 41 #[.int .i64 e, .int .i64 c, .slice A b.length cp] w fun r w' => ∃ v, r = .returned v ∧ Got w' w.heap.size 5 .u8 v (trimL b e c) ∧ Below w.heap.size w w' := by
  obtain ⟨i0, hi, hz0, hz1, hz2⟩ := info_parts int8_info
  have hm2 := bitsI_mul e c h0
  have hB : 0 ≤ bytesI e c := by unfold bytesI; omega
  have HBI : Hid (bytesI e c = (bitsI e * c + 7) / 8) := Lib.hid rfl
  have HLEN := Lib.hid (trimL_length b e c)
  have HZ := Lib.hid (trimL_zat b e c)
  have HTB := Lib.hid (fun i => trimAt_bd hb e c i)
  have Hr := Lib.hid hr
  have Hb := Lib.hid hb
  obtain ⟨n, hn⟩ := Int.eq_ofNat_of_zero_le hB
  have HN := Lib.hid hn
  have hnl : n ≤ b.length := by omega
  clear hr hb hl hn hB
  go_enter Tryz.func41, Tryz.ntmps41
  go_wp2
  go_loopw [7, 8] (fun v j wr => ∃ k : Nat, k ≤ n ∧ j = .int .i64 k ∧ Got wr w.heap.size 5 .u8 v ((trimL b e c).take k) ∧ Below w.heap.size w wr) (fun _ j _ => n - (intOf j).toNat)
  case atStart => exact ⟨0, by omega, rfl, Got.empty _ _ _ _, Below.refl _ _⟩
  case round =>
    obtain ⟨k, hk, rfl, hgk, hbk⟩ := hrel
    by_cases hlt : k < n
    · have hr := Hr.out.below hbk (Nat.le_refl _)
      obtain ⟨g, off, rfl, hc3⟩ := hr.at (i := k) (by omega)
      have hcell := hc3 k (by omega)
      have hz := Hb.out.at k
      have hk2 : (k : Int) < (b.length : Int) := by omega
      have hkn : (k : Int) < (n : Int) := by omega
      have hlen : ((trimL b e c).take k).length = k := by rw [List.length_take, HLEN.out, HN.out]; omega
      have hnb : n ≤ 140737488355327 := by omega
      have HL := Lib.hid hlen
      have HT : Hid ((trimL b e c).take (k + 1) = (trimL b e c).take k ++ [trimAt b e c k]) := Lib.hid (by
        rw [take_succ_zat _ _ (by rw [HLEN.out, HN.out]; omega), HZ.out k (by rw [HN.out]; omega)])
      have hsz := hbk.size
      have HB := Lib.hid hbk
      have ht := HTB.out k
      clear hc3 hr hbk hlen
      by_cases hc : e = 1 ∧ c < 8 * (k : Int) + 8
      · obtain ⟨rfl, hc2⟩ := hc
        have hkeep : 0 ≤ c - 8 * (k : Int) := by
          have h3 := HN.out
          rw [HBI.out] at h3
          have h4 : bitsI 1 = 1 := rfl
          rw [h4] at h3
          omega
        obtain ⟨K, hK⟩ := Int.eq_ofNat_of_zero_le hkeep
        have hK7 : K ≤ 7 := by omega
        have HK := Lib.hid hK
        have HA : Hid (trimAt b 1 c k = zat b k % p2 K) := Lib.hid (by unfold trimAt; rw [if_pos ⟨rfl, hc2⟩, hK])
        rw [HA.out] at HT ht
        have hcK : c = 8 * (k : Int) + K := by omega
        clear hK hkeep
        subst hcK
        go_wp2_with fail
        refine (RefBytes6_any _ _ _ h0 h1).mono ?_
        rintro r w' ⟨rfl, rfl⟩
        rw [HN.out]
        go_wp2
        have HGK := Lib.hid hgk
        clear hgk
        go_loop [11, 12] (fun m j => ∃ q : Nat, q ≤ K ∧ j = .int .i64 q ∧ m = .int .i64 (p2 q)) (fun _ j => K - (intOf j).toNat)
        case atStart => exact ⟨0, by omega, rfl, by unfold p2; rfl⟩
        case round =>
          obtain ⟨q, hq, rfl, rfl⟩ := hrel
          have hp1 := p2_pos q
          by_cases hqk : q < K
          · have hq2 : (q : Int) < 8 * (k : Int) + K - 8 * k := by omega
            have hp2 := p2_7 q (by omega)
            have HS := Lib.hid (p2_succ q)
            go_wp2
            go_round
            case rel => exact ⟨q + 1, by omega, by go_num, by rw [← HS.out]; go_num⟩
            case measure => simp [intOf]; omega
          · have hq2 : ¬ (q : Int) < 8 * (k : Int) + K - 8 * k := by omega
            obtain rfl : q = K := by omega
            have hp2 := p2_7 q (by omega)
            go_wp2_with (at_builtin; refine wpList_app1 rfl (.tmp 49) (.tmp 51) 27 rfl Tryz.underlying27 hi hz0 hz1 hz2 rfl HGK.out rfl (by rw [HL.out]; unfold maxLen; omega) (by rw [HL.out]; omega) hsz ?_; intro v1 w1 hg1 hb1)
            go_roundw
            case rel => exact ⟨k + 1, by omega, by go_num, by rw [HT.out]; exact hg1, HB.out.trans hb1⟩
            case measure => simp [intOf]; omega
      · have HA : Hid (trimAt b e c k = zat b k) := Lib.hid (by unfold trimAt; rw [if_neg hc])
        rw [HA.out] at HT ht
        by_cases he : e = 1
        · have hc2 : ¬ c < 8 * (k : Int) + 8 := fun h => hc ⟨he, h⟩
          subst he
          clear hc
          go_wp2_with fail
          refine (RefBytes6_any _ _ _ h0 h1).mono ?_
          rintro r w' ⟨rfl, rfl⟩
          rw [HN.out]
          go_wp2_with (at_builtin; refine wpList_app1 rfl (.tmp 49) (.tmp 51) 27 rfl Tryz.underlying27 hi hz0 hz1 hz2 rfl hgk rfl (by rw [HL.out]; unfold maxLen; omega) (by rw [HL.out]; omega) hsz ?_; intro v1 w1 hg1 hb1)
          go_roundw
          case rel => exact ⟨k + 1, by omega, by go_num, by rw [HT.out]; exact hg1, HB.out.trans hb1⟩
          case measure => simp [intOf]; omega
        · have he2 : (e == 1) = false := by rw [beq_eq_false_iff_ne]; exact he
          clear hc he
          go_wp2_with fail
          refine (RefBytes6_any _ _ _ h0 h1).mono ?_
          rintro r w' ⟨rfl, rfl⟩
          rw [HN.out]
          go_wp2_with (at_builtin; refine wpList_app1 rfl (.tmp 49) (.tmp 51) 27 rfl Tryz.underlying27 hi hz0 hz1 hz2 rfl hgk rfl (by rw [HL.out]; unfold maxLen; omega) (by rw [HL.out]; omega) hsz ?_; intro v1 w1 hg1 hb1)
          go_roundw
          case rel => exact ⟨k + 1, by omega, by go_num, by rw [HT.out]; exact hg1, HB.out.trans hb1⟩
          case measure => simp [intOf]; omega
    · obtain rfl : k = n := by omega
      go_wp2_with fail
      refine (RefBytes6_any _ _ _ h0 h1).mono ?_
      rintro r w' ⟨rfl, rfl⟩
      rw [HN.out]
      go_wp2
      go_ret
      exact ⟨_, rfl, hgk.cast rfl (by rw [List.take_of_length_le (by rw [HLEN.out, HN.out]; omega)]), hbk⟩
end Go.Proofs.YtnmanhediiooaaaGreatDoor

/- What the reference functions of layer 8 do, each by a contract. -/
namespace Go.Proofs.YtnmanhediiooaaaGreatDoor
open Go.ChangeShapes Go.WideShapes Go.ChangeAt Go.RowKit
set_option linter.unusedVariables false
set_option linter.unusedSimpArgs false
set_option maxRecDepth 100000

theorem decP_bd (x : Int) (h0 : 0 ≤ x) (h1 : x < 18446744073709551616) : 0 ≤ (decP x).k ∧ (decP x).k ≤ 3 ∧ -536870912 ≤ (decP x).o ∧ (decP x).o ≤ 536870911 ∧ 0 ≤ (decP x).d ∧ (decP x).d ≤ 65535 ∧ 0 ≤ (decP x).p ∧ (decP x).p ≤ 65535 ∧ 0 ≤ (decP x).el ∧ (decP x).el ≤ 7 ∧ 0 ≤ (decP x).c ∧ (decP x).c ≤ 536870911 ∧ 0 ≤ (decP x).lo := by
  rcases decP_vld x h0 h1 with ⟨k0, a1, a2, a3, a4, a5, a6, a7, a8, a9, a10, a11, a12⟩ | ⟨k0, a1, a2, a3, a4, a5, a6, a7, a8, a9, a10, a11, a12⟩ | ⟨k0, a1, a2, a3, a4, a5, a6, a7, a8, a9, a10⟩ | ⟨k0, a1, a2, a3, a4, a5, a6, a7, a8, a9, a10, a11⟩ <;> omega

theorem followF_bd {ls : List (List Int)} (hw : Wd2 ls) (hm : ls.length ≤ 140737488355328) (hf : ∀ j, (seg ls j).length ≤ 140737488355328) (s a : Int) :
    0 ≤ (followF ls s a).w ∧ (followF ls s a).w < 18446744073709551616 ∧ 0 ≤ (followF ls s a).s ∧ (followF ls s a).s ≤ 140737488355328 ∧ 0 ≤ (followF ls s a).b ∧ (followF ls s a).b ≤ 140737488355329 := by
  have q1 := wordV_bd hw s a
  have q2 := wordV_bd hw (wordV ls s a / 4294967296) (wordV ls s a % 4294967296 / 8)
  have q3 := wordV_bd hw (wordV ls s a / 4294967296) (wordV ls s a % 4294967296 / 8 + 1)
  unfold followF
  split
  · simp [folE]
  · rename_i h1
    have h1' : hasB ls s a = true := by simpa using h1
    unfold hasB at h1'
    have h7 := of_decide_eq_true h1'
    have h8 := hf s.toNat
    split
    · simp only; omega
    · split
      · simp [folE]
      · split
        · split
          · simp [folE]
          · simp only; omega
        · split
          · simp [folE]
          · split
            · simp [folE]
            · simp only; omega

/-- a resolved object -/
structure Ob where
  k : Int
  sg : Int
  at' : Int
  d : Int
  p : Int
  el : Int
  n : Int
  cost : Int
def ob0 : Ob := ⟨0, 0, 0, 0, 0, 0, 0, 0⟩
/-- the object of a list pointer whose words lie in bounds -/
def compF (ls : List (List Int)) (s st c cost : Int) : Ob × Int :=
  if (decP (wordV ls s st)).k ≠ 0 ∨ (decP (wordV ls s st)).o < 0 ∨ c < (decP (wordV ls s st)).o * ((decP (wordV ls s st)).d + (decP (wordV ls s st)).p) then (ob0, 5)
  else (⟨2, s, st + 1, (decP (wordV ls s st)).d, (decP (wordV ls s st)).p, 7, (decP (wordV ls s st)).o, if (decP (wordV ls s st)).d + (decP (wordV ls s st)).p = 0 then cost + (decP (wordV ls s st)).o else cost⟩, 0)
def objP (ls : List (List Int)) (q : Ptr) (s b : Int) : Ob × Int :=
  if q.k = 3 then (ob0, if q.lo = 0 then 6 else 4)
  else if q.k = 0 then (if inB ls s (b + q.o) (q.d + q.p) = true then (⟨1, s, b + q.o, q.d, q.p, 0, 0, q.d + q.p⟩, 0) else (ob0, 2))
  else if inB ls s (b + q.o) (wordsI q.el q.c) = false then (ob0, 2)
  else if q.el = 7 then compF ls s (b + q.o) q.c (wordsI q.el q.c)
  else (⟨2, s, b + q.o, 0, 0, q.el, q.c, wordsI q.el q.c⟩, 0)
def objF (ls : List (List Int)) (s a : Int) : Ob × Int :=
  if (followF ls s a).e ≠ 0 ∨ (followF ls s a).w = 0 then (ob0, (followF ls s a).e)
  else objP ls (decP (followF ls s a).w) (followF ls s a).s (followF ls s a).b

theorem Sg.alloc {w : World} {A : Option Addr} {ls : List (List Int)} (h : Sg w A ls) (o : Obj) : Sg (w.alloc o) A ls := h.below ((Below.refl _ _).alloc (Nat.le_refl _) o) (Nat.le_refl _)

theorem two_new {w w1 : World} {cs ds : Array Value} {T U : TypeId} (hb : Below ((w.alloc (.cells cs T)).alloc (.cells ds U)).heap.size ((w.alloc (.cells cs T)).alloc (.cells ds U)) w1) :
    (∀ o, w1.cell? ⟨w.heap.size, o, none⟩ = cs[o]?) ∧ (∀ o, w1.cell? ⟨w.heap.size + 1, o, none⟩ = ds[o]?) ∧ (∀ o, w1.frozen? ⟨w.heap.size, o, none⟩ = false) ∧ (∀ o, w1.frozen? ⟨w.heap.size + 1, o, none⟩ = false) ∧ w.heap.size + 2 ≤ w1.heap.size ∧ Below w.heap.size w w1 := by
  refine ⟨blk_below (blk_alloc (blk_new w cs T) (by simp) _) hb (by simp; omega), ?_, fun o => ?_, fun o => ?_, ?_, ?_⟩
  · have h := blk_below (blk_new (w.alloc (.cells cs T)) ds U) hb (by simp)
    simpa using h
  · rw [hb.frozen (p := ⟨w.heap.size, o, none⟩) (by simp; omega)]
    simp
  · rw [hb.frozen (p := ⟨w.heap.size + 1, o, none⟩) (by simp)]
    simp
  · have h := hb.size
    simpa using h
  · exact ((Below.refl _ _).alloc (Nat.le_refl _) _).alloc (by simp) _ |>.trans (hb.mono (by simp; omega))

theorem two_on {w w1 w2 : World} {cs ds : Array Value} (x6 : ∀ o, w1.cell? ⟨w.heap.size, o, none⟩ = cs[o]?) (x8 : ∀ o, w1.cell? ⟨w.heap.size + 1, o, none⟩ = ds[o]?) (y6 : ∀ o, w1.frozen? ⟨w.heap.size, o, none⟩ = false) (y8 : ∀ o, w1.frozen? ⟨w.heap.size + 1, o, none⟩ = false) (hz : w.heap.size + 2 ≤ w1.heap.size) (hB : Below w.heap.size w w1) (hb : Below w1.heap.size w1 w2) :
    (∀ o, w2.cell? ⟨w.heap.size, o, none⟩ = cs[o]?) ∧ (∀ o, w2.cell? ⟨w.heap.size + 1, o, none⟩ = ds[o]?) ∧ (∀ o, w2.frozen? ⟨w.heap.size, o, none⟩ = false) ∧ (∀ o, w2.frozen? ⟨w.heap.size + 1, o, none⟩ = false) ∧ w.heap.size < w2.heap.size ∧ w.heap.size + 1 < w2.heap.size ∧ Below w.heap.size w w2 := by
  have h := hb.size
  refine ⟨blk_below x6 hb (by omega), blk_below x8 hb (by omega), fun o => ?_, fun o => ?_, by omega, by omega, hB.trans (hb.mono (by omega))⟩
  · rw [hb.frozen (p := ⟨w.heap.size, o, none⟩) (by show w.heap.size < _; omega)]
    exact y6 o
  · rw [hb.frozen (p := ⟨w.heap.size + 1, o, none⟩) (by show w.heap.size + 1 < _; omega)]
    exact y8 o

/-- a store into a place of a block that is known whole -/
theorem blk_set {W : World} {b : Nat} {cs : Array Value} (x : ∀ o, W.cell? ⟨b, o, none⟩ = cs[o]?) (k : Nat) (hk : k < cs.size) (v : Value) : ∀ o, (W.setCell ⟨b, k, none⟩ v).cell? ⟨b, o, none⟩ = (cs.setIfInBounds k v)[o]? := by
  intro o
  by_cases e : k = o
  · subst e
    rw [World.cell?_setCell_same' _ _ _ (by rw [x k]; simp [hk])]
    simp [hk]
  · rw [World.cell?_setCell_other W ⟨b, k, none⟩ ⟨b, o, none⟩ v (by intro h; injection h with _ h2; exact e h2), x o]
    simp [Array.getElem?_setIfInBounds_ne e]

theorem RefInB_is (A : Option Addr) (c : Nat) (ls : List (List Int)) (s a n : Int) (b : Bool) (w : World) (hs : Sg w A ls) (hm : ls.length ≤ 140737488355328) (hb : inB ls s a n = b) :
    Calls Tryz.prog 63 #[.slice A ls.length c, .int .i64 s, .int .i64 a, .int .i64 n] w fun e w' => e = .returned (.bool b) ∧ w = w' := by
  subst hb
  exact RefInBounds_any A c ls s a n w hs hm

set_option maxRecDepth 100000 in
set_option maxHeartbeats 2000000 in
theorem Object1 (A : Option Addr) (c : Nat) (ls : List (List Int)) (s a : Int) (w : World) (hs : Sg w A ls) (hw : Wd2 ls) (hm : ls.length ≤ 140737488355328) (hf : ∀ j, (seg ls j).length ≤ 140737488355328) (h1 : (followF ls s a).e ≠ 0) :
    Calls Tryz.prog 37 #[.slice A ls.length c, .int .i64 s, .int .i64 a] w fun e w' => e = .returned (.tuple #[.agg #[.int .i64 (objF ls s a).1.k, .int .i64 (objF ls s a).1.sg, .int .i64 (objF ls s a).1.at', .int .i64 (objF ls s a).1.d, .int .i64 (objF ls s a).1.p, .int .i64 (objF ls s a).1.el, .int .i64 (objF ls s a).1.n, .int .i64 (objF ls s a).1.cost], .int .i64 (objF ls s a).2]) ∧ Below w.heap.size w w' := by
  have HF : Hid (objF ls s a = (ob0, (followF ls s a).e)) := Lib.hid (by simp [objF, h1])
  have HFOL := Lib.hid (fun w2 hs2 => RefFollow_any A c ls s a w2 hs2 hw hm hf)
  have hbd := followF_bd hw hm hf s a
  have HW := Lib.hid hw
  have Hs := Lib.hid hs
  have hpd := decP_bd (followF ls s a).w hbd.1 hbd.2.1
  generalize hq : followF ls s a = q at *
  clear hs hw hf hq
  go_enter Tryz.func37, Tryz.ntmps37
  go_wp2_with fail
  refine (HFOL.out _ ((Hs.out.alloc _).alloc _)).mono ?_
  rintro e w1 ⟨rfl, hb1⟩
  obtain ⟨x6, x8, y6, y8, hz1, hb2⟩ := two_new hb1
  have HB := Lib.hid hb2
  clear hb1 hb2 HFOL
  have t1 : (q.e != 0) = true := by simpa using h1
  go_wp2
  refine bodyPost_ret (v := .tuple #[.agg #[.int .i64 (0), .int .i64 (0), .int .i64 (0), .int .i64 (0), .int .i64 (0), .int .i64 (0), .int .i64 (0), .int .i64 (0)], .int .i64 q.e]) (by simp [results, Tryz.results37, go_sem, x6]) rfl ⟨by rw [HF.out]; rfl, ?_⟩
  repeat with_reducible refine Below.setCell ?_ (by simp) _
  exact HB.out

set_option maxRecDepth 100000 in
set_option maxHeartbeats 2000000 in
theorem Object2 (A : Option Addr) (c : Nat) (ls : List (List Int)) (s a : Int) (w : World) (hs : Sg w A ls) (hw : Wd2 ls) (hm : ls.length ≤ 140737488355328) (hf : ∀ j, (seg ls j).length ≤ 140737488355328) (h1 : (followF ls s a).e = 0) (h2 : (followF ls s a).w = 0) :
    Calls Tryz.prog 37 #[.slice A ls.length c, .int .i64 s, .int .i64 a] w fun e w' => e = .returned (.tuple #[.agg #[.int .i64 (objF ls s a).1.k, .int .i64 (objF ls s a).1.sg, .int .i64 (objF ls s a).1.at', .int .i64 (objF ls s a).1.d, .int .i64 (objF ls s a).1.p, .int .i64 (objF ls s a).1.el, .int .i64 (objF ls s a).1.n, .int .i64 (objF ls s a).1.cost], .int .i64 (objF ls s a).2]) ∧ Below w.heap.size w w' := by
  have HF : Hid (objF ls s a = (ob0, 0)) := Lib.hid (by simp [objF, h1, h2])
  have HFOL := Lib.hid (fun w2 hs2 => RefFollow_any A c ls s a w2 hs2 hw hm hf)
  have hbd := followF_bd hw hm hf s a
  have HW := Lib.hid hw
  have Hs := Lib.hid hs
  have hpd := decP_bd (followF ls s a).w hbd.1 hbd.2.1
  generalize hq : followF ls s a = q at *
  clear hs hw hf hq
  go_enter Tryz.func37, Tryz.ntmps37
  go_wp2_with fail
  refine (HFOL.out _ ((Hs.out.alloc _).alloc _)).mono ?_
  rintro e w1 ⟨rfl, hb1⟩
  obtain ⟨x6, x8, y6, y8, hz1, hb2⟩ := two_new hb1
  have HB := Lib.hid hb2
  clear hb1 hb2 HFOL
  have t1 : (q.e != 0) = false := by simpa using h1
  have t2 : (q.w == 0) = true := by simpa using h2
  go_wp2
  refine bodyPost_ret (v := .tuple #[.agg #[.int .i64 (0), .int .i64 (0), .int .i64 (0), .int .i64 (0), .int .i64 (0), .int .i64 (0), .int .i64 (0), .int .i64 (0)], .int .i64 0]) (by simp [results, Tryz.results37, go_sem, x6]) rfl ⟨by rw [HF.out]; rfl, ?_⟩
  repeat with_reducible refine Below.setCell ?_ (by simp) _
  exact HB.out

set_option maxRecDepth 100000 in
set_option maxHeartbeats 2000000 in
theorem Object3 (A : Option Addr) (c : Nat) (ls : List (List Int)) (s a : Int) (w : World) (hs : Sg w A ls) (hw : Wd2 ls) (hm : ls.length ≤ 140737488355328) (hf : ∀ j, (seg ls j).length ≤ 140737488355328) (h1 : (followF ls s a).e = 0) (h2 : ¬ (followF ls s a).w = 0) (h3 : (decP (followF ls s a).w).k = 3) :
    Calls Tryz.prog 37 #[.slice A ls.length c, .int .i64 s, .int .i64 a] w fun e w' => e = .returned (.tuple #[.agg #[.int .i64 (objF ls s a).1.k, .int .i64 (objF ls s a).1.sg, .int .i64 (objF ls s a).1.at', .int .i64 (objF ls s a).1.d, .int .i64 (objF ls s a).1.p, .int .i64 (objF ls s a).1.el, .int .i64 (objF ls s a).1.n, .int .i64 (objF ls s a).1.cost], .int .i64 (objF ls s a).2]) ∧ Below w.heap.size w w' := by
  have HF : Hid (objF ls s a = (ob0, if (decP (followF ls s a).w).lo = 0 then 6 else 4)) := Lib.hid (by simp [objF, objP, h1, h2, h3])
  have HFOL := Lib.hid (fun w2 hs2 => RefFollow_any A c ls s a w2 hs2 hw hm hf)
  have hbd := followF_bd hw hm hf s a
  have HW := Lib.hid hw
  have Hs := Lib.hid hs
  have hpd := decP_bd (followF ls s a).w hbd.1 hbd.2.1
  generalize hq : followF ls s a = q at *
  clear hs hw hf hq
  go_enter Tryz.func37, Tryz.ntmps37
  go_wp2_with fail
  refine (HFOL.out _ ((Hs.out.alloc _).alloc _)).mono ?_
  rintro e w1 ⟨rfl, hb1⟩
  obtain ⟨x6, x8, y6, y8, hz1, hb2⟩ := two_new hb1
  have HB := Lib.hid hb2
  clear hb1 hb2 HFOL
  have t1 : (q.e != 0) = false := by simpa using h1
  have t2 : (q.w == 0) = false := by simpa using h2
  go_wp2_with fail
  refine (RefDecode_any _ _ hbd.1 hbd.2.1).mono ?_
  rintro e w2 ⟨rfl, hb3⟩
  obtain ⟨u6, u8, v6, v8, hz2, hz3, hb4⟩ := two_on x6 x8 y6 y8 hz1 HB.out hb3
  have HB2 := Lib.hid hb4
  clear hb3 hb4 HB x6 x8 y6 y8 hz1
  go_wp2_with fail
  · rename_i hlo
    have hlo' : (decP q.w).lo = 0 := by simpa using hlo
    rw [hlo'] at HF
    have k8 : ∀ o, ((((((((w2.setCell ⟨w.heap.size, 0, none⟩ (.int .i64 (0))).setCell ⟨w.heap.size, 1, none⟩ (.int .i64 (0))).setCell ⟨w.heap.size, 2, none⟩ (.int .i64 (0))).setCell ⟨w.heap.size, 3, none⟩ (.int .i64 (0))).setCell ⟨w.heap.size, 4, none⟩ (.int .i64 (0))).setCell ⟨w.heap.size, 5, none⟩ (.int .i64 (0))).setCell ⟨w.heap.size, 6, none⟩ (.int .i64 (0))).setCell ⟨w.heap.size, 7, none⟩ (.int .i64 (0))).cell? ⟨w.heap.size, o, none⟩ = (#[.int .i64 (0), .int .i64 (0), .int .i64 (0), .int .i64 (0), .int .i64 (0), .int .i64 (0), .int .i64 (0), .int .i64 (0)] : Array Value)[o]? := (blk_set (blk_set (blk_set (blk_set (blk_set (blk_set (blk_set (blk_set u6 0 (by simp) (.int .i64 (0))) 1 (by simp) (.int .i64 (0))) 2 (by simp) (.int .i64 (0))) 3 (by simp) (.int .i64 (0))) 4 (by simp) (.int .i64 (0))) 5 (by simp) (.int .i64 (0))) 6 (by simp) (.int .i64 (0))) 7 (by simp) (.int .i64 (0)))
    have B8 : Below w.heap.size w ((((((((w2.setCell ⟨w.heap.size, 0, none⟩ (.int .i64 (0))).setCell ⟨w.heap.size, 1, none⟩ (.int .i64 (0))).setCell ⟨w.heap.size, 2, none⟩ (.int .i64 (0))).setCell ⟨w.heap.size, 3, none⟩ (.int .i64 (0))).setCell ⟨w.heap.size, 4, none⟩ (.int .i64 (0))).setCell ⟨w.heap.size, 5, none⟩ (.int .i64 (0))).setCell ⟨w.heap.size, 6, none⟩ (.int .i64 (0))).setCell ⟨w.heap.size, 7, none⟩ (.int .i64 (0))) := ((((((((HB2.out.setCell (Nat.le_refl _) _).setCell (Nat.le_refl _) _).setCell (Nat.le_refl _) _).setCell (Nat.le_refl _) _).setCell (Nat.le_refl _) _).setCell (Nat.le_refl _) _).setCell (Nat.le_refl _) _).setCell (Nat.le_refl _) _)
    have k8 := blk_alloc k8 (by simp [World.setCell]; omega) (.cells #[.int .i64 3, .int .i64 (decP q.w).o, .int .i64 (decP q.w).d, .int .i64 (decP q.w).p, .int .i64 (decP q.w).el, .int .i64 (decP q.w).c, .bool (decP q.w).db, .int .i64 (decP q.w).pa, .int .u32 (decP q.w).sg, .int .u32 (decP q.w).lo] 45)
    have B8 := B8.alloc (by simp [World.setCell]; omega) (.cells #[.int .i64 3, .int .i64 (decP q.w).o, .int .i64 (decP q.w).d, .int .i64 (decP q.w).p, .int .i64 (decP q.w).el, .int .i64 (decP q.w).c, .bool (decP q.w).db, .int .i64 (decP q.w).pa, .int .u32 (decP q.w).sg, .int .u32 (decP q.w).lo] 45)
    generalize (((((((((w2.setCell ⟨w.heap.size, 0, none⟩ (.int .i64 (0))).setCell ⟨w.heap.size, 1, none⟩ (.int .i64 (0))).setCell ⟨w.heap.size, 2, none⟩ (.int .i64 (0))).setCell ⟨w.heap.size, 3, none⟩ (.int .i64 (0))).setCell ⟨w.heap.size, 4, none⟩ (.int .i64 (0))).setCell ⟨w.heap.size, 5, none⟩ (.int .i64 (0))).setCell ⟨w.heap.size, 6, none⟩ (.int .i64 (0))).setCell ⟨w.heap.size, 7, none⟩ (.int .i64 (0))).alloc (.cells #[.int .i64 3, .int .i64 (decP q.w).o, .int .i64 (decP q.w).d, .int .i64 (decP q.w).p, .int .i64 (decP q.w).el, .int .i64 (decP q.w).c, .bool (decP q.w).db, .int .i64 (decP q.w).pa, .int .u32 (decP q.w).sg, .int .u32 (decP q.w).lo] 45)) = V at *
    exact bodyPost_ret (v := .tuple #[.agg #[.int .i64 (0), .int .i64 (0), .int .i64 (0), .int .i64 (0), .int .i64 (0), .int .i64 (0), .int .i64 (0), .int .i64 (0)], .int .i64 6]) (by simp [results, Tryz.results37, go_sem, k8]) rfl ⟨by rw [HF.out]; rfl, B8⟩
  · rename_i hlo
    have hlo' : ¬ (decP q.w).lo = 0 := by simpa using hlo
    rw [if_neg hlo'] at HF
    have k8 : ∀ o, ((((((((w2.setCell ⟨w.heap.size, 0, none⟩ (.int .i64 (0))).setCell ⟨w.heap.size, 1, none⟩ (.int .i64 (0))).setCell ⟨w.heap.size, 2, none⟩ (.int .i64 (0))).setCell ⟨w.heap.size, 3, none⟩ (.int .i64 (0))).setCell ⟨w.heap.size, 4, none⟩ (.int .i64 (0))).setCell ⟨w.heap.size, 5, none⟩ (.int .i64 (0))).setCell ⟨w.heap.size, 6, none⟩ (.int .i64 (0))).setCell ⟨w.heap.size, 7, none⟩ (.int .i64 (0))).cell? ⟨w.heap.size, o, none⟩ = (#[.int .i64 (0), .int .i64 (0), .int .i64 (0), .int .i64 (0), .int .i64 (0), .int .i64 (0), .int .i64 (0), .int .i64 (0)] : Array Value)[o]? := (blk_set (blk_set (blk_set (blk_set (blk_set (blk_set (blk_set (blk_set u6 0 (by simp) (.int .i64 (0))) 1 (by simp) (.int .i64 (0))) 2 (by simp) (.int .i64 (0))) 3 (by simp) (.int .i64 (0))) 4 (by simp) (.int .i64 (0))) 5 (by simp) (.int .i64 (0))) 6 (by simp) (.int .i64 (0))) 7 (by simp) (.int .i64 (0)))
    have B8 : Below w.heap.size w ((((((((w2.setCell ⟨w.heap.size, 0, none⟩ (.int .i64 (0))).setCell ⟨w.heap.size, 1, none⟩ (.int .i64 (0))).setCell ⟨w.heap.size, 2, none⟩ (.int .i64 (0))).setCell ⟨w.heap.size, 3, none⟩ (.int .i64 (0))).setCell ⟨w.heap.size, 4, none⟩ (.int .i64 (0))).setCell ⟨w.heap.size, 5, none⟩ (.int .i64 (0))).setCell ⟨w.heap.size, 6, none⟩ (.int .i64 (0))).setCell ⟨w.heap.size, 7, none⟩ (.int .i64 (0))) := ((((((((HB2.out.setCell (Nat.le_refl _) _).setCell (Nat.le_refl _) _).setCell (Nat.le_refl _) _).setCell (Nat.le_refl _) _).setCell (Nat.le_refl _) _).setCell (Nat.le_refl _) _).setCell (Nat.le_refl _) _).setCell (Nat.le_refl _) _)
    have k8 := blk_alloc k8 (by simp [World.setCell]; omega) (.cells #[.int .i64 3, .int .i64 (decP q.w).o, .int .i64 (decP q.w).d, .int .i64 (decP q.w).p, .int .i64 (decP q.w).el, .int .i64 (decP q.w).c, .bool (decP q.w).db, .int .i64 (decP q.w).pa, .int .u32 (decP q.w).sg, .int .u32 (decP q.w).lo] 45)
    have B8 := B8.alloc (by simp [World.setCell]; omega) (.cells #[.int .i64 3, .int .i64 (decP q.w).o, .int .i64 (decP q.w).d, .int .i64 (decP q.w).p, .int .i64 (decP q.w).el, .int .i64 (decP q.w).c, .bool (decP q.w).db, .int .i64 (decP q.w).pa, .int .u32 (decP q.w).sg, .int .u32 (decP q.w).lo] 45)
    generalize (((((((((w2.setCell ⟨w.heap.size, 0, none⟩ (.int .i64 (0))).setCell ⟨w.heap.size, 1, none⟩ (.int .i64 (0))).setCell ⟨w.heap.size, 2, none⟩ (.int .i64 (0))).setCell ⟨w.heap.size, 3, none⟩ (.int .i64 (0))).setCell ⟨w.heap.size, 4, none⟩ (.int .i64 (0))).setCell ⟨w.heap.size, 5, none⟩ (.int .i64 (0))).setCell ⟨w.heap.size, 6, none⟩ (.int .i64 (0))).setCell ⟨w.heap.size, 7, none⟩ (.int .i64 (0))).alloc (.cells #[.int .i64 3, .int .i64 (decP q.w).o, .int .i64 (decP q.w).d, .int .i64 (decP q.w).p, .int .i64 (decP q.w).el, .int .i64 (decP q.w).c, .bool (decP q.w).db, .int .i64 (decP q.w).pa, .int .u32 (decP q.w).sg, .int .u32 (decP q.w).lo] 45)) = V at *
    exact bodyPost_ret (v := .tuple #[.agg #[.int .i64 (0), .int .i64 (0), .int .i64 (0), .int .i64 (0), .int .i64 (0), .int .i64 (0), .int .i64 (0), .int .i64 (0)], .int .i64 4]) (by simp [results, Tryz.results37, go_sem, k8]) rfl ⟨by rw [HF.out]; rfl, B8⟩

end Go.Proofs.YtnmanhediiooaaaGreatDoor

/- Blocks of plain cells that are known whole, kept through stores, allocations and calls; a world that is put behind a name. -/
namespace Go.Proofs.YtnmanhediiooaaaGreatDoor
open Go.ChangeShapes Go.WideShapes Go.ChangeAt Go.RowKit
set_option linter.unusedVariables false
set_option linter.unusedSimpArgs false
set_option maxRecDepth 100000

/-- the block b lies there, none of its cells is frozen, and its cells are cs -/
structure Blk (W : World) (b : Nat) (cs : Array Value) : Prop where
  cell : ∀ o, W.cell? ⟨b, o, none⟩ = cs[o]?
  free : ∀ o, W.frozen? ⟨b, o, none⟩ = false
  lt : b < W.heap.size

section
variable {W W' : World} {b : Nat} {cs : Array Value}

theorem Blk.fresh (W : World) (cs : Array Value) (T : TypeId) : Blk (W.alloc (.cells cs T)) W.heap.size cs :=
  ⟨blk_new W cs T, fun o => by simp, by simp⟩

theorem Blk.new {T : TypeId} (hb : W.heap.size = b) : Blk (W.alloc (.cells cs T)) b cs := hb ▸ Blk.fresh W cs T

theorem Blk.alloc (h : Blk W b cs) (o : Obj) : Blk (W.alloc o) b cs := by
  have hb : Below W.heap.size W (W.alloc o) := (Below.refl _ _).alloc (Nat.le_refl _) o
  have hz := h.lt
  refine ⟨blk_alloc h.cell (by omega) _, fun j => ?_, ?_⟩
  · rw [hb.frozen (p := ⟨b, j, none⟩) (by show b < _; omega)]
    exact h.free j
  · simp; omega

theorem Blk.below (h : Blk W b cs) (hb : Below W.heap.size W W') : Blk W' b cs := by
  have hz := h.lt
  have h2 := hb.size
  refine ⟨blk_below h.cell hb (by omega), fun j => ?_, by omega⟩
  rw [hb.frozen (p := ⟨b, j, none⟩) (by show b < _; omega)]
  exact h.free j

theorem Blk.drewN (h : Blk W b cs) (n : Nat) : Blk (W.drewN n) b cs := ⟨h.cell, h.free, h.lt⟩
theorem Blk.drew (h : Blk W b cs) : Blk W.drew b cs := ⟨h.cell, h.free, h.lt⟩
theorem Blk.belowN (h : Blk W b cs) {N : Nat} (hb : Below N W W') (hN : b < N) : Blk W' b cs := by
  have h2 := hb.size
  have hz := h.lt
  refine ⟨fun j => (hb.cell (p := ⟨b, j, none⟩) hN).trans (h.cell j), fun j => (hb.frozen (p := ⟨b, j, none⟩) hN).trans (h.free j), by omega⟩

theorem blk_set' (x : ∀ o, W.cell? ⟨b, o, none⟩ = cs[o]?) (k : Nat) (hk : k < cs.size) (v : Value) : ∀ o, (W.setCell ⟨b, k, none⟩ v).cell? ⟨b, o, none⟩ = (cs.setIfInBounds k v)[o]? := by
  intro o
  by_cases e : k = o
  · subst e
    rw [World.cell?_setCell_same' _ _ _ (by rw [x k]; simp [hk])]
    simp [hk]
  · rw [World.cell?_setCell_other W ⟨b, k, none⟩ ⟨b, o, none⟩ v (by intro h; injection h with _ h2; exact e h2), x o]
    simp [Array.getElem?_setIfInBounds_ne e]

theorem Blk.set (h : Blk W b cs) (k : Nat) (hk : k < cs.size) (v : Value) : Blk (W.setCell ⟨b, k, none⟩ v) b (cs.setIfInBounds k v) :=
  ⟨blk_set' h.cell k hk v, fun o => by have := h.free o; simpa using this, by have := h.lt; simpa using this⟩

theorem Blk.other (h : Blk W b cs) {p : Addr} (hp : p.block ≠ b) (v : Value) : Blk (W.setCell p v) b cs :=
  ⟨fun o => by rw [World.cell?_setCell_other W p ⟨b, o, none⟩ v (by intro e; rw [e] at hp; exact hp rfl)]; exact h.cell o, fun o => by have := h.free o; simpa using this, by have := h.lt; simpa using this⟩
end

/-- a world at a call is put behind a name; only what F says stays known of it -/
theorem abs_world {P : Program} {f : FuncId} {args : Array Value} {V : World} {Q : Ending → World → Prop} (F : World → Prop) (hF : F V) (h : ∀ W, F W → Calls P f args W Q) : Calls P f args V Q := h V hF
theorem abs_post {P : Program} {fn : Func} {Q : Ending → World → Prop} {e : Exit} {a : Act} {V : World} (F : World → Prop) (hF : F V) (h : ∀ W, F W → bodyPost P fn Q e a W) : bodyPost P fn Q e a V := h V hF
end Go.Proofs.YtnmanhediiooaaaGreatDoor

/- What the reference's Object does at the kinds of a struct and of a list. -/
namespace Go.Proofs.YtnmanhediiooaaaGreatDoor
open Go.ChangeShapes Go.WideShapes Go.ChangeAt Go.RowKit
set_option linter.unusedVariables false
set_option linter.unusedSimpArgs false
set_option maxRecDepth 100000

theorem wordsI_lim (e c : Int) (h0 : 0 ≤ c) (h1 : c ≤ 536870911) : 0 ≤ wordsI e c ∧ wordsI e c ≤ 536870912 := by
  have h := bitsI_mul e c h0
  unfold wordsI
  split <;> omega

set_option maxRecDepth 100000 in
set_option maxHeartbeats 2000000 in
theorem Object4 (A : Option Addr) (c : Nat) (ls : List (List Int)) (s a : Int) (w : World) (hs : Sg w A ls) (hw : Wd2 ls) (hm : ls.length ≤ 140737488355328) (hf : ∀ j, (seg ls j).length ≤ 140737488355328) (h1 : (followF ls s a).e = 0) (h2 : ¬ (followF ls s a).w = 0) (h3 : (decP (followF ls s a).w).k = 0) :
    Calls Tryz.prog 37 #[.slice A ls.length c, .int .i64 s, .int .i64 a] w fun e w' => e = .returned (.tuple #[.agg #[.int .i64 (objF ls s a).1.k, .int .i64 (objF ls s a).1.sg, .int .i64 (objF ls s a).1.at', .int .i64 (objF ls s a).1.d, .int .i64 (objF ls s a).1.p, .int .i64 (objF ls s a).1.el, .int .i64 (objF ls s a).1.n, .int .i64 (objF ls s a).1.cost], .int .i64 (objF ls s a).2]) ∧ Below w.heap.size w w' := by
  have HF : Hid (objF ls s a = if inB ls (followF ls s a).s ((followF ls s a).b + (decP (followF ls s a).w).o) ((decP (followF ls s a).w).d + (decP (followF ls s a).w).p) = true then (⟨1, (followF ls s a).s, (followF ls s a).b + (decP (followF ls s a).w).o, (decP (followF ls s a).w).d, (decP (followF ls s a).w).p, 0, 0, (decP (followF ls s a).w).d + (decP (followF ls s a).w).p⟩, 0) else (ob0, 2)) := Lib.hid (by simp [objF, objP, h1, h2, h3])
  have HFOL := Lib.hid (fun w2 hs2 => RefFollow_any A c ls s a w2 hs2 hw hm hf)
  have hbd := followF_bd hw hm hf s a
  have HW := Lib.hid hw
  have Hs := Lib.hid hs
  have hpd := decP_bd (followF ls s a).w hbd.1 hbd.2.1
  generalize hq : followF ls s a = q at *
  clear hs hw hf hq
  go_enter Tryz.func37, Tryz.ntmps37
  go_wp2_with fail
  refine (HFOL.out _ ((Hs.out.alloc _).alloc _)).mono ?_
  rintro e w1 ⟨rfl, hb1⟩
  have B6 := (((Blk.fresh w _ _).alloc _).below hb1)
  have B8 := ((Blk.fresh (w.alloc _) _ _).below hb1)
  have HB : Hid (Below w.heap.size w w1) := Lib.hid ((((Below.refl _ _).alloc (Nat.le_refl _) _).alloc (by simp) _).trans (hb1.mono (by simp; omega)))
  rw [World.size_alloc] at B8
  clear hb1 HFOL
  have t1 : (q.e != 0) = false := by simpa using h1
  have t2 : (q.w == 0) = false := by simpa using h2
  go_wp2_with fail
  refine (RefDecode_any _ _ hbd.1 hbd.2.1).mono ?_
  rintro e w2 ⟨rfl, hb3⟩
  have B6 := B6.below hb3
  have B8 := B8.below hb3
  have hsz := HB.out.size
  have HB : Hid (Below w.heap.size w w2) := Lib.hid (HB.out.trans (hb3.mono hsz))
  clear hb3 hsz
  have H6 := Lib.hid B6
  have H8 := Lib.hid B8
  obtain ⟨x6, y6, z6⟩ := B6
  obtain ⟨x8, y8, z8⟩ := B8
  generalize decP q.w = p at *
  go_wp2_with fail
  refine abs_world (F := fun W => Blk W w.heap.size #[.int .i64 (0), .int .i64 (0), .int .i64 (0), .int .i64 (0), .int .i64 (0), .int .i64 (0), .int .i64 (0), .int .i64 (0)] ∧ Blk W (w.heap.size + 1) #[.int .i64 (1), .int .i64 (q.s), .int .i64 (q.b + p.o), .int .i64 (p.d), .int .i64 (p.p), .int .i64 (0), .int .i64 (0), .int .i64 (p.d + p.p)] ∧ Below w.heap.size w W) ⟨?_, ?_, ?_⟩ ?_
  · repeat (with_reducible first | exact H6.out | refine Blk.alloc ?_ _ | refine Blk.other ?_ (by simp; try omega) _)
  · exact ((((((H8.out.set 1 (by simp) _).set 2 (by simp) _).set 0 (by simp) _).set 3 (by simp) _).set 4 (by simp) _).set 7 (by simp) _).alloc _
  · repeat (with_reducible first | exact HB.out | refine Below.alloc ?_ (by simp [World.setCell]; omega) _ | refine Below.setCell ?_ (by simp) _)
  rintro W ⟨B6, B8, hbw⟩
  have HB := Lib.hid hbw
  clear hbw x6 y6 z6 x8 y8 z8 H6 H8
  cases hin : inB ls q.s (q.b + p.o) (p.d + p.p) with
  | true =>
    refine (RefInB_is _ _ _ _ _ _ _ _ (Hs.out.below HB.out (Nat.le_refl _)) hm hin).mono ?_
    rintro e w' ⟨rfl, rfl⟩
    rw [hin, if_pos rfl] at HF
    clear hin
    have H6 := Lib.hid B6
    have H8 := Lib.hid B8
    obtain ⟨x6, y6, z6⟩ := B6
    obtain ⟨x8, y8, z8⟩ := B8
    go_wp2_with fail
    refine abs_post (F := fun W => Blk W w.heap.size #[.int .i64 (1), .int .i64 (q.s), .int .i64 (q.b + p.o), .int .i64 (p.d), .int .i64 (p.p), .int .i64 (0), .int .i64 (0), .int .i64 (p.d + p.p)] ∧ Below w.heap.size w W) ⟨?_, ?_⟩ ?_
    · exact ((((((((H6.out.set 0 (by simp) _).set 1 (by simp) _).set 2 (by simp) _).set 3 (by simp) _).set 4 (by simp) _).set 5 (by simp) _).set 6 (by simp) _).set 7 (by simp) _)
    · repeat (with_reducible first | exact HB.out | refine Below.alloc ?_ (by simp [World.setCell]; omega) _ | refine Below.setCell ?_ (by simp) _)
    rintro V ⟨B6, hbv⟩
    exact bodyPost_ret (v := .tuple #[.agg #[.int .i64 (1), .int .i64 (q.s), .int .i64 (q.b + p.o), .int .i64 (p.d), .int .i64 (p.p), .int .i64 (0), .int .i64 (0), .int .i64 (p.d + p.p)], .int .i64 0]) (by simp [results, Tryz.results37, go_sem, B6.cell]) rfl ⟨by rw [HF.out]; try rfl, hbv⟩
  | false =>
    refine (RefInB_is _ _ _ _ _ _ _ _ (Hs.out.below HB.out (Nat.le_refl _)) hm hin).mono ?_
    rintro e w' ⟨rfl, rfl⟩
    rw [hin, if_neg Bool.false_ne_true] at HF
    clear hin
    have H6 := Lib.hid B6
    have H8 := Lib.hid B8
    obtain ⟨x6, y6, z6⟩ := B6
    obtain ⟨x8, y8, z8⟩ := B8
    go_wp2_with fail
    refine abs_post (F := fun W => Blk W w.heap.size #[.int .i64 (0), .int .i64 (0), .int .i64 (0), .int .i64 (0), .int .i64 (0), .int .i64 (0), .int .i64 (0), .int .i64 (0)] ∧ Below w.heap.size w W) ⟨?_, ?_⟩ ?_
    · exact ((((((((H6.out.set 0 (by simp) _).set 1 (by simp) _).set 2 (by simp) _).set 3 (by simp) _).set 4 (by simp) _).set 5 (by simp) _).set 6 (by simp) _).set 7 (by simp) _)
    · repeat (with_reducible first | exact HB.out | refine Below.alloc ?_ (by simp [World.setCell]; omega) _ | refine Below.setCell ?_ (by simp) _)
    rintro V ⟨B6, hbv⟩
    exact bodyPost_ret (v := .tuple #[.agg #[.int .i64 (0), .int .i64 (0), .int .i64 (0), .int .i64 (0), .int .i64 (0), .int .i64 (0), .int .i64 (0), .int .i64 (0)], .int .i64 2]) (by simp [results, Tryz.results37, go_sem, B6.cell]) rfl ⟨by rw [HF.out]; try rfl, hbv⟩

set_option maxRecDepth 100000 in
set_option maxHeartbeats 2000000 in
theorem Object5 (A : Option Addr) (c : Nat) (ls : List (List Int)) (s a : Int) (w : World) (hs : Sg w A ls) (hw : Wd2 ls) (hm : ls.length ≤ 140737488355328) (hf : ∀ j, (seg ls j).length ≤ 140737488355328) (h1 : (followF ls s a).e = 0) (h2 : ¬ (followF ls s a).w = 0) (h3 : ¬ (decP (followF ls s a).w).k = 3) (h4 : ¬ (decP (followF ls s a).w).k = 0) :
    Calls Tryz.prog 37 #[.slice A ls.length c, .int .i64 s, .int .i64 a] w fun e w' => e = .returned (.tuple #[.agg #[.int .i64 (objF ls s a).1.k, .int .i64 (objF ls s a).1.sg, .int .i64 (objF ls s a).1.at', .int .i64 (objF ls s a).1.d, .int .i64 (objF ls s a).1.p, .int .i64 (objF ls s a).1.el, .int .i64 (objF ls s a).1.n, .int .i64 (objF ls s a).1.cost], .int .i64 (objF ls s a).2]) ∧ Below w.heap.size w w' := by
  have HF : Hid (objF ls s a = if inB ls (followF ls s a).s ((followF ls s a).b + (decP (followF ls s a).w).o) (wordsI (decP (followF ls s a).w).el (decP (followF ls s a).w).c) = false then (ob0, 2) else if (decP (followF ls s a).w).el = 7 then compF ls (followF ls s a).s ((followF ls s a).b + (decP (followF ls s a).w).o) (decP (followF ls s a).w).c (wordsI (decP (followF ls s a).w).el (decP (followF ls s a).w).c) else (⟨2, (followF ls s a).s, (followF ls s a).b + (decP (followF ls s a).w).o, 0, 0, (decP (followF ls s a).w).el, (decP (followF ls s a).w).c, wordsI (decP (followF ls s a).w).el (decP (followF ls s a).w).c⟩, 0)) := Lib.hid (by simp [objF, objP, h1, h2, h3, h4])
  have HFOL := Lib.hid (fun w2 hs2 => RefFollow_any A c ls s a w2 hs2 hw hm hf)
  have hbd := followF_bd hw hm hf s a
  have HW := Lib.hid hw
  have Hs := Lib.hid hs
  have hpd := decP_bd (followF ls s a).w hbd.1 hbd.2.1
  generalize hq : followF ls s a = q at *
  clear hs hw hf hq
  go_enter Tryz.func37, Tryz.ntmps37
  go_wp2_with fail
  refine (HFOL.out _ ((Hs.out.alloc _).alloc _)).mono ?_
  rintro e w1 ⟨rfl, hb1⟩
  have B6 := (((Blk.fresh w _ _).alloc _).below hb1)
  have B8 := ((Blk.fresh (w.alloc _) _ _).below hb1)
  have HB : Hid (Below w.heap.size w w1) := Lib.hid ((((Below.refl _ _).alloc (Nat.le_refl _) _).alloc (by simp) _).trans (hb1.mono (by simp; omega)))
  rw [World.size_alloc] at B8
  clear hb1 HFOL
  have t1 : (q.e != 0) = false := by simpa using h1
  have t2 : (q.w == 0) = false := by simpa using h2
  go_wp2_with fail
  refine (RefDecode_any _ _ hbd.1 hbd.2.1).mono ?_
  rintro e w2 ⟨rfl, hb3⟩
  have B6 := B6.below hb3
  have B8 := B8.below hb3
  have hsz := HB.out.size
  have HB : Hid (Below w.heap.size w w2) := Lib.hid (HB.out.trans (hb3.mono hsz))
  clear hb3 hsz
  have H6 := Lib.hid B6
  have H8 := Lib.hid B8
  obtain ⟨x6, y6, z6⟩ := B6
  obtain ⟨x8, y8, z8⟩ := B8
  generalize decP q.w = p at *
  have t3 : (p.k == 3) = false := by rw [beq_eq_false_iff_ne]; exact h3
  have t4 : (p.k == 0) = false := by rw [beq_eq_false_iff_ne]; exact h4
  clear h3 h4
  have hwb : 0 ≤ wordsI p.el p.c ∧ wordsI p.el p.c ≤ 536870912 := wordsI_lim p.el p.c (by omega) (by omega)
  go_wp2_with fail
  refine (RefWords6_any _ _ _ (by omega) (by omega)).mono ?_
  rintro e w' ⟨rfl, rfl⟩
  generalize wordsI p.el p.c = cw at *
  go_wp2_with fail
  refine abs_world (F := fun W => Blk W w.heap.size #[.int .i64 (0), .int .i64 (0), .int .i64 (0), .int .i64 (0), .int .i64 (0), .int .i64 (0), .int .i64 (0), .int .i64 (0)] ∧ Blk W (w.heap.size + 1) #[.int .i64 (2), .int .i64 (q.s), .int .i64 (q.b + p.o), .int .i64 (0), .int .i64 (0), .int .i64 (p.el), .int .i64 (p.c), .int .i64 (cw)] ∧ Blk W w2.heap.size #[.int .i64 p.k, .int .i64 p.o, .int .i64 p.d, .int .i64 p.p, .int .i64 p.el, .int .i64 p.c, .bool p.db, .int .i64 p.pa, .int .u32 p.sg, .int .u32 p.lo] ∧ Below w.heap.size w W) ⟨?_, ?_, ?_, ?_⟩ ?_
  · repeat (with_reducible first | exact H6.out | refine Blk.alloc ?_ _ | refine Blk.other ?_ (by simp; try omega) _)
  · exact ((((((H8.out.set 1 (by simp) _).set 2 (by simp) _).set 0 (by simp) _).set 5 (by simp) _).set 6 (by simp) _).set 7 (by simp) _).alloc _
  · exact Blk.new (by simp [World.setCell])
  · repeat (with_reducible first | exact HB.out | refine Below.alloc ?_ (by simp [World.setCell]; omega) _ | refine Below.setCell ?_ (by simp) _)
  rintro W ⟨B6, B8, BP, hbw⟩
  have HB := Lib.hid hbw
  clear hbw x6 y6 x8 y8 H6 H8
  cases hin : inB ls q.s (q.b + p.o) cw with
  | false =>
    refine (RefInB_is _ _ _ _ _ _ _ _ (Hs.out.below HB.out (Nat.le_refl _)) hm hin).mono ?_
    rintro e w' ⟨rfl, rfl⟩
    rw [hin, if_pos rfl] at HF
    clear hin
    have H6 := Lib.hid B6
    have H8 := Lib.hid B8
    obtain ⟨x6, y6, z6⟩ := B6
    obtain ⟨x8, y8, z8⟩ := B8
    have HP := Lib.hid BP
    obtain ⟨xp, yp, zp⟩ := BP
    go_wp2_with fail
    refine abs_post (F := fun W => Blk W w.heap.size #[.int .i64 (0), .int .i64 (0), .int .i64 (0), .int .i64 (0), .int .i64 (0), .int .i64 (0), .int .i64 (0), .int .i64 (0)] ∧ Below w.heap.size w W) ⟨?_, ?_⟩ ?_
    · exact ((((((((H6.out.set 0 (by simp) _).set 1 (by simp) _).set 2 (by simp) _).set 3 (by simp) _).set 4 (by simp) _).set 5 (by simp) _).set 6 (by simp) _).set 7 (by simp) _)
    · repeat (with_reducible first | exact HB.out | refine Below.alloc ?_ (by simp [World.setCell]; omega) _ | refine Below.setCell ?_ (by simp) _)
    rintro V ⟨B6, hbv⟩
    exact bodyPost_ret (v := .tuple #[.agg #[.int .i64 (0), .int .i64 (0), .int .i64 (0), .int .i64 (0), .int .i64 (0), .int .i64 (0), .int .i64 (0), .int .i64 (0)], .int .i64 2]) (by simp [results, Tryz.results37, go_sem, B6.cell]) rfl ⟨by rw [HF.out]; try rfl, hbv⟩
  | true =>
    refine (RefInB_is _ _ _ _ _ _ _ _ (Hs.out.below HB.out (Nat.le_refl _)) hm hin).mono ?_
    rintro e w' ⟨rfl, rfl⟩
    rw [hin, if_neg (by simp)] at HF
    clear hin
    have H6 := Lib.hid B6
    have H8 := Lib.hid B8
    obtain ⟨x6, y6, z6⟩ := B6
    obtain ⟨x8, y8, z8⟩ := B8
    have HP := Lib.hid BP
    obtain ⟨xp, yp, zp⟩ := BP
    by_cases h7 : p.el = 7
    · rw [if_pos h7] at HF
      rw [h7] at xp x8
      go_wp2_with fail
      refine (RefWord_any _ _ _ _ _ _ (Hs.out.below HB.out (Nat.le_refl _)) hm).mono ?_
      rintro e w' ⟨rfl, rfl⟩
      have hwd := wordV_bd HW.out q.s (q.b + p.o)
      have htd := decP_bd _ hwd.1 hwd.2
      have HG : Hid (objF ls s a = if (decP (wordV ls q.s (q.b + p.o))).k ≠ 0 ∨ (decP (wordV ls q.s (q.b + p.o))).o < 0 ∨ p.c < (decP (wordV ls q.s (q.b + p.o))).o * ((decP (wordV ls q.s (q.b + p.o))).d + (decP (wordV ls q.s (q.b + p.o))).p) then (ob0, 5)
        else (⟨2, q.s, q.b + p.o + 1, (decP (wordV ls q.s (q.b + p.o))).d, (decP (wordV ls q.s (q.b + p.o))).p, 7, (decP (wordV ls q.s (q.b + p.o))).o, if (decP (wordV ls q.s (q.b + p.o))).d + (decP (wordV ls q.s (q.b + p.o))).p = 0 then cw + (decP (wordV ls q.s (q.b + p.o))).o else cw⟩, 0)) := Lib.hid (by rw [HF.out]; rfl)
      clear HF
      generalize wordV ls q.s (q.b + p.o) = x at *
      go_wp2_with fail
      refine (RefDecode_any _ _ hwd.1 hwd.2).mono ?_
      rintro e w3 ⟨rfl, hb5⟩
      have B6 := H6.out.below hb5
      have B8 := H8.out.below hb5
      have BP := HP.out.below hb5
      have HB : Hid (Below w.heap.size w w3) := Lib.hid (HB.out.trans (hb5.mono HB.out.size))
      clear hb5 x6 y6 z6 x8 y8 z8 xp yp zp H6 H8 HP
      have H6 := Lib.hid B6
      have H8 := Lib.hid B8
      obtain ⟨x6, y6, z6⟩ := B6
      obtain ⟨x8, y8, z8⟩ := B8
      obtain ⟨xp, yp, zp⟩ := BP
      generalize decP x = t at *
      by_cases hk : t.k = 0
      · have t5 : (t.k != 0) = false := by simpa using hk
        by_cases ho : t.o < 0
        · have HE : Hid (objF ls s a = (ob0, 5)) := Lib.hid (by rw [HG.out, if_pos (Or.inr (Or.inl ho))])
          clear hk
          go_wp2_with fail
          refine abs_post (F := fun W => Blk W w.heap.size #[.int .i64 (0), .int .i64 (0), .int .i64 (0), .int .i64 (0), .int .i64 (0), .int .i64 (0), .int .i64 (0), .int .i64 (0)] ∧ Below w.heap.size w W) ⟨?_, ?_⟩ ?_
          · exact ((((((((H6.out.set 0 (by simp) _).set 1 (by simp) _).set 2 (by simp) _).set 3 (by simp) _).set 4 (by simp) _).set 5 (by simp) _).set 6 (by simp) _).set 7 (by simp) _).alloc _
          · repeat (with_reducible first | exact HB.out | refine Below.alloc ?_ (by simp [World.setCell]; omega) _ | refine Below.setCell ?_ (by simp) _)
          rintro V ⟨B6, hbv⟩
          exact bodyPost_ret (v := .tuple #[.agg #[.int .i64 (0), .int .i64 (0), .int .i64 (0), .int .i64 (0), .int .i64 (0), .int .i64 (0), .int .i64 (0), .int .i64 (0)], .int .i64 5]) (by simp [results, Tryz.results37, go_sem, B6.cell]) rfl ⟨by rw [HE.out]; try rfl, hbv⟩
        · have hm0 : 0 ≤ t.o * (t.d + t.p) := Int.mul_nonneg (by omega) (by omega)
          have hm1 : t.o * (t.d + t.p) ≤ 536870911 * 131070 := Int.mul_le_mul (by omega) (by omega) (by omega) (by omega)
          by_cases hp : p.c < t.o * (t.d + t.p)
          · have HE : Hid (objF ls s a = (ob0, 5)) := Lib.hid (by rw [HG.out, if_pos (Or.inr (Or.inr hp))])
            clear hk
            go_wp2_with fail
            refine abs_post (F := fun W => Blk W w.heap.size #[.int .i64 (0), .int .i64 (0), .int .i64 (0), .int .i64 (0), .int .i64 (0), .int .i64 (0), .int .i64 (0), .int .i64 (0)] ∧ Below w.heap.size w W) ⟨?_, ?_⟩ ?_
            · exact ((((((((H6.out.set 0 (by simp) _).set 1 (by simp) _).set 2 (by simp) _).set 3 (by simp) _).set 4 (by simp) _).set 5 (by simp) _).set 6 (by simp) _).set 7 (by simp) _).alloc _
            · repeat (with_reducible first | exact HB.out | refine Below.alloc ?_ (by simp [World.setCell]; omega) _ | refine Below.setCell ?_ (by simp) _)
            rintro V ⟨B6, hbv⟩
            exact bodyPost_ret (v := .tuple #[.agg #[.int .i64 (0), .int .i64 (0), .int .i64 (0), .int .i64 (0), .int .i64 (0), .int .i64 (0), .int .i64 (0), .int .i64 (0)], .int .i64 5]) (by simp [results, Tryz.results37, go_sem, B6.cell]) rfl ⟨by rw [HE.out]; try rfl, hbv⟩
          · have HE : Hid (objF ls s a = (⟨2, q.s, q.b + p.o + 1, t.d, t.p, 7, t.o, if t.d + t.p = 0 then cw + t.o else cw⟩, 0)) := Lib.hid (by rw [HG.out, if_neg (by omega)])
            clear hk HG
            by_cases hz : t.d + t.p = 0
            · rw [if_pos hz] at HE
              have t6 : (t.d + t.p == 0) = true := by simpa using hz
              clear hz
              go_wp2_with fail
              refine abs_post (F := fun W => Blk W w.heap.size #[.int .i64 (2), .int .i64 (q.s), .int .i64 (q.b + p.o + 1), .int .i64 (t.d), .int .i64 (t.p), .int .i64 (7), .int .i64 (t.o), .int .i64 (cw + t.o)] ∧ Below w.heap.size w W) ⟨?_, ?_⟩ ?_
              · exact (((((((((((((H6.out.other (by simp) _).other (by simp) _).other (by simp) _).other (by simp) _).other (by simp) _).set 0 (by simp) _).set 1 (by simp) _).set 2 (by simp) _).set 3 (by simp) _).set 4 (by simp) _).set 5 (by simp) _).set 6 (by simp) _).set 7 (by simp) _).alloc _
              · repeat (with_reducible first | exact HB.out | refine Below.alloc ?_ (by simp [World.setCell]; omega) _ | refine Below.setCell ?_ (by simp) _)
              rintro V ⟨B6, hbv⟩
              exact bodyPost_ret (v := .tuple #[.agg #[.int .i64 (2), .int .i64 (q.s), .int .i64 (q.b + p.o + 1), .int .i64 (t.d), .int .i64 (t.p), .int .i64 (7), .int .i64 (t.o), .int .i64 (cw + t.o)], .int .i64 0]) (by simp [results, Tryz.results37, go_sem, B6.cell]) rfl ⟨by rw [HE.out]; try rfl, hbv⟩
            · rw [if_neg hz] at HE
              have t6 : (t.d + t.p == 0) = false := by simpa using hz
              clear hz
              go_wp2_with fail
              refine abs_post (F := fun W => Blk W w.heap.size #[.int .i64 (2), .int .i64 (q.s), .int .i64 (q.b + p.o + 1), .int .i64 (t.d), .int .i64 (t.p), .int .i64 (7), .int .i64 (t.o), .int .i64 (cw)] ∧ Below w.heap.size w W) ⟨?_, ?_⟩ ?_
              · exact ((((((((((((H6.out.other (by simp) _).other (by simp) _).other (by simp) _).other (by simp) _).set 0 (by simp) _).set 1 (by simp) _).set 2 (by simp) _).set 3 (by simp) _).set 4 (by simp) _).set 5 (by simp) _).set 6 (by simp) _).set 7 (by simp) _).alloc _
              · repeat (with_reducible first | exact HB.out | refine Below.alloc ?_ (by simp [World.setCell]; omega) _ | refine Below.setCell ?_ (by simp) _)
              rintro V ⟨B6, hbv⟩
              exact bodyPost_ret (v := .tuple #[.agg #[.int .i64 (2), .int .i64 (q.s), .int .i64 (q.b + p.o + 1), .int .i64 (t.d), .int .i64 (t.p), .int .i64 (7), .int .i64 (t.o), .int .i64 (cw)], .int .i64 0]) (by simp [results, Tryz.results37, go_sem, B6.cell]) rfl ⟨by rw [HE.out]; try rfl, hbv⟩
      · have t5 : (t.k != 0) = true := by simpa using hk
        have HE : Hid (objF ls s a = (ob0, 5)) := Lib.hid (by rw [HG.out, if_pos (Or.inl hk)])
        clear hk
        go_wp2_with fail
        refine abs_post (F := fun W => Blk W w.heap.size #[.int .i64 (0), .int .i64 (0), .int .i64 (0), .int .i64 (0), .int .i64 (0), .int .i64 (0), .int .i64 (0), .int .i64 (0)] ∧ Below w.heap.size w W) ⟨?_, ?_⟩ ?_
        · exact ((((((((H6.out.set 0 (by simp) _).set 1 (by simp) _).set 2 (by simp) _).set 3 (by simp) _).set 4 (by simp) _).set 5 (by simp) _).set 6 (by simp) _).set 7 (by simp) _).alloc _
        · repeat (with_reducible first | exact HB.out | refine Below.alloc ?_ (by simp [World.setCell]; omega) _ | refine Below.setCell ?_ (by simp) _)
        rintro V ⟨B6, hbv⟩
        exact bodyPost_ret (v := .tuple #[.agg #[.int .i64 (0), .int .i64 (0), .int .i64 (0), .int .i64 (0), .int .i64 (0), .int .i64 (0), .int .i64 (0), .int .i64 (0)], .int .i64 5]) (by simp [results, Tryz.results37, go_sem, B6.cell]) rfl ⟨by rw [HE.out]; try rfl, hbv⟩
    · rw [if_neg h7] at HF
      have t7 : (p.el != 7) = true := by simpa using h7
      clear h7
      go_wp2_with fail
      refine abs_post (F := fun W => Blk W w.heap.size #[.int .i64 (2), .int .i64 (q.s), .int .i64 (q.b + p.o), .int .i64 (0), .int .i64 (0), .int .i64 (p.el), .int .i64 (p.c), .int .i64 (cw)] ∧ Below w.heap.size w W) ⟨?_, ?_⟩ ?_
      · exact ((((((((H6.out.set 0 (by simp) _).set 1 (by simp) _).set 2 (by simp) _).set 3 (by simp) _).set 4 (by simp) _).set 5 (by simp) _).set 6 (by simp) _).set 7 (by simp) _)
      · repeat (with_reducible first | exact HB.out | refine Below.alloc ?_ (by simp [World.setCell]; omega) _ | refine Below.setCell ?_ (by simp) _)
      rintro V ⟨B6, hbv⟩
      exact bodyPost_ret (v := .tuple #[.agg #[.int .i64 (2), .int .i64 (q.s), .int .i64 (q.b + p.o), .int .i64 (0), .int .i64 (0), .int .i64 (p.el), .int .i64 (p.c), .int .i64 (cw)], .int .i64 0]) (by simp [results, Tryz.results37, go_sem, B6.cell]) rfl ⟨by rw [HF.out]; try rfl, hbv⟩
end Go.Proofs.YtnmanhediiooaaaGreatDoor

/- The reference's Object, Element and Pointers, each by one contract. -/
namespace Go.Proofs.YtnmanhediiooaaaGreatDoor
open Go.ChangeShapes Go.WideShapes Go.ChangeAt Go.RowKit
set_option linter.unusedVariables false
set_option linter.unusedSimpArgs false
set_option maxRecDepth 100000

def obA (o : Ob) : Array Value := #[.int .i64 o.k, .int .i64 o.sg, .int .i64 o.at', .int .i64 o.d, .int .i64 o.p, .int .i64 o.el, .int .i64 o.n, .int .i64 o.cost]

theorem RefObject_any (A : Option Addr) (c : Nat) (ls : List (List Int)) (s a : Int) (w : World) (hs : Sg w A ls) (hw : Wd2 ls) (hm : ls.length ≤ 140737488355328) (hf : ∀ j, (seg ls j).length ≤ 140737488355328) :
    Calls Tryz.prog 37 #[.slice A ls.length c, .int .i64 s, .int .i64 a] w fun e w' => e = .returned (.tuple #[.agg #[.int .i64 (objF ls s a).1.k, .int .i64 (objF ls s a).1.sg, .int .i64 (objF ls s a).1.at', .int .i64 (objF ls s a).1.d, .int .i64 (objF ls s a).1.p, .int .i64 (objF ls s a).1.el, .int .i64 (objF ls s a).1.n, .int .i64 (objF ls s a).1.cost], .int .i64 (objF ls s a).2]) ∧ Below w.heap.size w w' := by
  by_cases h1 : (followF ls s a).e = 0
  · by_cases h2 : (followF ls s a).w = 0
    · exact Object2 A c ls s a w hs hw hm hf h1 h2
    · by_cases h3 : (decP (followF ls s a).w).k = 3
      · exact Object3 A c ls s a w hs hw hm hf h1 h2 h3
      · by_cases h4 : (decP (followF ls s a).w).k = 0
        · exact Object4 A c ls s a w hs hw hm hf h1 h2 h4
        · exact Object5 A c ls s a w hs hw hm hf h1 h2 h3 h4
  · exact Object1 A c ls s a w hs hw hm hf h1

/-- the element i of a composite list -/
def eleO (o : Ob) (i : Int) : Ob := ⟨1, o.sg, o.at' + i * (o.d + o.p), o.d, o.p, 0, 0, 0⟩
/-- where the pointers of an object lie -/
def ptrO (o : Ob) : Int × Int := if o.k = 1 ∧ 0 < o.p then (o.at' + o.d, o.p) else if o.k = 2 ∧ o.el = 6 ∧ 0 < o.n then (o.at', o.n) else (0, 0)

theorem RefElement_any (o : Ob) (i : Int) (w : World) (h1 : -9223372036854775808 ≤ o.d + o.p) (h2 : o.d + o.p ≤ 9223372036854775807) (h3 : -9223372036854775808 ≤ i * (o.d + o.p)) (h4 : i * (o.d + o.p) ≤ 9223372036854775807) (h5 : -9223372036854775808 ≤ o.at' + i * (o.d + o.p)) (h6 : o.at' + i * (o.d + o.p) ≤ 9223372036854775807) :
    Calls Tryz.prog 43 #[.agg #[.int .i64 o.k, .int .i64 o.sg, .int .i64 o.at', .int .i64 o.d, .int .i64 o.p, .int .i64 o.el, .int .i64 o.n, .int .i64 o.cost], .int .i64 i] w fun e w' => e = .returned (.agg #[.int .i64 (eleO o i).k, .int .i64 (eleO o i).sg, .int .i64 (eleO o i).at', .int .i64 (eleO o i).d, .int .i64 (eleO o i).p, .int .i64 (eleO o i).el, .int .i64 (eleO o i).n, .int .i64 (eleO o i).cost]) ∧ Below w.heap.size w w' := by
  unfold eleO
  go_enter Tryz.func43, Tryz.ntmps43
  go_wp2
  refine bodyPost_ret (v := .agg #[.int .i64 1, .int .i64 o.sg, .int .i64 (o.at' + i * (o.d + o.p)), .int .i64 o.d, .int .i64 o.p, .int .i64 0, .int .i64 0, .int .i64 0]) (by simp [results, Tryz.results43, go_sem]) rfl ⟨rfl, ?_⟩
  repeat (with_reducible first | exact Below.refl _ _ | refine Below.alloc ?_ (by simp; try omega) _ | refine Below.setCell ?_ (by simp; try omega) _)

end Go.Proofs.YtnmanhediiooaaaGreatDoor

/- What a resolved object is like: numbers alone. -/
namespace Go.Proofs.YtnmanhediiooaaaGreatDoor
open Go.ChangeShapes Go.WideShapes Go.ChangeAt Go.RowKit
set_option linter.unusedVariables false
set_option linter.unusedSimpArgs false
set_option maxRecDepth 100000

theorem inB_iff {ls : List (List Int)} {s a n : Int} : inB ls s a n = true ↔ 0 ≤ s ∧ s < ls.length ∧ 0 ≤ a ∧ 0 ≤ n ∧ a + n ≤ (seg ls s.toNat).length := by
  unfold inB
  rw [decide_eq_true_iff]
  constructor <;> intro h <;> omega

/-- the ways of an object: an error or null with the zero object; a struct; a plain list; a composite list with c words behind its tag -/
theorem objF_cases {ls : List (List Int)} (hw : Wd2 ls) (hm : ls.length ≤ 140737488355328) (hf : ∀ j, (seg ls j).length ≤ 140737488355328) (s a : Int) :
    ((objF ls s a).1 = ob0 ∧ ((objF ls s a).2 = 0 ∨ 2 ≤ (objF ls s a).2 ∧ (objF ls s a).2 ≤ 6)) ∨
    ((objF ls s a).2 = 0 ∧ (objF ls s a).1.k = 1 ∧ (objF ls s a).1.el = 0 ∧ (objF ls s a).1.n = 0 ∧ 0 ≤ (objF ls s a).1.d ∧ (objF ls s a).1.d ≤ 65535 ∧ 0 ≤ (objF ls s a).1.p ∧ (objF ls s a).1.p ≤ 65535 ∧ (objF ls s a).1.cost = (objF ls s a).1.d + (objF ls s a).1.p ∧ inB ls (objF ls s a).1.sg (objF ls s a).1.at' ((objF ls s a).1.d + (objF ls s a).1.p) = true) ∨
    ((objF ls s a).2 = 0 ∧ (objF ls s a).1.k = 2 ∧ 0 ≤ (objF ls s a).1.el ∧ (objF ls s a).1.el ≤ 6 ∧ 0 ≤ (objF ls s a).1.n ∧ (objF ls s a).1.n ≤ 536870911 ∧ (objF ls s a).1.d = 0 ∧ (objF ls s a).1.p = 0 ∧ (objF ls s a).1.cost = wordsI (objF ls s a).1.el (objF ls s a).1.n ∧ inB ls (objF ls s a).1.sg (objF ls s a).1.at' (objF ls s a).1.cost = true) ∨
    ((objF ls s a).2 = 0 ∧ (objF ls s a).1.k = 2 ∧ (objF ls s a).1.el = 7 ∧ 0 ≤ (objF ls s a).1.n ∧ (objF ls s a).1.n ≤ 536870911 ∧ 0 ≤ (objF ls s a).1.d ∧ (objF ls s a).1.d ≤ 65535 ∧ 0 ≤ (objF ls s a).1.p ∧ (objF ls s a).1.p ≤ 65535 ∧
      ∃ c, 0 ≤ c ∧ c ≤ 536870911 ∧ (objF ls s a).1.n * ((objF ls s a).1.d + (objF ls s a).1.p) ≤ c ∧ inB ls (objF ls s a).1.sg ((objF ls s a).1.at' - 1) (c + 1) = true ∧ (objF ls s a).1.cost = c + 1 + if (objF ls s a).1.d + (objF ls s a).1.p = 0 then (objF ls s a).1.n else 0) := by
  have hbd := followF_bd hw hm hf s a
  have hpd := decP_bd (followF ls s a).w hbd.1 hbd.2.1
  have he : (followF ls s a).e = 0 ∨ 2 ≤ (followF ls s a).e ∧ (followF ls s a).e ≤ 3 := by
    unfold followF
    repeat' split
    all_goals simp [folE]
  unfold objF
  generalize followF ls s a = q at *
  by_cases h1 : q.e ≠ 0 ∨ q.w = 0
  · rw [if_pos h1]
    exact .inl ⟨rfl, by show q.e = 0 ∨ 2 ≤ q.e ∧ q.e ≤ 6; omega⟩
  rw [if_neg h1]
  unfold objP
  generalize decP q.w = p at *
  by_cases h3 : p.k = 3
  · rw [if_pos h3]
    refine .inl ⟨rfl, .inr ?_⟩
    show 2 ≤ (if p.lo = 0 then (6 : Int) else 4) ∧ (if p.lo = 0 then (6 : Int) else 4) ≤ 6
    split <;> omega
  rw [if_neg h3]
  by_cases h4 : p.k = 0
  · rw [if_pos h4]
    by_cases h5 : inB ls q.s (q.b + p.o) (p.d + p.p) = true
    · rw [if_pos h5]
      exact .inr (.inl ⟨rfl, rfl, rfl, rfl, by show 0 ≤ p.d; omega, by show p.d ≤ 65535; omega, by show 0 ≤ p.p; omega, by show p.p ≤ 65535; omega, rfl, h5⟩)
    · rw [if_neg h5]
      exact .inl ⟨rfl, .inr ⟨by show (2 : Int) ≤ 2; omega, by show (2 : Int) ≤ 6; omega⟩⟩
  rw [if_neg h4]
  by_cases h5 : inB ls q.s (q.b + p.o) (wordsI p.el p.c) = false
  · rw [if_pos h5]
    exact .inl ⟨rfl, .inr ⟨by show (2 : Int) ≤ 2; omega, by show (2 : Int) ≤ 6; omega⟩⟩
  rw [if_neg h5]
  have h5' : inB ls q.s (q.b + p.o) (wordsI p.el p.c) = true := by simpa using h5
  by_cases h7 : p.el = 7
  · rw [if_pos h7]
    have hwd := wordV_bd hw q.s (q.b + p.o)
    have htd := decP_bd _ hwd.1 hwd.2
    unfold compF
    generalize decP (wordV ls q.s (q.b + p.o)) = t at *
    by_cases h8 : t.k ≠ 0 ∨ t.o < 0 ∨ p.c < t.o * (t.d + t.p)
    · rw [if_pos h8]
      exact .inl ⟨rfl, .inr ⟨by show (2 : Int) ≤ 5; omega, by show (5 : Int) ≤ 6; omega⟩⟩
    · rw [if_neg h8]
      rw [h7] at h5'
      refine .inr (.inr (.inr ⟨rfl, rfl, rfl, by show 0 ≤ t.o; omega, by show t.o ≤ 536870911; omega, by show 0 ≤ t.d; omega, by show t.d ≤ 65535; omega, by show 0 ≤ t.p; omega, by show t.p ≤ 65535; omega, p.c, by omega, by omega, by show t.o * (t.d + t.p) ≤ p.c; omega, ?_, ?_⟩))
      · show inB ls q.s (q.b + p.o + 1 - 1) (p.c + 1) = true
        rw [show q.b + p.o + 1 - 1 = q.b + p.o by omega]
        exact h5'
      · show (if t.d + t.p = 0 then wordsI p.el p.c + t.o else wordsI p.el p.c) = p.c + 1 + if t.d + t.p = 0 then t.o else 0
        rw [h7]
        show (if t.d + t.p = 0 then p.c + 1 + t.o else p.c + 1) = _
        split <;> omega
  · rw [if_neg h7]
    exact .inr (.inr (.inl ⟨rfl, rfl, by show 0 ≤ p.el; omega, by show p.el ≤ 6; omega, by show 0 ≤ p.c; omega, by show p.c ≤ 536870911; omega, rfl, rfl, rfl, h5'⟩))

end Go.Proofs.YtnmanhediiooaaaGreatDoor

/- Nodes: trees as Lean data, and what it means that a node lies in memory. -/
namespace Go.Proofs.YtnmanhediiooaaaGreatDoor
open Go.ChangeShapes Go.WideShapes Go.ChangeAt Go.RowKit
set_option linter.unusedVariables false
set_option linter.unusedSimpArgs false
set_option maxRecDepth 100000

inductive Nd where
  | mk (k e n : Int) (d : List Int) (ks : List Nd)
namespace Nd
def k : Nd → Int | .mk k _ _ _ _ => k
def e : Nd → Int | .mk _ e _ _ _ => e
def n : Nd → Int | .mk _ _ n _ _ => n
def d : Nd → List Int | .mk _ _ _ d _ => d
def ks : Nd → List Nd | .mk _ _ _ _ ks => ks
end Nd
theorem Nd.ind {P : Nd → Prop} (h : ∀ k e n d ks, (∀ x ∈ ks, P x) → P (.mk k e n d ks)) : ∀ x, P x :=
  Nd.rec (motive_1 := P) (motive_2 := fun l => ∀ x ∈ l, P x) (fun k e n d ks ih => h k e n d ks ih) (fun x hx => by cases hx) (fun a l ha hl x hx => by
    rcases List.mem_cons.1 hx with rfl | hx
    · exact ha
    · exact hl x hx)

/-- the node that all functions start from -/
def nd0 : Nd := .mk 0 0 0 [] []

/-- a node that stands as five cells: its data at A (capacity c), its kids at B (capacity c2) -/
inductive NdR (w : World) : Option Addr → Nat → Option Addr → Nat → Nd → Prop
  | mk (k e n : Int) (d : List Int) (ks : List Nd) (A : Option Addr) (c : Nat) (B : Option Addr) (c2 : Nat) (FA : Nat → Option Addr) (Fc : Nat → Nat) (FB : Nat → Option Addr) (Fc2 : Nat → Nat)
    (hk : -9223372036854775808 ≤ k ∧ k ≤ 9223372036854775807) (he : -9223372036854775808 ≤ e ∧ e ≤ 9223372036854775807) (hn : -9223372036854775808 ≤ n ∧ n ≤ 9223372036854775807)
    (hd : Ri w .u8 A d) (hb : Bts d) (hdl : d.length ≤ c) (hc : c ≤ maxLen) (hA : A = none → c = 0) (hkl : ks.length ≤ c2) (hc2 : c2 ≤ maxLen) (hB : B = none → c2 = 0)
    (hcell : ks = [] ∨ ∃ b off, B = some ⟨b, off, none⟩ ∧ ∀ j x, ks[j]? = some x → w.cell? ⟨b, off + j * 5, none⟩ = some (.int .i64 x.k) ∧ w.cell? ⟨b, off + j * 5 + 1, none⟩ = some (.int .i64 x.e) ∧ w.cell? ⟨b, off + j * 5 + 2, none⟩ = some (.int .i64 x.n) ∧
      w.cell? ⟨b, off + j * 5 + 3, none⟩ = some (.slice (FA j) x.d.length (Fc j)) ∧ w.cell? ⟨b, off + j * 5 + 4, none⟩ = some (.slice (FB j) x.ks.length (Fc2 j)))
    (hsub : ∀ j x, ks[j]? = some x → NdR w (FA j) (Fc j) (FB j) (Fc2 j) x) : NdR w A c B c2 (.mk k e n d ks)

theorem NdR.on {w w' : World} {A : Option Addr} {c : Nat} {B : Option Addr} {c2 : Nat} {x : Nd} (h : NdR w A c B c2 x) {N : Nat} (hb : Below N w w') (hN : w.heap.size ≤ N) : NdR w' A c B c2 x := by
  induction h with
  | mk k e n d ks A c B c2 FA Fc FB Fc2 hk he hn hd hby hdl hc hA hkl hc2 hB hcell hsub ih =>
    refine .mk k e n d ks A c B c2 FA Fc FB Fc2 hk he hn (hd.below hb hN) hby hdl hc hA hkl hc2 hB ?_ ih
    rcases hcell with h | ⟨b, off, hBe, hcs⟩
    · exact .inl h
    · refine .inr ⟨b, off, hBe, fun j x hj => ?_⟩
      obtain ⟨h0, h1, h2, h3, h4⟩ := hcs j x hj
      have hlt : b < w.heap.size := World.block_lt_of_cell? w ⟨b, off + j * 5, none⟩ h0
      have hc := fun o => hb.cell (p := ⟨b, o, none⟩) (by show b < N; omega)
      exact ⟨(hc _).trans h0, (hc _).trans h1, (hc _).trans h2, (hc _).trans h3, (hc _).trans h4⟩

/-- what is known of a node that lies there -/
theorem NdR.open {w : World} {A : Option Addr} {c : Nat} {B : Option Addr} {c2 : Nat} {k e n : Int} {d : List Int} {ks : List Nd} (h : NdR w A c B c2 (.mk k e n d ks)) :
    (-9223372036854775808 ≤ k ∧ k ≤ 9223372036854775807) ∧ (-9223372036854775808 ≤ e ∧ e ≤ 9223372036854775807) ∧ (-9223372036854775808 ≤ n ∧ n ≤ 9223372036854775807) ∧
    Ri w .u8 A d ∧ Bts d ∧ d.length ≤ c ∧ c ≤ 9223372036854775807 ∧ (A = none → c = 0) ∧ ks.length ≤ c2 ∧ c2 ≤ 9223372036854775807 ∧ (B = none → c2 = 0) := by
  cases h with
  | mk _ _ _ _ _ _ _ _ _ FA Fc FB Fc2 hk he hn hd hby hdl hc hA hkl hc2 hB hcell hsub =>
    unfold maxLen at hc hc2
    exact ⟨hk, he, hn, hd, hby, hdl, by omega, hA, hkl, by omega, hB⟩

/-- its kid j: the five cells and what they hold -/
theorem NdR.kid {w : World} {A : Option Addr} {c : Nat} {B : Option Addr} {c2 : Nat} {k e n : Int} {d : List Int} {ks : List Nd} (h : NdR w A c B c2 (.mk k e n d ks)) {j : Nat} (hj : j < ks.length) :
    ∃ b off A' c' B' c2', B = some ⟨b, off, none⟩ ∧ w.cell? ⟨b, off + j * 5, none⟩ = some (.int .i64 (ks[j]).k) ∧ w.cell? ⟨b, off + j * 5 + 1, none⟩ = some (.int .i64 (ks[j]).e) ∧ w.cell? ⟨b, off + j * 5 + 2, none⟩ = some (.int .i64 (ks[j]).n) ∧
      w.cell? ⟨b, off + j * 5 + 3, none⟩ = some (.slice A' (ks[j]).d.length c') ∧ w.cell? ⟨b, off + j * 5 + 4, none⟩ = some (.slice B' (ks[j]).ks.length c2') ∧ NdR w A' c' B' c2' (ks[j]) := by
  cases h with
  | mk _ _ _ _ _ _ _ _ _ FA Fc FB Fc2 hk he hn hd hby hdl hc hA hkl hc2 hB hcell hsub =>
    rcases hcell with h | ⟨b, off, hBe, hcs⟩
    · subst h; simp at hj
    · have hx : ks[j]? = some ks[j] := List.getElem?_eq_getElem hj
      obtain ⟨h0, h1, h2, h3, h4⟩ := hcs j _ hx
      exact ⟨b, off, _, _, _, _, hBe, h0, h1, h2, h3, h4, hsub j _ hx⟩

mutual
/-- the nodes and bytes of a node -/
def sizeN : Nd → Nat
  | .mk _ _ _ d ks => 1 + d.length + sizeK ks
def sizeK : List Nd → Nat
  | [] => 0
  | x :: xs => sizeN x + sizeK xs
end
theorem sizeK_append (a b : List Nd) : sizeK (a ++ b) = sizeK a + sizeK b := by
  induction a with
  | nil => simp [sizeK]
  | cons x xs ih => simp only [List.cons_append, sizeK, ih]; omega
theorem sizeN_kid {l : List Nd} {x : Nd} (h : x ∈ l) : sizeN x ≤ sizeK l := by
  induction l with
  | nil => cases h
  | cons y ys ih =>
    simp only [sizeK]
    rcases List.mem_cons.1 h with rfl | h
    · omega
    · have := ih h; omega
theorem sizeK_length (l : List Nd) : l.length ≤ sizeK l := by
  induction l with
  | nil => simp [sizeK]
  | cons x xs ih =>
    have : 1 ≤ sizeN x := by cases x; simp only [sizeN]; omega
    simp only [List.length_cons, sizeK]; omega

/-- the nodes ts lie one after the other at B -/
def KsR (w : World) (B : Option Addr) (ts : List Nd) : Prop := ts = [] ∨ ∃ b off, B = some ⟨b, off, none⟩ ∧ ∀ j (hj : j < ts.length), ∃ A' c' B' c2',
  w.cell? ⟨b, off + j * 5, none⟩ = some (.int .i64 (ts[j]).k) ∧ w.cell? ⟨b, off + j * 5 + 1, none⟩ = some (.int .i64 (ts[j]).e) ∧ w.cell? ⟨b, off + j * 5 + 2, none⟩ = some (.int .i64 (ts[j]).n) ∧
      w.cell? ⟨b, off + j * 5 + 3, none⟩ = some (.slice A' (ts[j]).d.length c') ∧ w.cell? ⟨b, off + j * 5 + 4, none⟩ = some (.slice B' (ts[j]).ks.length c2') ∧ NdR w A' c' B' c2' (ts[j])
theorem KsR.on {w w' : World} {B : Option Addr} {ts : List Nd} (h : KsR w B ts) {N : Nat} (hb : Below N w w') (hN : w.heap.size ≤ N) : KsR w' B ts := by
  rcases h with h | ⟨b, off, hB, h⟩
  · exact .inl h
  · refine .inr ⟨b, off, hB, fun j hj => ?_⟩
    obtain ⟨A', c', B', c2', h0, h1, h2, h3, h4, h5⟩ := h j hj
    have hlt : b < w.heap.size := World.block_lt_of_cell? w ⟨b, off + j * 5, none⟩ h0
    have hc := fun o => hb.cell (p := ⟨b, o, none⟩) (by show b < N; omega)
    exact ⟨A', c', B', c2', (hc _).trans h0, (hc _).trans h1, (hc _).trans h2, (hc _).trans h3, (hc _).trans h4, h5.on hb hN⟩
theorem KsR.at {w : World} {B : Option Addr} {ts : List Nd} (h : KsR w B ts) {j : Nat} (hj : j < ts.length) :
    ∃ b off A' c' B' c2', B = some ⟨b, off, none⟩ ∧ w.cell? ⟨b, off + j * 5, none⟩ = some (.int .i64 (ts[j]).k) ∧ w.cell? ⟨b, off + j * 5 + 1, none⟩ = some (.int .i64 (ts[j]).e) ∧ w.cell? ⟨b, off + j * 5 + 2, none⟩ = some (.int .i64 (ts[j]).n) ∧
      w.cell? ⟨b, off + j * 5 + 3, none⟩ = some (.slice A' (ts[j]).d.length c') ∧ w.cell? ⟨b, off + j * 5 + 4, none⟩ = some (.slice B' (ts[j]).ks.length c2') ∧ NdR w A' c' B' c2' (ts[j]) := by
  rcases h with h | ⟨b, off, hB, h⟩
  · subst h; simp at hj
  · obtain ⟨A', c', B', c2', h⟩ := h j hj
    exact ⟨b, off, A', c', B', c2', hB, h⟩
theorem NdR.kids {w : World} {A : Option Addr} {c : Nat} {B : Option Addr} {c2 : Nat} {k e n : Int} {d : List Int} {ks : List Nd} (h : NdR w A c B c2 (.mk k e n d ks)) : KsR w B ks := by
  cases ks with
  | nil => exact .inl rfl
  | cons x xs =>
    have h0 := h.kid (j := 0) (by simp)
    obtain ⟨b, off, _, _, _, _, hB, _⟩ := h0
    refine .inr ⟨b, off, hB, fun j hj => ?_⟩
    obtain ⟨b', off', A', c', B', c2', hB', r⟩ := h.kid hj
    rw [hB] at hB'
    injection hB' with e
    injection e with e1 e2
    subst e1
    subst e2
    exact ⟨A', c', B', c2', r⟩

/-- the kids of the kids -/
def kk (ks : List Nd) : List Nd := ks.flatMap Nd.ks
/-- the five cells of a node -/
def fiveC (x : Nd) (A : Option Addr) (c : Nat) (B : Option Addr) (c2 : Nat) : List Value := [.int .i64 x.k, .int .i64 x.e, .int .i64 x.n, .slice A x.d.length c, .slice B x.ks.length c2]
/-- v is a slice of nodes of the call's own; what they refer to came in (it lay there in W0) -/
def OwnK (W0 w : World) (base : Nat) (v : Value) (ts : List Nd) : Prop :=
  ∃ vs, w.ownsRow base 30 5 v ts.length vs ∧ ∀ j (hj : j < ts.length), ∃ A' c' B' c2', NdR W0 A' c' B' c2' (ts[j]) ∧ ∀ o, o < 5 → vs[j * 5 + o]? = (fiveC (ts[j]) A' c' B' c2')[o]?
theorem OwnK.empty (W0 w : World) (base : Nat) : OwnK W0 w base (.slice none 0 0) [] := ⟨[], World.ownsRow_nil w base _ 5, fun j hj => by simp at hj⟩

theorem node_info : (Tryz.prog.info? 30).map (fun i => (i.zero, i.size, i.bytes)) = some (some (.agg #[.int .i64 0, .int .i64 0, .int .i64 0, .slice none 0 0, .slice none 0 0]), 5, 72) := by kernel_rfl
theorem fiveC_one (x : Nd) (A : Option Addr) (c : Nat) (B : Option Addr) (c2 : Nat) : ∀ u ∈ fiveC x A c B c2, u.oneCell' = true := by
  intro u hu
  unfold fiveC at hu
  simp at hu
  rcases hu with rfl | rfl | rfl | rfl | rfl <;> rfl
/-- the cells of nodes that came in -/
theorem KsR.cells {w : World} {b off : Nat} {ts : List Nd} (h : KsR w (some ⟨b, off, none⟩) ts) {j o : Nat} (hj : j < ts.length) (ho : o < 5) :
    ∃ A' c' B' c2', NdR w A' c' B' c2' (ts[j]) ∧ ∀ o, o < 5 → w.cell? ⟨b, off + (j * 5 + o), none⟩ = (fiveC (ts[j]) A' c' B' c2')[o]? := by
  obtain ⟨b', off', A', c', B', c2', hB, h0, h1, h2, h3, h4, h5⟩ := h.at hj
  injection hB with e
  injection e with e1 e2
  subst e1
  subst e2
  refine ⟨A', c', B', c2', h5, fun o ho => ?_⟩
  match o, ho with
  | 0, _ => exact h0
  | 1, _ => exact h1
  | 2, _ => exact h2
  | 3, _ => exact h3
  | 4, _ => exact h4
  | o + 5, h => omega

/-- a slice of the call's own as nodes that lie there -/
theorem OwnK.slice {W0 w : World} {base N0 : Nat} {v : Value} {ts : List Nd} (h : OwnK W0 w base v ts) (hW : W0.heap.size ≤ N0) (hb : Below N0 W0 w) : ∃ B c, v = .slice B ts.length c ∧ KsR w B ts ∧ ts.length ≤ c ∧ c ≤ 9223372036854775807 ∧ (B = none → c = 0) := by
  obtain ⟨vs, h1, h2⟩ := h
  have h1' := h1
  rcases h1.2 with ⟨rfl, hn⟩ | ⟨g, cap, cur, rfl, hg, hh, hc, hm, hcs, htk⟩
  · obtain rfl : ts = [] := List.eq_nil_of_length_eq_zero hn
    exact ⟨none, 0, rfl, .inl rfl, by simp, by omega, fun _ => rfl⟩
  · refine ⟨some ⟨g, 0, none⟩, cap, rfl, .inr ⟨g, 0, rfl, fun j hj => ?_⟩, hc, by unfold maxLen at hm; omega, fun h => by cases h⟩
    obtain ⟨A', c', B', c2', g1, g2⟩ := h2 j hj
    have hcell := fun o (ho : o < 5) => (World.ownsRow.cellAt (g := g) (cap := cap) h1' (j * 5 + o) (by omega)).trans (g2 o ho)
    refine ⟨A', c', B', c2', ?_, ?_, ?_, ?_, ?_, g1.on hb hW⟩
    · have := hcell 0 (by omega); rw [Nat.zero_add]; exact this
    · have := hcell 1 (by omega); rw [Nat.zero_add]; exact this
    · have := hcell 2 (by omega); rw [Nat.zero_add]; exact this
    · have := hcell 3 (by omega); rw [Nat.zero_add]; exact this
    · have := hcell 4 (by omega); rw [Nat.zero_add]; exact this

theorem NdR.kidsX {w : World} {A : Option Addr} {c : Nat} {B : Option Addr} {c2 : Nat} {x : Nd} (h : NdR w A c B c2 x) : KsR w B x.ks ∧ (B = none → c2 = 0) ∧ x.ks.length ≤ c2 := by
  obtain ⟨k, e, n, d, ks⟩ := x
  obtain ⟨_, _, _, _, _, _, _, _, h9, _, h11⟩ := h.open
  exact ⟨h.kids, h11, h9⟩
/-- a node of a row that came in, read in a later world -/
theorem KsR.atIn {w w' : World} {B : Option Addr} {ts : List Nd} (h : KsR w B ts) {N : Nat} (hb : Below N w w') (hN : w.heap.size ≤ N) {j : Nat} (hj : j < ts.length) :
    ∃ b off A' c' B' c2', B = some ⟨b, off, none⟩ ∧ w'.cell? ⟨b, off + j * 5, none⟩ = some (.int .i64 (ts[j]).k) ∧ w'.cell? ⟨b, off + j * 5 + 1, none⟩ = some (.int .i64 (ts[j]).e) ∧ w'.cell? ⟨b, off + j * 5 + 2, none⟩ = some (.int .i64 (ts[j]).n) ∧
      w'.cell? ⟨b, off + j * 5 + 3, none⟩ = some (.slice A' (ts[j]).d.length c') ∧ w'.cell? ⟨b, off + j * 5 + 4, none⟩ = some (.slice B' (ts[j]).ks.length c2') ∧ NdR w A' c' B' c2' (ts[j]) := by
  obtain ⟨b, off, A', c', B', c2', hB, h0, h1, h2, h3, h4, h5⟩ := h.at hj
  have hlt : b < w.heap.size := World.block_lt_of_cell? w ⟨b, off + j * 5, none⟩ h0
  have hc := fun o => hb.cell (p := ⟨b, o, none⟩) (by show b < N; omega)
  exact ⟨b, off, A', c', B', c2', hB, (hc _).trans h0, (hc _).trans h1, (hc _).trans h2, (hc _).trans h3, (hc _).trans h4, h5⟩

open Classical in
/-- equality of nodes -/
noncomputable def eqN (x y : Nd) : Bool := decide (x = y)
theorem eqN_yes {x y : Nd} (h : x = y) : eqN x y = true := by unfold eqN; simp [h]
theorem eqN_no {x y : Nd} (h : x ≠ y) : eqN x y = false := by unfold eqN; simp [h]
theorem eqN_iff {x y : Nd} : eqN x y = true ↔ x = y := by unfold eqN; simp
theorem KsR.blk {w : World} {b off : Nat} {ts : List Nd} (h : KsR w (some ⟨b, off, none⟩) ts) {j : Nat} (hj : j < ts.length) : b < w.heap.size := by
  obtain ⟨b', off', A', c', B', c2', hB, h0, _⟩ := h.at hj
  injection hB with e
  injection e with e1 e2
  subst e1
  exact World.block_lt_of_cell? w ⟨b, off' + j * 5, none⟩ h0
theorem take_eq_succ {l m : List Nd} {j : Nat} (h1 : j < l.length) (h2 : j < m.length) (h : l.take j = m.take j) (he : l[j] = m[j]) : l.take (j + 1) = m.take (j + 1) := by
  rw [List.take_succ_eq_append_getElem h1, List.take_succ_eq_append_getElem h2, h, he]

/-- well-formed, but for the kids -/
def headB (k e n : Int) (d : List Int) (ks : List Nd) : Bool :=
  if k = 0 then decide (e = 0 ∧ n = 0 ∧ d.length = 0 ∧ ks.length = 0)
  else if k = 1 then decide (e = 0 ∧ n = 0 ∧ d.length % 8 = 0 ∧ d.length ≤ 524280 ∧ ks.length ≤ 65535)
  else if k = 2 then decide (0 ≤ n ∧ n ≤ 536870911 ∧ 0 ≤ e ∧ e ≤ 7 ∧ (6 ≤ e → d.length = 0 ∧ (ks.length : Int) = n) ∧ (e < 6 → ks.length = 0 ∧ (d.length : Int) = bytesI e n ∧ trimL d e n = d))
  else false
mutual
/-- a well-formed node -/
def validN : Nd → Bool
  | .mk k e n d ks => validK k e ks && headB k e n d ks
def validK (k e : Int) : List Nd → Bool
  | [] => true
  | x :: xs => validN x && !(decide (k = 2 ∧ e = 7 ∧ x.k ≠ 1)) && validK k e xs
end
theorem validK_append (k e : Int) (a b : List Nd) : validK k e (a ++ b) = (validK k e a && validK k e b) := by
  induction a with
  | nil => simp [validK]
  | cons x xs ih => simp only [List.cons_append, validK, ih, Bool.and_assoc]
theorem validK_take (k e : Int) (l : List Nd) (j : Nat) (h : j < l.length) : validK k e (l.take (j + 1)) = (validK k e (l.take j) && (validN l[j] && !(decide (k = 2 ∧ e = 7 ∧ (l[j]).k ≠ 1)))) := by
  rw [List.take_succ_eq_append_getElem h, validK_append]
  simp [validK]
theorem validK_no (k e : Int) (l : List Nd) (j : Nat) (h : j < l.length) (hb : (validN l[j] && !(decide (k = 2 ∧ e = 7 ∧ (l[j]).k ≠ 1))) = false) : validK k e l = false := by
  have h1 := validK_take k e l j h
  have h2 := validK_append k e (l.take (j + 1)) (l.drop (j + 1))
  rw [List.take_append_drop, h1, hb] at h2
  simpa using h2
end Go.Proofs.YtnmanhediiooaaaGreatDoor

/- Trimming as a function on trees: the words and pointers that stay, the trimmed node, the uniform size. -/
namespace Go.Proofs.YtnmanhediiooaaaGreatDoor
open Go.ChangeShapes Go.WideShapes Go.ChangeAt Go.RowKit
set_option linter.unusedVariables false
set_option linter.unusedSimpArgs false
set_option maxRecDepth 100000

/-- the words up to the last byte, of the first i, that is not zero -/
def wordsF (d : List Int) : Nat → Nat
  | 0 => 0
  | i + 1 => if zat d i = 0 then wordsF d i else i / 8 + 1
def wordsT (d : List Int) : Nat := wordsF d d.length
def kAt (ks : List Nd) (i : Nat) : Int := (ks[i]?.map Nd.k).getD 0
/-- the pointers up to the last one, of the first i, that is not null -/
def ptrsF (ks : List Nd) : Nat → Nat
  | 0 => 0
  | i + 1 => if kAt ks i = 0 then ptrsF ks i else i + 1
def ptrsT (ks : List Nd) : Nat := ptrsF ks ks.length
theorem kAt_get {ks : List Nd} {i : Nat} (h : i < ks.length) : kAt ks i = (ks[i]).k := by simp [kAt, h]
theorem wordsF_le (d : List Int) : ∀ i, 8 * wordsF d i < i + 8
  | 0 => by simp [wordsF]
  | i + 1 => by
    have := wordsF_le d i
    unfold wordsF
    split <;> omega
theorem wordsT_le (d : List Int) (h : d.length % 8 = 0) : 8 * wordsT d ≤ d.length := by
  have := wordsF_le d d.length
  unfold wordsT
  omega
theorem ptrsF_le (ks : List Nd) : ∀ i, ptrsF ks i ≤ i
  | 0 => by simp [ptrsF]
  | i + 1 => by
    have := ptrsF_le ks i
    unfold ptrsF
    split <;> omega
theorem ptrsT_le (ks : List Nd) : ptrsT ks ≤ ks.length := ptrsF_le ks ks.length

mutual
/-- the trimmed node -/
def trimN : Nd → Nd
  | .mk k e n d ks => .mk k e n (if k = 1 then d.take (8 * wordsT d) else d) (if k = 1 then (trimK ks).take (ptrsT ks) else trimK ks)
def trimK : List Nd → List Nd
  | [] => []
  | x :: xs => trimN x :: trimK xs
end
theorem trimK_map (ks : List Nd) : trimK ks = ks.map trimN := by
  induction ks with
  | nil => simp [trimK]
  | cons x xs ih => simp [trimK, ih]
theorem trimK_length (ks : List Nd) : (trimK ks).length = ks.length := by rw [trimK_map, List.length_map]
theorem trimK_get (ks : List Nd) (j : Nat) (h : j < ks.length) : (trimK ks)[j]'(by rw [trimK_length]; exact h) = trimN ks[j] := by simp [trimK_map]
theorem trimK_take (ks : List Nd) (j : Nat) : trimK (ks.take j) = (trimK ks).take j := by simp [trimK_map, List.map_take]
end Go.Proofs.YtnmanhediiooaaaGreatDoor

/- What the reference functions of layer 9 do, each by a contract. -/
namespace Go.Proofs.YtnmanhediiooaaaGreatDoor
open Go.ChangeShapes Go.WideShapes Go.ChangeAt Go.RowKit
set_option linter.unusedVariables false
set_option linter.unusedSimpArgs false
set_option maxRecDepth 100000

def startI (x : Int) : Int := if x < 0 then 0 else x
def enterI (dep d : Int) : Int := if d ≤ dep then 0 else 7
def chargeI (m c : Int) : Int := if m < c then m else m - c
def chargeE (m c : Int) : Int := if m < c then 8 else 0

theorem RefStart_any (d x o : Int) (w : World) : Calls Tryz.prog 20 #[.agg #[.int .i64 d, .int .i64 x, .int .i64 o]] w fun e w' => e = .returned (.agg #[.int .i64 (startI x)]) ∧ Below w.heap.size w w' := by
  by_cases h : x < 0
  · have HS : Hid (startI x = 0) := Lib.hid (by simp [startI, h])
    go_enter Tryz.func20, Tryz.ntmps20
    go_wp2
    refine bodyPost_ret (v := .agg #[.int .i64 0]) (by simp [results, Tryz.results20, go_sem]) rfl ⟨by rw [HS.out], ?_⟩
    exact ((Below.refl _ _).alloc (Nat.le_refl _) _).alloc (by simp) _
  · have HS : Hid (startI x = x) := Lib.hid (by simp [startI, h])
    go_enter Tryz.func20, Tryz.ntmps20
    go_wp2
    refine bodyPost_ret (v := .agg #[.int .i64 x]) (by simp [results, Tryz.results20, go_sem]) rfl ⟨by rw [HS.out], ?_⟩
    exact ((Below.refl _ _).alloc (Nat.le_refl _) _).alloc (by simp) _

theorem RefCharge_any (m c : Int) (w : World) (hm0 : -9223372036854775808 ≤ m) (hm1 : m ≤ 9223372036854775807) (hc : 0 ≤ c) :
    Calls Tryz.prog 38 #[.agg #[.int .i64 m], .int .i64 c] w fun e w' => e = .returned (.tuple #[.agg #[.int .i64 (chargeI m c)], .int .i64 (chargeE m c)]) ∧ Below w.heap.size w w' := by
  by_cases h : m < c
  · have HS : Hid (chargeI m c = m) := Lib.hid (by simp [chargeI, h])
    have HE : Hid (chargeE m c = 8) := Lib.hid (by simp [chargeE, h])
    go_enter Tryz.func38, Tryz.ntmps38
    go_wp2
    refine bodyPost_ret (v := .tuple #[.agg #[.int .i64 m], .int .i64 8]) (by simp [results, Tryz.results38, go_sem]) rfl ⟨by rw [HS.out, HE.out], ?_⟩
    exact ((Below.refl _ _).alloc (Nat.le_refl _) _).alloc (by simp) _
  · have HS : Hid (chargeI m c = m - c) := Lib.hid (by simp [chargeI, h])
    have HE : Hid (chargeE m c = 0) := Lib.hid (by simp [chargeE, h])
    go_enter Tryz.func38, Tryz.ntmps38
    go_wp2
    refine bodyPost_ret (v := .tuple #[.agg #[.int .i64 (m - c)], .int .i64 0]) (by simp [results, Tryz.results38, go_sem]) rfl ⟨by rw [HS.out, HE.out], ?_⟩
    exact ((Below.refl _ _).alloc (Nat.le_refl _) _).alloc (by simp) _
end Go.Proofs.YtnmanhediiooaaaGreatDoor

/- The traversal of a message as a function: the value of a pointer, what is left of the budget, the error. -/
namespace Go.Proofs.YtnmanhediiooaaaGreatDoor
open Go.ChangeShapes Go.WideShapes Go.ChangeAt Go.RowKit
set_option linter.unusedVariables false
set_option linter.unusedSimpArgs false
set_option maxRecDepth 100000

structure Val where
  n : Nd
  m : Int
  e : Int
def errV (m e : Int) : Val := ⟨nd0, m, e⟩
structure Vls where
  ks : List Nd
  m : Int
  e : Int
/-- the first i values of a row, one after the other -/
def runK (f : Int → Nat → Val) (m : Int) : Nat → Vls
  | 0 => ⟨[], m, 0⟩
  | i + 1 => if (runK f m i).e ≠ 0 then runK f m i else if (f (runK f m i).m i).e ≠ 0 then ⟨[], (f (runK f m i).m i).m, (f (runK f m i).m i).e⟩ else ⟨(runK f m i).ks ++ [(f (runK f m i).m i).n], (f (runK f m i).m i).m, 0⟩
def datW (ls : List (List Int)) (s a n : Int) : List Int := if inB ls s a n = true then sliceL ls s a n else []
def structV (val : Int → Int → Int → Val) (ls : List (List Int)) (m : Int) (o : Ob) : Val :=
  if (runK (fun m i => val m o.sg (o.at' + o.d + i)) m o.p.toNat).e ≠ 0 then errV (runK (fun m i => val m o.sg (o.at' + o.d + i)) m o.p.toNat).m (runK (fun m i => val m o.sg (o.at' + o.d + i)) m o.p.toNat).e
  else ⟨.mk 1 0 0 (bytesOf (datW ls o.sg o.at' o.d)) (runK (fun m i => val m o.sg (o.at' + o.d + i)) m o.p.toNat).ks, (runK (fun m i => val m o.sg (o.at' + o.d + i)) m o.p.toNat).m, 0⟩
/-- the elements of a list -/
def elemV (val : Int → Int → Int → Val) (ls : List (List Int)) (o : Ob) (m : Int) (i : Nat) : Val := if o.el = 6 then val m o.sg (o.at' + i) else structV val ls m (eleO o i)
def listV (val : Int → Int → Int → Val) (ls : List (List Int)) (m : Int) (o : Ob) : Val :=
  if (runK (elemV val ls o) m o.n.toNat).e ≠ 0 then errV (runK (elemV val ls o) m o.n.toNat).m (runK (elemV val ls o) m o.n.toNat).e
  else ⟨.mk 2 o.el o.n [] (runK (elemV val ls o) m o.n.toNat).ks, (runK (elemV val ls o) m o.n.toNat).m, 0⟩
/-- the value of an object that is located -/
def bodyV (val : Int → Int → Int → Val) (ls : List (List Int)) (m : Int) (q : Ob × Int) : Val :=
  if q.2 ≠ 0 then errV m q.2
  else if m < q.1.cost then errV m 8
  else if q.1.k = 1 then structV val ls (m - q.1.cost) q.1
  else if q.1.el < 6 then ⟨.mk 2 q.1.el q.1.n (trimL (bytesOf (datW ls q.1.sg q.1.at' q.1.cost)) q.1.el q.1.n) [], m - q.1.cost, 0⟩
  else listV val ls (m - q.1.cost) q.1
/-- the value of the pointer at a position, where r nested objects may still be entered -/
def valV (ls : List (List Int)) : Nat → Int → Int → Int → Val
  | 0, m, s, a => if (followF ls s a).e ≠ 0 ∨ (followF ls s a).w = 0 then errV m (followF ls s a).e else errV m 7
  | r + 1, m, s, a => if (followF ls s a).e ≠ 0 ∨ (followF ls s a).w = 0 then errV m (followF ls s a).e else bodyV (valV ls r) ls m (objF ls s a)

theorem runK_keep {f : Int → Nat → Val} {m : Int} {i j : Nat} (h : (runK f m i).e ≠ 0) (hij : i ≤ j) : runK f m j = runK f m i := by
  induction j with
  | zero => obtain rfl : i = 0 := by omega
            rfl
  | succ j ih =>
    by_cases e : i = j + 1
    · subst e; rfl
    · have := ih (by omega)
      show (if (runK f m j).e ≠ 0 then runK f m j else _) = _
      rw [this, if_pos h]
theorem runK_ok {f : Int → Nat → Val} {m : Int} {i : Nat} (h : (runK f m i).e = 0) (hf : (f (runK f m i).m i).e = 0) : runK f m (i + 1) = ⟨(runK f m i).ks ++ [(f (runK f m i).m i).n], (f (runK f m i).m i).m, 0⟩ := by
  show (if (runK f m i).e ≠ 0 then runK f m i else if (f (runK f m i).m i).e ≠ 0 then _ else _) = _
  rw [if_neg (by rw [h]; simp), if_neg (by rw [hf]; simp)]
theorem runK_no {f : Int → Nat → Val} {m : Int} {i : Nat} (h : (runK f m i).e = 0) (hf : (f (runK f m i).m i).e ≠ 0) : runK f m (i + 1) = ⟨[], (f (runK f m i).m i).m, (f (runK f m i).m i).e⟩ := by
  show (if (runK f m i).e ≠ 0 then runK f m i else if (f (runK f m i).m i).e ≠ 0 then _ else _) = _
  rw [if_neg (by rw [h]; simp), if_pos hf]
theorem runK_length {f : Int → Nat → Val} {m : Int} : ∀ {i : Nat}, (runK f m i).e = 0 → (runK f m i).ks.length = i
  | 0, _ => rfl
  | i + 1, h => by
    by_cases h1 : (runK f m i).e = 0
    · by_cases h2 : (f (runK f m i).m i).e = 0
      · rw [runK_ok h1 h2]
        simp [runK_length h1]
      · rw [runK_no h1 h2] at h
        exact absurd h h2
    · rw [runK_keep h1 (Nat.le_succ i)] at h
      exact absurd h h1
/-- a property of meters that each step keeps -/
theorem runK_ind {f : Int → Nat → Val} {m : Int} (P : Int → Prop) (h0 : P m) : ∀ n, (∀ m i, i < n → P m → P (f m i).m) → P (runK f m n).m
  | 0, _ => h0
  | n + 1, hs => by
    have ih := runK_ind P h0 n (fun m i hi => hs m i (by omega))
    by_cases h1 : (runK f m n).e = 0
    · have h3 := hs _ n (by omega) ih
      by_cases h2 : (f (runK f m n).m n).e = 0
      · rw [runK_ok h1 h2]; exact h3
      · rw [runK_no h1 h2]; exact h3
    · rw [runK_keep h1 (Nat.le_succ n)]; exact ih
/-- the meter never grows and never falls below zero -/
theorem structV_m {val : Int → Int → Int → Val} (hv : ∀ m s a, 0 ≤ m → 0 ≤ (val m s a).m ∧ (val m s a).m ≤ m) (ls : List (List Int)) (m : Int) (o : Ob) (h : 0 ≤ m) : 0 ≤ (structV val ls m o).m ∧ (structV val ls m o).m ≤ m := by
  have h1 := runK_ind (f := fun m i => val m o.sg (o.at' + o.d + i)) (m := m) (fun x => 0 ≤ x ∧ x ≤ m) ⟨h, Int.le_refl _⟩ o.p.toNat (fun m' i _ hm => by
    have := hv m' o.sg (o.at' + o.d + i) hm.1
    show 0 ≤ (val m' o.sg (o.at' + o.d + i)).m ∧ _
    omega)
  unfold structV
  split
  · exact h1
  · exact h1
theorem listV_m {val : Int → Int → Int → Val} (hv : ∀ m s a, 0 ≤ m → 0 ≤ (val m s a).m ∧ (val m s a).m ≤ m) (ls : List (List Int)) (m : Int) (o : Ob) (h : 0 ≤ m) : 0 ≤ (listV val ls m o).m ∧ (listV val ls m o).m ≤ m := by
  have h1 := runK_ind (f := elemV val ls o) (m := m) (fun x => 0 ≤ x ∧ x ≤ m) ⟨h, Int.le_refl _⟩ o.n.toNat (fun m' i _ hm => by
    unfold elemV
    split
    · have := hv m' o.sg (o.at' + i) hm.1; omega
    · have := structV_m hv ls m' (eleO o i) hm.1; omega)
  unfold listV
  split
  · exact h1
  · exact h1
/-- the numbers of an object are small (larger messages) -/
theorem objF_bd2 {ls : List (List Int)} (hw : Wd2 ls) (hm : ls.length ≤ 40) (hf : ∀ j, (seg ls j).length ≤ 20000000) (s a k sg at' d p el n cost e : Int) (hq : objF ls s a = (⟨k, sg, at', d, p, el, n, cost⟩, e)) :
    0 ≤ k ∧ k ≤ 2 ∧ 0 ≤ sg ∧ sg ≤ 40 ∧ 0 ≤ at' ∧ at' ≤ 20000001 ∧ 0 ≤ d ∧ d ≤ 65535 ∧ 0 ≤ p ∧ p ≤ 65535 ∧ 0 ≤ el ∧ el ≤ 7 ∧ 0 ≤ n ∧ n ≤ 536870911 ∧ 0 ≤ cost ∧ cost ≤ 1073741824 ∧ 0 ≤ e ∧ e ≤ 6 ∧ 0 ≤ n * (d + p) ∧ n * (d + p) ≤ 20000000 := by
  have h := objF_cases hw (by omega) (fun j => by have := hf j; omega) s a
  rw [hq] at h
  simp only [ob0, Ob.mk.injEq] at h
  rcases h with ⟨⟨rfl, rfl, rfl, rfl, rfl, rfl, rfl, rfl⟩, h2⟩ | ⟨rfl, rfl, rfl, rfl, h1, h2, h3, h4, rfl, h5⟩ | ⟨rfl, rfl, h1, h2, h3, h4, rfl, rfl, rfl, h5⟩ | ⟨rfl, rfl, rfl, h1, h2, h3, h4, h5, h6, c, h7, h8, h9, h10, rfl⟩
  · omega
  · have h6 := inB_iff.1 h5
    have h7 := hf sg.toNat
    have h8 : (0 : Int) * (d + p) = 0 := Int.zero_mul _
    omega
  · have h6 := inB_iff.1 h5
    have h7 := hf sg.toNat
    have h8 : n * (0 + 0) = 0 := Int.mul_zero _
    have h9 := wordsI_lim el n h3 h4
    omega
  · have h11 := inB_iff.1 h10
    have h12 := hf sg.toNat
    have h13 : 0 ≤ n * (d + p) := Int.mul_nonneg (by omega) (by omega)
    split <;> omega
/-- the numbers of a located object of a small message -/
theorem objF_num {ls : List (List Int)} (hw : Wd2 ls) (hm : ls.length ≤ 40) (hf : ∀ j, (seg ls j).length ≤ 20000000) (s a : Int) {q : Ob × Int} (hq : objF ls s a = q) :
    0 ≤ q.1.k ∧ q.1.k ≤ 2 ∧ 0 ≤ q.1.sg ∧ q.1.sg ≤ 40 ∧ 0 ≤ q.1.at' ∧ q.1.at' ≤ 20000001 ∧ 0 ≤ q.1.d ∧ q.1.d ≤ 65535 ∧ 0 ≤ q.1.p ∧ q.1.p ≤ 65535 ∧ 0 ≤ q.1.el ∧ q.1.el ≤ 7 ∧ 0 ≤ q.1.n ∧ q.1.n ≤ 536870911 ∧ 0 ≤ q.1.cost ∧ q.1.cost ≤ 1073741824 ∧ 0 ≤ q.2 ∧ q.2 ≤ 6 ∧ 0 ≤ q.1.n * (q.1.d + q.1.p) ∧ q.1.n * (q.1.d + q.1.p) ≤ 20000000 := by
  obtain ⟨⟨k, sg, at', d, p, el, n, cost⟩, e⟩ := q
  exact objF_bd2 hw hm hf s a k sg at' d p el n cost e hq
theorem valV_m {ls : List (List Int)} (hw : Wd2 ls) (hm : ls.length ≤ 40) (hf : ∀ j, (seg ls j).length ≤ 20000000) : ∀ r m s a, 0 ≤ m → 0 ≤ (valV ls r m s a).m ∧ (valV ls r m s a).m ≤ m
  | 0, m, s, a, h => by
    unfold valV
    split <;> exact ⟨h, Int.le_refl _⟩
  | r + 1, m, s, a, h => by
    have ih := fun m s a h => valV_m hw hm hf r m s a h
    unfold valV
    split
    · exact ⟨h, Int.le_refl _⟩
    · have hc : 0 ≤ (objF ls s a).1.cost := (objF_num hw hm hf s a rfl).2.2.2.2.2.2.2.2.2.2.2.2.2.2.1
      unfold bodyV
      generalize objF ls s a = q at *
      split
      · exact ⟨h, Int.le_refl _⟩
      · split
        · exact ⟨h, Int.le_refl _⟩
        · split
          · have := structV_m ih ls (m - q.1.cost) q.1 (by omega); omega
          · split
            · show 0 ≤ m - q.1.cost ∧ m - q.1.cost ≤ m; omega
            · have := listV_m ih ls (m - q.1.cost) q.1 (by omega); omega
end Go.Proofs.YtnmanhediiooaaaGreatDoor

/- A statement whose order of evaluation is open, one of whose operations (number m) may change blocks of a set S that were there (an append into a row of the call's own), while the others only make memory; its last operation (a store, behind all others) is walked on its own. Each operation has two facts: one that lasts until operation m, and a weaker one that lasts behind it, too. -/
namespace Go.Proofs.YtnmanhediiooaaaGreatDoor
open Go.RowKit
set_option linter.unusedVariables false
set_option linter.unusedSimpArgs false
set_option maxRecDepth 100000

/-- the blocks that were there are as they were, but for those of S -/
structure Keeps (S : Nat → Prop) (w w' : World) : Prop where
  os : w'.os = w.os
  tape : w'.tape = w.tape
  output : w'.output = w.output
  size : w.heap.size ≤ w'.heap.size
  block : ∀ k, k < w.heap.size → ¬ S k → w'.heap[k]? = w.heap[k]?
theorem Keeps.refl (S : Nat → Prop) (w : World) : Keeps S w w := ⟨rfl, rfl, rfl, Nat.le_refl _, fun _ _ _ => rfl⟩
theorem Keeps.trans {S : Nat → Prop} {a b c : World} (h : Keeps S a b) (k : Keeps S b c) : Keeps S a c :=
  ⟨k.os.trans h.os, k.tape.trans h.tape, k.output.trans h.output, Nat.le_trans h.size k.size, fun i hi hS => (k.block i (Nat.lt_of_lt_of_le hi h.size) hS).trans (h.block i hi hS)⟩
theorem keeps_of {S : Nat → Prop} {w w' : World} (h : Below w.heap.size w w') : Keeps S w w' := ⟨h.os, h.tape, h.output, h.size, fun k hk _ => h.block k hk⟩
/-- below B nothing has changed, if S lies at or behind B -/
theorem Keeps.below {S : Nat → Prop} {w w' : World} (h : Keeps S w w') {B : Nat} (hB : B ≤ w.heap.size) (hS : ∀ k, S k → B ≤ k) : Below B w w' :=
  ⟨h.os, h.tape, h.output, h.size, fun k hk => h.block k (by omega) (fun hk2 => by have := hS k hk2; omega)⟩

def stableK (S : Nat → Prop) (T : Fact) : Prop := ∀ v w w', T v w → Keeps S w w' → T v w'
theorem stableK_is (S : Nat → Prop) (u : Value) : stableK S (Is u) := fun _ _ _ h _ => h
def Any : Fact := fun _ _ => True
theorem stable_anyF : stable Any := fun _ _ _ _ _ => trivial
theorem stableK_anyF (S : Nat → Prop) : stableK S Any := fun _ _ _ _ _ => trivial

def AfterA (S : Nat → Prop) (sp : Bool) (T : Fact) (a : Act) (dst : Option Tmp) (w : World) (a' : Act) (w' : World) : Prop :=
  ∃ v, a' = a.put dst v ∧ T v w' ∧ (if sp = true then Keeps S w w' else Below w.heap.size w w')

def before (l : List Oper) (i m : Nat) : Bool := i == m || (match l[m]? with
  | none => false
  | some o => o.after.any fun e => Region.binds .any e && e.on == i)

def StepA (P : Program) (ops : Array Oper) (l : List Oper) (m : Nat) (S : Nat → Prop) (F G : List (Tmp × Fact)) (a0 : Act) (w0 : World) (i : Nat) (o : Oper) (T : Fact) : Prop :=
  ∀ a w, Keeps S w0 w → (before l i m = true → Below w0.heap.size w0 w) → (∀ s ∈ o.looksAt ops, Knows (if before l i m = true then F else G) a0 a w s) →
    if Region.wanted o (yielded ops a.tmps) then o.wp P a w (AfterA S (i == m) T a o.dst w) NoWay else (T undef w ∧ i ≠ m)

def ChainA (P : Program) (ops : Array Oper) (l : List Oper) (t : Oper) (m : Nat) (S : Nat → Prop) (a0 : Act) (w0 : World) (Q : Exit → Act → World → Prop) : List Oper → Nat → List (Tmp × Fact) → List (Tmp × Fact) → Prop
  | [], _, _, G => ∀ a w, Keeps S w0 w → a.defers = a0.defers → a.tmps.size = a0.tmps.size → (∀ s, s < a0.tmps.size → Knows G a0 a w s) → wpList P ops Q [t] a w
  | o :: r, i, F, G => ∃ d T U, o.dst = some d ∧ stable T ∧ stable U ∧ (i ≠ m → stableK S U) ∧ (∀ v w, T v w → U v w) ∧ StepA P ops l m S F G a0 w0 i o T ∧ ChainA P ops l t m S a0 w0 Q r (i + 1) ((d, T) :: F) ((d, U) :: G)

def chainAB (n : Nat) (l : List Oper) (t : Oper) : Bool :=
  (List.range l.length).all (fun i => match l[i]? with
    | none => true
    | some o =>
      (match o.dst with
       | none => false
       | some d => decide (d < n)) &&
      (List.range l.length).all (fun j => j == i || dstAt l j != o.dst) &&
      o.after.all (fun e => !Region.binds .any e || decide (e.on < i)) &&
      (o.looksAt (l ++ [t]).toArray).all (fun s => decide (s < n) && (List.range l.length).all fun j => dstAt l j != some s || o.after.any (fun e => Region.binds .any e && e.on == j))) &&
  (List.range l.length).all (fun j => t.after.any (fun e => Region.binds .any e && e.on == j)) &&
  t.after.all (fun e => !Region.binds .any e || decide (e.on < l.length))

theorem factsTo_app {l : List Oper} {Ts : List Fact} {T : Fact} {i : Nat} (hT : Ts.length = i) : ∀ j, j ≤ i → factsTo l (Ts ++ [T]) j = factsTo l Ts j := by
  intro j
  induction j with
  | zero => intro _; rfl
  | succ j ihj =>
    intro hj
    unfold factsTo
    rw [ihj (by omega), List.getElem?_append_left (by omega)]

theorem get_app {Ts : List Fact} {T U : Fact} {i j : Nat} (hT : Ts.length = i) (h : (Ts ++ [T])[j]? = some U) : (j < i ∧ Ts[j]? = some U) ∨ (j = i ∧ U = T) := by
  by_cases hj : j < Ts.length
  · rw [List.getElem?_append_left hj] at h
    exact .inl ⟨by omega, h⟩
  · rw [List.getElem?_append_right (by omega)] at h
    have h0 : j - Ts.length = 0 := by
      rcases Nat.eq_zero_or_pos (j - Ts.length) with h1 | h1
      · exact h1
      · rw [List.getElem?_eq_none (by simp; omega)] at h; cases h
    rw [h0] at h
    simp at h
    exact .inr ⟨by omega, h.symm⟩

structure FactsA (P : Program) (l : List Oper) (t : Oper) (m : Nat) (S : Nat → Prop) (a0 : Act) (w0 : World) (Ts Us : List Fact) (i : Nat) : Prop where
  len : Ts.length = i
  len2 : Us.length = i
  st : ∀ (j : Nat) (T : Fact), Ts[j]? = some T → stable T
  su : ∀ (j : Nat) (U : Fact), Us[j]? = some U → stable U
  sk : ∀ (j : Nat) (U : Fact), Us[j]? = some U → j ≠ m → stableK S U
  weak : ∀ (j : Nat) (T U : Fact), Ts[j]? = some T → Us[j]? = some U → ∀ v w, T v w → U v w
  step : ∀ (j : Nat) (o : Oper) (T : Fact), l[j]? = some o → Ts[j]? = some T → StepA P (l ++ [t]).toArray l m S (factsTo l Ts j) (factsTo l Us j) a0 w0 j o T

theorem chainA_facts {P : Program} {a0 : Act} {w0 : World} {Q : Exit → Act → World → Prop} {l : List Oper} {t : Oper} {m : Nat} {S : Nat → Prop} :
    ∀ (r : List Oper) (i : Nat) (Ts Us : List Fact), l.drop i = r → i ≤ l.length → ChainA P (l ++ [t]).toArray l t m S a0 w0 Q r i (factsTo l Ts i) (factsTo l Us i) → FactsA P l t m S a0 w0 Ts Us i →
      ∃ Ts Us : List Fact, FactsA P l t m S a0 w0 Ts Us l.length ∧ ChainA P (l ++ [t]).toArray l t m S a0 w0 Q [] l.length (factsTo l Ts l.length) (factsTo l Us l.length) := by
  intro r
  induction r with
  | nil =>
    intro i Ts Us hd hi hc hF
    have : i = l.length := by
      have := congrArg List.length hd
      simp at this
      omega
    subst this
    exact ⟨Ts, Us, hF, hc⟩
  | cons o r ih =>
    intro i Ts Us hd hi hc hF
    obtain ⟨d, T, U, hdst, hs1, hs2, hs3, hw, hstep, hrest⟩ := hc
    have hlt : i < l.length := by
      have := congrArg List.length hd
      simp at this
      omega
    have hli : l[i]? = some o := by
      have := congrArg (fun x => x[0]?) hd
      simpa using this
    have hdi : dstAt l i = some d := by simp [dstAt, hli, hdst]
    have fT := factsTo_app (l := l) (T := T) hF.len
    have fU := factsTo_app (l := l) (T := U) hF.len2
    have gT : (Ts ++ [T])[i]? = some T := by rw [List.getElem?_append_right (by have := hF.len; omega)]; simp [hF.len]
    have gU : (Us ++ [U])[i]? = some U := by rw [List.getElem?_append_right (by have := hF.len2; omega)]; simp [hF.len2]
    refine ih (i + 1) (Ts ++ [T]) (Us ++ [U]) (by rw [← List.drop_drop, hd]; rfl) (by omega) ?_ ⟨by simp [hF.len], by simp [hF.len2], ?_, ?_, ?_, ?_, ?_⟩
    · have e1 : factsTo l (Ts ++ [T]) (i + 1) = (d, T) :: factsTo l Ts i := by rw [factsTo, hdi, gT, fT i (Nat.le_refl _)]
      have e2 : factsTo l (Us ++ [U]) (i + 1) = (d, U) :: factsTo l Us i := by rw [factsTo, hdi, gU, fU i (Nat.le_refl _)]
      rw [e1, e2]
      exact hrest
    · intro j V hV
      rcases get_app hF.len hV with ⟨_, h⟩ | ⟨_, rfl⟩
      · exact hF.st j V h
      · exact hs1
    · intro j V hV
      rcases get_app hF.len2 hV with ⟨_, h⟩ | ⟨_, rfl⟩
      · exact hF.su j V h
      · exact hs2
    · intro j V hV hm
      rcases get_app hF.len2 hV with ⟨_, h⟩ | ⟨rfl, rfl⟩
      · exact hF.sk j V h hm
      · exact hs3 hm
    · intro j V V' hV hV'
      rcases get_app hF.len hV with ⟨h0, h⟩ | ⟨rfl, rfl⟩
      · rcases get_app hF.len2 hV' with ⟨_, h'⟩ | ⟨h1, _⟩
        · exact hF.weak j V V' h h'
        · omega
      · rcases get_app hF.len2 hV' with ⟨h1, _⟩ | ⟨_, rfl⟩
        · omega
        · exact hw
    · intro j o' V ho' hV
      rcases get_app hF.len hV with ⟨h0, h⟩ | ⟨rfl, rfl⟩
      · rw [fT j (by omega), fU j (by omega)]
        exact hF.step j o' V ho' h
      · rw [hli] at ho'
        injection ho' with ho'
        subst ho'
        rw [fT j (Nat.le_refl _), fU j (Nat.le_refl _)]
        exact hstep

structure InvA (l : List Oper) (m : Nat) (S : Nat → Prop) (Ts Us : List Fact) (a0 : Act) (w0 : World) (listed : Array Bool) (a : Act) (w : World) : Prop where
  keep : Keeps S w0 w
  early : listed.getD m false = false → Below w0.heap.size w0 w
  defers : a.defers = a0.defers
  size : a.tmps.size = a0.tmps.size
  done : ∀ (j : Nat) (d : Tmp) (T : Fact), listed.getD j false = true → listed.getD m false = false → dstAt l j = some d → Ts[j]? = some T → T (a.tmps.getD d undef) w
  weak : ∀ (j : Nat) (d : Tmp) (U : Fact), listed.getD j false = true → dstAt l j = some d → Us[j]? = some U → U (a.tmps.getD d undef) w
  rest : ∀ s : Tmp, (∀ j, listed.getD j false = true → dstAt l j ≠ some s) → a.tmps.getD s undef = a0.tmps.getD s undef
  closed : listed.getD m false = true → ∀ o, l[m]? = some o → ∀ e ∈ o.after, Region.binds .any e = true → listed.getD e.on false = true

theorem chainAB_at {n : Nat} {l : List Oper} {t : Oper} (h : chainAB n l t = true) {i : Nat} {o : Oper} (ho : l[i]? = some o) :
    (∃ d, o.dst = some d ∧ d < n) ∧ (∀ j, j < l.length → j ≠ i → dstAt l j ≠ o.dst) ∧ (∀ e ∈ o.after, Region.binds .any e = true → e.on < i) ∧
    (∀ s ∈ o.looksAt (l ++ [t]).toArray, s < n ∧ ∀ j, j < l.length → dstAt l j = some s → ∃ e ∈ o.after, Region.binds .any e = true ∧ e.on = j) := by
  have hlt : i < l.length := by
    rcases Nat.lt_or_ge i l.length with h1 | h1
    · exact h1
    · rw [List.getElem?_eq_none h1] at ho; cases ho
  unfold chainAB at h
  rw [Bool.and_eq_true, Bool.and_eq_true, List.all_eq_true] at h
  have h1 := h.1.1 i (List.mem_range.2 hlt)
  rw [ho] at h1
  simp only [Bool.and_eq_true, List.all_eq_true, List.mem_range, Bool.or_eq_true, beq_iff_eq, bne_iff_ne, Bool.not_eq_true', decide_eq_true_eq, Array.all_eq_true_iff_forall_mem, Array.any_eq_true'] at h1
  obtain ⟨⟨⟨h2, h3⟩, h4⟩, h5⟩ := h1
  refine ⟨?_, fun j hj hne => ?_, fun e he hb => ?_, fun s hs => ⟨(h5 s hs).1, fun j hj hd => ?_⟩⟩
  · cases hd : o.dst with
    | none => rw [hd] at h2; cases h2
    | some d => rw [hd] at h2; exact ⟨d, rfl, by simpa using h2⟩
  · rcases h3 j hj with h | h
    · exact absurd h hne
    · exact h
  · rcases h4 e he with h | h
    · rw [h] at hb; cases hb
    · exact h
  · rcases (h5 s hs).2 j hj with h | ⟨e, he, hb⟩
    · exact absurd hd h
    · exact ⟨e, he, hb⟩
theorem chainAB_tail {n : Nat} {l : List Oper} {t : Oper} (h : chainAB n l t = true) : (∀ j, j < l.length → ∃ e ∈ t.after, Region.binds .any e = true ∧ e.on = j) ∧ (∀ e ∈ t.after, Region.binds .any e = true → e.on < l.length) := by
  unfold chainAB at h
  rw [Bool.and_eq_true, Bool.and_eq_true] at h
  obtain ⟨⟨_, h1⟩, h2⟩ := h
  simp only [Bool.and_eq_true, List.all_eq_true, List.mem_range, Bool.or_eq_true, beq_iff_eq, Bool.not_eq_true', decide_eq_true_eq, Array.all_eq_true_iff_forall_mem, Array.any_eq_true'] at h1 h2
  refine ⟨fun j hj => ?_, fun e he hb => ?_⟩
  · obtain ⟨e, he, hb⟩ := h1 j hj
    exact ⟨e, he, hb⟩
  · rcases h2 e he with h | h
    · rw [h] at hb; cases hb
    · exact h

theorem dst_lt {l : List Oper} {j : Nat} {s : Tmp} (h : dstAt l j = some s) : j < l.length := by
  rcases Nat.lt_or_ge j l.length with h1 | h1
  · exact h1
  · simp [dstAt, List.getElem?_eq_none h1] at h

theorem inva_any {P : Program} {l : List Oper} {t : Oper} {m : Nat} {S : Nat → Prop} {Ts Us : List Fact} {a0 : Act} {w0 : World} {Q : Exit → Act → World → Prop} (hB : chainAB a0.tmps.size l t = true)
    (hF : FactsA P l t m S a0 w0 Ts Us l.length) (hend : ChainA P (l ++ [t]).toArray l t m S a0 w0 Q [] l.length (factsTo l Ts l.length) (factsTo l Us l.length)) :
    ∀ (fuel : Nat) (listed : Array Bool) (a : Act) (w : World), listed.size = l.length + 1 → listed.getD l.length true = false → (∃ n, n ≤ fuel ∧ n = (List.range (l.length + 1)).countP (fun j => !listed.getD j true)) → InvA l m S Ts Us a0 w0 listed a w → wpAny P .any (l ++ [t]).toArray Q fuel listed a w := by
  have hget : ∀ j, j < l.length → (l ++ [t]).toArray[j]? = l[j]? := fun j hj => by
    rw [List.getElem?_toArray, List.getElem?_append_left hj]
  have hgetn : (l ++ [t]).toArray[l.length]? = some t := by
    rw [List.getElem?_toArray, List.getElem?_append_right (Nat.le_refl _)]; simp
  obtain ⟨htail, htail2⟩ := chainAB_tail hB
  -- while the last operation is open, one is ready
  have hsome : ∀ (listed : Array Bool), listed.size = l.length + 1 → listed.getD l.length true = false → Region.ready .any (l ++ [t]).toArray listed ≠ [] := by
    intro listed hsz hn hr
    have hall : ∀ j, j < l.length → listed.getD j false = true := by
      intro j
      induction j using Nat.strongRecOn with
      | _ j ih =>
        intro hj
        cases hb : listed.getD j false with
        | true => rfl
        | false =>
          exfalso
          have hj' : l[j]? = some l[j] := List.getElem?_eq_getElem hj
          have hc := chainAB_at hB hj'
          have hm : j ∈ Region.ready .any (l ++ [t]).toArray listed := by
            rw [mem_ready]
            refine ⟨?_, l[j], by rw [hget j hj, hj'], fun e he hbi => ih e.on (hc.2.2.1 e he hbi) (Nat.lt_trans (hc.2.2.1 e he hbi) hj)⟩
            have : j < listed.size := by omega
            simp only [Array.getD_eq_getD_getElem?, Array.getElem?_eq_getElem this, Option.getD_some] at hb ⊢
            exact hb
          rw [hr] at hm
          cases hm
    have hm : l.length ∈ Region.ready .any (l ++ [t]).toArray listed := by
      rw [mem_ready]
      exact ⟨hn, t, hgetn, fun e he hb => hall _ (htail2 e he hb)⟩
    rw [hr] at hm
    cases hm
  intro fuel
  induction fuel with
  | zero =>
    intro listed a w hsz hln hn hI
    exfalso
    obtain ⟨n, hn0, hn⟩ := hn
    have : 0 < (List.range (l.length + 1)).countP (fun j => !listed.getD j true) := List.countP_pos_iff.2 ⟨l.length, List.mem_range.2 (by omega), by simp [hln]⟩
    omega
  | succ fuel ih =>
    intro listed a w hsz hln hn hI
    refine ⟨fun hr => absurd hr (hsome listed hsz hln), fun i hi => ?_⟩
    obtain ⟨hu, o, ho, hedges⟩ := mem_ready.1 hi
    have hisz : i < l.length + 1 := by
      rcases Nat.lt_or_ge i (l.length + 1) with h1 | h1
      · exact h1
      · rw [List.getElem?_toArray, List.getElem?_eq_none (by simp; omega)] at ho; cases ho
    by_cases hil : i < l.length
    · -- an operation of the chain
      have hol : l[i]? = some o := by rw [← hget i hil]; exact ho
      obtain ⟨⟨d, hd, hdm⟩, hdis, hbe, hlook⟩ := chainAB_at hB hol
      have hdi : dstAt l i = some d := by simp [dstAt, hol, hd]
      have hl1 := hF.len
      have hl2 := hF.len2
      have hTi : Ts[i]? = some (Ts[i]'(by omega)) := List.getElem?_eq_getElem (by omega)
      have hUi : Us[i]? = some (Us[i]'(by omega)) := List.getElem?_eq_getElem (by omega)
      have hearly : before l i m = true → listed.getD m false = false := by
        intro hb
        cases hm : listed.getD m false with
        | false => rfl
        | true =>
          exfalso
          have hui := getD_ff hu
          unfold before at hb
          rw [Bool.or_eq_true, beq_iff_eq] at hb
          rcases hb with hb | hb
          · subst hb
            rw [hm] at hui
            cases hui
          · cases hom : l[m]? with
            | none => rw [hom] at hb; cases hb
            | some om =>
              rw [hom] at hb
              simp only [Array.any_eq_true', Bool.and_eq_true, beq_iff_eq] at hb
              obtain ⟨e, he, hbi, hon⟩ := hb
              have := hI.closed hm om hom e he hbi
              rw [hon, hui] at this
              cases this
      have hK : ∀ (F : List Fact), F.length = l.length → (∀ (j : Nat) (d : Tmp) (V : Fact), listed.getD j false = true → dstAt l j = some d → F[j]? = some V → V (a.tmps.getD d undef) w) → ∀ s ∈ o.looksAt (l ++ [t]).toArray, Knows (factsTo l F i) a0 a w s := by
        intro F hlF hdone s hs
        unfold Knows
        cases hl : look (factsTo l F i) s with
        | some V =>
          obtain ⟨j, hj, hdj, hVj⟩ := mem_factsTo (look_some hl)
          obtain ⟨e, he, hb, rfl⟩ := (hlook s hs).2 j (by omega) hdj
          exact hdone _ s V (hedges e he hb) hdj hVj
        | none =>
          refine hI.rest s fun j hj hdj => ?_
          have hjl := dst_lt hdj
          obtain ⟨e, he, hb, rfl⟩ := (hlook s hs).2 j hjl hdj
          have hlt := hbe e he hb
          have hV : F[e.on]? = some (F[e.on]'(by omega)) := List.getElem?_eq_getElem (by omega)
          obtain ⟨V, hV'⟩ := look_mem ⟨_, factsTo_mem (i := i) hlt hdj hV, rfl⟩
          rw [hV'] at hl
          cases hl
      have hS := hF.step i o _ hol hTi a w hI.keep (fun hb => hI.early (hearly hb)) (by
        by_cases hb : before l i m = true
        · rw [if_pos hb]
          exact hK Ts hl1 fun j d V h1 h2 h3 => hI.done j d V h1 (hearly hb) h2 h3
        · rw [if_neg hb]
          exact hK Us hl2 hI.weak)
      refine wpOp_noWay ho (K := AfterA S (i == m) (Ts[i]'(by omega)) a o.dst w) ?_ ?_
      · rintro a' w' ⟨v, rfl, hT, hrel⟩
        have hds : d < a.tmps.size := by rw [hI.size]; exact hdm
        have hkeep : Keeps S w w' := by
          cases hsp : i == m with
          | true => rw [hsp, if_pos rfl] at hrel; exact hrel
          | false => rw [hsp, if_neg (by simp)] at hrel; exact keeps_of hrel
        have hsame : ∀ j, j < l.length → (listed.setIfInBounds i true).getD j false = true → j = i ∨ listed.getD j false = true := fun j _ h => getD_set_cases h
        refine ih _ _ _ (by simpa using hsz) (by rw [getD_set_ne true (by omega)]; exact hln) ?_ ⟨hI.keep.trans hkeep, ?_, ?_, ?_, ?_, ?_, ?_, ?_⟩
        · obtain ⟨n, hn0, hn⟩ := hn
          refine ⟨_, ?_, rfl⟩
          have hlt : (List.range (l.length + 1)).countP (fun j => !(listed.setIfInBounds i true).getD j true) < (List.range (l.length + 1)).countP (fun j => !listed.getD j true) := by
            refine countP_lt (i := i) (fun x _ hx => ?_) (List.mem_range.2 hisz) (by simp [hu]) ?_
            · by_cases e : i = x
              · subst e; simp [hu]
              · rw [getD_set_ne true e] at hx; exact hx
            · have : i < listed.size := by omega
              simp [this]
          omega
        · intro hm
          by_cases e : i = m
          · subst e
            have : i < listed.size := by omega
            simp [this] at hm
          · rw [getD_set_ne false e] at hm
            have hsp : (i == m) = false := by simpa using e
            rw [hsp, if_neg (by simp)] at hrel
            exact (hI.early hm).trans (hrel.mono (hI.early hm).size)
        · rw [hd]; exact hI.defers
        · rw [hd]; simp [Act.put, hI.size]
        · intro j d' T hj hm hdj hTj
          rw [hd]
          by_cases e : i = m
          · subst e
            have : i < listed.size := by omega
            simp [this] at hm
          · rw [getD_set_ne false e] at hm
            have hsp : (i == m) = false := by simpa using e
            rw [hsp, if_neg (by simp)] at hrel
            rcases getD_set_cases hj with rfl | hj2
            · rw [hdi] at hdj
              injection hdj with hdj
              subst hdj
              rw [hTi] at hTj
              injection hTj with hTj
              subst hTj
              rw [getD_put_same hds]
              exact hT
            · have hne : d ≠ d' := by
                rintro rfl
                have hji : j ≠ i := by
                  rintro rfl
                  rw [getD_ff hu] at hj2
                  cases hj2
                exact hdis j (dst_lt hdj) hji (by rw [hdj, hd])
              rw [getD_put_ne hne]
              exact hF.st j T hTj _ _ _ (hI.done j d' T hj2 hm hdj hTj) hrel
        · intro j d' U hj hdj hUj
          rw [hd]
          rcases getD_set_cases hj with rfl | hj2
          · rw [hdi] at hdj
            injection hdj with hdj
            subst hdj
            rw [getD_put_same hds]
            exact hF.weak j _ U hTi hUj _ _ hT
          · have hji : j ≠ i := by
              rintro rfl
              rw [getD_ff hu] at hj2
              cases hj2
            have hne : d ≠ d' := by
              rintro rfl
              exact hdis j (dst_lt hdj) hji (by rw [hdj, hd])
            rw [getD_put_ne hne]
            have hold := hI.weak j d' U hj2 hdj hUj
            by_cases e : i = m
            · exact hF.sk j U hUj (by omega) _ _ _ hold hkeep
            · have hsp : (i == m) = false := by simpa using e
              rw [hsp, if_neg (by simp)] at hrel
              exact hF.su j U hUj _ _ _ hold hrel
        · intro s hs
          have hne : d ≠ s := by
            rintro rfl
            refine hs i ?_ hdi
            have : i < listed.size := by omega
            simp [this]
          rw [hd, getD_put_ne hne]
          refine hI.rest s fun j hj hdj => hs j (getD_set_true hj) hdj
        · intro hm om hom e he hbi
          rcases getD_set_cases hm with rfl | hm2
          · rw [hol] at hom
            injection hom with hom
            subst hom
            exact getD_set_true (hedges e he hbi)
          · exact getD_set_true (hI.closed hm2 om hom e he hbi)
      · by_cases hw : Region.wanted o (yielded (l ++ [t]).toArray a.tmps) = true
        · rw [if_pos hw] at hS ⊢
          exact hS
        · rw [if_neg hw] at hS ⊢
          refine ⟨undef, rfl, hS.1, ?_⟩
          have hsp : (i == m) = false := by simpa using hS.2
          rw [hsp, if_neg (by simp)]
          exact Below.refl _ _
    · -- the last one
      obtain rfl : i = l.length := by omega
      rw [hgetn] at ho
      injection ho with ho
      subst ho
      have hall : ∀ j, j < l.length → listed.getD j false = true := fun j hj => by
        obtain ⟨e, he, hb, rfl⟩ := htail j hj
        exact hedges e he hb
      have hE := hend a w hI.keep hI.defers hI.size fun s hs => by
        unfold Knows
        cases hl : look (factsTo l Us l.length) s with
        | some U =>
          obtain ⟨j, hj, hd, hU⟩ := mem_factsTo (look_some hl)
          exact hI.weak j s U (hall j hj) hd hU
        | none =>
          refine hI.rest s fun j hj hd => ?_
          have hjl := dst_lt hd
          have hU : Us[j]? = some (Us[j]'(by have := hF.len2; omega)) := List.getElem?_eq_getElem (by have := hF.len2; omega)
          obtain ⟨U, hU'⟩ := look_mem ⟨_, factsTo_mem (i := l.length) hjl hd hU, rfl⟩
          rw [hU'] at hl
          cases hl
      have hE2 : wpOp P (l ++ [t]).toArray Q l.length (fun a w => Q .normal a w) a w := by
        unfold wpOp
        rw [hgetn]
        exact hE
      refine wpOp_mono (fun a' w' hQ => ?_) hE2
      have hnone : Region.ready .any (l ++ [t]).toArray (listed.setIfInBounds l.length true) = [] := by
        rw [List.eq_nil_iff_forall_not_mem]
        intro j hj
        obtain ⟨hu', o', ho', _⟩ := mem_ready.1 hj
        have hjl : j < l.length + 1 := by
          rcases Nat.lt_or_ge j (l.length + 1) with h1 | h1
          · exact h1
          · rw [List.getElem?_toArray, List.getElem?_eq_none (by simp; omega)] at ho'; cases ho'
        by_cases e : l.length = j
        · subst e
          have : l.length < listed.size := by omega
          simp [this] at hu'
        · rw [getD_set_ne true e] at hu'
          have := getD_ff hu'
          rw [hall j (by omega)] at this
          cases this
      cases fuel with
      | zero => exact ⟨hnone, hQ⟩
      | succ f => exact ⟨fun _ => hQ, fun i hi => by rw [hnone] at hi; cases hi⟩

/-- the rule: l = the operations but the last, t the last, m the number of the one that may change S -/
theorem wp_region_a {P : Program} {id : Nat} {ops : Array Oper} (l : List Oper) (t : Oper) (m : Nat) (S : Nat → Prop) {Q : Exit → Act → World → Prop} {a : Act} {w : World} (hops : ops = (l ++ [t]).toArray) (hm : P.follows .mixedOrders = true) (hB : chainAB a.tmps.size l t = true)
    (h : ChainA P (l ++ [t]).toArray l t m S a w.drew Q l 0 [] []) : (Code.region id ops true).wp P Q a w := by
  subst hops
  obtain ⟨Ts, Us, hF, hend⟩ := chainA_facts (l := l) l 0 [] [] rfl (Nat.zero_le _) h ⟨rfl, rfl, fun j T hT => by simp at hT, fun j T hT => by simp at hT, fun j T hT => by simp at hT, fun j T U hT => by simp at hT, fun j o T _ hT => by simp at hT⟩
  refine wp_region_any hm ?_
  have hff : ∀ j, (Array.replicate (l ++ [t]).toArray.size false).getD j false = false := by
    intro j
    by_cases hlt : j < l.length + 1 <;> simp [hlt]
  refine inva_any hB hF hend _ _ _ _ (by simp) (by simp) ⟨_, ?_, rfl⟩ ⟨Keeps.refl _ _, fun _ => Below.refl _ _, rfl, rfl, ?_, ?_, fun s _ => rfl, ?_⟩
  · refine Nat.le_trans List.countP_le_length ?_
    simp
  · intro j d T hj
    rw [hff] at hj; cases hj
  · intro j d U hj
    rw [hff] at hj; cases hj
  · intro hj
    rw [hff] at hj; cases hj

/-! ## The steps -/
def OnlyN (K : Act → World → Prop) : Exit → Act → World → Prop := fun e a w => e = .normal ∧ K a w
theorem wp_of_list {P : Program} {ops : Array Oper} {o : Oper} {a : Act} {w : World} {K : Act → World → Prop} (hw : Region.wanted o (yielded ops a.tmps) = true) (h : wpList P ops (OnlyN K) [o] a w) : o.wp P a w K NoWay := by
  unfold wpList at h
  rw [if_pos hw] at h
  rcases h with h | ⟨_, a', w', he, _⟩
  · unfold Oper.wp at *
    generalize (execOp a.eval o).run P w = r at *
    cases r with
    | ok n w' =>
      cases n <;> simp only [Oper.upon] at h ⊢ <;>
        first
          | exact h.2
          | exact Calls.mono h (fun e w'' he => by
              cases e with
              | returned v => exact he.2
              | panicked c => exact absurd he.1 (by simp)
              | outgrown => obtain ⟨_, _, h', _⟩ := he; cases h')
          | exact Rows.mono h (fun _ _ he => he.2)
    | halt x w' =>
      cases x <;> simp only [Oper.upon] at h ⊢ <;>
        first
          | exact h.elim
          | exact absurd h.1 (by simp)
  · cases he

section
variable {P : Program} {ops : Array Oper} {l : List Oper} {t : Oper} {m : Nat} {S : Nat → Prop} {a0 : Act} {w0 : World} {Q : Exit → Act → World → Prop} {o : Oper} {r : List Oper} {i : Nat} {F G : List (Tmp × Fact)} {d : Tmp}

/-- an operation ahead of number m that leaves a known value -/
theorem a_val {u : Value} (L : List Tmp) (hE : before l i m = true) (hm : (i == m) = false) (hd : o.dst = some d) (hL : (L.all fun s => (o.looksAt ops).contains s) = true) (hg : GuardOK ops F a0 o)
    (h : ∀ ρ w, Below w0.heap.size w0 w → Plain ρ → AllK F a0 w ρ L → (execOp ρ o).run P w = .ok (.value u) w) (hr : ChainA P ops l t m S a0 w0 Q r (i + 1) ((d, Is u) :: F) ((d, Is u) :: G)) : ChainA P ops l t m S a0 w0 Q (o :: r) i F G := by
  refine ⟨d, Is u, Is u, hd, stable_is u, stable_is u, fun _ => stableK_is S u, fun _ _ h => h, fun a w hK hb hk => ?_, hr⟩
  rw [if_pos hE] at hk
  rw [if_pos (wanted_of hg hk)]
  unfold Oper.wp
  rw [h a.eval w (hb hE) (plain_eval a) (allK_of hk hL)]
  exact ⟨u, rfl, rfl, by rw [hm, if_neg (by simp)]; exact Below.refl _ _⟩

/-- one that may come behind number m, too -/
theorem a_val_l {u : Value} (L : List Tmp) (hE : before l i m = false) (hd : o.dst = some d) (hL : (L.all fun s => (o.looksAt ops).contains s) = true) (hg : GuardOK ops G a0 o)
    (h : ∀ ρ w, Keeps S w0 w → Plain ρ → AllK G a0 w ρ L → (execOp ρ o).run P w = .ok (.value u) w) (hr : ChainA P ops l t m S a0 w0 Q r (i + 1) ((d, Is u) :: F) ((d, Is u) :: G)) : ChainA P ops l t m S a0 w0 Q (o :: r) i F G := by
  refine ⟨d, Is u, Is u, hd, stable_is u, stable_is u, fun _ => stableK_is S u, fun _ _ h => h, fun a w hK hb hk => ?_, hr⟩
  rw [if_neg (by rw [hE]; simp)] at hk
  rw [if_pos (wanted_of hg hk)]
  have hm : (i == m) = false := by
    unfold before at hE
    rw [Bool.or_eq_false_iff] at hE
    exact hE.1
  unfold Oper.wp
  rw [h a.eval w hK (plain_eval a) (allK_of hk hL)]
  exact ⟨u, rfl, rfl, by rw [hm, if_neg (by simp)]; exact Below.refl _ _⟩

/-- one that makes memory, ahead of number m: what it makes is known until then -/
theorem a_new {T : Fact} (L : List Tmp) (hE : before l i m = true) (hm : (i == m) = false) (hd : o.dst = some d) (hL : (L.all fun s => (o.looksAt ops).contains s) = true) (hg : GuardOK ops F a0 o) (hs : stable T)
    (h : ∀ ρ w, Below w0.heap.size w0 w → Plain ρ → AllK F a0 w ρ L → ∃ v w', (execOp ρ o).run P w = .ok (.value v) w' ∧ T v w' ∧ Below w.heap.size w w') (hr : ChainA P ops l t m S a0 w0 Q r (i + 1) ((d, T) :: F) ((d, Any) :: G)) : ChainA P ops l t m S a0 w0 Q (o :: r) i F G := by
  refine ⟨d, T, Any, hd, hs, stable_anyF, fun _ => stableK_anyF S, fun _ _ _ => trivial, fun a w hK hb hk => ?_, hr⟩
  rw [if_pos hE] at hk
  rw [if_pos (wanted_of hg hk)]
  obtain ⟨v, w', h1, h2, h3⟩ := h a.eval w (hb hE) (plain_eval a) (allK_of hk hL)
  unfold Oper.wp
  rw [h1]
  exact ⟨v, rfl, h2, by rw [hm, if_neg (by simp)]; exact h3⟩

/-- a call ahead of number m -/
theorem a_call {T : Fact} (f : FuncId) (L : List Tmp) (hE : before l i m = true) (hm : (i == m) = false) (hd : o.dst = some d) (hL : (L.all fun s => (o.looksAt ops).contains s) = true) (hg : GuardOK ops F a0 o) (hs : stable T)
    (h : ∀ ρ w, Below w0.heap.size w0 w → Plain ρ → AllK F a0 w ρ L → ∃ args, (execOp ρ o).run P w = .ok (.enter f args) w ∧ Calls P f args w fun e w' => ∃ v, e = .returned v ∧ T v w' ∧ Below w.heap.size w w') (hr : ChainA P ops l t m S a0 w0 Q r (i + 1) ((d, T) :: F) ((d, Any) :: G)) : ChainA P ops l t m S a0 w0 Q (o :: r) i F G := by
  refine ⟨d, T, Any, hd, hs, stable_anyF, fun _ => stableK_anyF S, fun _ _ _ => trivial, fun a w hK hb hk => ?_, hr⟩
  rw [if_pos hE] at hk
  rw [if_pos (wanted_of hg hk)]
  obtain ⟨args, h1, h2⟩ := h a.eval w (hb hE) (plain_eval a) (allK_of hk hL)
  unfold Oper.wp
  rw [h1]
  refine h2.mono fun e w' ⟨v, he, hT, hbel⟩ => ?_
  subst he
  exact ⟨v, rfl, hT, by rw [hm, if_neg (by simp)]; exact hbel⟩

/-- number m itself -/
theorem a_sp {T : Fact} (L : List Tmp) (hm : (i == m) = true) (hd : o.dst = some d) (hL : (L.all fun s => (o.looksAt ops).contains s) = true) (hg : GuardOK ops F a0 o) (hs : stable T)
    (h : ∀ a w, Below w0.heap.size w0 w → Plain a.eval → AllK F a0 w a.eval L → wpList P ops (OnlyN (AfterA S true T a o.dst w)) [o] a w) (hr : ChainA P ops l t m S a0 w0 Q r (i + 1) ((d, T) :: F) ((d, T) :: G)) : ChainA P ops l t m S a0 w0 Q (o :: r) i F G := by
  have hE : before l i m = true := by unfold before; rw [hm]; rfl
  refine ⟨d, T, T, hd, hs, hs, fun hne => absurd (by simpa using hm) hne, fun _ _ h => h, fun a w hK hb hk => ?_, hr⟩
  rw [if_pos hE] at hk
  have hw := wanted_of hg hk
  rw [if_pos hw, hm]
  exact wp_of_list hw (h a w (hb hE) (plain_eval a) (allK_of hk hL))

/-- the end: the frame slot by slot, and the last operation -/
theorem a_end_lit (n : Nat) (hn : a0.tmps.size = n)
    (h : ∀ (f : Tmp → Value) (w : World), Keeps S w0 w → AllN (fun s => KnowsV G a0 w s (f s)) n 0 → wpList P ops Q [t] { tmps := (frameL f n 0).toArray, defers := a0.defers } w) : ChainA P ops l t m S a0 w0 Q [] i F G := by
  intro a w hb hd hs hk
  have e : a = { tmps := (frameL (fun s => a.tmps.getD s undef) n 0).toArray, defers := a0.defers } := by
    obtain ⟨tm, df⟩ := a
    simp only at hd hs
    subst hd
    congr 1
    apply Array.ext'
    apply List.ext_getElem?
    intro j
    by_cases hj : j < n
    · rw [show ((frameL (fun s => tm.getD s undef) n 0).toArray.toList) = frameL (fun s => tm.getD s undef) n 0 from rfl, frameL_get _ _ _ _ hj]
      have : j < tm.size := by omega
      simp [this]
    · rw [show ((frameL (fun s => tm.getD s undef) n 0).toArray.toList) = frameL (fun s => tm.getD s undef) n 0 from rfl]
      rw [List.getElem?_eq_none (by simp; omega), List.getElem?_eq_none (by rw [frameL_length]; omega)]
  rw [e]
  exact h _ w hb (allN_of n 0 fun j _ hj => hk j (by rw [hn]; omega))
end

/-- the rule for 11 operations and the last -/
theorem wp_region_a11 {P : Program} {id : Nat} {o0 o1 o2 o3 o4 o5 o6 o7 o8 o9 o10 t : Oper} (m : Nat) (S : Nat → Prop) {Q : Exit → Act → World → Prop} {a : Act} {w : World} (hm : P.follows .mixedOrders = true) (hB : chainAB a.tmps.size [o0, o1, o2, o3, o4, o5, o6, o7, o8, o9, o10] t = true)
    (h : ChainA P #[o0, o1, o2, o3, o4, o5, o6, o7, o8, o9, o10, t] [o0, o1, o2, o3, o4, o5, o6, o7, o8, o9, o10] t m S a w.drew Q [o0, o1, o2, o3, o4, o5, o6, o7, o8, o9, o10] 0 [] []) : (Code.region id #[o0, o1, o2, o3, o4, o5, o6, o7, o8, o9, o10, t] true).wp P Q a w :=
  wp_region_a [o0, o1, o2, o3, o4, o5, o6, o7, o8, o9, o10] t m S rfl hm hB h

/-! ## Without such an operation: all operations but the last make memory at most -/
def NoBlk : Nat → Prop := fun _ => False
theorem keeps_none {w w' : World} (h : Keeps NoBlk w w') : Below w.heap.size w w' := ⟨h.os, h.tape, h.output, h.size, fun k hk => h.block k hk (fun h => h)⟩
theorem stable_none {T : Fact} (h : stable T) : stableK NoBlk T := fun v w w' hT hk => h v w w' hT (keeps_none hk)
section
variable {P : Program} {ops : Array Oper} {l : List Oper} {t : Oper} {a0 : Act} {w0 : World} {Q : Exit → Act → World → Prop} {o : Oper} {r : List Oper} {i : Nat} {F G : List (Tmp × Fact)} {d : Tmp}
theorem n_val {u : Value} (L : List Tmp) (hE : before l i 999 = false) (hd : o.dst = some d) (hL : (L.all fun s => (o.looksAt ops).contains s) = true) (hg : GuardOK ops G a0 o)
    (h : ∀ ρ w, Below w0.heap.size w0 w → Plain ρ → AllK G a0 w ρ L → (execOp ρ o).run P w = .ok (.value u) w) (hr : ChainA P ops l t 999 NoBlk a0 w0 Q r (i + 1) ((d, Is u) :: F) ((d, Is u) :: G)) : ChainA P ops l t 999 NoBlk a0 w0 Q (o :: r) i F G :=
  a_val_l L hE hd hL hg (fun ρ w hk => h ρ w (keeps_none hk)) hr
theorem n_call {T : Fact} (f : FuncId) (L : List Tmp) (hE : before l i 999 = false) (hd : o.dst = some d) (hL : (L.all fun s => (o.looksAt ops).contains s) = true) (hg : GuardOK ops G a0 o) (hs : stable T)
    (h : ∀ ρ w, Below w0.heap.size w0 w → Plain ρ → AllK G a0 w ρ L → ∃ args, (execOp ρ o).run P w = .ok (.enter f args) w ∧ Calls P f args w fun e w' => ∃ v, e = .returned v ∧ T v w' ∧ Below w.heap.size w w') (hr : ChainA P ops l t 999 NoBlk a0 w0 Q r (i + 1) ((d, T) :: F) ((d, T) :: G)) : ChainA P ops l t 999 NoBlk a0 w0 Q (o :: r) i F G := by
  have hm : (i == 999) = false := by
    unfold before at hE
    rw [Bool.or_eq_false_iff] at hE
    exact hE.1
  refine ⟨d, T, T, hd, hs, hs, fun _ => stable_none hs, fun _ _ h => h, fun a w hK hb hk => ?_, hr⟩
  rw [if_neg (by rw [hE]; simp)] at hk
  rw [if_pos (wanted_of hg hk)]
  obtain ⟨args, h1, h2⟩ := h a.eval w (keeps_none hK) (plain_eval a) (allK_of hk hL)
  unfold Oper.wp
  rw [h1]
  refine h2.mono fun e w' ⟨v, he, hT, hbel⟩ => ?_
  subst he
  exact ⟨v, rfl, hT, by rw [hm, if_neg (by simp)]; exact hbel⟩
end

theorem wp_region_n8 {P : Program} {id : Nat} {o0 o1 o2 o3 o4 o5 o6 o7 t : Oper} {Q : Exit → Act → World → Prop} {a : Act} {w : World} (hm : P.follows .mixedOrders = true) (hB : chainAB a.tmps.size [o0, o1, o2, o3, o4, o5, o6, o7] t = true)
    (h : ChainA P #[o0, o1, o2, o3, o4, o5, o6, o7, t] [o0, o1, o2, o3, o4, o5, o6, o7] t 999 NoBlk a w.drew Q [o0, o1, o2, o3, o4, o5, o6, o7] 0 [] []) : (Code.region id #[o0, o1, o2, o3, o4, o5, o6, o7, t] true).wp P Q a w :=
  wp_region_a [o0, o1, o2, o3, o4, o5, o6, o7] t 999 NoBlk rfl hm hB h

section
variable {P : Program} {ops : Array Oper} {l : List Oper} {t : Oper} {m : Nat} {S : Nat → Prop} {a0 : Act} {w0 : World} {Q : Exit → Act → World → Prop} {o : Oper} {r : List Oper} {i : Nat} {F G : List (Tmp × Fact)} {d : Tmp}
end

theorem wp_region_a10 {P : Program} {id : Nat} {o0 o1 o2 o3 o4 o5 o6 o7 o8 o9 t : Oper} (m : Nat) (S : Nat → Prop) {Q : Exit → Act → World → Prop} {a : Act} {w : World} (hm : P.follows .mixedOrders = true) (hB : chainAB a.tmps.size [o0, o1, o2, o3, o4, o5, o6, o7, o8, o9] t = true)
    (h : ChainA P #[o0, o1, o2, o3, o4, o5, o6, o7, o8, o9, t] [o0, o1, o2, o3, o4, o5, o6, o7, o8, o9] t m S a w.drew Q [o0, o1, o2, o3, o4, o5, o6, o7, o8, o9] 0 [] []) : (Code.region id #[o0, o1, o2, o3, o4, o5, o6, o7, o8, o9, t] true).wp P Q a w :=
  wp_region_a [o0, o1, o2, o3, o4, o5, o6, o7, o8, o9] t m S rfl hm hB h
end Go.Proofs.YtnmanhediiooaaaGreatDoor

/- Nodes of the call's own: a node that lies in a range of blocks, and a row of such nodes. -/
namespace Go.Proofs.YtnmanhediiooaaaGreatDoor
open Go.ChangeShapes Go.WideShapes Go.ChangeAt Go.RowKit
set_option linter.unusedVariables false
set_option linter.unusedSimpArgs false
set_option maxRecDepth 100000

/-- the node lies there in each world that agrees with w on the blocks from lo on, below hi -/
def NdO (lo hi : Nat) (w : World) (A : Option Addr) (c : Nat) (B : Option Addr) (c2 : Nat) (x : Nd) : Prop := ∀ W : World, (∀ k, lo ≤ k → k < hi → W.heap[k]? = w.heap[k]?) → NdR W A c B c2 x
theorem NdO.nd {lo hi : Nat} {w : World} {A : Option Addr} {c : Nat} {B : Option Addr} {c2 : Nat} {x : Nd} (h : NdO lo hi w A c B c2 x) : NdR w A c B c2 x := h w (fun _ _ _ => rfl)
theorem NdO.to {lo hi : Nat} {w w' : World} {A : Option Addr} {c : Nat} {B : Option Addr} {c2 : Nat} {x : Nd} (h : NdO lo hi w A c B c2 x) (hw : ∀ k, lo ≤ k → k < hi → w'.heap[k]? = w.heap[k]?) : NdO lo hi w' A c B c2 x :=
  fun W hW => h W fun k h1 h2 => (hW k h1 h2).trans (hw k h1 h2)
theorem NdO.wide {lo hi lo' hi' : Nat} {w : World} {A : Option Addr} {c : Nat} {B : Option Addr} {c2 : Nat} {x : Nd} (h : NdO lo hi w A c B c2 x) (h1 : lo' ≤ lo) (h2 : hi ≤ hi') : NdO lo' hi' w A c B c2 x :=
  fun W hW => h W fun k k1 k2 => hW k (by omega) (by omega)
theorem NdO.below {lo hi : Nat} {w w' : World} {A : Option Addr} {c : Nat} {B : Option Addr} {c2 : Nat} {x : Nd} (h : NdO lo hi w A c B c2 x) {N : Nat} (hb : Below N w w') (hN : hi ≤ N) : NdO lo hi w' A c B c2 x := h.to fun k _ h2 => hb.block k (by omega)

/-- v is a row of nodes of the call's own: it and what its nodes refer to lie at base or behind, apart from each other -/
def OwnN (base : Nat) (w : World) (v : Value) (ts : List Nd) : Prop :=
  ∃ vs, w.ownsRow base 30 5 v ts.length vs ∧ ∀ j (hj : j < ts.length), ∃ A' c' B' c2' lo hi, base ≤ lo ∧ hi ≤ w.heap.size ∧ (∀ g, v.ownBlock = some g → g < lo ∨ hi ≤ g) ∧ NdO lo hi w A' c' B' c2' (ts[j]) ∧
    ∀ o, o < 5 → vs[j * 5 + o]? = (fiveC (ts[j]) A' c' B' c2')[o]?
theorem OwnN.empty (base : Nat) (w : World) : OwnN base w (.slice none 0 0) [] := ⟨[], World.ownsRow_nil w base _ 5, fun j hj => by simp at hj⟩
theorem ownsRow_below {w w' : World} {base : Nat} {E : TypeId} {sz n : Nat} {v : Value} {vs : List Value} (h : w.ownsRow base E sz v n vs) {N : Nat} (hb : Below N w w') (hN : w.heap.size ≤ N) : w'.ownsRow base E sz v n vs := by
  have hlt := h.lt
  refine ⟨h.1, ?_⟩
  rcases h.2 with h2 | ⟨g, cap, cur, hv, hg, hh, r⟩
  · exact .inl h2
  · refine .inr ⟨g, cap, cur, hv, hg, ?_, r⟩
    have := (hlt g (by rw [hv]; rfl)).2
    rw [hb.block g (by omega)]
    exact hh
theorem OwnN.below {base : Nat} {w w' : World} {v : Value} {ts : List Nd} (h : OwnN base w v ts) {N : Nat} (hb : Below N w w') (hN : w.heap.size ≤ N) : OwnN base w' v ts := by
  obtain ⟨vs, h1, h2⟩ := h
  refine ⟨vs, ownsRow_below h1 hb hN, fun j hj => ?_⟩
  obtain ⟨A', c', B', c2', lo, hi, k1, k2, k3, k4, k5⟩ := h2 j hj
  exact ⟨A', c', B', c2', lo, hi, k1, Nat.le_trans k2 hb.size, k3, k4.below hb (by omega), k5⟩
/-- the row and its nodes, as they lie there -/
theorem OwnN.slice {base : Nat} {w : World} {v : Value} {ts : List Nd} (h : OwnN base w v ts) : ∃ B c, v = .slice B ts.length c ∧ ts.length ≤ c ∧ c ≤ maxLen ∧ (B = none → c = 0) := by
  obtain ⟨vs, h1, h2⟩ := h
  rcases h1.2 with ⟨rfl, hn⟩ | ⟨g, cap, cur, rfl, hg, hh, hc, hm, hcs, htk⟩
  · exact ⟨none, 0, by rw [hn], by omega, by omega, fun _ => rfl⟩
  · exact ⟨some ⟨g, 0, none⟩, cap, rfl, hc, hm, fun h => by cases h⟩
/-- a node whose kids are such a row -/
theorem OwnN.node {base : Nat} {w : World} {B : Option Addr} {n0 c2 : Nat} {ts : List Nd} (h : OwnN base w (.slice B n0 c2) ts) {k e n : Int} {d : List Int} {A : Option Addr} {c : Nat}
    (hk : -9223372036854775808 ≤ k ∧ k ≤ 9223372036854775807) (he : -9223372036854775808 ≤ e ∧ e ≤ 9223372036854775807) (hn : -9223372036854775808 ≤ n ∧ n ≤ 9223372036854775807)
    (hd : Got w base 5 .u8 (.slice A d.length c) d) (hby : Bts d) : NdO base w.heap.size w A c B c2 (.mk k e n d ts) := by
  intro W hW
  obtain ⟨A0, c0, he0, hc0, hm0, _⟩ := hd.slice
  injection he0 with e1 e2 e3
  subst e1
  subst e3
  obtain ⟨vs, h1, h2⟩ := h
  have hWO : W.ownsRow base 30 5 (.slice B n0 c2) ts.length vs := by
    refine ⟨h1.1, ?_⟩
    rcases h1.2 with h3 | ⟨g, cap, cur, hv, hg, hh, r⟩
    · exact .inl h3
    · exact .inr ⟨g, cap, cur, hv, hg, (hW g hg (Array.getElem?_eq_some_iff.1 hh).1).trans hh, r⟩
  have hdW : Got W base 5 .u8 (.slice A d.length c) d := by
    have hd0 := hd
    refine ⟨hd.1, ?_⟩
    rcases hd.2 with h3 | ⟨g, cap, cur, hv, hg, hh, r⟩
    · exact .inl h3
    · exact .inr ⟨g, cap, cur, hv, hg, (hW g hg (Array.getElem?_eq_some_iff.1 hh).1).trans hh, r⟩
  have hkid : ∀ j (hj : j < ts.length), ∃ A' c' B' c2', NdR W A' c' B' c2' (ts[j]) ∧ ∀ o, o < 5 → vs[j * 5 + o]? = (fiveC (ts[j]) A' c' B' c2')[o]? := by
    intro j hj
    obtain ⟨A', c', B', c2', lo, hi, k1, k2, k3, k4, k5⟩ := h2 j hj
    exact ⟨A', c', B', c2', k4 W fun q q1 q2 => hW q (by omega) (by omega), k5⟩
  have hAnil : A = none → c = 0 := by
    rintro rfl
    rcases hd.2 with ⟨h3, _⟩ | ⟨g, cap, cur, hv, _⟩
    · injection h3
    · injection hv with h4; cases h4
  have hBs : n0 = ts.length ∧ ts.length ≤ c2 ∧ c2 ≤ maxLen ∧ (B = none → c2 = 0) := by
    rcases h1.2 with ⟨hv, hn⟩ | ⟨g, cap, cur, hv, hg, hh, hc, hm, hcs, htk⟩
    · injection hv with e1 e2 e3
      subst e1; subst e2; subst e3
      exact ⟨by omega, by omega, by omega, fun _ => rfl⟩
    · injection hv with e1 e2 e3
      subst e1; subst e2; subst e3
      exact ⟨rfl, hc, hm, fun h => by cases h⟩
  obtain ⟨_, _, _, _, _, hri⟩ := hdW.slice
  have hriA : Ri W .u8 A d := by
    obtain ⟨A1, c1, he1, _, _, hr1⟩ := hdW.slice
    injection he1 with e1 e2 e3
    subst e1
    exact hr1
  refine .mk k e n d ts A c B c2 (fun j => if h : j < ts.length then Classical.choose (hkid j h) else none)
    (fun j => if h : j < ts.length then Classical.choose (Classical.choose_spec (hkid j h)) else 0)
    (fun j => if h : j < ts.length then Classical.choose (Classical.choose_spec (Classical.choose_spec (hkid j h))) else none)
    (fun j => if h : j < ts.length then Classical.choose (Classical.choose_spec (Classical.choose_spec (Classical.choose_spec (hkid j h)))) else 0)
    hk he hn hriA hby hc0 hm0 hAnil hBs.2.1 hBs.2.2.1 hBs.2.2.2 ?_ ?_
  · by_cases hne : ts = []
    · exact .inl hne
    · right
      have hpos : 0 < ts.length := List.length_pos_iff.2 hne
      rcases hWO.2 with ⟨_, hn⟩ | ⟨g, cap, cur, hv, hg, hh, _⟩
      · omega
      · injection hv with e1 e2 e3
        subst e1
        subst e2
        subst e3
        refine ⟨g, 0, rfl, fun j x hj => ?_⟩
        have hjl : j < ts.length := (List.getElem?_eq_some_iff.1 hj).1
        obtain rfl : ts[j] = x := (List.getElem?_eq_some_iff.1 hj).2
        have hspec := Classical.choose_spec (Classical.choose_spec (Classical.choose_spec (Classical.choose_spec (hkid j hjl))))
        have hcell := fun o (ho : o < 5) => (World.ownsRow.cellAt (g := g) (cap := c2) hWO (j * 5 + o) (by omega)).trans (hspec.2 o ho)
        simp only [dif_pos hjl]
        refine ⟨?_, ?_, ?_, ?_, ?_⟩
        · have := hcell 0 (by omega); rw [Nat.zero_add]; exact this
        · have := hcell 1 (by omega); rw [Nat.zero_add]; exact this
        · have := hcell 2 (by omega); rw [Nat.zero_add]; exact this
        · have := hcell 3 (by omega); rw [Nat.zero_add]; simpa [fiveC] using this
        · have := hcell 4 (by omega); rw [Nat.zero_add]; simpa [fiveC] using this
  · intro j x hj
    have hjl : j < ts.length := (List.getElem?_eq_some_iff.1 hj).1
    obtain rfl : ts[j] = x := (List.getElem?_eq_some_iff.1 hj).2
    have hspec := Classical.choose_spec (Classical.choose_spec (Classical.choose_spec (Classical.choose_spec (hkid j hjl))))
    simp only [dif_pos hjl]
    exact hspec.1

/-! ## A node more in such a row -/
/-- where append puts a row: it stays, or it is new -/
theorem append_block {P : Program} {w : World} {base : Nat} {t ty e : TypeId} {i : TypeInfo} {z : Value} (ht : P.underlying t = some (.slice e)) (hi : P.info? e = some i) (hz : i.zero = some z)
    {v : Value} {n : Nat} {xs : List Value} (hown : w.ownsRow base e i.size v n xs) {a : Addr} {m c : Nat} {news : List Value} (hl : news.length = m * i.size) (hnews : ∀ j u, news[j]? = some u → w.cell? (a.add j) = some u)
    (h1 : ∀ u ∈ news, u.oneCell' = true) (hm : 0 < m) (h63 : n + m ≤ maxLen) (hbytes : (n + m) * i.bytes ≤ 140737488355328) {v' : Value} {w' : World}
    (hr : (Builtin.append_ #[t, t] ty #[v, .slice (some a) m c]).run P w = .ok v' w') : v'.ownBlock = v.ownBlock ∨ v'.ownBlock = some w.heap.size := by
  have hsmall : n + m ≤ 9223372036854775807 := by unfold maxLen at h63; omega
  rcases hown.2 with ⟨rfl, rfl⟩ | ⟨g, cap, cur, rfl, hbg, hg, hnc, hcm, hcs, htake⟩
  · rw [Nat.zero_add] at hbytes hsmall
    rw [run_append_nil (P := P) w t ty e i z ht hi hz a m c news hl hnews hm (by omega) (by omega)] at hr
    injection hr with hv hw
    subst hv
    exact .inr rfl
  · by_cases hroom : n + m ≤ cap
    · have hfit : n * i.size + news.length ≤ cur.size := by rw [hl, hcs, ← Nat.add_mul]; exact Nat.mul_le_mul_right _ hroom
      rw [run_append_room (P := P) w t ty e i ht hi g n cap cur hg a m c news hl hnews h1 hroom hfit] at hr
      injection hr with hv hw
      subst hv
      exact .inl rfl
    · rw [run_append_grow (P := P) w t ty e i z ht hi hz ⟨g, 0, none⟩ n cap xs hown.1 (hown.cells (g := g) rfl) a m c news hl hnews (by omega) (by omega) (growslice_fits (by omega) hbytes)] at hr
      injection hr with hv hw
      subst hv
      exact .inr rfl

theorem wpList_appO {ops : Array Oper} {rest : List Oper} {o : Oper} {a : Act} {Q : Exit → Act → World → Prop} {w : World} (hgd : o.guard = none) (s x : Operand) (t : TypeId)
    (ho : o.op = .call { callee := .builtin .append, args := #[s, x], argTypes := #[t, t] }) (ht : Tryz.prog.underlying t = some (.slice 30))
    {base : Nat} {v : Value} {ts : List Nd} (hs : a.eval s = v) (hown : OwnN base w v ts) {q : Nat} (hx : a.eval x = .slice (some ⟨q, 0, none⟩) 1 1) {y : Nd} {A' : Option Addr} {c' : Nat} {B' : Option Addr} {c2' : Nat}
    (hq : ∀ o, o < 5 → w.cell? ⟨q, o, none⟩ = (fiveC y A' c' B' c2')[o]?) {lo hi : Nat} (hlo : base ≤ lo) (hhi : hi ≤ w.heap.size) (hne : ∀ g, v.ownBlock = some g → g < lo) (hy : NdO lo hi w A' c' B' c2' y)
    (hn : ts.length + 1 ≤ 1099511627776) (hbase : base ≤ w.heap.size)
    (h : ∀ v' w', OwnN base w' v' (ts ++ [y]) → w.grownBy w' v.ownBlock → wpList Tryz.prog ops Q rest (a.put o.dst v') w') : wpList Tryz.prog ops Q (o :: rest) a w := by
  obtain ⟨i, hi', hz0, hz1, hz2⟩ := info_parts node_info
  obtain ⟨vs, h1, h2⟩ := hown
  have hlv : vs.length = ts.length * 5 := h1.1
  have hl5 : (fiveC y A' c' B' c2').length = 1 * 5 := rfl
  have hnews : ∀ j u, (fiveC y A' c' B' c2')[j]? = some u → w.cell? ((⟨q, 0, none⟩ : Addr).add j) = some u := by
    intro j u hu
    have hj : j < 5 := by
      rcases Nat.lt_or_ge j 5 with h0 | h0
      · exact h0
      · rw [List.getElem?_eq_none (by rw [hl5]; omega)] at hu; cases hu
    rw [add_plain, Nat.zero_add, hq j hj, hu]
  refine wpList_plain hgd fun K hK => ?_
  obtain ⟨v', w', hr, k2, k3, -⟩ := run_append_own (P := Tryz.prog) w base t o.type 30 i _ 5 72 ht hi' hz0 hz1 hz2 rfl (by decide) v ts.length vs h1 ⟨q, 0, none⟩ 1 1 _ hl5 hnews (fiveC_one _ _ _ _ _) (by unfold maxLen; omega) (by omega) hbase
  have k5 := append_block ht hi' hz0 (by rw [hz1]; exact h1) (by rw [hz1]; exact hl5) hnews (fiveC_one _ _ _ _ _) (by decide) (by unfold maxLen; omega) (by rw [hz2]; omega) hr
  have hfin := hK _ _ (h v' w' ?_ k3)
  · unfold Oper.wp execOp
    simp only [ho, resolve, invoke, builtin, Sem.run_bind, Sem.run_pure, Result.andThen_ok, List.map_toArray, List.map_cons, List.map_nil, hs, hx, hr]
    exact hfin
  · refine ⟨vs ++ fiveC y A' c' B' c2', by rw [List.length_append]; exact k2, fun j hj => ?_⟩
    by_cases hjl : j < ts.length
    · obtain ⟨A1, c1, B1, c3, lo1, hi1, g1, g2, g3, g4, g5⟩ := h2 j hjl
      rw [show (ts ++ [y])[j] = ts[j] from List.getElem_append_left hjl]
      refine ⟨A1, c1, B1, c3, lo1, hi1, g1, Nat.le_trans g2 k3.size, fun g hg => ?_, g4.to fun k e1 e2 => k3.block k (by omega) fun e => ?_, fun o ho => by rw [List.getElem?_append_left (by omega)]; exact g5 o ho⟩
      · rcases k5 with k5 | k5
        · exact g3 g (by rw [← k5]; exact hg)
        · rw [k5] at hg; injection hg with hg; exact .inr (by omega)
      · have := g3 k e.symm
        omega
    · rw [List.length_append] at hj
      simp only [List.length_cons, List.length_nil] at hj
      obtain rfl : j = ts.length := by omega
      have e : (ts ++ [y])[ts.length]'(by simp) = y := by simp
      rw [e]
      refine ⟨A', c', B', c2', lo, hi, hlo, Nat.le_trans hhi k3.size, fun g hg => ?_, hy.to fun k e1 e2 => k3.block k (by omega) fun e => ?_, fun o ho => ?_⟩
      · rcases k5 with k5 | k5
        · rw [k5] at hg; exact .inl (hne g hg)
        · rw [k5] at hg; injection hg with hg; exact .inr (by omega)
      · have := hne k e.symm
        omega
      · rw [List.getElem?_append_right (by omega), hlv]
        congr 1
        omega

/-! ## What is known of a node that a call gave, and of a row of this one node -/
def NodF (lo : Nat) (x : Nd) : Fact := fun v w => ∃ A c B c2 hi, v = .agg #[.int .i64 x.k, .int .i64 x.e, .int .i64 x.n, .slice A x.d.length c, .slice B x.ks.length c2] ∧ hi ≤ w.heap.size ∧ NdO lo hi w A c B c2 x
theorem stable_nod (lo : Nat) (x : Nd) : stable (NodF lo x) := by
  rintro v w w' ⟨A, c, B, c2, hi, e, h1, h2⟩ hb
  exact ⟨A, c, B, c2, hi, e, Nat.le_trans h1 hb.size, h2.below hb h1⟩
def OneF (lo : Nat) (x : Nd) : Fact := fun v w => ∃ q A c B c2 hi, v = .slice (some ⟨q, 0, none⟩) 1 1 ∧ (∀ o, o < 5 → w.cell? ⟨q, o, none⟩ = (fiveC x A c B c2)[o]?) ∧ hi ≤ w.heap.size ∧ NdO lo hi w A c B c2 x
theorem stable_one (lo : Nat) (x : Nd) : stable (OneF lo x) := by
  rintro v w w' ⟨q, A, c, B, c2, hi, e, h0, h1, h2⟩ hb
  refine ⟨q, A, c, B, c2, hi, e, fun o ho => ?_, Nat.le_trans h1 hb.size, h2.below hb h1⟩
  have hq : q < w.heap.size := World.block_lt_of_cell? w ⟨q, 0, none⟩ (h0 0 (by decide))
  rw [hb.cell (p := ⟨q, o, none⟩) hq]
  exact h0 o ho
def OwnF (base : Nat) (ts : List Nd) : Fact := fun v w => OwnN base w v ts
theorem stable_ownF (base : Nat) (ts : List Nd) : stable (OwnF base ts) := fun v w w' h hb => h.below hb (Nat.le_refl _)
theorem Blk.keeps {W W' : World} {b : Nat} {cs : Array Value} (h : Blk W b cs) {S : Nat → Prop} (hk : Keeps S W W') (hS : ¬ S b) : Blk W' b cs := by
  have hb := hk.block b h.lt hS
  exact ⟨fun o => by rw [World.cell?_of_block (w := W) hb]; exact h.cell o, fun o => by rw [World.frozen?_of_block (w := W) hb]; exact h.free o, Nat.lt_of_lt_of_le h.lt hk.size⟩
theorem OwnN.mono {base base' : Nat} {w : World} {v : Value} {ts : List Nd} (h : OwnN base w v ts) (hb : base' ≤ base) : OwnN base' w v ts := by
  obtain ⟨vs, h1, h2⟩ := h
  refine ⟨vs, ⟨h1.1, ?_⟩, fun j hj => ?_⟩
  · rcases h1.2 with h3 | ⟨g, cap, cur, hv, hg, r⟩
    · exact .inl h3
    · exact .inr ⟨g, cap, cur, hv, by omega, r⟩
  · obtain ⟨A', c', B', c2', lo, hi, k1, k2⟩ := h2 j hj
    exact ⟨A', c', B', c2', lo, hi, by omega, k2⟩
/-- a store into another block -/
theorem OwnN.far {base : Nat} {w : World} {v : Value} {ts : List Nd} (h : OwnN base w v ts) {p : Addr} (hp : p.block < base) (u : Value) : OwnN base (w.setCell p u) v ts := by
  obtain ⟨vs, h1, h2⟩ := h
  refine ⟨vs, ownsRow_setCell_below h1 hp u, fun j hj => ?_⟩
  obtain ⟨A', c', B', c2', lo, hi, k1, k2, k3, k4, k5⟩ := h2 j hj
  exact ⟨A', c', B', c2', lo, hi, k1, by simpa using k2, k3, k4.to fun q q1 _ => Below.heap_setCell _ _ _ _ (by omega), k5⟩
theorem OwnN.cast {base : Nat} {w : World} {v : Value} {ts ts' : List Nd} (h : OwnN base w v ts) (e : ts = ts') : OwnN base w v ts' := e ▸ h
theorem got_agree {w w' : World} {base : Nat} {E : TypeId} {k : IntKind} {v : Value} {zs : List Int} (h : Got w base E k v zs) (hw : ∀ q, base ≤ q → q < w.heap.size → w'.heap[q]? = w.heap[q]?) : Got w' base E k v zs := by
  refine ⟨h.1, ?_⟩
  rcases h.2 with h3 | ⟨g, cap, cur, hv, hg, hh, r⟩
  · exact .inl h3
  · exact .inr ⟨g, cap, cur, hv, hg, (hw g hg (Array.getElem?_eq_some_iff.1 hh).1).trans hh, r⟩
end Go.Proofs.YtnmanhediiooaaaGreatDoor

/- What the reference functions of layer 11 do, each by a contract. -/
namespace Go.Proofs.YtnmanhediiooaaaGreatDoor
open Go.ChangeShapes Go.WideShapes Go.ChangeAt Go.RowKit
set_option linter.unusedVariables false
set_option linter.unusedSimpArgs false
set_option maxRecDepth 100000

set_option maxRecDepth 100000 in
theorem RefWords11_any (A : Option Addr) (c : Nat) (d : List Int) (w : World) (hr : Ri w .u8 A d) (hb : Bts d) (hm : d.length ≤ 1099511627776) :
    Calls Tryz.prog 44 #[.slice A d.length c] w fun r w' => r = .returned (.int .i64 (wordsT d)) ∧ w = w' := by
  have Hr := Lib.hid hr
  have Hb := Lib.hid hb
  have HW : Hid (wordsT d = wordsF d d.length) := Lib.hid rfl
  clear hr hb
  go_enter Tryz.func44, Tryz.ntmps44
  go_wp2
  go_loop [3, 4] (fun n i => ∃ k : Nat, k ≤ d.length ∧ i = .int .i64 k ∧ n = .int .i64 (wordsF d k)) (fun _ i => d.length - (intOf i).toNat)
  case atStart => exact ⟨0, by omega, rfl, rfl⟩
  case round =>
    obtain ⟨k, hk, rfl, rfl⟩ := hrel
    by_cases hlt : k < d.length
    · obtain ⟨g, off, rfl, hc⟩ := Hr.out.at hlt
      have hcell := hc k hlt
      have hz := Hb.out.at k
      have hlt2 : (k : Int) < (d.length : Int) := by omega
      have HS : Hid (wordsF d (k + 1) = if zat d k = 0 then wordsF d k else k / 8 + 1) := Lib.hid rfl
      clear hc
      generalize zat d k = z at *
      by_cases h0 : z = 0
      · subst h0
        go_wp2
        go_round
        case rel => exact ⟨k + 1, by omega, by go_num, by rw [HS.out, if_pos rfl]⟩
        case measure => simp [intOf]; omega
      · have hne : (z != 0) = true := by simpa using h0
        have HZ := Lib.hid h0
        clear h0
        go_wp2
        go_round
        case rel => exact ⟨k + 1, by omega, by go_num, by rw [HS.out, if_neg HZ.out]; go_num⟩
        case measure => simp [intOf]; omega
    · obtain rfl : k = d.length := by omega
      go_wp2
      go_ret
      exact ⟨by rw [HW.out]; rfl, rfl⟩

set_option maxRecDepth 100000 in
theorem RefPointers11_any (B : Option Addr) (c : Nat) (ks : List Nd) (w : World) (hr : KsR w B ks) (hm : ks.length ≤ 1099511627776) :
    Calls Tryz.prog 45 #[.slice B ks.length c] w fun r w' => r = .returned (.int .i64 (ptrsT ks)) ∧ w = w' := by
  have Hr := Lib.hid hr
  have HW : Hid (ptrsT ks = ptrsF ks ks.length) := Lib.hid rfl
  clear hr
  go_enter Tryz.func45, Tryz.ntmps45
  go_wp2
  go_loop [3, 4] (fun n i => ∃ k : Nat, k ≤ ks.length ∧ i = .int .i64 k ∧ n = .int .i64 (ptrsF ks k)) (fun _ i => ks.length - (intOf i).toNat)
  case atStart => exact ⟨0, by omega, rfl, rfl⟩
  case round =>
    obtain ⟨k, hk, rfl, rfl⟩ := hrel
    by_cases hlt : k < ks.length
    · obtain ⟨b, off, Aa, ca, Ba, cb, rfl, hcell, -⟩ := Hr.out.at hlt
      have hlt2 : (k : Int) < (ks.length : Int) := by omega
      have HS : Hid (ptrsF ks (k + 1) = if ks[k].k = 0 then ptrsF ks k else k + 1) := Lib.hid (by rw [← kAt_get hlt]; rfl)
      generalize ks[k].k = z at *
      by_cases h0 : z = 0
      · subst h0
        go_wp2
        go_round
        case rel => exact ⟨k + 1, by omega, by go_num, by rw [HS.out, if_pos rfl]⟩
        case measure => simp [intOf]; omega
      · have hne : (z != 0) = true := by simpa using h0
        have HZ := Lib.hid h0
        clear h0
        go_wp2
        go_round
        case rel => exact ⟨k + 1, by omega, by go_num, by rw [HS.out, if_neg HZ.out]; go_num⟩
        case measure => simp [intOf]; omega
    · obtain rfl : k = ks.length := by omega
      go_wp2
      go_ret
      exact ⟨by rw [HW.out]; rfl, rfl⟩

end Go.Proofs.YtnmanhediiooaaaGreatDoor

/- What the reference's Copy gives: the same node in memory of its own. -/
namespace Go.Proofs.YtnmanhediiooaaaGreatDoor
open Go.ChangeShapes Go.WideShapes Go.ChangeAt Go.RowKit
set_option linter.unusedVariables false
set_option linter.unusedSimpArgs false
set_option maxRecDepth 100000
attribute [local simp] AllK KnowsV look Is

theorem abs_list {P : Program} {ops : Array Oper} {l : List Oper} {Q : Exit → Act → World → Prop} {a : Act} {V : World} (F : World → Prop) (hF : F V) (h : ∀ W, F W → wpList P ops Q l a W) : wpList P ops Q l a V := h V hF
theorem allN_at10d {P : Nat → Prop} : ∀ {n s : Nat}, AllN P n s → ∀ j, s ≤ j → j < s + n → P j
  | 0, _, _, _, _, h => by omega
  | n + 1, s, h, j, h1, h2 => by
    by_cases e : s = j
    · subst e; exact h.1
    · exact allN_at10d h.2 j (by omega) (by omega)
theorem hold_it {p : Prop} (h : Hid p) : p := h.out
theorem abs_code10 {P : Program} {C : Code} {Q : Exit → Act → World → Prop} {a : Act} {V : World} (F : World → Prop) (hF : F V) (h : ∀ W, F W → C.wp P Q a W) : C.wp P Q a V := h V hF

end Go.Proofs.YtnmanhediiooaaaGreatDoor

/- Nodes that a function builds: a node of its data and its row of kids, and what lasts of such values. -/
namespace Go.Proofs.YtnmanhediiooaaaGreatDoor
open Go.ChangeShapes Go.WideShapes Go.ChangeAt Go.RowKit
set_option linter.unusedVariables false
set_option linter.unusedSimpArgs false
set_option maxRecDepth 100000

/-- a node out of its parts -/
theorem KsR.node {w : World} {B : Option Addr} {ks : List Nd} (h : KsR w B ks) {k e n : Int} {d : List Int} {A : Option Addr} {c c2 : Nat}
    (hk : -9223372036854775808 ≤ k ∧ k ≤ 9223372036854775807) (he : -9223372036854775808 ≤ e ∧ e ≤ 9223372036854775807) (hn : -9223372036854775808 ≤ n ∧ n ≤ 9223372036854775807)
    (hd : Ri w .u8 A d) (hby : Bts d) (hdl : d.length ≤ c) (hc : c ≤ maxLen) (hA : A = none → c = 0) (hkl : ks.length ≤ c2) (hc2 : c2 ≤ maxLen) (hB : B = none → c2 = 0) : NdR w A c B c2 (.mk k e n d ks) := by
  rcases h with rfl | ⟨b, off, hBe, h⟩
  · exact .mk k e n d [] A c B c2 (fun _ => none) (fun _ => 0) (fun _ => none) (fun _ => 0) hk he hn hd hby hdl hc hA hkl hc2 hB (.inl rfl) (fun j x hx => by simp at hx)
  · refine .mk k e n d ks A c B c2 (fun j => if h0 : j < ks.length then Classical.choose (h j h0) else none) (fun j => if h0 : j < ks.length then Classical.choose (Classical.choose_spec (h j h0)) else 0)
      (fun j => if h0 : j < ks.length then Classical.choose (Classical.choose_spec (Classical.choose_spec (h j h0))) else none) (fun j => if h0 : j < ks.length then Classical.choose (Classical.choose_spec (Classical.choose_spec (Classical.choose_spec (h j h0)))) else 0)
      hk he hn hd hby hdl hc hA hkl hc2 hB (.inr ⟨b, off, hBe, fun j x hj => ?_⟩) (fun j x hj => ?_)
    · have hjl : j < ks.length := (List.getElem?_eq_some_iff.1 hj).1
      obtain rfl : ks[j] = x := (List.getElem?_eq_some_iff.1 hj).2
      have hs := Classical.choose_spec (Classical.choose_spec (Classical.choose_spec (Classical.choose_spec (h j hjl))))
      simp only [dif_pos hjl]
      exact ⟨hs.1, hs.2.1, hs.2.2.1, hs.2.2.2.1, hs.2.2.2.2.1⟩
    · have hjl : j < ks.length := (List.getElem?_eq_some_iff.1 hj).1
      obtain rfl : ks[j] = x := (List.getElem?_eq_some_iff.1 hj).2
      have hs := Classical.choose_spec (Classical.choose_spec (Classical.choose_spec (Classical.choose_spec (h j hjl))))
      simp only [dif_pos hjl]
      exact hs.2.2.2.2.2

/-- v is a row of the bytes d -/
def DatF (d : List Int) : Fact := fun v w => ∃ A c, v = .slice A d.length c ∧ Ri w .u8 A d ∧ d.length ≤ c ∧ c ≤ maxLen ∧ (A = none → c = 0)
theorem stable_datf (d : List Int) : stable (DatF d) := by
  rintro v w w' ⟨A, c, e, h, r⟩ hb
  exact ⟨A, c, e, h.below hb (Nat.le_refl _), r⟩

theorem nd0_here (w : World) (k : Int) (hk : -9223372036854775808 ≤ k ∧ k ≤ 9223372036854775807) : NdR w none 0 none 0 (.mk k 0 0 [] []) :=
  (show KsR w none [] from .inl rfl).node hk ⟨by decide, by decide⟩ ⟨by decide, by decide⟩ (Ri.nil _ _ _) (by intro z hz; cases hz) (by simp) (by unfold maxLen; omega) (fun _ => rfl) (by simp) (by unfold maxLen; omega) (fun _ => rfl)
theorem allN_atF {P : Nat → Prop} : ∀ {n s : Nat}, AllN P n s → ∀ j, s ≤ j → j < s + n → P j
  | 0, _, _, _, _, h => by omega
  | n + 1, s, h, j, h1, h2 => by
    by_cases e : s = j
    · subst e; exact h.1
    · exact allN_atF h.2 j (by omega) (by omega)
end Go.Proofs.YtnmanhediiooaaaGreatDoor
