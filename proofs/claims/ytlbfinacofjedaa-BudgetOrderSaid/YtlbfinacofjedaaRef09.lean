/- What the reference functions of layer 9 do, each by a contract. -/
import Derived.Test.YtlbfinacofjedaaRef01
namespace Go.Proofs.Ytlbfinacofjedaa
open Go.ChangeShapes Go.WideShapes Go.ChangeAt Go.RowKit
set_option linter.unusedVariables false
set_option linter.unusedSimpArgs false

def startI (x : Int) : Int := if x < 0 then 0 else x
def enterI (dep d : Int) : Int := if d ≤ dep then 0 else 7
def chargeI (m c : Int) : Int := if m < c then m else m - c
def chargeE (m c : Int) : Int := if m < c then 8 else 0

theorem RefStart_any (d x o : Int) (w : World) : Calls Try.prog 13 #[.agg #[.int .i64 d, .int .i64 x, .int .i64 o]] w fun e w' => e = .returned (.agg #[.int .i64 (startI x)]) ∧ Below w.heap.size w w' := by
  by_cases h : x < 0
  · have HS : Hid (startI x = 0) := Lib.hid (by simp [startI, h])
    go_enter Try.func13, Try.ntmps13
    go_wp2
    refine bodyPost_ret (v := .agg #[.int .i64 0]) (by simp [results, Try.results13, go_sem]) rfl ⟨by rw [HS.out], ?_⟩
    exact ((Below.refl _ _).alloc (Nat.le_refl _) _).alloc (by simp) _
  · have HS : Hid (startI x = x) := Lib.hid (by simp [startI, h])
    go_enter Try.func13, Try.ntmps13
    go_wp2
    refine bodyPost_ret (v := .agg #[.int .i64 x]) (by simp [results, Try.results13, go_sem]) rfl ⟨by rw [HS.out], ?_⟩
    exact ((Below.refl _ _).alloc (Nat.le_refl _) _).alloc (by simp) _

theorem RefEnter_any (dep x o d : Int) (w : World) : Calls Try.prog 11 #[.agg #[.int .i64 dep, .int .i64 x, .int .i64 o], .int .i64 d] w fun e w' => e = .returned (.int .i64 (enterI dep d)) ∧ Below w.heap.size w w' := by
  by_cases h : d ≤ dep
  · have HS : Hid (enterI dep d = 0) := Lib.hid (by simp [enterI, h])
    go_enter Try.func11, Try.ntmps11
    go_wp2
    go_ret
    exact ⟨by rw [HS.out]; rfl, (Below.refl _ _).alloc (Nat.le_refl _) _⟩
  · have HS : Hid (enterI dep d = 7) := Lib.hid (by simp [enterI, h])
    go_enter Try.func11, Try.ntmps11
    go_wp2
    go_ret
    exact ⟨by rw [HS.out]; rfl, (Below.refl _ _).alloc (Nat.le_refl _) _⟩

theorem RefCharge_any (m c : Int) (w : World) (hm0 : -9223372036854775808 ≤ m) (hm1 : m ≤ 9223372036854775807) (hc : 0 ≤ c) :
    Calls Try.prog 9 #[.agg #[.int .i64 m], .int .i64 c] w fun e w' => e = .returned (.tuple #[.agg #[.int .i64 (chargeI m c)], .int .i64 (chargeE m c)]) ∧ Below w.heap.size w w' := by
  by_cases h : m < c
  · have HS : Hid (chargeI m c = m) := Lib.hid (by simp [chargeI, h])
    have HE : Hid (chargeE m c = 8) := Lib.hid (by simp [chargeE, h])
    go_enter Try.func9, Try.ntmps9
    go_wp2
    refine bodyPost_ret (v := .tuple #[.agg #[.int .i64 m], .int .i64 8]) (by simp [results, Try.results9, go_sem]) rfl ⟨by rw [HS.out, HE.out], ?_⟩
    exact ((Below.refl _ _).alloc (Nat.le_refl _) _).alloc (by simp) _
  · have HS : Hid (chargeI m c = m - c) := Lib.hid (by simp [chargeI, h])
    have HE : Hid (chargeE m c = 0) := Lib.hid (by simp [chargeE, h])
    go_enter Try.func9, Try.ntmps9
    go_wp2
    refine bodyPost_ret (v := .tuple #[.agg #[.int .i64 (m - c)], .int .i64 0]) (by simp [results, Try.results9, go_sem]) rfl ⟨by rw [HS.out, HE.out], ?_⟩
    exact ((Below.refl _ _).alloc (Nat.le_refl _) _).alloc (by simp) _
end Go.Proofs.Ytlbfinacofjedaa
