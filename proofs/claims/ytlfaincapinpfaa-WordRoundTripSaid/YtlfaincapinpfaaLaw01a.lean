/- The laws of layer 1 on bit fields, and that the functions are those of the reference: each call of a law returns true and changes nothing that was there. -/
import Derived.Test.YtlfaincapinpfaaAwake01
namespace Go.Proofs.Ytlfaincapinpfaa
open Go.ChangeShapes Go.WideShapes Go.ChangeAt Go.RowKit
set_option linter.unusedVariables false

theorem Place_ex (p q : Int) (w : World) (h1 : 0 ≤ p) (h2 : p ≤ 255) (h3 : 0 ≤ q) (h4 : q ≤ 255) :
    Calls Try.prog 13 #[.int .u8 p, .int .u8 q] w fun e w' => ∃ a n : Int, e = .returned (.tuple #[.int .i64 a, .int .i64 n]) ∧ 1 ≤ n ∧ 0 ≤ a ∧ a + n ≤ 64 ∧ w = w' :=
  (Place_any p q w h1 h2 h3 h4).mono fun e w' ⟨he, hw⟩ => ⟨_, _, he, by omega, Int.emod_nonneg _ (by omega), by
    have := Int.emod_lt_of_pos q (show 0 < 65 - (1 + p % 64) by omega)
    omega, hw⟩

theorem fld_ins_same (w a n v : Int) (h0 : 0 ≤ w) (hw : w < 18446744073709551616) (hn : 0 ≤ n) (ha : 0 ≤ a) (h : a + n ≤ 64) (hv : 0 ≤ v) : fld (ins w a n v) a n = fld v 0 n := by
  unfold fld ins
  rw [Int.toNat_natCast, fldN_ins_same _ _ _ _ (by omega) (by omega)]
  rfl
theorem ins_back (w a n v : Int) (h0 : 0 ≤ w) (hw : w < 18446744073709551616) (hn : 0 ≤ n) (ha : 0 ≤ a) (h : a + n ≤ 64) : ins (ins w a n v) a n (fld w a n) = w := by
  unfold fld ins
  rw [Int.toNat_natCast, Int.toNat_natCast, insN_back _ _ _ _ (by omega) (by omega)]
  omega
theorem ins_ins (w a n v u : Int) (h0 : 0 ≤ w) (hw : w < 18446744073709551616) (hn : 0 ≤ n) (ha : 0 ≤ a) (h : a + n ≤ 64) : ins (ins w a n v) a n u = ins w a n u := by
  unfold ins
  rw [Int.toNat_natCast, insN_ins _ _ _ _ _ (by omega) (by omega)]
theorem fld_ins_other (w a n v b m : Int) (h0 : 0 ≤ w) (hw : w < 18446744073709551616) (hn : 0 ≤ n) (ha : 0 ≤ a) (h : a + n ≤ 64) (hb : 0 ≤ b) (hm : 0 ≤ m) (hd : a + n ≤ b ∨ b + m ≤ a) : fld (ins w a n v) b m = fld w b m := by
  unfold fld ins
  rw [Int.toNat_natCast, fldN_ins_other _ _ _ _ _ _ (by omega) (by omega) (by omega)]
theorem ins_full (w v : Int) (h0 : 0 ≤ w) (hw : w < 18446744073709551616) (hv0 : 0 ≤ v) (hv : v < 18446744073709551616) : ins w 0 64 v = v := by
  unfold ins
  rw [show (0 : Int).toNat = 0 from rfl, show (64 : Int).toNat = 64 from rfl, insN_full _ _ (by omega) (by omega)]
  omega

set_option maxHeartbeats 1000000 in
theorem InsertThenField_walk (x v u p q r s : Int) (w : World) (hx : 0 ≤ x) (hx2 : x < 18446744073709551616) (hv : 0 ≤ v) (hv2 : v < 18446744073709551616) (hu : 0 ≤ u) (hu2 : u < 18446744073709551616)
    (hp : 0 ≤ p) (hp2 : p ≤ 255) (hq : 0 ≤ q) (hq2 : q ≤ 255) (hr : 0 ≤ r) (hr2 : r ≤ 255) (hs : 0 ≤ s) (hs2 : s ≤ 255) :
    Calls Try.prog 5 #[.int .u64 x, .int .u64 v, .int .u64 u, .int .u8 p, .int .u8 q, .int .u8 r, .int .u8 s] w fun e w' => e = .returned (.bool true) ∧ Below w.heap.size w w' := by
  go_enter Try.func5, Try.ntmps5
  go_wp2_with fail
  refine (awake_any _).mono ?_
  rintro e w1 ⟨rfl, hb⟩
  have HB := Lib.hid hb
  clear hb
  go_wp2_with fail
  refine (Place_ex _ _ _ hp hp2 hq hq2).mono ?_
  rintro e w' ⟨a, n, rfl, hn1, ha, han, rfl⟩
  go_wp2_with fail
  refine (Place_ex _ _ _ hr hr2 hs hs2).mono ?_
  rintro e w' ⟨b, m, rfl, hm1, hb, hbm, rfl⟩
  have i1 := ins_bd x a n v ha (by omega) han hx2
  have i2 := fld_bd x a n (by omega)
  have i3 := ins_bd x 0 64 v (by omega) (by omega) (by omega) hx2
  have t1 : (fld (ins x a n v) a n != fld v 0 n) = false := by simp [fld_ins_same x a n v hx hx2 (by omega) ha han hv]
  have t2 : (ins (ins x a n v) a n (fld x a n) != x) = false := by simp [ins_back x a n v hx hx2 (by omega) ha han]
  have t3 : (ins (ins x a n v) a n u != ins x a n u) = false := by simp [ins_ins x a n v u hx hx2 (by omega) ha han]
  by_cases hd : a + n ≤ b ∨ b + m ≤ a
  · have t4 : (fld (ins x a n v) b m == fld x b m) = true := by simp [fld_ins_other x a n v b m hx hx2 (by omega) ha han hb (by omega) hd]
    by_cases hd1 : a + n ≤ b
    · clear hd
      go_wp2_with (first
        | (go_at_call 18; refine (Field_any _ _ _ _ (by omega) (by omega) (by omega) (by omega) (by omega)).mono ?_; rintro e w' ⟨rfl, rfl⟩)
        | (go_at_call 22; refine (Insert_any _ _ _ _ _ (by omega) (by omega) (by omega) (by omega) (by omega) (by omega) (by omega)).mono ?_; rintro e w' ⟨rfl, rfl⟩))
      go_ret
      exact ⟨rfl, HB.out⟩
    · have hd2 : b + m ≤ a := by omega
      clear hd
      go_wp2_with (first
        | (go_at_call 18; refine (Field_any _ _ _ _ (by omega) (by omega) (by omega) (by omega) (by omega)).mono ?_; rintro e w' ⟨rfl, rfl⟩)
        | (go_at_call 22; refine (Insert_any _ _ _ _ _ (by omega) (by omega) (by omega) (by omega) (by omega) (by omega) (by omega)).mono ?_; rintro e w' ⟨rfl, rfl⟩))
      go_ret
      exact ⟨rfl, HB.out⟩
  · have t4 : (fld (ins x 0 64 v) b m == fld v b m) = true := by simp [ins_full x v hx hx2 hv hv2]
    have hd1 : ¬ a + n ≤ b := by omega
    have hd2 : ¬ b + m ≤ a := by omega
    clear hd
    go_wp2_with (first
      | (go_at_call 18; refine (Field_any _ _ _ _ (by omega) (by omega) (by omega) (by omega) (by omega)).mono ?_; rintro e w' ⟨rfl, rfl⟩)
      | (go_at_call 22; refine (Insert_any _ _ _ _ _ (by omega) (by omega) (by omega) (by omega) (by omega) (by omega) (by omega)).mono ?_; rintro e w' ⟨rfl, rfl⟩))
    go_ret
    exact ⟨rfl, HB.out⟩
end Go.Proofs.Ytlfaincapinpfaa
