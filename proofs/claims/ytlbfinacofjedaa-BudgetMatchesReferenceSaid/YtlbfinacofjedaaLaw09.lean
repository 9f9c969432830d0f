/- Two laws of layer 9: charges in any order, and charges of a sum. -/
import Derived.Test.YtlbfinacofjedaaAwake09
namespace Go.Proofs.Ytlbfinacofjedaa
open Go.ChangeShapes Go.WideShapes Go.ChangeAt Go.RowKit
set_option linter.unusedVariables false
set_option linter.unusedSimpArgs false

theorem charge_yes {m c : Int} (h : c ≤ m) : chargeI m c = m - c ∧ chargeE m c = 0 := by unfold chargeI chargeE; rw [if_neg (by omega), if_neg (by omega)]; exact ⟨rfl, rfl⟩
theorem charge_no {m c : Int} (h : m < c) : chargeI m c = m ∧ chargeE m c = 8 := by unfold chargeI chargeE; rw [if_pos h, if_pos h]; exact ⟨rfl, rfl⟩
theorem charge_bd {m c : Int} (h : 0 ≤ m) (hc : 0 ≤ c) : 0 ≤ chargeI m c ∧ chargeI m c ≤ m := by unfold chargeI; split <;> omega
theorem start_bd (x : Int) (h : x ≤ 9223372036854775807) : 0 ≤ startI x ∧ startI x ≤ 9223372036854775807 := by unfold startI; split <;> omega

theorem Charge_is (m c r k : Int) (w : World) (hr : chargeI m c = r ∧ chargeE m c = k) (hm0 : 0 ≤ m) (hm1 : m ≤ 9223372036854775807) (hc : 0 ≤ c) :
    Calls Try.prog 8 #[.agg #[.int .i64 m], .int .i64 c] w fun e w' => e = .returned (.tuple #[.agg #[.int .i64 r], .int .i64 k]) ∧ Below w.heap.size w w' := by
  obtain ⟨rfl, rfl⟩ := hr
  exact BCharge_any m c w (by omega) hm1 hc
theorem Start_is (d x o r : Int) (w : World) (hr : startI x = r) : Calls Try.prog 12 #[.agg #[.int .i64 d, .int .i64 x, .int .i64 o]] w fun e w' => e = .returned (.agg #[.int .i64 r]) ∧ Below w.heap.size w w' := by
  subst hr
  exact BStart_any d x o w
theorem Used_is (d x o m r : Int) (w : World) (hr : startI x - m = r) (hm0 : 0 ≤ m) (hm1 : m ≤ 9223372036854775807) (hx : -9223372036854775808 ≤ x) (hx2 : x ≤ 9223372036854775807) :
    Calls Try.prog 14 #[.agg #[.int .i64 d, .int .i64 x, .int .i64 o], .agg #[.int .i64 m]] w fun e w' => e = .returned (.int .i64 r) ∧ Below w.heap.size w w' := by
  subst hr
  exact BUsed_any d x o m w hm0 hm1 hx hx2

attribute [local irreducible] chargeI chargeE startI


set_option maxHeartbeats 4000000 in
set_option maxRecDepth 100000 in
theorem Order_A1 (w : World) (p a b q x y u : Int) (p0 : 0 ≤ p) (p1 : p < 4294967296) (a0 : 0 ≤ a) (a1 : a < 4294967296) (b0 : 0 ≤ b) (b1 : b < 4294967296) (q0 : 0 ≤ q) (q1 : q < 65536)
    (x0 : 0 ≤ x) (x1 : x ≤ p) (y0 : 0 ≤ y) (y1 : y ≤ x) (u0 : 0 ≤ u) (u1 : u ≤ p)
    (HS : Hid (startI p = p)) (HS2 : Hid (startI (p + q) = p + q)) (H1 : Hid (chargeI p a = x ∧ chargeE p a = 0)) (H2 : Hid (chargeI x b = y ∧ chargeE x b = 0)) (H3 : Hid (chargeI p (a + b) = y ∧ chargeE p (a + b) = 0))
    (H4 : Hid (chargeI p b = u ∧ chargeE p b = 0)) (H5 : Hid (chargeI u a = y ∧ chargeE u a = 0)) (H6 : Hid (chargeI (p + q) a = (x + q) ∧ chargeE (p + q) a = 0)) :
    Calls Try.prog 5 #[.int .u32 p, .int .u32 a, .int .u32 b, .int .u16 q] w fun e w' => e = .returned (.bool true) ∧ Below w.heap.size w w' := by
  go_enter Try.func5, Try.ntmps5
  go_wp2_with fail
  refine (awake_any _).mono ?_
  rintro e w1 ⟨rfl, hb1⟩
  have hz1 := hb1.size
  try simp at hz1
  have B1 : Below w.heap.size w w1 := (Below.refl w.heap.size w).trans (hb1.mono (by first | omega | (simp; done) | (simp; omega)))
  clear hb1 
  go_wp2_with fail
  refine (Start_is 0 p 0 p _ HS.out).mono ?_
  rintro e w2 ⟨rfl, hb2⟩
  have hz2 := hb2.size
  try simp at hz2
  have B2 : Below w.heap.size w w2 := B1.trans (hb2.mono (by first | omega | (simp; done) | (simp; omega)))
  clear hb2 
  go_wp2_with fail
  refine (Charge_is p a x 0 _ H1.out (by omega) (by omega) (by omega)).mono ?_
  rintro e w3 ⟨rfl, hb3⟩
  have hz3 := hb3.size
  try simp at hz3
  have xm3 := blk_below (blk_new w2 #[.int .i64 p] 25) hb3 (by simp)
  have B3 : Below w.heap.size w w3 := (B2.alloc (by first | omega | (simp; done) | (simp; omega)) _).trans (hb3.mono (by first | omega | (simp; done) | (simp; omega)))
  clear hb3 
  have ym4 := (blk_alloc xm3 (by first | omega | (simp; done) | (simp; omega)) (.cells #[.int .i64 x] 25))
  go_wp2_with fail
  refine (Charge_is x b y 0 _ H2.out (by omega) (by omega) (by omega)).mono ?_
  rintro e w4 ⟨rfl, hb4⟩
  have hz4 := hb4.size
  try simp at hz4
  have xm4 := blk_below (blk_alloc xm3 (by first | omega | (simp; done) | (simp; omega)) _) hb4 (by first | omega | (simp; done) | (simp; omega))
  have xx4 := blk_below (blk_new w3 #[.int .i64 x] 25) hb4 (by simp)
  have B4 : Below w.heap.size w w4 := (B3.alloc (by first | omega | (simp; done) | (simp; omega)) _).trans (hb4.mono (by first | omega | (simp; done) | (simp; omega)))
  clear hb4 xm3 ym4
  have ym5 := (blk_alloc xm4 (by first | omega | (simp; done) | (simp; omega)) (.cells #[.int .i64 y] 25))
  have yx5 := (blk_alloc xx4 (by first | omega | (simp; done) | (simp; omega)) (.cells #[.int .i64 y] 25))
  go_wp2_with fail
  refine (Charge_is p (a + b) y 0 _ H3.out (by omega) (by omega) (by omega)).mono ?_
  rintro e w5 ⟨rfl, hb5⟩
  have hz5 := hb5.size
  try simp at hz5
  have xm5 := blk_below (blk_alloc xm4 (by first | omega | (simp; done) | (simp; omega)) _) hb5 (by first | omega | (simp; done) | (simp; omega))
  have xx5 := blk_below (blk_alloc xx4 (by first | omega | (simp; done) | (simp; omega)) _) hb5 (by first | omega | (simp; done) | (simp; omega))
  have xy5 := blk_below (blk_new w4 #[.int .i64 y] 25) hb5 (by simp)
  have B5 : Below w.heap.size w w5 := (B4.alloc (by first | omega | (simp; done) | (simp; omega)) _).trans (hb5.mono (by first | omega | (simp; done) | (simp; omega)))
  clear hb5 xm4 xx4 ym5 yx5
  have ym6 := (blk_alloc xm5 (by first | omega | (simp; done) | (simp; omega)) (.cells #[.int .i64 y] 25))
  have yx6 := (blk_alloc xx5 (by first | omega | (simp; done) | (simp; omega)) (.cells #[.int .i64 y] 25))
  have yy6 := (blk_alloc xy5 (by first | omega | (simp; done) | (simp; omega)) (.cells #[.int .i64 y] 25))
  go_wp2_with fail
  refine (Charge_is p b u 0 _ H4.out (by omega) (by omega) (by omega)).mono ?_
  rintro e w6 ⟨rfl, hb6⟩
  have hz6 := hb6.size
  try simp at hz6
  have xm6 := blk_below (blk_alloc xm5 (by first | omega | (simp; done) | (simp; omega)) _) hb6 (by first | omega | (simp; done) | (simp; omega))
  have xx6 := blk_below (blk_alloc xx5 (by first | omega | (simp; done) | (simp; omega)) _) hb6 (by first | omega | (simp; done) | (simp; omega))
  have xy6 := blk_below (blk_alloc xy5 (by first | omega | (simp; done) | (simp; omega)) _) hb6 (by first | omega | (simp; done) | (simp; omega))
  have xs6 := blk_below (blk_new w5 #[.int .i64 y] 25) hb6 (by simp)
  have B6 : Below w.heap.size w w6 := (B5.alloc (by first | omega | (simp; done) | (simp; omega)) _).trans (hb6.mono (by first | omega | (simp; done) | (simp; omega)))
  clear hb6 xm5 xx5 xy5 ym6 yx6 yy6
  have ym7 := (blk_alloc xm6 (by first | omega | (simp; done) | (simp; omega)) (.cells #[.int .i64 u] 25))
  have yx7 := (blk_alloc xx6 (by first | omega | (simp; done) | (simp; omega)) (.cells #[.int .i64 u] 25))
  have yy7 := (blk_alloc xy6 (by first | omega | (simp; done) | (simp; omega)) (.cells #[.int .i64 u] 25))
  have ys7 := (blk_alloc xs6 (by first | omega | (simp; done) | (simp; omega)) (.cells #[.int .i64 u] 25))
  go_wp2_with fail
  refine (Charge_is u a y 0 _ H5.out (by omega) (by omega) (by omega)).mono ?_
  rintro e w7 ⟨rfl, hb7⟩
  have hz7 := hb7.size
  try simp at hz7
  have xm7 := blk_below (blk_alloc xm6 (by first | omega | (simp; done) | (simp; omega)) _) hb7 (by first | omega | (simp; done) | (simp; omega))
  have xx7 := blk_below (blk_alloc xx6 (by first | omega | (simp; done) | (simp; omega)) _) hb7 (by first | omega | (simp; done) | (simp; omega))
  have xy7 := blk_below (blk_alloc xy6 (by first | omega | (simp; done) | (simp; omega)) _) hb7 (by first | omega | (simp; done) | (simp; omega))
  have xs7 := blk_below (blk_alloc xs6 (by first | omega | (simp; done) | (simp; omega)) _) hb7 (by first | omega | (simp; done) | (simp; omega))
  have xu7 := blk_below (blk_new w6 #[.int .i64 u] 25) hb7 (by simp)
  have B7 : Below w.heap.size w w7 := (B6.alloc (by first | omega | (simp; done) | (simp; omega)) _).trans (hb7.mono (by first | omega | (simp; done) | (simp; omega)))
  clear hb7 xm6 xx6 xy6 xs6 ym7 yx7 yy7 ys7
  have ym8 := (blk_alloc xm7 (by first | omega | (simp; done) | (simp; omega)) (.cells #[.int .i64 y] 25))
  have yx8 := (blk_alloc xx7 (by first | omega | (simp; done) | (simp; omega)) (.cells #[.int .i64 y] 25))
  have yy8 := (blk_alloc xy7 (by first | omega | (simp; done) | (simp; omega)) (.cells #[.int .i64 y] 25))
  have ys8 := (blk_alloc xs7 (by first | omega | (simp; done) | (simp; omega)) (.cells #[.int .i64 y] 25))
  have yu8 := (blk_alloc xu7 (by first | omega | (simp; done) | (simp; omega)) (.cells #[.int .i64 y] 25))
  go_wp2_with fail
  refine (Start_is 0 (p + q) 0 (p + q) _ HS2.out).mono ?_
  rintro e w8 ⟨rfl, hb8⟩
  have hz8 := hb8.size
  try simp at hz8
  have xm8 := blk_below (blk_alloc xm7 (by first | omega | (simp; done) | (simp; omega)) _) hb8 (by first | omega | (simp; done) | (simp; omega))
  have xx8 := blk_below (blk_alloc xx7 (by first | omega | (simp; done) | (simp; omega)) _) hb8 (by first | omega | (simp; done) | (simp; omega))
  have xy8 := blk_below (blk_alloc xy7 (by first | omega | (simp; done) | (simp; omega)) _) hb8 (by first | omega | (simp; done) | (simp; omega))
  have xs8 := blk_below (blk_alloc xs7 (by first | omega | (simp; done) | (simp; omega)) _) hb8 (by first | omega | (simp; done) | (simp; omega))
  have xu8 := blk_below (blk_alloc xu7 (by first | omega | (simp; done) | (simp; omega)) _) hb8 (by first | omega | (simp; done) | (simp; omega))
  have xv8 := blk_below (blk_new w7 #[.int .i64 y] 25) hb8 (by simp)
  have B8 : Below w.heap.size w w8 := (B7.alloc (by first | omega | (simp; done) | (simp; omega)) _).trans (hb8.mono (by first | omega | (simp; done) | (simp; omega)))
  clear hb8 xm7 xx7 xy7 xs7 xu7 ym8 yx8 yy8 ys8 yu8
  go_wp2_with fail
  refine (Charge_is (p + q) a (x + q) 0 _ H6.out (by omega) (by omega) (by omega)).mono ?_
  rintro e w9 ⟨rfl, hb9⟩
  have hz9 := hb9.size
  try simp at hz9
  have xm9 := blk_below xm8 hb9 (by first | omega | (simp; done) | (simp; omega))
  have xx9 := blk_below xx8 hb9 (by first | omega | (simp; done) | (simp; omega))
  have xy9 := blk_below xy8 hb9 (by first | omega | (simp; done) | (simp; omega))
  have xs9 := blk_below xs8 hb9 (by first | omega | (simp; done) | (simp; omega))
  have xu9 := blk_below xu8 hb9 (by first | omega | (simp; done) | (simp; omega))
  have xv9 := blk_below xv8 hb9 (by first | omega | (simp; done) | (simp; omega))
  have B9 : Below w.heap.size w w9 := B8.trans (hb9.mono (by first | omega | (simp; done) | (simp; omega)))
  clear hb9 xm8 xx8 xy8 xs8 xu8 xv8
  have zm := (blk_alloc xm9 (by first | omega | (simp; done) | (simp; omega)) (.cells #[.int .i64 (x + q)] 25))
  have zx := (blk_alloc xx9 (by first | omega | (simp; done) | (simp; omega)) (.cells #[.int .i64 (x + q)] 25))
  have zy := (blk_alloc xy9 (by first | omega | (simp; done) | (simp; omega)) (.cells #[.int .i64 (x + q)] 25))
  have zs := (blk_alloc xs9 (by first | omega | (simp; done) | (simp; omega)) (.cells #[.int .i64 (x + q)] 25))
  have zu := (blk_alloc xu9 (by first | omega | (simp; done) | (simp; omega)) (.cells #[.int .i64 (x + q)] 25))
  have zv := (blk_alloc xv9 (by first | omega | (simp; done) | (simp; omega)) (.cells #[.int .i64 (x + q)] 25))
  have zz := blk_new w9 #[.int .i64 (x + q)] 25
  go_wp2
  go_ret
  exact ⟨rfl, (B9.alloc (by first | omega | (simp; done) | (simp; omega)) _)⟩

set_option maxHeartbeats 4000000 in
set_option maxRecDepth 100000 in
theorem Order_A2 (w : World) (p a b q x y u f h i v : Int) (p0 : 0 ≤ p) (p1 : p < 4294967296) (a0 : 0 ≤ a) (a1 : a < 4294967296) (b0 : 0 ≤ b) (b1 : b < 4294967296) (q0 : 0 ≤ q) (q1 : q < 65536)
    (x0 : 0 ≤ x) (x1 : x ≤ p) (y0 : 0 ≤ y) (y1 : y ≤ x) (u0 : 0 ≤ u) (u1 : u ≤ p) (v0 : 0 ≤ v) (v1 : v ≤ u)
    (HS : Hid (startI p = p)) (HS2 : Hid (startI (p + q) = p + q)) (H1 : Hid (chargeI p a = x ∧ chargeE p a = 0)) (H2 : Hid (chargeI x b = y ∧ chargeE x b = f)) (H3 : Hid (chargeI p (a + b) = p ∧ chargeE p (a + b) = 8))
    (H4 : Hid (chargeI p b = u ∧ chargeE p b = h)) (H5 : Hid (chargeI u a = v ∧ chargeE u a = i)) (H6 : Hid (chargeI (p + q) a = (x + q) ∧ chargeE (p + q) a = 0)) (tf : (f == 0) = false) :
    Calls Try.prog 5 #[.int .u32 p, .int .u32 a, .int .u32 b, .int .u16 q] w fun e w' => e = .returned (.bool true) ∧ Below w.heap.size w w' := by
  go_enter Try.func5, Try.ntmps5
  go_wp2_with fail
  refine (awake_any _).mono ?_
  rintro e w1 ⟨rfl, hb1⟩
  have hz1 := hb1.size
  try simp at hz1
  have B1 : Below w.heap.size w w1 := (Below.refl w.heap.size w).trans (hb1.mono (by first | omega | (simp; done) | (simp; omega)))
  clear hb1 
  go_wp2_with fail
  refine (Start_is 0 p 0 p _ HS.out).mono ?_
  rintro e w2 ⟨rfl, hb2⟩
  have hz2 := hb2.size
  try simp at hz2
  have B2 : Below w.heap.size w w2 := B1.trans (hb2.mono (by first | omega | (simp; done) | (simp; omega)))
  clear hb2 
  go_wp2_with fail
  refine (Charge_is p a x 0 _ H1.out (by omega) (by omega) (by omega)).mono ?_
  rintro e w3 ⟨rfl, hb3⟩
  have hz3 := hb3.size
  try simp at hz3
  have xm3 := blk_below (blk_new w2 #[.int .i64 p] 25) hb3 (by simp)
  have B3 : Below w.heap.size w w3 := (B2.alloc (by first | omega | (simp; done) | (simp; omega)) _).trans (hb3.mono (by first | omega | (simp; done) | (simp; omega)))
  clear hb3 
  have ym4 := (blk_alloc xm3 (by first | omega | (simp; done) | (simp; omega)) (.cells #[.int .i64 x] 25))
  go_wp2_with fail
  refine (Charge_is x b y f _ H2.out (by omega) (by omega) (by omega)).mono ?_
  rintro e w4 ⟨rfl, hb4⟩
  have hz4 := hb4.size
  try simp at hz4
  have xm4 := blk_below (blk_alloc xm3 (by first | omega | (simp; done) | (simp; omega)) _) hb4 (by first | omega | (simp; done) | (simp; omega))
  have xx4 := blk_below (blk_new w3 #[.int .i64 x] 25) hb4 (by simp)
  have B4 : Below w.heap.size w w4 := (B3.alloc (by first | omega | (simp; done) | (simp; omega)) _).trans (hb4.mono (by first | omega | (simp; done) | (simp; omega)))
  clear hb4 xm3 ym4
  have ym5 := (blk_alloc xm4 (by first | omega | (simp; done) | (simp; omega)) (.cells #[.int .i64 y] 25))
  have yx5 := (blk_alloc xx4 (by first | omega | (simp; done) | (simp; omega)) (.cells #[.int .i64 y] 25))
  go_wp2_with fail
  refine (Charge_is p (a + b) p 8 _ H3.out (by omega) (by omega) (by omega)).mono ?_
  rintro e w5 ⟨rfl, hb5⟩
  have hz5 := hb5.size
  try simp at hz5
  have xm5 := blk_below (blk_alloc xm4 (by first | omega | (simp; done) | (simp; omega)) _) hb5 (by first | omega | (simp; done) | (simp; omega))
  have xx5 := blk_below (blk_alloc xx4 (by first | omega | (simp; done) | (simp; omega)) _) hb5 (by first | omega | (simp; done) | (simp; omega))
  have xy5 := blk_below (blk_new w4 #[.int .i64 y] 25) hb5 (by simp)
  have B5 : Below w.heap.size w w5 := (B4.alloc (by first | omega | (simp; done) | (simp; omega)) _).trans (hb5.mono (by first | omega | (simp; done) | (simp; omega)))
  clear hb5 xm4 xx4 ym5 yx5
  have ym6 := (blk_alloc xm5 (by first | omega | (simp; done) | (simp; omega)) (.cells #[.int .i64 p] 25))
  have yx6 := (blk_alloc xx5 (by first | omega | (simp; done) | (simp; omega)) (.cells #[.int .i64 p] 25))
  have yy6 := (blk_alloc xy5 (by first | omega | (simp; done) | (simp; omega)) (.cells #[.int .i64 p] 25))
  go_wp2_with fail
  refine (Charge_is p b u h _ H4.out (by omega) (by omega) (by omega)).mono ?_
  rintro e w6 ⟨rfl, hb6⟩
  have hz6 := hb6.size
  try simp at hz6
  have xm6 := blk_below (blk_alloc xm5 (by first | omega | (simp; done) | (simp; omega)) _) hb6 (by first | omega | (simp; done) | (simp; omega))
  have xx6 := blk_below (blk_alloc xx5 (by first | omega | (simp; done) | (simp; omega)) _) hb6 (by first | omega | (simp; done) | (simp; omega))
  have xy6 := blk_below (blk_alloc xy5 (by first | omega | (simp; done) | (simp; omega)) _) hb6 (by first | omega | (simp; done) | (simp; omega))
  have xs6 := blk_below (blk_new w5 #[.int .i64 p] 25) hb6 (by simp)
  have B6 : Below w.heap.size w w6 := (B5.alloc (by first | omega | (simp; done) | (simp; omega)) _).trans (hb6.mono (by first | omega | (simp; done) | (simp; omega)))
  clear hb6 xm5 xx5 xy5 ym6 yx6 yy6
  have ym7 := (blk_alloc xm6 (by first | omega | (simp; done) | (simp; omega)) (.cells #[.int .i64 u] 25))
  have yx7 := (blk_alloc xx6 (by first | omega | (simp; done) | (simp; omega)) (.cells #[.int .i64 u] 25))
  have yy7 := (blk_alloc xy6 (by first | omega | (simp; done) | (simp; omega)) (.cells #[.int .i64 u] 25))
  have ys7 := (blk_alloc xs6 (by first | omega | (simp; done) | (simp; omega)) (.cells #[.int .i64 u] 25))
  go_wp2_with fail
  refine (Charge_is u a v i _ H5.out (by omega) (by omega) (by omega)).mono ?_
  rintro e w7 ⟨rfl, hb7⟩
  have hz7 := hb7.size
  try simp at hz7
  have xm7 := blk_below (blk_alloc xm6 (by first | omega | (simp; done) | (simp; omega)) _) hb7 (by first | omega | (simp; done) | (simp; omega))
  have xx7 := blk_below (blk_alloc xx6 (by first | omega | (simp; done) | (simp; omega)) _) hb7 (by first | omega | (simp; done) | (simp; omega))
  have xy7 := blk_below (blk_alloc xy6 (by first | omega | (simp; done) | (simp; omega)) _) hb7 (by first | omega | (simp; done) | (simp; omega))
  have xs7 := blk_below (blk_alloc xs6 (by first | omega | (simp; done) | (simp; omega)) _) hb7 (by first | omega | (simp; done) | (simp; omega))
  have xu7 := blk_below (blk_new w6 #[.int .i64 u] 25) hb7 (by simp)
  have B7 : Below w.heap.size w w7 := (B6.alloc (by first | omega | (simp; done) | (simp; omega)) _).trans (hb7.mono (by first | omega | (simp; done) | (simp; omega)))
  clear hb7 xm6 xx6 xy6 xs6 ym7 yx7 yy7 ys7
  have ym8 := (blk_alloc xm7 (by first | omega | (simp; done) | (simp; omega)) (.cells #[.int .i64 v] 25))
  have yx8 := (blk_alloc xx7 (by first | omega | (simp; done) | (simp; omega)) (.cells #[.int .i64 v] 25))
  have yy8 := (blk_alloc xy7 (by first | omega | (simp; done) | (simp; omega)) (.cells #[.int .i64 v] 25))
  have ys8 := (blk_alloc xs7 (by first | omega | (simp; done) | (simp; omega)) (.cells #[.int .i64 v] 25))
  have yu8 := (blk_alloc xu7 (by first | omega | (simp; done) | (simp; omega)) (.cells #[.int .i64 v] 25))
  go_wp2_with fail
  refine (Start_is 0 (p + q) 0 (p + q) _ HS2.out).mono ?_
  rintro e w8 ⟨rfl, hb8⟩
  have hz8 := hb8.size
  try simp at hz8
  have xm8 := blk_below (blk_alloc xm7 (by first | omega | (simp; done) | (simp; omega)) _) hb8 (by first | omega | (simp; done) | (simp; omega))
  have xx8 := blk_below (blk_alloc xx7 (by first | omega | (simp; done) | (simp; omega)) _) hb8 (by first | omega | (simp; done) | (simp; omega))
  have xy8 := blk_below (blk_alloc xy7 (by first | omega | (simp; done) | (simp; omega)) _) hb8 (by first | omega | (simp; done) | (simp; omega))
  have xs8 := blk_below (blk_alloc xs7 (by first | omega | (simp; done) | (simp; omega)) _) hb8 (by first | omega | (simp; done) | (simp; omega))
  have xu8 := blk_below (blk_alloc xu7 (by first | omega | (simp; done) | (simp; omega)) _) hb8 (by first | omega | (simp; done) | (simp; omega))
  have xv8 := blk_below (blk_new w7 #[.int .i64 v] 25) hb8 (by simp)
  have B8 : Below w.heap.size w w8 := (B7.alloc (by first | omega | (simp; done) | (simp; omega)) _).trans (hb8.mono (by first | omega | (simp; done) | (simp; omega)))
  clear hb8 xm7 xx7 xy7 xs7 xu7 ym8 yx8 yy8 ys8 yu8
  go_wp2_with fail
  refine (Charge_is (p + q) a (x + q) 0 _ H6.out (by omega) (by omega) (by omega)).mono ?_
  rintro e w9 ⟨rfl, hb9⟩
  have hz9 := hb9.size
  try simp at hz9
  have xm9 := blk_below xm8 hb9 (by first | omega | (simp; done) | (simp; omega))
  have xx9 := blk_below xx8 hb9 (by first | omega | (simp; done) | (simp; omega))
  have xy9 := blk_below xy8 hb9 (by first | omega | (simp; done) | (simp; omega))
  have xs9 := blk_below xs8 hb9 (by first | omega | (simp; done) | (simp; omega))
  have xu9 := blk_below xu8 hb9 (by first | omega | (simp; done) | (simp; omega))
  have xv9 := blk_below xv8 hb9 (by first | omega | (simp; done) | (simp; omega))
  have B9 : Below w.heap.size w w9 := B8.trans (hb9.mono (by first | omega | (simp; done) | (simp; omega)))
  clear hb9 xm8 xx8 xy8 xs8 xu8 xv8
  have zm := (blk_alloc xm9 (by first | omega | (simp; done) | (simp; omega)) (.cells #[.int .i64 (x + q)] 25))
  have zx := (blk_alloc xx9 (by first | omega | (simp; done) | (simp; omega)) (.cells #[.int .i64 (x + q)] 25))
  have zy := (blk_alloc xy9 (by first | omega | (simp; done) | (simp; omega)) (.cells #[.int .i64 (x + q)] 25))
  have zs := (blk_alloc xs9 (by first | omega | (simp; done) | (simp; omega)) (.cells #[.int .i64 (x + q)] 25))
  have zu := (blk_alloc xu9 (by first | omega | (simp; done) | (simp; omega)) (.cells #[.int .i64 (x + q)] 25))
  have zv := (blk_alloc xv9 (by first | omega | (simp; done) | (simp; omega)) (.cells #[.int .i64 (x + q)] 25))
  have zz := blk_new w9 #[.int .i64 (x + q)] 25
  go_wp2
  go_ret
  exact ⟨rfl, (B9.alloc (by first | omega | (simp; done) | (simp; omega)) _)⟩

set_option maxHeartbeats 4000000 in
set_option maxRecDepth 100000 in
theorem Order_B (w : World) (p a b q x y u f h i j v z : Int) (p0 : 0 ≤ p) (p1 : p < 4294967296) (a0 : 0 ≤ a) (a1 : a < 4294967296) (b0 : 0 ≤ b) (b1 : b < 4294967296) (q0 : 0 ≤ q) (q1 : q < 65536)
    (x0 : 0 ≤ x) (x1 : x ≤ p) (y0 : 0 ≤ y) (y1 : y ≤ x) (u0 : 0 ≤ u) (u1 : u ≤ p) (v0 : 0 ≤ v) (v1 : v ≤ u)
    (HS : Hid (startI p = p)) (HS2 : Hid (startI (p + q) = p + q)) (H1 : Hid (chargeI p a = x ∧ chargeE p a = 8)) (H2 : Hid (chargeI x b = y ∧ chargeE x b = f)) (H3 : Hid (chargeI p (a + b) = p ∧ chargeE p (a + b) = 8))
    (H4 : Hid (chargeI p b = u ∧ chargeE p b = h)) (H5 : Hid (chargeI u a = v ∧ chargeE u a = i)) (H6 : Hid (chargeI (p + q) a = z ∧ chargeE (p + q) a = j)) :
    Calls Try.prog 5 #[.int .u32 p, .int .u32 a, .int .u32 b, .int .u16 q] w fun e w' => e = .returned (.bool true) ∧ Below w.heap.size w w' := by
  go_enter Try.func5, Try.ntmps5
  go_wp2_with fail
  refine (awake_any _).mono ?_
  rintro e w1 ⟨rfl, hb1⟩
  have hz1 := hb1.size
  try simp at hz1
  have B1 : Below w.heap.size w w1 := (Below.refl w.heap.size w).trans (hb1.mono (by first | omega | (simp; done) | (simp; omega)))
  clear hb1 
  go_wp2_with fail
  refine (Start_is 0 p 0 p _ HS.out).mono ?_
  rintro e w2 ⟨rfl, hb2⟩
  have hz2 := hb2.size
  try simp at hz2
  have B2 : Below w.heap.size w w2 := B1.trans (hb2.mono (by first | omega | (simp; done) | (simp; omega)))
  clear hb2 
  go_wp2_with fail
  refine (Charge_is p a x 8 _ H1.out (by omega) (by omega) (by omega)).mono ?_
  rintro e w3 ⟨rfl, hb3⟩
  have hz3 := hb3.size
  try simp at hz3
  have xm3 := blk_below (blk_new w2 #[.int .i64 p] 25) hb3 (by simp)
  have B3 : Below w.heap.size w w3 := (B2.alloc (by first | omega | (simp; done) | (simp; omega)) _).trans (hb3.mono (by first | omega | (simp; done) | (simp; omega)))
  clear hb3 
  have ym4 := (blk_alloc xm3 (by first | omega | (simp; done) | (simp; omega)) (.cells #[.int .i64 x] 25))
  go_wp2_with fail
  refine (Charge_is x b y f _ H2.out (by omega) (by omega) (by omega)).mono ?_
  rintro e w4 ⟨rfl, hb4⟩
  have hz4 := hb4.size
  try simp at hz4
  have xm4 := blk_below (blk_alloc xm3 (by first | omega | (simp; done) | (simp; omega)) _) hb4 (by first | omega | (simp; done) | (simp; omega))
  have xx4 := blk_below (blk_new w3 #[.int .i64 x] 25) hb4 (by simp)
  have B4 : Below w.heap.size w w4 := (B3.alloc (by first | omega | (simp; done) | (simp; omega)) _).trans (hb4.mono (by first | omega | (simp; done) | (simp; omega)))
  clear hb4 xm3 ym4
  have ym5 := (blk_alloc xm4 (by first | omega | (simp; done) | (simp; omega)) (.cells #[.int .i64 y] 25))
  have yx5 := (blk_alloc xx4 (by first | omega | (simp; done) | (simp; omega)) (.cells #[.int .i64 y] 25))
  go_wp2_with fail
  refine (Charge_is p (a + b) p 8 _ H3.out (by omega) (by omega) (by omega)).mono ?_
  rintro e w5 ⟨rfl, hb5⟩
  have hz5 := hb5.size
  try simp at hz5
  have xm5 := blk_below (blk_alloc xm4 (by first | omega | (simp; done) | (simp; omega)) _) hb5 (by first | omega | (simp; done) | (simp; omega))
  have xx5 := blk_below (blk_alloc xx4 (by first | omega | (simp; done) | (simp; omega)) _) hb5 (by first | omega | (simp; done) | (simp; omega))
  have xy5 := blk_below (blk_new w4 #[.int .i64 y] 25) hb5 (by simp)
  have B5 : Below w.heap.size w w5 := (B4.alloc (by first | omega | (simp; done) | (simp; omega)) _).trans (hb5.mono (by first | omega | (simp; done) | (simp; omega)))
  clear hb5 xm4 xx4 ym5 yx5
  have ym6 := (blk_alloc xm5 (by first | omega | (simp; done) | (simp; omega)) (.cells #[.int .i64 p] 25))
  have yx6 := (blk_alloc xx5 (by first | omega | (simp; done) | (simp; omega)) (.cells #[.int .i64 p] 25))
  have yy6 := (blk_alloc xy5 (by first | omega | (simp; done) | (simp; omega)) (.cells #[.int .i64 p] 25))
  go_wp2_with fail
  refine (Charge_is p b u h _ H4.out (by omega) (by omega) (by omega)).mono ?_
  rintro e w6 ⟨rfl, hb6⟩
  have hz6 := hb6.size
  try simp at hz6
  have xm6 := blk_below (blk_alloc xm5 (by first | omega | (simp; done) | (simp; omega)) _) hb6 (by first | omega | (simp; done) | (simp; omega))
  have xx6 := blk_below (blk_alloc xx5 (by first | omega | (simp; done) | (simp; omega)) _) hb6 (by first | omega | (simp; done) | (simp; omega))
  have xy6 := blk_below (blk_alloc xy5 (by first | omega | (simp; done) | (simp; omega)) _) hb6 (by first | omega | (simp; done) | (simp; omega))
  have xs6 := blk_below (blk_new w5 #[.int .i64 p] 25) hb6 (by simp)
  have B6 : Below w.heap.size w w6 := (B5.alloc (by first | omega | (simp; done) | (simp; omega)) _).trans (hb6.mono (by first | omega | (simp; done) | (simp; omega)))
  clear hb6 xm5 xx5 xy5 ym6 yx6 yy6
  have ym7 := (blk_alloc xm6 (by first | omega | (simp; done) | (simp; omega)) (.cells #[.int .i64 u] 25))
  have yx7 := (blk_alloc xx6 (by first | omega | (simp; done) | (simp; omega)) (.cells #[.int .i64 u] 25))
  have yy7 := (blk_alloc xy6 (by first | omega | (simp; done) | (simp; omega)) (.cells #[.int .i64 u] 25))
  have ys7 := (blk_alloc xs6 (by first | omega | (simp; done) | (simp; omega)) (.cells #[.int .i64 u] 25))
  go_wp2_with fail
  refine (Charge_is u a v i _ H5.out (by omega) (by omega) (by omega)).mono ?_
  rintro e w7 ⟨rfl, hb7⟩
  have hz7 := hb7.size
  try simp at hz7
  have xm7 := blk_below (blk_alloc xm6 (by first | omega | (simp; done) | (simp; omega)) _) hb7 (by first | omega | (simp; done) | (simp; omega))
  have xx7 := blk_below (blk_alloc xx6 (by first | omega | (simp; done) | (simp; omega)) _) hb7 (by first | omega | (simp; done) | (simp; omega))
  have xy7 := blk_below (blk_alloc xy6 (by first | omega | (simp; done) | (simp; omega)) _) hb7 (by first | omega | (simp; done) | (simp; omega))
  have xs7 := blk_below (blk_alloc xs6 (by first | omega | (simp; done) | (simp; omega)) _) hb7 (by first | omega | (simp; done) | (simp; omega))
  have xu7 := blk_below (blk_new w6 #[.int .i64 u] 25) hb7 (by simp)
  have B7 : Below w.heap.size w w7 := (B6.alloc (by first | omega | (simp; done) | (simp; omega)) _).trans (hb7.mono (by first | omega | (simp; done) | (simp; omega)))
  clear hb7 xm6 xx6 xy6 xs6 ym7 yx7 yy7 ys7
  have ym8 := (blk_alloc xm7 (by first | omega | (simp; done) | (simp; omega)) (.cells #[.int .i64 v] 25))
  have yx8 := (blk_alloc xx7 (by first | omega | (simp; done) | (simp; omega)) (.cells #[.int .i64 v] 25))
  have yy8 := (blk_alloc xy7 (by first | omega | (simp; done) | (simp; omega)) (.cells #[.int .i64 v] 25))
  have ys8 := (blk_alloc xs7 (by first | omega | (simp; done) | (simp; omega)) (.cells #[.int .i64 v] 25))
  have yu8 := (blk_alloc xu7 (by first | omega | (simp; done) | (simp; omega)) (.cells #[.int .i64 v] 25))
  go_wp2_with fail
  refine (Start_is 0 (p + q) 0 (p + q) _ HS2.out).mono ?_
  rintro e w8 ⟨rfl, hb8⟩
  have hz8 := hb8.size
  try simp at hz8
  have xm8 := blk_below (blk_alloc xm7 (by first | omega | (simp; done) | (simp; omega)) _) hb8 (by first | omega | (simp; done) | (simp; omega))
  have xx8 := blk_below (blk_alloc xx7 (by first | omega | (simp; done) | (simp; omega)) _) hb8 (by first | omega | (simp; done) | (simp; omega))
  have xy8 := blk_below (blk_alloc xy7 (by first | omega | (simp; done) | (simp; omega)) _) hb8 (by first | omega | (simp; done) | (simp; omega))
  have xs8 := blk_below (blk_alloc xs7 (by first | omega | (simp; done) | (simp; omega)) _) hb8 (by first | omega | (simp; done) | (simp; omega))
  have xu8 := blk_below (blk_alloc xu7 (by first | omega | (simp; done) | (simp; omega)) _) hb8 (by first | omega | (simp; done) | (simp; omega))
  have xv8 := blk_below (blk_new w7 #[.int .i64 v] 25) hb8 (by simp)
  have B8 : Below w.heap.size w w8 := (B7.alloc (by first | omega | (simp; done) | (simp; omega)) _).trans (hb8.mono (by first | omega | (simp; done) | (simp; omega)))
  clear hb8 xm7 xx7 xy7 xs7 xu7 ym8 yx8 yy8 ys8 yu8
  go_wp2_with fail
  refine (Charge_is (p + q) a z j _ H6.out (by omega) (by omega) (by omega)).mono ?_
  rintro e w9 ⟨rfl, hb9⟩
  have hz9 := hb9.size
  try simp at hz9
  have xm9 := blk_below xm8 hb9 (by first | omega | (simp; done) | (simp; omega))
  have xx9 := blk_below xx8 hb9 (by first | omega | (simp; done) | (simp; omega))
  have xy9 := blk_below xy8 hb9 (by first | omega | (simp; done) | (simp; omega))
  have xs9 := blk_below xs8 hb9 (by first | omega | (simp; done) | (simp; omega))
  have xu9 := blk_below xu8 hb9 (by first | omega | (simp; done) | (simp; omega))
  have xv9 := blk_below xv8 hb9 (by first | omega | (simp; done) | (simp; omega))
  have B9 : Below w.heap.size w w9 := B8.trans (hb9.mono (by first | omega | (simp; done) | (simp; omega)))
  clear hb9 xm8 xx8 xy8 xs8 xu8 xv8
  have zm := (blk_alloc xm9 (by first | omega | (simp; done) | (simp; omega)) (.cells #[.int .i64 z] 25))
  have zx := (blk_alloc xx9 (by first | omega | (simp; done) | (simp; omega)) (.cells #[.int .i64 z] 25))
  have zy := (blk_alloc xy9 (by first | omega | (simp; done) | (simp; omega)) (.cells #[.int .i64 z] 25))
  have zs := (blk_alloc xs9 (by first | omega | (simp; done) | (simp; omega)) (.cells #[.int .i64 z] 25))
  have zu := (blk_alloc xu9 (by first | omega | (simp; done) | (simp; omega)) (.cells #[.int .i64 z] 25))
  have zv := (blk_alloc xv9 (by first | omega | (simp; done) | (simp; omega)) (.cells #[.int .i64 z] 25))
  have zz := blk_new w9 #[.int .i64 z] 25
  go_wp2
  go_ret
  exact ⟨rfl, (B9.alloc (by first | omega | (simp; done) | (simp; omega)) _)⟩

theorem Order9_walk (w : World) (p a b q : Int) (p0 : 0 ≤ p) (p1 : p < 4294967296) (a0 : 0 ≤ a) (a1 : a < 4294967296) (b0 : 0 ≤ b) (b1 : b < 4294967296) (q0 : 0 ≤ q) (q1 : q < 65536) :
    Calls Try.prog 5 #[.int .u32 p, .int .u32 a, .int .u32 b, .int .u16 q] w fun e w' => e = .returned (.bool true) ∧ Below w.heap.size w w' := by
  have hs : ∀ r, 0 ≤ r → startI r = r := fun r h => by unfold startI; rw [if_neg (by omega)]
  have HS := Lib.hid (hs p p0)
  have HS2 := Lib.hid (hs (p + q) (by omega))
  have bu := charge_bd p0 b0
  have bv := charge_bd bu.1 a0
  have bz := charge_bd (m := p + q) (by omega) a0
  by_cases h1 : a ≤ p
  · have c1 := charge_yes h1
    have c6 := charge_yes (m := p + q) (c := a) (by omega)
    by_cases h2 : b ≤ p - a
    · have c2 := charge_yes h2
      have c3 := charge_yes (m := p) (c := a + b) (by omega)
      have c4 := charge_yes (m := p) (c := b) (by omega)
      have c5 := charge_yes (m := p - b) (c := a) (by omega)
      exact Order_A1 w p a b q (p - a) (p - a - b) (p - b) p0 p1 a0 a1 b0 b1 q0 q1 (by omega) (by omega) (by omega) (by omega) (by omega) (by omega) HS HS2 (Lib.hid c1) (Lib.hid c2)
        (Lib.hid ⟨by rw [c3.1]; omega, c3.2⟩) (Lib.hid c4) (Lib.hid ⟨by rw [c5.1]; omega, c5.2⟩) (Lib.hid ⟨by rw [c6.1]; omega, c6.2⟩)
    · have c2 := charge_no (m := p - a) (c := b) (by omega)
      have c3 := charge_no (m := p) (c := a + b) (by omega)
      exact Order_A2 w p a b q (p - a) (p - a) (chargeI p b) 8 (chargeE p b) (chargeE (chargeI p b) a) (chargeI (chargeI p b) a) p0 p1 a0 a1 b0 b1 q0 q1 (by omega) (by omega) (by omega) (by omega) bu.1 bu.2 bv.1 bv.2 HS HS2 (Lib.hid c1) (Lib.hid c2)
        (Lib.hid c3) (Lib.hid ⟨rfl, rfl⟩) (Lib.hid ⟨rfl, rfl⟩) (Lib.hid ⟨by rw [c6.1]; omega, c6.2⟩) rfl
  · have c1 := charge_no (m := p) (c := a) (by omega)
    have c3 := charge_no (m := p) (c := a + b) (by omega)
    exact Order_B w p a b q p (chargeI p b) (chargeI p b) (chargeE p b) (chargeE p b) (chargeE (chargeI p b) a) (chargeE (p + q) a) (chargeI (chargeI p b) a) (chargeI (p + q) a) p0 p1 a0 a1 b0 b1 q0 q1 (by omega) (by omega) bu.1 bu.2 bu.1 bu.2 bv.1 bv.2 HS HS2 (Lib.hid c1) (Lib.hid ⟨rfl, rfl⟩)
      (Lib.hid c3) (Lib.hid ⟨rfl, rfl⟩) (Lib.hid ⟨rfl, rfl⟩) (Lib.hid ⟨rfl, rfl⟩)

set_option maxHeartbeats 4000000 in
set_option maxRecDepth 100000 in
theorem Splits_A1 (w : World) (d lw o p a b x y : Int) (l0 : -9223372036854775808 ≤ lw) (l1 : lw ≤ 9223372036854775807) (p0 : 0 ≤ p) (p1 : p ≤ 9223372036854775807) (a0 : 0 ≤ a) (a1 : a < 4294967296) (b0 : 0 ≤ b) (b1 : b < 4294967296)
    (x0 : 0 ≤ x) (x1 : x ≤ p) (y0 : 0 ≤ y) (y1 : y ≤ x)
    (HS : Hid (startI lw = p)) (H1 : Hid (chargeI p a = x ∧ chargeE p a = 0)) (H2 : Hid (chargeI x b = y ∧ chargeE x b = 0)) (H3 : Hid (chargeI p (a + b) = y ∧ chargeE p (a + b) = 0)) (HU : Hid (startI lw - y = a + b)) :
    Calls Try.prog 6 #[.agg #[.int .i64 d, .int .i64 lw, .int .i64 o], .int .u32 a, .int .u32 b] w fun e w' => e = .returned (.bool true) ∧ Below w.heap.size w w' := by
  go_enter Try.func6, Try.ntmps6
  go_wp2_with fail
  refine (awake_any _).mono ?_
  rintro e w1 ⟨rfl, hb1⟩
  have hz1 := hb1.size
  try simp at hz1
  have xl1 := blk_below (blk_new w #[.int .i64 d, .int .i64 lw, .int .i64 o] 23) hb1 (by simp)
  have B1 : Below w.heap.size w w1 := ((Below.refl w.heap.size w).alloc (by first | omega | (simp; done) | (simp; omega)) _).trans (hb1.mono (by first | omega | (simp; done) | (simp; omega)))
  clear hb1 
  go_wp2_with fail
  refine (Start_is d lw o p _ HS.out).mono ?_
  rintro e w2 ⟨rfl, hb2⟩
  have hz2 := hb2.size
  try simp at hz2
  have xl2 := blk_below xl1 hb2 (by first | omega | (simp; done) | (simp; omega))
  have B2 : Below w.heap.size w w2 := B1.trans (hb2.mono (by first | omega | (simp; done) | (simp; omega)))
  clear hb2 xl1
  have yl3 := (blk_alloc xl2 (by first | omega | (simp; done) | (simp; omega)) (.cells #[.int .i64 p] 25))
  go_wp2_with fail
  refine (Charge_is p a x 0 _ H1.out (by omega) (by omega) (by omega)).mono ?_
  rintro e w3 ⟨rfl, hb3⟩
  have hz3 := hb3.size
  try simp at hz3
  have xl3 := blk_below (blk_alloc xl2 (by first | omega | (simp; done) | (simp; omega)) _) hb3 (by first | omega | (simp; done) | (simp; omega))
  have xm3 := blk_below (blk_new w2 #[.int .i64 p] 25) hb3 (by simp)
  have B3 : Below w.heap.size w w3 := (B2.alloc (by first | omega | (simp; done) | (simp; omega)) _).trans (hb3.mono (by first | omega | (simp; done) | (simp; omega)))
  clear hb3 xl2 yl3
  have yl4 := (blk_alloc xl3 (by first | omega | (simp; done) | (simp; omega)) (.cells #[.int .i64 x] 25))
  have ym4 := (blk_alloc xm3 (by first | omega | (simp; done) | (simp; omega)) (.cells #[.int .i64 x] 25))
  go_wp2_with fail
  refine (Charge_is x b y 0 _ H2.out (by omega) (by omega) (by omega)).mono ?_
  rintro e w4 ⟨rfl, hb4⟩
  have hz4 := hb4.size
  try simp at hz4
  have xl4 := blk_below (blk_alloc xl3 (by first | omega | (simp; done) | (simp; omega)) _) hb4 (by first | omega | (simp; done) | (simp; omega))
  have xm4 := blk_below (blk_alloc xm3 (by first | omega | (simp; done) | (simp; omega)) _) hb4 (by first | omega | (simp; done) | (simp; omega))
  have xx4 := blk_below (blk_new w3 #[.int .i64 x] 25) hb4 (by simp)
  have B4 : Below w.heap.size w w4 := (B3.alloc (by first | omega | (simp; done) | (simp; omega)) _).trans (hb4.mono (by first | omega | (simp; done) | (simp; omega)))
  clear hb4 xl3 xm3 yl4 ym4
  have yl5 := (blk_alloc xl4 (by first | omega | (simp; done) | (simp; omega)) (.cells #[.int .i64 y] 25))
  have ym5 := (blk_alloc xm4 (by first | omega | (simp; done) | (simp; omega)) (.cells #[.int .i64 y] 25))
  have yx5 := (blk_alloc xx4 (by first | omega | (simp; done) | (simp; omega)) (.cells #[.int .i64 y] 25))
  go_wp2_with fail
  refine (Charge_is p (a + b) y 0 _ H3.out (by omega) (by omega) (by omega)).mono ?_
  rintro e w5 ⟨rfl, hb5⟩
  have hz5 := hb5.size
  try simp at hz5
  have xl5 := blk_below (blk_alloc xl4 (by first | omega | (simp; done) | (simp; omega)) _) hb5 (by first | omega | (simp; done) | (simp; omega))
  have xm5 := blk_below (blk_alloc xm4 (by first | omega | (simp; done) | (simp; omega)) _) hb5 (by first | omega | (simp; done) | (simp; omega))
  have xx5 := blk_below (blk_alloc xx4 (by first | omega | (simp; done) | (simp; omega)) _) hb5 (by first | omega | (simp; done) | (simp; omega))
  have xy5 := blk_below (blk_new w4 #[.int .i64 y] 25) hb5 (by simp)
  have B5 : Below w.heap.size w w5 := (B4.alloc (by first | omega | (simp; done) | (simp; omega)) _).trans (hb5.mono (by first | omega | (simp; done) | (simp; omega)))
  clear hb5 xl4 xm4 xx4 yl5 ym5 yx5
  have yl6 := (blk_alloc xl5 (by first | omega | (simp; done) | (simp; omega)) (.cells #[.int .i64 y] 25))
  have ym6 := (blk_alloc xm5 (by first | omega | (simp; done) | (simp; omega)) (.cells #[.int .i64 y] 25))
  have yx6 := (blk_alloc xx5 (by first | omega | (simp; done) | (simp; omega)) (.cells #[.int .i64 y] 25))
  have yy6 := (blk_alloc xy5 (by first | omega | (simp; done) | (simp; omega)) (.cells #[.int .i64 y] 25))
  go_wp2_with fail
  refine (Used_is d lw o y (a + b) _ HU.out (by omega) (by omega) (by omega) (by omega)).mono ?_
  rintro e w6 ⟨rfl, hb6⟩
  have hz6 := hb6.size
  try simp at hz6
  have xl6 := blk_below (blk_alloc xl5 (by first | omega | (simp; done) | (simp; omega)) _) hb6 (by first | omega | (simp; done) | (simp; omega))
  have xm6 := blk_below (blk_alloc xm5 (by first | omega | (simp; done) | (simp; omega)) _) hb6 (by first | omega | (simp; done) | (simp; omega))
  have xx6 := blk_below (blk_alloc xx5 (by first | omega | (simp; done) | (simp; omega)) _) hb6 (by first | omega | (simp; done) | (simp; omega))
  have xy6 := blk_below (blk_alloc xy5 (by first | omega | (simp; done) | (simp; omega)) _) hb6 (by first | omega | (simp; done) | (simp; omega))
  have xz6 := blk_below (blk_new w5 #[.int .i64 y] 25) hb6 (by simp)
  have B6 : Below w.heap.size w w6 := (B5.alloc (by first | omega | (simp; done) | (simp; omega)) _).trans (hb6.mono (by first | omega | (simp; done) | (simp; omega)))
  clear hb6 xl5 xm5 xx5 xy5 yl6 ym6 yx6 yy6
  go_wp2
  go_ret
  exact ⟨rfl, B6⟩

set_option maxHeartbeats 4000000 in
set_option maxRecDepth 100000 in
theorem Splits_A2 (w : World) (d lw o p a b x y : Int) (l0 : -9223372036854775808 ≤ lw) (l1 : lw ≤ 9223372036854775807) (p0 : 0 ≤ p) (p1 : p ≤ 9223372036854775807) (a0 : 0 ≤ a) (a1 : a < 4294967296) (b0 : 0 ≤ b) (b1 : b < 4294967296)
    (x0 : 0 ≤ x) (x1 : x ≤ p) (y0 : 0 ≤ y) (y1 : y ≤ x)
    (HS : Hid (startI lw = p)) (H1 : Hid (chargeI p a = x ∧ chargeE p a = 0)) (H2 : Hid (chargeI x b = y ∧ chargeE x b = 8)) (H3 : Hid (chargeI p (a + b) = p ∧ chargeE p (a + b) = 8)) :
    Calls Try.prog 6 #[.agg #[.int .i64 d, .int .i64 lw, .int .i64 o], .int .u32 a, .int .u32 b] w fun e w' => e = .returned (.bool true) ∧ Below w.heap.size w w' := by
  go_enter Try.func6, Try.ntmps6
  go_wp2_with fail
  refine (awake_any _).mono ?_
  rintro e w1 ⟨rfl, hb1⟩
  have hz1 := hb1.size
  try simp at hz1
  have xl1 := blk_below (blk_new w #[.int .i64 d, .int .i64 lw, .int .i64 o] 23) hb1 (by simp)
  have B1 : Below w.heap.size w w1 := ((Below.refl w.heap.size w).alloc (by first | omega | (simp; done) | (simp; omega)) _).trans (hb1.mono (by first | omega | (simp; done) | (simp; omega)))
  clear hb1 
  go_wp2_with fail
  refine (Start_is d lw o p _ HS.out).mono ?_
  rintro e w2 ⟨rfl, hb2⟩
  have hz2 := hb2.size
  try simp at hz2
  have xl2 := blk_below xl1 hb2 (by first | omega | (simp; done) | (simp; omega))
  have B2 : Below w.heap.size w w2 := B1.trans (hb2.mono (by first | omega | (simp; done) | (simp; omega)))
  clear hb2 xl1
  have yl3 := (blk_alloc xl2 (by first | omega | (simp; done) | (simp; omega)) (.cells #[.int .i64 p] 25))
  go_wp2_with fail
  refine (Charge_is p a x 0 _ H1.out (by omega) (by omega) (by omega)).mono ?_
  rintro e w3 ⟨rfl, hb3⟩
  have hz3 := hb3.size
  try simp at hz3
  have xl3 := blk_below (blk_alloc xl2 (by first | omega | (simp; done) | (simp; omega)) _) hb3 (by first | omega | (simp; done) | (simp; omega))
  have xm3 := blk_below (blk_new w2 #[.int .i64 p] 25) hb3 (by simp)
  have B3 : Below w.heap.size w w3 := (B2.alloc (by first | omega | (simp; done) | (simp; omega)) _).trans (hb3.mono (by first | omega | (simp; done) | (simp; omega)))
  clear hb3 xl2 yl3
  have yl4 := (blk_alloc xl3 (by first | omega | (simp; done) | (simp; omega)) (.cells #[.int .i64 x] 25))
  have ym4 := (blk_alloc xm3 (by first | omega | (simp; done) | (simp; omega)) (.cells #[.int .i64 x] 25))
  go_wp2_with fail
  refine (Charge_is x b y 8 _ H2.out (by omega) (by omega) (by omega)).mono ?_
  rintro e w4 ⟨rfl, hb4⟩
  have hz4 := hb4.size
  try simp at hz4
  have xl4 := blk_below (blk_alloc xl3 (by first | omega | (simp; done) | (simp; omega)) _) hb4 (by first | omega | (simp; done) | (simp; omega))
  have xm4 := blk_below (blk_alloc xm3 (by first | omega | (simp; done) | (simp; omega)) _) hb4 (by first | omega | (simp; done) | (simp; omega))
  have xx4 := blk_below (blk_new w3 #[.int .i64 x] 25) hb4 (by simp)
  have B4 : Below w.heap.size w w4 := (B3.alloc (by first | omega | (simp; done) | (simp; omega)) _).trans (hb4.mono (by first | omega | (simp; done) | (simp; omega)))
  clear hb4 xl3 xm3 yl4 ym4
  have yl5 := (blk_alloc xl4 (by first | omega | (simp; done) | (simp; omega)) (.cells #[.int .i64 y] 25))
  have ym5 := (blk_alloc xm4 (by first | omega | (simp; done) | (simp; omega)) (.cells #[.int .i64 y] 25))
  have yx5 := (blk_alloc xx4 (by first | omega | (simp; done) | (simp; omega)) (.cells #[.int .i64 y] 25))
  go_wp2_with fail
  refine (Charge_is p (a + b) p 8 _ H3.out (by omega) (by omega) (by omega)).mono ?_
  rintro e w5 ⟨rfl, hb5⟩
  have hz5 := hb5.size
  try simp at hz5
  have xl5 := blk_below (blk_alloc xl4 (by first | omega | (simp; done) | (simp; omega)) _) hb5 (by first | omega | (simp; done) | (simp; omega))
  have xm5 := blk_below (blk_alloc xm4 (by first | omega | (simp; done) | (simp; omega)) _) hb5 (by first | omega | (simp; done) | (simp; omega))
  have xx5 := blk_below (blk_alloc xx4 (by first | omega | (simp; done) | (simp; omega)) _) hb5 (by first | omega | (simp; done) | (simp; omega))
  have xy5 := blk_below (blk_new w4 #[.int .i64 y] 25) hb5 (by simp)
  have B5 : Below w.heap.size w w5 := (B4.alloc (by first | omega | (simp; done) | (simp; omega)) _).trans (hb5.mono (by first | omega | (simp; done) | (simp; omega)))
  clear hb5 xl4 xm4 xx4 yl5 ym5 yx5
  have zl := (blk_alloc xl5 (by first | omega | (simp; done) | (simp; omega)) (.cells #[.int .i64 p] 25))
  have zm := (blk_alloc xm5 (by first | omega | (simp; done) | (simp; omega)) (.cells #[.int .i64 p] 25))
  have zx := (blk_alloc xx5 (by first | omega | (simp; done) | (simp; omega)) (.cells #[.int .i64 p] 25))
  have zy := (blk_alloc xy5 (by first | omega | (simp; done) | (simp; omega)) (.cells #[.int .i64 p] 25))
  have zz := blk_new w5 #[.int .i64 p] 25
  go_wp2
  go_ret
  exact ⟨rfl, (B5.alloc (by first | omega | (simp; done) | (simp; omega)) _)⟩

set_option maxHeartbeats 4000000 in
set_option maxRecDepth 100000 in
theorem Splits_B (w : World) (d lw o p a b y f : Int) (l0 : -9223372036854775808 ≤ lw) (l1 : lw ≤ 9223372036854775807) (p0 : 0 ≤ p) (p1 : p ≤ 9223372036854775807) (a0 : 0 ≤ a) (a1 : a < 4294967296) (b0 : 0 ≤ b) (b1 : b < 4294967296)
    (x0 : 0 ≤ p) (x1 : p ≤ p) (y0 : 0 ≤ y) (y1 : y ≤ p)
    (HS : Hid (startI lw = p)) (H1 : Hid (chargeI p a = p ∧ chargeE p a = 8)) (H2 : Hid (chargeI p b = y ∧ chargeE p b = f)) (H3 : Hid (chargeI p (a + b) = p ∧ chargeE p (a + b) = 8)) :
    Calls Try.prog 6 #[.agg #[.int .i64 d, .int .i64 lw, .int .i64 o], .int .u32 a, .int .u32 b] w fun e w' => e = .returned (.bool true) ∧ Below w.heap.size w w' := by
  go_enter Try.func6, Try.ntmps6
  go_wp2_with fail
  refine (awake_any _).mono ?_
  rintro e w1 ⟨rfl, hb1⟩
  have hz1 := hb1.size
  try simp at hz1
  have xl1 := blk_below (blk_new w #[.int .i64 d, .int .i64 lw, .int .i64 o] 23) hb1 (by simp)
  have B1 : Below w.heap.size w w1 := ((Below.refl w.heap.size w).alloc (by first | omega | (simp; done) | (simp; omega)) _).trans (hb1.mono (by first | omega | (simp; done) | (simp; omega)))
  clear hb1 
  go_wp2_with fail
  refine (Start_is d lw o p _ HS.out).mono ?_
  rintro e w2 ⟨rfl, hb2⟩
  have hz2 := hb2.size
  try simp at hz2
  have xl2 := blk_below xl1 hb2 (by first | omega | (simp; done) | (simp; omega))
  have B2 : Below w.heap.size w w2 := B1.trans (hb2.mono (by first | omega | (simp; done) | (simp; omega)))
  clear hb2 xl1
  have yl3 := (blk_alloc xl2 (by first | omega | (simp; done) | (simp; omega)) (.cells #[.int .i64 p] 25))
  go_wp2_with fail
  refine (Charge_is p a p 8 _ H1.out (by omega) (by omega) (by omega)).mono ?_
  rintro e w3 ⟨rfl, hb3⟩
  have hz3 := hb3.size
  try simp at hz3
  have xl3 := blk_below (blk_alloc xl2 (by first | omega | (simp; done) | (simp; omega)) _) hb3 (by first | omega | (simp; done) | (simp; omega))
  have xm3 := blk_below (blk_new w2 #[.int .i64 p] 25) hb3 (by simp)
  have B3 : Below w.heap.size w w3 := (B2.alloc (by first | omega | (simp; done) | (simp; omega)) _).trans (hb3.mono (by first | omega | (simp; done) | (simp; omega)))
  clear hb3 xl2 yl3
  have yl4 := (blk_alloc xl3 (by first | omega | (simp; done) | (simp; omega)) (.cells #[.int .i64 p] 25))
  have ym4 := (blk_alloc xm3 (by first | omega | (simp; done) | (simp; omega)) (.cells #[.int .i64 p] 25))
  go_wp2_with fail
  refine (Charge_is p b y f _ H2.out (by omega) (by omega) (by omega)).mono ?_
  rintro e w4 ⟨rfl, hb4⟩
  have hz4 := hb4.size
  try simp at hz4
  have xl4 := blk_below (blk_alloc xl3 (by first | omega | (simp; done) | (simp; omega)) _) hb4 (by first | omega | (simp; done) | (simp; omega))
  have xm4 := blk_below (blk_alloc xm3 (by first | omega | (simp; done) | (simp; omega)) _) hb4 (by first | omega | (simp; done) | (simp; omega))
  have xx4 := blk_below (blk_new w3 #[.int .i64 p] 25) hb4 (by simp)
  have B4 : Below w.heap.size w w4 := (B3.alloc (by first | omega | (simp; done) | (simp; omega)) _).trans (hb4.mono (by first | omega | (simp; done) | (simp; omega)))
  clear hb4 xl3 xm3 yl4 ym4
  have yl5 := (blk_alloc xl4 (by first | omega | (simp; done) | (simp; omega)) (.cells #[.int .i64 y] 25))
  have ym5 := (blk_alloc xm4 (by first | omega | (simp; done) | (simp; omega)) (.cells #[.int .i64 y] 25))
  have yx5 := (blk_alloc xx4 (by first | omega | (simp; done) | (simp; omega)) (.cells #[.int .i64 y] 25))
  go_wp2_with fail
  refine (Charge_is p (a + b) p 8 _ H3.out (by omega) (by omega) (by omega)).mono ?_
  rintro e w5 ⟨rfl, hb5⟩
  have hz5 := hb5.size
  try simp at hz5
  have xl5 := blk_below (blk_alloc xl4 (by first | omega | (simp; done) | (simp; omega)) _) hb5 (by first | omega | (simp; done) | (simp; omega))
  have xm5 := blk_below (blk_alloc xm4 (by first | omega | (simp; done) | (simp; omega)) _) hb5 (by first | omega | (simp; done) | (simp; omega))
  have xx5 := blk_below (blk_alloc xx4 (by first | omega | (simp; done) | (simp; omega)) _) hb5 (by first | omega | (simp; done) | (simp; omega))
  have xy5 := blk_below (blk_new w4 #[.int .i64 y] 25) hb5 (by simp)
  have B5 : Below w.heap.size w w5 := (B4.alloc (by first | omega | (simp; done) | (simp; omega)) _).trans (hb5.mono (by first | omega | (simp; done) | (simp; omega)))
  clear hb5 xl4 xm4 xx4 yl5 ym5 yx5
  have zl := (blk_alloc xl5 (by first | omega | (simp; done) | (simp; omega)) (.cells #[.int .i64 p] 25))
  have zm := (blk_alloc xm5 (by first | omega | (simp; done) | (simp; omega)) (.cells #[.int .i64 p] 25))
  have zx := (blk_alloc xx5 (by first | omega | (simp; done) | (simp; omega)) (.cells #[.int .i64 p] 25))
  have zy := (blk_alloc xy5 (by first | omega | (simp; done) | (simp; omega)) (.cells #[.int .i64 p] 25))
  have zz := blk_new w5 #[.int .i64 p] 25
  go_wp2
  go_ret
  exact ⟨rfl, (B5.alloc (by first | omega | (simp; done) | (simp; omega)) _)⟩

theorem Splits9_walk (w : World) (d lw o a b : Int) (l0 : -9223372036854775808 ≤ lw) (l1 : lw ≤ 9223372036854775807) (a0 : 0 ≤ a) (a1 : a < 4294967296) (b0 : 0 ≤ b) (b1 : b < 4294967296) :
    Calls Try.prog 6 #[.agg #[.int .i64 d, .int .i64 lw, .int .i64 o], .int .u32 a, .int .u32 b] w fun e w' => e = .returned (.bool true) ∧ Below w.heap.size w w' := by
  obtain ⟨p0, p1⟩ := start_bd lw l1
  obtain ⟨p, HS⟩ : ∃ p, Hid (startI lw = p) := ⟨_, Lib.hid rfl⟩
  rw [HS.out] at p0 p1
  by_cases h1 : a ≤ p
  · have c1 := charge_yes h1
    by_cases h2 : b ≤ p - a
    · have c2 := charge_yes h2
      have c3 := charge_yes (m := p) (c := a + b) (by omega)
      exact Splits_A1 w d lw o p a b (p - a) (p - a - b) l0 l1 p0 p1 a0 a1 b0 b1 (by omega) (by omega) (by omega) (by omega) HS (Lib.hid c1) (Lib.hid c2) (Lib.hid ⟨by rw [c3.1]; omega, c3.2⟩) (Lib.hid (by rw [HS.out]; omega))
    · have c2 := charge_no (m := p - a) (c := b) (by omega)
      have c3 := charge_no (m := p) (c := a + b) (by omega)
      exact Splits_A2 w d lw o p a b (p - a) (p - a) l0 l1 p0 p1 a0 a1 b0 b1 (by omega) (by omega) (by omega) (by omega) HS (Lib.hid c1) (Lib.hid c2) (Lib.hid c3)
  · have c1 := charge_no (m := p) (c := a) (by omega)
    have c3 := charge_no (m := p) (c := a + b) (by omega)
    have by' := charge_bd p0 b0
    exact Splits_B w d lw o p a b (chargeI p b) (chargeE p b) l0 l1 p0 p1 a0 a1 b0 b1 (by omega) (by omega) by'.1 by'.2 HS (Lib.hid c1) (Lib.hid ⟨rfl, rfl⟩) (Lib.hid c3)
end Go.Proofs.Ytlbfinacofjedaa
