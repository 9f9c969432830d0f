/- 'PointerReaches' of layer 2. -/
import Derived.Test.YtcpampchcpccnaaLaw02
namespace Go.Proofs.Ytcpampchcpccnaa
open Go.ChangeShapes Go.WideShapes Go.ChangeAt Go.RowKit
set_option linter.unusedVariables false
set_option linter.unusedSimpArgs false

set_option maxHeartbeats 2000000 in
theorem Reaches_list (x y : Int) (w : World) (h1 : 0 ≤ x) (h2 : x < 4294967296) (h3 : 0 ≤ y) (h4 : y < 4294967296) :
    Calls Try.prog 7 #[.int .u32 x, .int .u32 y, .bool true] w fun e w' => e = .returned (.bool true) ∧ Below w.heap.size w w' := by
  have hv : Vld ⟨1, (y % 536870912 - x % 536870912 - 1), 0, 0, 5, 1, false, 0, 0, 0⟩ := by
    unfold Vld
    simp
    omega
  go_enter Try.func7, Try.ntmps7
  go_wp2_with fail
  refine (awake_any _).mono ?_
  rintro e w1 ⟨rfl, hb1⟩
  have HB1 := Lib.hid hb1
  have hz1 := hb1.size
  clear hb1
  go_wp2_with fail
  refine (Encode_yes 1 (y % 536870912 - x % 536870912 - 1) 0 0 5 1 0 0 0 false _ hv).mono ?_
  rintro e w2 ⟨rfl, hb2⟩
  have hz2 := hb2.size
  simp at hz2
  have xp2 := blk_below (blk_new w1 #[.int .i64 1, .int .i64 (y % 536870912 - x % 536870912 - 1), .int .i64 0, .int .i64 0, .int .i64 5, .int .i64 1, .bool false, .int .i64 0, .int .u32 0, .int .u32 0] 25) hb2 (by simp)
  have HB2 := Lib.hid (HB1.out.trans (bel_on (((Below.refl w1.heap.size w1)).alloc (Nat.le_refl _) _) hb2 |>.mono hz1))
  clear hb2 HB1
  go_wp2_with fail
  refine (Decode_enc 1 (y % 536870912 - x % 536870912 - 1) 0 0 5 1 0 0 0 false _ hv).mono ?_
  rintro e w3 ⟨rfl, hb3⟩
  have hz3 := hb3.size
  have xp3 := blk_below xp2 hb3 (by omega)
  have HB3 := Lib.hid (HB2.out.trans (hb3.mono (by omega)))
  clear hb3 HB2 xp2
  have l13 : w1.heap.size < w3.heap.size := by omega
  go_wp2_with fail
  refine (Valid_yes 1 (y % 536870912 - x % 536870912 - 1) 0 0 5 1 0 0 0 false _ hv).mono ?_
  rintro e w4 ⟨rfl, hb4⟩
  have hz4 := hb4.size
  simp at hz4
  have xp4 := blk_below (blk_alloc xp3 (by omega) _) hb4 (by simp; omega)
  have xq4 := blk_below (blk_new w3 #[.int .i64 1, .int .i64 (y % 536870912 - x % 536870912 - 1), .int .i64 0, .int .i64 0, .int .i64 5, .int .i64 1, .bool false, .int .i64 0, .int .u32 0, .int .u32 0] 25) hb4 (by simp)
  have HB4 := Lib.hid ((HB3.out.alloc (by omega) _).trans (hb4.mono (by simp; omega)))
  clear hb4 HB3 xp3
  have e1 : (x % 536870912 + 1 + (y % 536870912 - x % 536870912 - 1) == y % 536870912) = true := by rw [beq_iff_eq]; omega
  go_wp2
  go_ret
  exact ⟨rfl, HB4.out⟩

set_option maxHeartbeats 2000000 in
theorem Reaches_struct (x y : Int) (w : World) (h1 : 0 ≤ x) (h2 : x < 4294967296) (h3 : 0 ≤ y) (h4 : y < 4294967296) :
    Calls Try.prog 7 #[.int .u32 x, .int .u32 y, .bool false] w fun e w' => e = .returned (.bool true) ∧ Below w.heap.size w w' := by
  have hv : Vld ⟨0, (y % 536870912 - x % 536870912 - 1), 1, 0, 0, 0, false, 0, 0, 0⟩ := by
    unfold Vld
    simp
    omega
  go_enter Try.func7, Try.ntmps7
  go_wp2_with fail
  refine (awake_any _).mono ?_
  rintro e w1 ⟨rfl, hb1⟩
  have HB1 := Lib.hid hb1
  have hz1 := hb1.size
  clear hb1
  go_wp2_with fail
  refine (Encode_yes 0 (y % 536870912 - x % 536870912 - 1) 1 0 0 0 0 0 0 false _ hv).mono ?_
  rintro e w2 ⟨rfl, hb2⟩
  have hz2 := hb2.size
  simp at hz2
  have xp2 := blk_below (blk_new w1 #[.int .i64 0, .int .i64 (y % 536870912 - x % 536870912 - 1), .int .i64 1, .int .i64 0, .int .i64 0, .int .i64 0, .bool false, .int .i64 0, .int .u32 0, .int .u32 0] 25) hb2 (by simp)
  have HB2 := Lib.hid (HB1.out.trans (bel_on (((Below.refl w1.heap.size w1)).alloc (Nat.le_refl _) _) hb2 |>.mono hz1))
  clear hb2 HB1
  go_wp2_with fail
  refine (Decode_enc 0 (y % 536870912 - x % 536870912 - 1) 1 0 0 0 0 0 0 false _ hv).mono ?_
  rintro e w3 ⟨rfl, hb3⟩
  have hz3 := hb3.size
  have xp3 := blk_below xp2 hb3 (by omega)
  have HB3 := Lib.hid (HB2.out.trans (hb3.mono (by omega)))
  clear hb3 HB2 xp2
  have l13 : w1.heap.size < w3.heap.size := by omega
  go_wp2_with fail
  refine (Valid_yes 0 (y % 536870912 - x % 536870912 - 1) 1 0 0 0 0 0 0 false _ hv).mono ?_
  rintro e w4 ⟨rfl, hb4⟩
  have hz4 := hb4.size
  simp at hz4
  have xp4 := blk_below (blk_alloc xp3 (by omega) _) hb4 (by simp; omega)
  have xq4 := blk_below (blk_new w3 #[.int .i64 0, .int .i64 (y % 536870912 - x % 536870912 - 1), .int .i64 1, .int .i64 0, .int .i64 0, .int .i64 0, .bool false, .int .i64 0, .int .u32 0, .int .u32 0] 25) hb4 (by simp)
  have HB4 := Lib.hid ((HB3.out.alloc (by omega) _).trans (hb4.mono (by simp; omega)))
  clear hb4 HB3 xp3
  have e1 : (x % 536870912 + 1 + (y % 536870912 - x % 536870912 - 1) == y % 536870912) = true := by rw [beq_iff_eq]; omega
  go_wp2
  go_ret
  exact ⟨rfl, HB4.out⟩

theorem Reaches_walk (x y : Int) (b : Bool) (w : World) (h1 : 0 ≤ x) (h2 : x < 4294967296) (h3 : 0 ≤ y) (h4 : y < 4294967296) :
    Calls Try.prog 7 #[.int .u32 x, .int .u32 y, .bool b] w fun e w' => e = .returned (.bool true) ∧ Below w.heap.size w w' := by
  cases b
  · exact Reaches_struct x y w h1 h2 h3 h4
  · exact Reaches_list x y w h1 h2 h3 h4
end Go.Proofs.Ytcpampchcpccnaa
