/- The fixed examples of layer 9: 'awake' is true. -/
import Derived.Test.YtlbfinacofjedaaBudget
import Derived.Test.YtlbfinacofjedaaMaps
namespace Go.Proofs.Ytlbfinacofjedaa
open Go.ChangeShapes Go.WideShapes Go.ChangeAt Go.RowKit
set_option linter.unusedVariables false
set_option linter.unusedSimpArgs false

theorem B_start5 (w : World) : Calls Try.prog 12 #[.agg #[.int .i64 2, .int .i64 5, .int .i64 0]] w fun e w' => e = .returned (.agg #[.int .i64 5]) ∧ Below w.heap.size w w' :=
  (BStart_any 2 5 0 w).mono fun e w' ⟨h1, h2⟩ => ⟨h1.trans (by rw [show startI 5 = 5 by decide]), h2⟩
theorem B_start7 (w : World) : Calls Try.prog 12 #[.agg #[.int .i64 0, .int .i64 (-7), .int .i64 0]] w fun e w' => e = .returned (.agg #[.int .i64 0]) ∧ Below w.heap.size w w' :=
  (BStart_any 0 (-7) 0 w).mono fun e w' ⟨h1, h2⟩ => ⟨h1.trans (by rw [show startI (-7) = 0 by decide]), h2⟩
theorem B_charge53 (w : World) : Calls Try.prog 8 #[.agg #[.int .i64 5], .int .i64 3] w fun e w' => e = .returned (.tuple #[.agg #[.int .i64 2], .int .i64 0]) ∧ Below w.heap.size w w' :=
  (BCharge_any 5 3 w (by decide) (by decide) (by decide)).mono fun e w' ⟨h1, h2⟩ => ⟨h1.trans (by rw [show chargeI 5 3 = 2 by decide, show chargeE 5 3 = 0 by decide]), h2⟩
theorem B_charge22 (w : World) : Calls Try.prog 8 #[.agg #[.int .i64 2], .int .i64 2] w fun e w' => e = .returned (.tuple #[.agg #[.int .i64 0], .int .i64 0]) ∧ Below w.heap.size w w' :=
  (BCharge_any 2 2 w (by decide) (by decide) (by decide)).mono fun e w' ⟨h1, h2⟩ => ⟨h1.trans (by rw [show chargeI 2 2 = 0 by decide, show chargeE 2 2 = 0 by decide]), h2⟩
theorem B_charge01 (w : World) : Calls Try.prog 8 #[.agg #[.int .i64 0], .int .i64 1] w fun e w' => e = .returned (.tuple #[.agg #[.int .i64 0], .int .i64 8]) ∧ Below w.heap.size w w' :=
  (BCharge_any 0 1 w (by decide) (by decide) (by decide)).mono fun e w' ⟨h1, h2⟩ => ⟨h1.trans (by rw [show chargeI 0 1 = 0 by decide, show chargeE 0 1 = 8 by decide]), h2⟩
theorem B_charge00 (w : World) : Calls Try.prog 8 #[.agg #[.int .i64 0], .int .i64 0] w fun e w' => e = .returned (.tuple #[.agg #[.int .i64 0], .int .i64 0]) ∧ Below w.heap.size w w' :=
  (BCharge_any 0 0 w (by decide) (by decide) (by decide)).mono fun e w' ⟨h1, h2⟩ => ⟨h1.trans (by rw [show chargeI 0 0 = 0 by decide, show chargeE 0 0 = 0 by decide]), h2⟩
theorem B_used0 (w : World) : Calls Try.prog 14 #[.agg #[.int .i64 2, .int .i64 5, .int .i64 0], .agg #[.int .i64 0]] w fun e w' => e = .returned (.int .i64 5) ∧ Below w.heap.size w w' :=
  (BUsed_any 2 5 0 0 w (by decide) (by decide) (by decide) (by decide)).mono fun e w' ⟨h1, h2⟩ => ⟨h1.trans (by rw [show startI 5 - 0 = 5 by decide]), h2⟩
theorem B_used2 (w : World) : Calls Try.prog 14 #[.agg #[.int .i64 2, .int .i64 5, .int .i64 0], .agg #[.int .i64 2]] w fun e w' => e = .returned (.int .i64 3) ∧ Below w.heap.size w w' :=
  (BUsed_any 2 5 0 2 w (by decide) (by decide) (by decide) (by decide)).mono fun e w' ⟨h1, h2⟩ => ⟨h1.trans (by rw [show startI 5 - 2 = 3 by decide]), h2⟩
theorem B_enter2 (w : World) : Calls Try.prog 10 #[.agg #[.int .i64 2, .int .i64 5, .int .i64 0], .int .i64 2] w fun e w' => e = .returned (.int .i64 0) ∧ Below w.heap.size w w' :=
  (BEnter_any 2 5 0 2 w).mono fun e w' ⟨h1, h2⟩ => ⟨h1.trans (by rw [show enterI 2 2 = 0 by decide]), h2⟩
theorem B_enter3 (w : World) : Calls Try.prog 10 #[.agg #[.int .i64 2, .int .i64 5, .int .i64 0], .int .i64 3] w fun e w' => e = .returned (.int .i64 7) ∧ Below w.heap.size w w' :=
  (BEnter_any 2 5 0 3 w).mono fun e w' ⟨h1, h2⟩ => ⟨h1.trans (by rw [show enterI 2 3 = 7 by decide]), h2⟩

set_option maxHeartbeats 4000000 in
theorem awake_any (w : World) : Calls Try.prog 7 #[] w fun e w' => e = .returned (.bool true) ∧ Below w.heap.size w w' := by
  go_enter Try.func7, Try.ntmps7
  go_wp2_with fail
  refine (B_start5 _).mono ?_
  rintro e w1 ⟨rfl, hb1⟩
  have hz1 := hb1.size
  try simp at hz1
  have xl1 := blk_below (blk_new w #[.int .i64 2, .int .i64 5, .int .i64 0] 23) hb1 (by simp)
  have B1 : Below w.heap.size w w1 := ((Below.refl w.heap.size w).alloc (by first | omega | (simp; done) | (simp; omega)) _).trans (hb1.mono (by first | omega | (simp; done) | (simp; omega)))
  clear hb1 
  go_wp2_with fail
  refine (B_charge53 _).mono ?_
  rintro e w2 ⟨rfl, hb2⟩
  have hz2 := hb2.size
  try simp at hz2
  have xl2 := blk_below xl1 hb2 (by first | omega | (simp; done) | (simp; omega))
  have B2 : Below w.heap.size w w2 := B1.trans (hb2.mono (by first | omega | (simp; done) | (simp; omega)))
  clear hb2 xl1
  have yl3 := (blk_alloc xl2 (by first | omega | (simp; done) | (simp; omega)) (.cells #[.int .i64 2] 25))
  go_wp2_with fail
  refine (B_charge22 _).mono ?_
  rintro e w3 ⟨rfl, hb3⟩
  have hz3 := hb3.size
  try simp at hz3
  have xl3 := blk_below (blk_alloc xl2 (by first | omega | (simp; done) | (simp; omega)) _) hb3 (by first | omega | (simp; done) | (simp; omega))
  have xa3 := blk_below (blk_new w2 #[.int .i64 2] 25) hb3 (by simp)
  have B3 : Below w.heap.size w w3 := (B2.alloc (by first | omega | (simp; done) | (simp; omega)) _).trans (hb3.mono (by first | omega | (simp; done) | (simp; omega)))
  clear hb3 xl2 yl3
  have yl4 := (blk_alloc xl3 (by first | omega | (simp; done) | (simp; omega)) (.cells #[.int .i64 0] 25))
  have ya4 := (blk_alloc xa3 (by first | omega | (simp; done) | (simp; omega)) (.cells #[.int .i64 0] 25))
  go_wp2_with fail
  refine (B_charge01 _).mono ?_
  rintro e w4 ⟨rfl, hb4⟩
  have hz4 := hb4.size
  try simp at hz4
  have xl4 := blk_below (blk_alloc xl3 (by first | omega | (simp; done) | (simp; omega)) _) hb4 (by first | omega | (simp; done) | (simp; omega))
  have xa4 := blk_below (blk_alloc xa3 (by first | omega | (simp; done) | (simp; omega)) _) hb4 (by first | omega | (simp; done) | (simp; omega))
  have xb4 := blk_below (blk_new w3 #[.int .i64 0] 25) hb4 (by simp)
  have B4 : Below w.heap.size w w4 := (B3.alloc (by first | omega | (simp; done) | (simp; omega)) _).trans (hb4.mono (by first | omega | (simp; done) | (simp; omega)))
  clear hb4 xl3 xa3 yl4 ya4
  have yl5 := (blk_alloc xl4 (by first | omega | (simp; done) | (simp; omega)) (.cells #[.int .i64 0] 25))
  have ya5 := (blk_alloc xa4 (by first | omega | (simp; done) | (simp; omega)) (.cells #[.int .i64 0] 25))
  have yb5 := (blk_alloc xb4 (by first | omega | (simp; done) | (simp; omega)) (.cells #[.int .i64 0] 25))
  go_wp2_with fail
  refine (B_charge00 _).mono ?_
  rintro e w5 ⟨rfl, hb5⟩
  have hz5 := hb5.size
  try simp at hz5
  have xl5 := blk_below (blk_alloc xl4 (by first | omega | (simp; done) | (simp; omega)) _) hb5 (by first | omega | (simp; done) | (simp; omega))
  have xa5 := blk_below (blk_alloc xa4 (by first | omega | (simp; done) | (simp; omega)) _) hb5 (by first | omega | (simp; done) | (simp; omega))
  have xb5 := blk_below (blk_alloc xb4 (by first | omega | (simp; done) | (simp; omega)) _) hb5 (by first | omega | (simp; done) | (simp; omega))
  have xc5 := blk_below (blk_new w4 #[.int .i64 0] 25) hb5 (by simp)
  have B5 : Below w.heap.size w w5 := (B4.alloc (by first | omega | (simp; done) | (simp; omega)) _).trans (hb5.mono (by first | omega | (simp; done) | (simp; omega)))
  clear hb5 xl4 xa4 xb4 yl5 ya5 yb5
  have yl6 := (blk_alloc xl5 (by first | omega | (simp; done) | (simp; omega)) (.cells #[.int .i64 0] 25))
  have ya6 := (blk_alloc xa5 (by first | omega | (simp; done) | (simp; omega)) (.cells #[.int .i64 0] 25))
  have yb6 := (blk_alloc xb5 (by first | omega | (simp; done) | (simp; omega)) (.cells #[.int .i64 0] 25))
  have yc6 := (blk_alloc xc5 (by first | omega | (simp; done) | (simp; omega)) (.cells #[.int .i64 0] 25))
  go_wp2_with fail
  refine (B_used0 _).mono ?_
  rintro e w6 ⟨rfl, hb6⟩
  have hz6 := hb6.size
  try simp at hz6
  have xl6 := blk_below (blk_alloc xl5 (by first | omega | (simp; done) | (simp; omega)) _) hb6 (by first | omega | (simp; done) | (simp; omega))
  have xa6 := blk_below (blk_alloc xa5 (by first | omega | (simp; done) | (simp; omega)) _) hb6 (by first | omega | (simp; done) | (simp; omega))
  have xb6 := blk_below (blk_alloc xb5 (by first | omega | (simp; done) | (simp; omega)) _) hb6 (by first | omega | (simp; done) | (simp; omega))
  have xc6 := blk_below (blk_alloc xc5 (by first | omega | (simp; done) | (simp; omega)) _) hb6 (by first | omega | (simp; done) | (simp; omega))
  have B6 : Below w.heap.size w w6 := (B5.alloc (by first | omega | (simp; done) | (simp; omega)) _).trans (hb6.mono (by first | omega | (simp; done) | (simp; omega)))
  clear hb6 xl5 xa5 xb5 xc5 yl6 ya6 yb6 yc6
  go_wp2_with fail
  refine (B_used2 _).mono ?_
  rintro e w7 ⟨rfl, hb7⟩
  have hz7 := hb7.size
  try simp at hz7
  have xl7 := blk_below xl6 hb7 (by first | omega | (simp; done) | (simp; omega))
  have B7 : Below w.heap.size w w7 := B6.trans (hb7.mono (by first | omega | (simp; done) | (simp; omega)))
  clear hb7 xl6 xa6 xb6 xc6
  go_wp2_with fail
  refine (B_enter2 _).mono ?_
  rintro e w8 ⟨rfl, hb8⟩
  have hz8 := hb8.size
  try simp at hz8
  have xl8 := blk_below xl7 hb8 (by first | omega | (simp; done) | (simp; omega))
  have B8 : Below w.heap.size w w8 := B7.trans (hb8.mono (by first | omega | (simp; done) | (simp; omega)))
  clear hb8 xl7
  go_wp2_with fail
  refine (B_enter3 _).mono ?_
  rintro e w9 ⟨rfl, hb9⟩
  have hz9 := hb9.size
  try simp at hz9
  have xl9 := blk_below xl8 hb9 (by first | omega | (simp; done) | (simp; omega))
  have B9 : Below w.heap.size w w9 := B8.trans (hb9.mono (by first | omega | (simp; done) | (simp; omega)))
  clear hb9 xl8
  go_wp2_with fail
  refine (B_start7 _).mono ?_
  rintro e w10 ⟨rfl, hb10⟩
  have hz10 := hb10.size
  try simp at hz10
  have xl10 := blk_below xl9 hb10 (by first | omega | (simp; done) | (simp; omega))
  have B10 : Below w.heap.size w w10 := B9.trans (hb10.mono (by first | omega | (simp; done) | (simp; omega)))
  clear hb10 xl9
  go_wp2
  go_ret
  exact ⟨rfl, B10⟩
end Go.Proofs.Ytlbfinacofjedaa
