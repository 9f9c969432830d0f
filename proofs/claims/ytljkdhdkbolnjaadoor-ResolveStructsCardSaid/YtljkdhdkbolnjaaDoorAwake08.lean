/- The fixed examples of layer 8: 'awake' is true. -/
import Derived.Test.YtljkdhdkbolnjaaDoorResolve
import Derived.Test.YtljkdhdkbolnjaaDoorMsgLit
import Derived.Test.YtljkdhdkbolnjaaDoorRegion
namespace Go.Proofs.YtljkdhdkbolnjaaDoor
open Go.ChangeShapes Go.WideShapes Go.ChangeAt Go.RowKit
set_option linter.unusedVariables false
set_option linter.unusedSimpArgs false

/-- the word of a pointer -/
theorem word8_any (k o d p el c pa sg lo : Int) (db : Bool) (w : World) (s0 : 0 ≤ sg) (s1 : sg < 4294967296) (l0 : 0 ≤ lo) :
    Calls Tryd.prog 17 #[.agg #[.int .i64 k, .int .i64 o, .int .i64 d, .int .i64 p, .int .i64 el, .int .i64 c, .bool db, .int .i64 pa, .int .u32 sg, .int .u32 lo]] w fun e w' => e = .returned (.int .u64 (encE ⟨k, o, d, p, el, c, db, pa, sg, lo⟩)) ∧ Below w.heap.size w w' := by
  go_enter Tryd.func17, Tryd.ntmps17
  go_wp2_with fail
  refine (RefEncode_any k o d p el c pa sg lo db _ s0 s1 l0).mono ?_
  rintro e w1 ⟨rfl, hb1⟩
  have HB := Lib.hid ((((Below.refl w.heap.size w).alloc (Nat.le_refl _) (.cells #[.int .i64 k, .int .i64 o, .int .i64 d, .int .i64 p, .int .i64 el, .int .i64 c, .bool db, .int .i64 pa, .int .u32 sg, .int .u32 lo] 43)).trans (hb1.mono (by simp))))
  clear hb1
  go_wp2
  go_ret
  exact ⟨rfl, HB.out⟩

theorem W8_a (w : World) : Calls Tryd.prog 17 #[.agg #[.int .i64 0, .int .i64 (-1), .int .i64 0, .int .i64 0, .int .i64 0, .int .i64 0, .bool false, .int .i64 0, .int .u32 0, .int .u32 0]] w fun e w' => e = .returned (.int .u64 4294967292) ∧ Below w.heap.size w w' :=
  (word8_any 0 (-1) 0 0 0 0 0 0 0 false w (by decide) (by decide) (by decide)).mono fun e w' ⟨h1, h2⟩ => ⟨h1.trans (by rw [show encE ⟨0, (-1), 0, 0, 0, 0, false, 0, 0, 0⟩ = 4294967292 by decide +kernel]), h2⟩
theorem W8_b (w : World) : Calls Tryd.prog 17 #[.agg #[.int .i64 0, .int .i64 1, .int .i64 1, .int .i64 1, .int .i64 0, .int .i64 0, .bool false, .int .i64 0, .int .u32 0, .int .u32 0]] w fun e w' => e = .returned (.int .u64 281479271677956) ∧ Below w.heap.size w w' :=
  (word8_any 0 1 1 1 0 0 0 0 0 false w (by decide) (by decide) (by decide)).mono fun e w' ⟨h1, h2⟩ => ⟨h1.trans (by rw [show encE ⟨0, 1, 1, 1, 0, 0, false, 0, 0, 0⟩ = 281479271677956 by decide +kernel]), h2⟩
theorem W8_c (w : World) : Calls Tryd.prog 17 #[.agg #[.int .i64 1, .int .i64 0, .int .i64 0, .int .i64 0, .int .i64 7, .int .i64 1, .bool false, .int .i64 0, .int .u32 0, .int .u32 0]] w fun e w' => e = .returned (.int .u64 64424509441) ∧ Below w.heap.size w w' :=
  (word8_any 1 0 0 0 7 1 0 0 0 false w (by decide) (by decide) (by decide)).mono fun e w' ⟨h1, h2⟩ => ⟨h1.trans (by rw [show encE ⟨1, 0, 0, 0, 7, 1, false, 0, 0, 0⟩ = 64424509441 by decide +kernel]), h2⟩
theorem W8_d (w : World) : Calls Tryd.prog 17 #[.agg #[.int .i64 0, .int .i64 1, .int .i64 1, .int .i64 0, .int .i64 0, .int .i64 0, .bool false, .int .i64 0, .int .u32 0, .int .u32 0]] w fun e w' => e = .returned (.int .u64 4294967300) ∧ Below w.heap.size w w' :=
  (word8_any 0 1 1 0 0 0 0 0 0 false w (by decide) (by decide) (by decide)).mono fun e w' ⟨h1, h2⟩ => ⟨h1.trans (by rw [show encE ⟨0, 1, 1, 0, 0, 0, false, 0, 0, 0⟩ = 4294967300 by decide +kernel]), h2⟩
theorem W8_f (w : World) : Calls Tryd.prog 17 #[.agg #[.int .i64 0, .int .i64 9, .int .i64 1, .int .i64 0, .int .i64 0, .int .i64 0, .bool false, .int .i64 0, .int .u32 0, .int .u32 0]] w fun e w' => e = .returned (.int .u64 4294967332) ∧ Below w.heap.size w w' :=
  (word8_any 0 9 1 0 0 0 0 0 0 false w (by decide) (by decide) (by decide)).mono fun e w' ⟨h1, h2⟩ => ⟨h1.trans (by rw [show encE ⟨0, 9, 1, 0, 0, 0, false, 0, 0, 0⟩ = 4294967332 by decide +kernel]), h2⟩
theorem W8_i (w : World) : Calls Tryd.prog 17 #[.agg #[.int .i64 1, .int .i64 (-7), .int .i64 0, .int .i64 0, .int .i64 7, .int .i64 0, .bool false, .int .i64 0, .int .u32 0, .int .u32 0]] w fun e w' => e = .returned (.int .u64 34359738341) ∧ Below w.heap.size w w' :=
  (word8_any 1 (-7) 0 0 7 0 0 0 0 false w (by decide) (by decide) (by decide)).mono fun e w' ⟨h1, h2⟩ => ⟨h1.trans (by rw [show encE ⟨1, (-7), 0, 0, 7, 0, false, 0, 0, 0⟩ = 34359738341 by decide +kernel]), h2⟩

def msg8 : List (List Int) := [[4294967292, 281479271677956, 64424509441, 4294967300, 5, 4294967332, 3, 7, 34359738341]]
theorem fits_msg8 (j : Nat) : (seg msg8 j).length ≤ 140737488355328 := by
  match j with
  | 0 => decide
  | n + 1 => rw [seg_out (by simp [msg8])]; simp
theorem wd_msg8 : Wd2 msg8 := by
  intro l hl z hz
  simp [msg8] at hl
  subst hl
  simp at hz
  omega
theorem fits_nul (j : Nat) : (seg [[(0 : Int)]] j).length ≤ 140737488355328 := by
  match j with
  | 0 => decide
  | n + 1 => rw [seg_out (by simp)]; simp
theorem wd_nul : Wd2 [[(0 : Int)]] := by
  intro l hl z hz
  simp at hl
  subst hl
  simp at hz
  omega
theorem Ob8_0 (A : Option Addr) (w : World) (hT : TabOK w) (hs : Sg w A msg8) :
    Calls Tryd.prog 10 #[.slice A 1 1, .int .i64 0, .int .i64 0] w fun e w' => e = .returned (.tuple #[.agg #[.int .i64 1, .int .i64 0, .int .i64 0, .int .i64 0, .int .i64 0, .int .i64 0, .int .i64 0, .int .i64 0], .int .i64 0]) ∧ Below w.heap.size w w' :=
  RObject_is A 1 msg8 0 0 1 0 0 0 0 0 0 0 0 w hT hs wd_msg8 (by decide) fits_msg8 (by decide) (by decide) (by decide) (by decide) (by kernel_rfl)
theorem Ob8_1 (A : Option Addr) (w : World) (hT : TabOK w) (hs : Sg w A msg8) :
    Calls Tryd.prog 10 #[.slice A 1 1, .int .i64 0, .int .i64 1] w fun e w' => e = .returned (.tuple #[.agg #[.int .i64 1, .int .i64 0, .int .i64 3, .int .i64 1, .int .i64 1, .int .i64 0, .int .i64 0, .int .i64 2], .int .i64 0]) ∧ Below w.heap.size w w' :=
  RObject_is A 1 msg8 0 1 1 0 3 1 1 0 0 2 0 w hT hs wd_msg8 (by decide) fits_msg8 (by decide) (by decide) (by decide) (by decide) (by kernel_rfl)
theorem Ob8_2 (A : Option Addr) (w : World) (hT : TabOK w) (hs : Sg w A msg8) :
    Calls Tryd.prog 10 #[.slice A 1 1, .int .i64 0, .int .i64 2] w fun e w' => e = .returned (.tuple #[.agg #[.int .i64 2, .int .i64 0, .int .i64 4, .int .i64 1, .int .i64 0, .int .i64 7, .int .i64 1, .int .i64 2], .int .i64 0]) ∧ Below w.heap.size w w' :=
  RObject_is A 1 msg8 0 2 2 0 4 1 0 7 1 2 0 w hT hs wd_msg8 (by decide) fits_msg8 (by decide) (by decide) (by decide) (by decide) (by kernel_rfl)
theorem Ob8_5 (A : Option Addr) (w : World) (hT : TabOK w) (hs : Sg w A msg8) :
    Calls Tryd.prog 10 #[.slice A 1 1, .int .i64 0, .int .i64 5] w fun e w' => e = .returned (.tuple #[.agg #[.int .i64 0, .int .i64 0, .int .i64 0, .int .i64 0, .int .i64 0, .int .i64 0, .int .i64 0, .int .i64 0], .int .i64 2]) ∧ Below w.heap.size w w' :=
  RObject_is A 1 msg8 0 5 0 0 0 0 0 0 0 0 2 w hT hs wd_msg8 (by decide) fits_msg8 (by decide) (by decide) (by decide) (by decide) (by kernel_rfl)
theorem Ob8_6 (A : Option Addr) (w : World) (hT : TabOK w) (hs : Sg w A msg8) :
    Calls Tryd.prog 10 #[.slice A 1 1, .int .i64 0, .int .i64 6] w fun e w' => e = .returned (.tuple #[.agg #[.int .i64 0, .int .i64 0, .int .i64 0, .int .i64 0, .int .i64 0, .int .i64 0, .int .i64 0, .int .i64 0], .int .i64 6]) ∧ Below w.heap.size w w' :=
  RObject_is A 1 msg8 0 6 0 0 0 0 0 0 0 0 6 w hT hs wd_msg8 (by decide) fits_msg8 (by decide) (by decide) (by decide) (by decide) (by kernel_rfl)
theorem Ob8_7 (A : Option Addr) (w : World) (hT : TabOK w) (hs : Sg w A msg8) :
    Calls Tryd.prog 10 #[.slice A 1 1, .int .i64 0, .int .i64 7] w fun e w' => e = .returned (.tuple #[.agg #[.int .i64 0, .int .i64 0, .int .i64 0, .int .i64 0, .int .i64 0, .int .i64 0, .int .i64 0, .int .i64 0], .int .i64 4]) ∧ Below w.heap.size w w' :=
  RObject_is A 1 msg8 0 7 0 0 0 0 0 0 0 0 4 w hT hs wd_msg8 (by decide) fits_msg8 (by decide) (by decide) (by decide) (by decide) (by kernel_rfl)
theorem Ob8_8 (A : Option Addr) (w : World) (hT : TabOK w) (hs : Sg w A msg8) :
    Calls Tryd.prog 10 #[.slice A 1 1, .int .i64 0, .int .i64 8] w fun e w' => e = .returned (.tuple #[.agg #[.int .i64 0, .int .i64 0, .int .i64 0, .int .i64 0, .int .i64 0, .int .i64 0, .int .i64 0, .int .i64 0], .int .i64 5]) ∧ Below w.heap.size w w' :=
  RObject_is A 1 msg8 0 8 0 0 0 0 0 0 0 0 5 w hT hs wd_msg8 (by decide) fits_msg8 (by decide) (by decide) (by decide) (by decide) (by kernel_rfl)
theorem Ob8_n (A : Option Addr) (w : World) (hT : TabOK w) (hs : Sg w A [[0]]) :
    Calls Tryd.prog 10 #[.slice A 1 1, .int .i64 0, .int .i64 0] w fun e w' => e = .returned (.tuple #[.agg #[.int .i64 0, .int .i64 0, .int .i64 0, .int .i64 0, .int .i64 0, .int .i64 0, .int .i64 0, .int .i64 0], .int .i64 0]) ∧ Below w.heap.size w w' :=
  RObject_is A 1 [[0]] 0 0 0 0 0 0 0 0 0 0 0 w hT hs wd_nul (by decide) fits_nul (by decide) (by decide) (by decide) (by decide) (by kernel_rfl)
theorem Pt8_b (w : World) : Calls Tryd.prog 12 #[.agg #[.int .i64 1, .int .i64 0, .int .i64 3, .int .i64 1, .int .i64 1, .int .i64 0, .int .i64 0, .int .i64 2]] w fun e w' => e = .returned (.tuple #[.int .i64 4, .int .i64 1]) ∧ Below w.heap.size w w' :=
  RPointers_is 1 0 3 1 1 0 0 2 4 1 w (by decide) (by decide) (by decide) (by decide) (by kernel_rfl)
theorem El8_c (w : World) : Calls Tryd.prog 14 #[.agg #[.int .i64 2, .int .i64 0, .int .i64 4, .int .i64 1, .int .i64 0, .int .i64 7, .int .i64 1, .int .i64 2], .int .i64 0] w fun e w' => e = .returned (.agg #[.int .i64 1, .int .i64 0, .int .i64 4, .int .i64 1, .int .i64 0, .int .i64 0, .int .i64 0, .int .i64 0]) ∧ Below w.heap.size w w' :=
  RElement_any 2 0 4 1 0 7 1 2 0 w (by decide) (by decide) (by decide) (by decide) (by decide) (by decide) (by decide) (by decide)
attribute [local irreducible] msg8

set_option maxRecDepth 100000 in
set_option maxHeartbeats 4000000 in
theorem awake8_any (w : World) (hT : TabOK w) : Calls Tryd.prog 8 #[] w fun e w' => e = .returned (.bool true) ∧ Below w.heap.size w w' := by
  have HT := Lib.hid hT
  clear hT
  go_enter Tryd.func8, Tryd.ntmps8
  go_wp2_with fail
  refine (W8_a _).mono ?_
  rintro e w1 ⟨rfl, hb1⟩
  have HB1 : Hid (Below w.heap.size w w1) := Lib.hid (hb1)
  clear hb1
  go_wp2_with fail
  refine (W8_b _).mono ?_
  rintro e w2 ⟨rfl, hb2⟩
  have HB2 : Hid (Below w.heap.size w w2) := Lib.hid (bel_on HB1.out hb2)
  clear hb2
  go_wp2_with fail
  refine (W8_c _).mono ?_
  rintro e w3 ⟨rfl, hb3⟩
  have HB3 : Hid (Below w.heap.size w w3) := Lib.hid (bel_on HB2.out hb3)
  clear hb3
  go_wp2_with fail
  refine (W8_d _).mono ?_
  rintro e w4 ⟨rfl, hb4⟩
  have HB4 : Hid (Below w.heap.size w w4) := Lib.hid (bel_on HB3.out hb4)
  clear hb4
  go_wp2_with fail
  refine (W8_f _).mono ?_
  rintro e w5 ⟨rfl, hb5⟩
  have HB5 : Hid (Below w.heap.size w w5) := Lib.hid (bel_on HB4.out hb5)
  clear hb5
  go_wp2_with fail
  refine (W8_i _).mono ?_
  rintro e w6 ⟨rfl, hb6⟩
  have HB6 : Hid (Below w.heap.size w w6) := Lib.hid (bel_on HB5.out hb6)
  clear hb6
  have HS6 : Hid (Sg ((w6.alloc (.cells #[.int .u64 4294967292, .int .u64 281479271677956, .int .u64 64424509441, .int .u64 4294967300, .int .u64 5, .int .u64 4294967332, .int .u64 3, .int .u64 7, .int .u64 34359738341] 39)).alloc (.cells #[.slice (some ⟨w6.heap.size, 0, none⟩) 9 9] 38)) (some ⟨w6.heap.size + 1, 0, none⟩) msg8) := Lib.hid (by
    unfold msg8
    exact sg_lit1 _ _ _ _ _ (by simp) (Holds.lit w6 [4294967292, 281479271677956, 64424509441, 4294967300, 5, 4294967332, 3, 7, 34359738341] 39 9 rfl (by decide)))
  have HB6' : Hid (Below w.heap.size w ((w6.alloc (.cells #[.int .u64 4294967292, .int .u64 281479271677956, .int .u64 64424509441, .int .u64 4294967300, .int .u64 5, .int .u64 4294967332, .int .u64 3, .int .u64 7, .int .u64 34359738341] 39)).alloc (.cells #[.slice (some ⟨w6.heap.size, 0, none⟩) 9 9] 38))) := Lib.hid ((HB6.out.alloc HB6.out.size _).alloc (by have := HB6.out.size; simp; omega) _)
  go_wp2_with fail
  refine (Ob8_0 _ _ (HT.out.on HB6'.out) HS6.out).mono ?_
  rintro e w7 ⟨rfl, hb7⟩
  have HB7 : Hid (Below w.heap.size w w7) := Lib.hid (bel_on HB6'.out hb7)
  have HS7 := Lib.hid (HS6.out.below hb7 (Nat.le_refl _))
  clear hb7 HB6' HS6 
  go_wp2_with fail
  refine (Ob8_1 _ _ ((HT.out.on HB7.out).alloc _) (HS7.out.alloc _)).mono ?_
  rintro e w8 ⟨rfl, hb8⟩
  have B2 := (Blk.fresh w7 _ _).below hb8
  have HB8 : Hid (Below w.heap.size w w8) := Lib.hid (bel_on (HB7.out.alloc HB7.out.size _) hb8)
  have HS8 := Lib.hid ((HS7.out.alloc _).below hb8 (Nat.le_refl _))
  have H2 := Lib.hid B2
  clear hb8 HB7 HS7 B2
  go_wp2_with fail
  refine (Ob8_2 _ _ ((HT.out.on HB8.out).alloc _) (HS8.out.alloc _)).mono ?_
  rintro e w9 ⟨rfl, hb9⟩
  have B2 := (H2.out.alloc _).below hb9
  have B4 := (Blk.fresh w8 _ _).below hb9
  have HB9 : Hid (Below w.heap.size w w9) := Lib.hid (bel_on (HB8.out.alloc HB8.out.size _) hb9)
  have HS9 := Lib.hid ((HS8.out.alloc _).below hb9 (Nat.le_refl _))
  have H2 := Lib.hid B2
  have H4 := Lib.hid B4
  clear hb9 HB8 HS8 B2 B4
  go_wp2_with fail
  refine (Ob8_5 _ _ ((HT.out.on HB9.out).alloc _) (HS9.out.alloc _)).mono ?_
  rintro e w10 ⟨rfl, hb10⟩
  have B2 := (H2.out.alloc _).below hb10
  have B4 := (H4.out.alloc _).below hb10
  have B6 := (Blk.fresh w9 _ _).below hb10
  have HB10 : Hid (Below w.heap.size w w10) := Lib.hid (bel_on (HB9.out.alloc HB9.out.size _) hb10)
  have HS10 := Lib.hid ((HS9.out.alloc _).below hb10 (Nat.le_refl _))
  have H2 := Lib.hid B2
  have H4 := Lib.hid B4
  have H6 := Lib.hid B6
  clear hb10 HB9 HS9 B2 B4 B6
  go_wp2_with fail
  refine (Ob8_6 _ _ ((HT.out.on HB10.out).alloc _) (HS10.out.alloc _)).mono ?_
  rintro e w11 ⟨rfl, hb11⟩
  have B2 := (H2.out.alloc _).below hb11
  have B4 := (H4.out.alloc _).below hb11
  have B6 := (H6.out.alloc _).below hb11
  have HB11 : Hid (Below w.heap.size w w11) := Lib.hid (bel_on (HB10.out.alloc HB10.out.size _) hb11)
  have HS11 := Lib.hid ((HS10.out.alloc _).below hb11 (Nat.le_refl _))
  have H2 := Lib.hid B2
  have H4 := Lib.hid B4
  have H6 := Lib.hid B6
  clear hb11 HB10 HS10 B2 B4 B6
  go_wp2_with fail
  refine (Ob8_7 _ _ ((HT.out.on HB11.out).alloc _) (HS11.out.alloc _)).mono ?_
  rintro e w12 ⟨rfl, hb12⟩
  have B2 := (H2.out.alloc _).below hb12
  have B4 := (H4.out.alloc _).below hb12
  have B6 := (H6.out.alloc _).below hb12
  have HB12 : Hid (Below w.heap.size w w12) := Lib.hid (bel_on (HB11.out.alloc HB11.out.size _) hb12)
  have HS12 := Lib.hid ((HS11.out.alloc _).below hb12 (Nat.le_refl _))
  have H2 := Lib.hid B2
  have H4 := Lib.hid B4
  have H6 := Lib.hid B6
  clear hb12 HB11 HS11 B2 B4 B6
  go_wp2_with fail
  refine (Ob8_8 _ _ ((HT.out.on HB12.out).alloc _) (HS12.out.alloc _)).mono ?_
  rintro e w13 ⟨rfl, hb13⟩
  have B2 := (H2.out.alloc _).below hb13
  have B4 := (H4.out.alloc _).below hb13
  have B6 := (H6.out.alloc _).below hb13
  have HB13 : Hid (Below w.heap.size w w13) := Lib.hid (bel_on (HB12.out.alloc HB12.out.size _) hb13)
  have HS13 := Lib.hid ((HS12.out.alloc _).below hb13 (Nat.le_refl _))
  have H2 := Lib.hid B2
  have H4 := Lib.hid B4
  have H6 := Lib.hid B6
  clear hb13 HB12 HS12 B2 B4 B6
  go_wp2_with fail
  have HN : Hid (Sg (((w13.alloc (.cells #[.int .i64 0, .int .i64 0, .int .i64 0, .int .i64 0, .int .i64 0, .int .i64 0, .int .i64 0, .int .i64 0] 27)).alloc (.cells #[.int .u64 0] 39)).alloc (.cells #[.slice (some ⟨w13.heap.size + 1, 0, none⟩) 1 1] 38)) (some ⟨w13.heap.size + 1 + 1, 0, none⟩) [[0]]) := Lib.hid (by
    have h := sg_lit1 _ _ _ 38 _ rfl (Holds.lit (w13.alloc (.cells #[.int .i64 0, .int .i64 0, .int .i64 0, .int .i64 0, .int .i64 0, .int .i64 0, .int .i64 0, .int .i64 0] 27)) [0] 39 1 rfl (by decide))
    simpa using h)
  refine (Ob8_n _ _ ((((HT.out.on HB13.out).alloc _).alloc _).alloc _) HN.out).mono ?_
  rintro e w14 ⟨rfl, hb14⟩
  have B2 := (((H2.out.alloc _).alloc _).alloc _).below hb14
  have B4 := (((H4.out.alloc _).alloc _).alloc _).below hb14
  have B6 := (((H6.out.alloc _).alloc _).alloc _).below hb14
  have HB14 : Hid (Below w.heap.size w w14) := Lib.hid (bel_on (((HB13.out.alloc HB13.out.size _).alloc (by have := HB13.out.size; simp; omega) _).alloc (by have := HB13.out.size; simp; omega) _) hb14)
  have H2 := Lib.hid B2
  have H4 := Lib.hid B4
  have H6 := Lib.hid B6
  clear hb14 HB13 HS13 HN B2 B6
  obtain ⟨x4, y4, z4⟩ := B4
  go_wp2_with fail
  refine (Pt8_b _).mono ?_
  rintro e w15 ⟨rfl, hb15⟩
  have B2 := (H2.out.alloc _).below hb15
  have B4 := (H4.out.alloc _).below hb15
  have B6 := (H6.out.alloc _).below hb15
  have B16 := (Blk.fresh w14 _ _).below hb15
  have HB15 : Hid (Below w.heap.size w w15) := Lib.hid (bel_on (HB14.out.alloc HB14.out.size _) hb15)
  clear hb15 HB14 x4 y4 z4 H2 H4 H6
  obtain ⟨x2, y2, z2⟩ := B2
  obtain ⟨x4, y4, z4⟩ := B4
  obtain ⟨x6, y6, z6⟩ := B6
  obtain ⟨x16, y16, z16⟩ := B16
  go_wp2_with fail
  refine (El8_c _).mono ?_
  rintro e w16 ⟨rfl, hb16⟩
  have HB16 : Hid (Below w.heap.size w w16) := Lib.hid (bel_on HB15.out hb16)
  clear hb16
  go_wp2
  go_ret
  exact ⟨rfl, HB16.out⟩
end Go.Proofs.YtljkdhdkbolnjaaDoor
