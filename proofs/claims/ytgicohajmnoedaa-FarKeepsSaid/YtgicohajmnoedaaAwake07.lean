/- The fixed examples of layer 7: 'awake' is true. -/
import Derived.Test.YtgicohajmnoedaaFar
import Derived.Test.YtgicohajmnoedaaMsgLit
import Derived.Test.YtgicohajmnoedaaMaps
namespace Go.Proofs.Ytgicohajmnoedaa
open Go.ChangeShapes Go.WideShapes Go.ChangeAt Go.RowKit
set_option linter.unusedVariables false
set_option linter.unusedSimpArgs false

/-- the word of a pointer -/
theorem word7_any (k o d p el c pa sg lo : Int) (db : Bool) (w : World) (s0 : 0 ≤ sg) (s1 : sg < 4294967296) (l0 : 0 ≤ lo) :
    Calls Try.prog 15 #[.agg #[.int .i64 k, .int .i64 o, .int .i64 d, .int .i64 p, .int .i64 el, .int .i64 c, .bool db, .int .i64 pa, .int .u32 sg, .int .u32 lo]] w fun e w' => e = .returned (.int .u64 (encE ⟨k, o, d, p, el, c, db, pa, sg, lo⟩)) ∧ Below w.heap.size w w' := by
  go_enter Try.func15, Try.ntmps15
  go_wp2_with fail
  refine (RefEncode_any k o d p el c pa sg lo db _ s0 s1 l0).mono ?_
  rintro e w1 ⟨rfl, hb1⟩
  have HB := Lib.hid ((((Below.refl w.heap.size w).alloc (Nat.le_refl _) (.cells #[.int .i64 k, .int .i64 o, .int .i64 d, .int .i64 p, .int .i64 el, .int .i64 c, .bool db, .int .i64 pa, .int .u32 sg, .int .u32 lo] 39)).trans (hb1.mono (by simp))))
  clear hb1
  go_wp2
  go_ret
  exact ⟨rfl, HB.out⟩

theorem W7_s (w : World) : Calls Try.prog 15 #[.agg #[.int .i64 0, .int .i64 3, .int .i64 1, .int .i64 0, .int .i64 0, .int .i64 0, .bool false, .int .i64 0, .int .u32 0, .int .u32 0]] w fun e w' => e = .returned (.int .u64 4294967308) ∧ Below w.heap.size w w' :=
  (word7_any 0 3 1 0 0 0 0 0 0 false w (by decide) (by decide) (by decide)).mono fun e w' ⟨h1, h2⟩ => ⟨h1.trans (by rw [show encE ⟨0, 3, 1, 0, 0, 0, false, 0, 0, 0⟩ = 4294967308 by decide +kernel]), h2⟩
theorem W7_t (w : World) : Calls Try.prog 15 #[.agg #[.int .i64 0, .int .i64 0, .int .i64 2, .int .i64 0, .int .i64 0, .int .i64 0, .bool false, .int .i64 0, .int .u32 0, .int .u32 0]] w fun e w' => e = .returned (.int .u64 8589934592) ∧ Below w.heap.size w w' :=
  (word7_any 0 0 2 0 0 0 0 0 0 false w (by decide) (by decide) (by decide)).mono fun e w' ⟨h1, h2⟩ => ⟨h1.trans (by rw [show encE ⟨0, 0, 2, 0, 0, 0, false, 0, 0, 0⟩ = 8589934592 by decide +kernel]), h2⟩
theorem W7_a (w : World) : Calls Try.prog 15 #[.agg #[.int .i64 2, .int .i64 0, .int .i64 0, .int .i64 0, .int .i64 0, .int .i64 0, .bool false, .int .i64 0, .int .u32 1, .int .u32 0]] w fun e w' => e = .returned (.int .u64 4294967298) ∧ Below w.heap.size w w' :=
  (word7_any 2 0 0 0 0 0 0 1 0 false w (by decide) (by decide) (by decide)).mono fun e w' ⟨h1, h2⟩ => ⟨h1.trans (by rw [show encE ⟨2, 0, 0, 0, 0, 0, false, 0, 1, 0⟩ = 4294967298 by decide +kernel]), h2⟩
theorem W7_b (w : World) : Calls Try.prog 15 #[.agg #[.int .i64 2, .int .i64 0, .int .i64 0, .int .i64 0, .int .i64 0, .int .i64 0, .bool true, .int .i64 1, .int .u32 1, .int .u32 0]] w fun e w' => e = .returned (.int .u64 4294967310) ∧ Below w.heap.size w w' :=
  (word7_any 2 0 0 0 0 0 1 1 0 true w (by decide) (by decide) (by decide)).mono fun e w' ⟨h1, h2⟩ => ⟨h1.trans (by rw [show encE ⟨2, 0, 0, 0, 0, 0, true, 1, 1, 0⟩ = 4294967310 by decide +kernel]), h2⟩
theorem W7_c (w : World) : Calls Try.prog 15 #[.agg #[.int .i64 2, .int .i64 0, .int .i64 0, .int .i64 0, .int .i64 0, .int .i64 0, .bool false, .int .i64 0, .int .u32 0, .int .u32 0]] w fun e w' => e = .returned (.int .u64 2) ∧ Below w.heap.size w w' :=
  (word7_any 2 0 0 0 0 0 0 0 0 false w (by decide) (by decide) (by decide)).mono fun e w' ⟨h1, h2⟩ => ⟨h1.trans (by rw [show encE ⟨2, 0, 0, 0, 0, 0, false, 0, 0, 0⟩ = 2 by decide +kernel]), h2⟩
theorem W7_d (w : World) : Calls Try.prog 15 #[.agg #[.int .i64 2, .int .i64 0, .int .i64 0, .int .i64 0, .int .i64 0, .int .i64 0, .bool true, .int .i64 0, .int .u32 1, .int .u32 0]] w fun e w' => e = .returned (.int .u64 4294967302) ∧ Below w.heap.size w w' :=
  (word7_any 2 0 0 0 0 0 0 1 0 true w (by decide) (by decide) (by decide)).mono fun e w' ⟨h1, h2⟩ => ⟨h1.trans (by rw [show encE ⟨2, 0, 0, 0, 0, 0, true, 0, 1, 0⟩ = 4294967302 by decide +kernel]), h2⟩
theorem W7_e (w : World) : Calls Try.prog 15 #[.agg #[.int .i64 2, .int .i64 0, .int .i64 0, .int .i64 0, .int .i64 0, .int .i64 0, .bool false, .int .i64 0, .int .u32 9, .int .u32 0]] w fun e w' => e = .returned (.int .u64 38654705666) ∧ Below w.heap.size w w' :=
  (word7_any 2 0 0 0 0 0 0 9 0 false w (by decide) (by decide) (by decide)).mono fun e w' ⟨h1, h2⟩ => ⟨h1.trans (by rw [show encE ⟨2, 0, 0, 0, 0, 0, false, 0, 9, 0⟩ = 38654705666 by decide +kernel]), h2⟩
theorem W7_f (w : World) : Calls Try.prog 15 #[.agg #[.int .i64 2, .int .i64 0, .int .i64 0, .int .i64 0, .int .i64 0, .int .i64 0, .bool false, .int .i64 5, .int .u32 7, .int .u32 0]] w fun e w' => e = .returned (.int .u64 30064771114) ∧ Below w.heap.size w w' :=
  (word7_any 2 0 0 0 0 0 5 7 0 false w (by decide) (by decide) (by decide)).mono fun e w' ⟨h1, h2⟩ => ⟨h1.trans (by rw [show encE ⟨2, 0, 0, 0, 0, 0, false, 5, 7, 0⟩ = 30064771114 by decide +kernel]), h2⟩

def msg7 : List (List Int) := [[4294967298, 4294967310, 2, 4294967302, 38654705666, 4294967308], [4294967308, 30064771114, 8589934592]]
theorem fits_msg7 (j : Nat) : (seg msg7 j).length ≤ 140737488355328 := by
  match j with
  | 0 => decide
  | 1 => decide
  | n + 2 => rw [seg_out (by simp [msg7])]; simp
theorem wd_msg7 : Wd2 msg7 := by
  intro l hl z hz
  simp [msg7] at hl
  rcases hl with rfl | rfl <;> simp at hz <;> omega
theorem Fol_7 (A : Option Addr) (s a x y z e0 : Int) (w : World) (hs : Sg w A msg7) (hs0 : -9223372036854775808 ≤ s) (hs1 : s ≤ 9223372036854775807) (ha0 : -9223372036854775808 ≤ a) (ha1 : a ≤ 9223372036854775807)
    (hx : followF msg7 s a = ⟨x, y, z, e0⟩) :
    Calls Try.prog 9 #[.slice A 2 2, .int .i64 s, .int .i64 a] w fun e w' => e = .returned (.tuple #[.int .u64 x, .int .i64 y, .int .i64 z, .int .i64 e0]) ∧ Below w.heap.size w w' := by
  have h := FFollow_any A 2 msg7 s a w hs wd_msg7 (by decide) fits_msg7 hs0 hs1 ha0 ha1
  rw [hx] at h
  exact h
theorem Far_7 (x : Int) (b : Bool) (w : World) (h5 : 0 ≤ x) (h6 : x < 18446744073709551616) (hb : (x % 4 == 2) = b) :
    Calls Try.prog 11 #[.int .u64 x] w fun e w' => e = .returned (.bool b) ∧ Below w.heap.size w w' := by
  subst hb
  exact FIsFar_any x w h5 h6
attribute [local irreducible] msg7

set_option maxRecDepth 100000 in
set_option maxHeartbeats 4000000 in
theorem awake_any (w : World) : Calls Try.prog 7 #[] w fun e w' => e = .returned (.bool true) ∧ Below w.heap.size w w' := by
  go_enter Try.func7, Try.ntmps7
  go_wp2_with fail
  refine (W7_s _).mono ?_
  rintro e w1 ⟨rfl, hb1⟩
  have hz1 := hb1.size
  try simp at hz1
  have B1 : Below w.heap.size w w1 := (Below.refl w.heap.size w).trans (hb1.mono (by first | omega | (simp; done) | (simp; omega)))
  clear hb1
  go_wp2_with fail
  refine (W7_t _).mono ?_
  rintro e w2 ⟨rfl, hb2⟩
  have hz2 := hb2.size
  try simp at hz2
  have B2 : Below w.heap.size w w2 := B1.trans (hb2.mono (by first | omega | (simp; done) | (simp; omega)))
  clear hb2
  go_wp2_with fail
  refine (W7_a _).mono ?_
  rintro e w3 ⟨rfl, hb3⟩
  have hz3 := hb3.size
  try simp at hz3
  have B3 : Below w.heap.size w w3 := B2.trans (hb3.mono (by first | omega | (simp; done) | (simp; omega)))
  clear hb3
  go_wp2_with fail
  refine (W7_b _).mono ?_
  rintro e w4 ⟨rfl, hb4⟩
  have hz4 := hb4.size
  try simp at hz4
  have B4 : Below w.heap.size w w4 := B3.trans (hb4.mono (by first | omega | (simp; done) | (simp; omega)))
  clear hb4
  go_wp2_with fail
  refine (W7_c _).mono ?_
  rintro e w5 ⟨rfl, hb5⟩
  have hz5 := hb5.size
  try simp at hz5
  have B5 : Below w.heap.size w w5 := B4.trans (hb5.mono (by first | omega | (simp; done) | (simp; omega)))
  clear hb5
  go_wp2_with fail
  refine (W7_d _).mono ?_
  rintro e w6 ⟨rfl, hb6⟩
  have hz6 := hb6.size
  try simp at hz6
  have B6 : Below w.heap.size w w6 := B5.trans (hb6.mono (by first | omega | (simp; done) | (simp; omega)))
  clear hb6
  go_wp2_with fail
  refine (W7_e _).mono ?_
  rintro e w7 ⟨rfl, hb7⟩
  have hz7 := hb7.size
  try simp at hz7
  have B7 : Below w.heap.size w w7 := B6.trans (hb7.mono (by first | omega | (simp; done) | (simp; omega)))
  clear hb7
  have h1 := Holds.lit w7 [4294967298, 4294967310, 2, 4294967302, 38654705666, 4294967308] 23 6 rfl (by decide)
  have x1 := blk_new w7 #[.int .u64 4294967298, .int .u64 4294967310, .int .u64 2, .int .u64 4294967302, .int .u64 38654705666, .int .u64 4294967308] 23
  go_wp2_with fail
  refine (W7_f _).mono ?_
  rintro e w8 ⟨rfl, hb8⟩
  have hz8 := hb8.size
  try simp at hz8
  have h1b := h1.below hb8 (Nat.le_refl _)
  have x1b := blk_below x1 hb8 (by simp)
  clear h1 x1
  have B8 : Below w.heap.size w w8 := (B7.alloc (by first | omega | (simp; done) | (simp; omega)) (.cells #[.int .u64 4294967298, .int .u64 4294967310, .int .u64 2, .int .u64 4294967302, .int .u64 38654705666, .int .u64 4294967308] 23)).trans (hb8.mono (by first | omega | (simp; done) | (simp; omega)))
  clear hb8
  have h2b := Holds.lit w8 [4294967308, 30064771114, 8589934592] 23 3 rfl (by decide)
  have hm : Sg ((w8.alloc (.cells #[.int .u64 4294967308, .int .u64 30064771114, .int .u64 8589934592] 23)).alloc (.cells #[.slice (some ⟨w7.heap.size, 0, none⟩) 6 6, .slice (some ⟨w8.heap.size, 0, none⟩) 3 3] 40)) (some ⟨w8.heap.size + 1, 0, none⟩) msg7 := by
    have h := Sg.lit (w := w8.alloc (.cells #[.int .u64 4294967308, .int .u64 30064771114, .int .u64 8589934592] 23)) [.slice (some ⟨w7.heap.size, 0, none⟩) 6 6, .slice (some ⟨w8.heap.size, 0, none⟩) 3 3] msg7 40 (by
      intro j hj
      match j, hj with
      | 0, _ => exact ⟨_, rfl, by have := h1b.alloc (.cells #[.int .u64 4294967308, .int .u64 30064771114, .int .u64 8589934592] 23); unfold msg7; exact this⟩
      | 1, _ => exact ⟨_, rfl, by unfold msg7; exact h2b⟩
      | n + 2, h => exact absurd h (by unfold msg7; simp))
    rw [show (w8.alloc (.cells #[.int .u64 4294967308, .int .u64 30064771114, .int .u64 8589934592] 23)).heap.size = w8.heap.size + 1 from by simp] at h
    exact h
  have x1c := blk_alloc x1b (by omega) (.cells #[.int .u64 4294967308, .int .u64 30064771114, .int .u64 8589934592] 23)
  have x1d := blk_alloc x1c (by simp; omega) (.cells #[.slice (some ⟨w7.heap.size, 0, none⟩) 6 6, .slice (some ⟨w8.heap.size, 0, none⟩) 3 3] 40)
  have xo := blk_new (w8.alloc (.cells #[.int .u64 4294967308, .int .u64 30064771114, .int .u64 8589934592] 23)) #[.slice (some ⟨w7.heap.size, 0, none⟩) 6 6, .slice (some ⟨w8.heap.size, 0, none⟩) 3 3] 40
  rw [show (w8.alloc (.cells #[.int .u64 4294967308, .int .u64 30064771114, .int .u64 8589934592] 23)).heap.size = w8.heap.size + 1 from by simp] at xo
  have HM := Lib.hid hm
  clear hm h1b h2b x1b x1c
  go_wp2_with fail
  refine (Fol_7 _ 0 0 4294967308 1 1 0 _ HM.out (by decide) (by decide) (by decide) (by decide) (by unfold msg7; rfl)).mono ?_
  rintro e w9 ⟨rfl, hb9⟩
  have hz9 := hb9.size
  try simp at hz9
  have HM9 := Lib.hid (HM.out.below hb9 (Nat.le_refl _))
  have x9 := blk_below x1d hb9 (by first | omega | (simp; done) | (simp; omega))
  have o9 := blk_below xo hb9 (by first | omega | (simp; done) | (simp; omega))
  clear HM x1d xo
  have B9 : Below w.heap.size w w9 := ((B8.alloc (by first | omega | (simp; done) | (simp; omega)) (.cells #[.int .u64 4294967308, .int .u64 30064771114, .int .u64 8589934592] 23)).alloc (by first | omega | (simp; done) | (simp; omega)) (.cells #[.slice (some ⟨w7.heap.size, 0, none⟩) 6 6, .slice (some ⟨w8.heap.size, 0, none⟩) 3 3] 40)).trans (hb9.mono (by first | omega | (simp; done) | (simp; omega)))
  clear hb9
  go_wp2_with fail
  refine (Fol_7 _ 0 1 8589934592 7 5 0 _ HM9.out (by decide) (by decide) (by decide) (by decide) (by unfold msg7; rfl)).mono ?_
  rintro e w10 ⟨rfl, hb10⟩
  have hz10 := hb10.size
  try simp at hz10
  have HM10 := Lib.hid (HM9.out.below hb10 (Nat.le_refl _))
  have x10 := blk_below x9 hb10 (by first | omega | (simp; done) | (simp; omega))
  have o10 := blk_below o9 hb10 (by first | omega | (simp; done) | (simp; omega))
  clear HM9 x9 o9
  have B10 : Below w.heap.size w w10 := B9.trans (hb10.mono (by first | omega | (simp; done) | (simp; omega)))
  clear hb10
  go_wp2_with fail
  refine (Fol_7 _ 0 2 0 0 0 3 _ HM10.out (by decide) (by decide) (by decide) (by decide) (by unfold msg7; rfl)).mono ?_
  rintro e w11 ⟨rfl, hb11⟩
  have hz11 := hb11.size
  try simp at hz11
  have HM11 := Lib.hid (HM10.out.below hb11 (Nat.le_refl _))
  have x11 := blk_below x10 hb11 (by first | omega | (simp; done) | (simp; omega))
  have o11 := blk_below o10 hb11 (by first | omega | (simp; done) | (simp; omega))
  clear HM10 x10 o10
  have B11 : Below w.heap.size w w11 := B10.trans (hb11.mono (by first | omega | (simp; done) | (simp; omega)))
  clear hb11
  go_wp2_with fail
  refine (Fol_7 _ 0 3 0 0 0 3 _ HM11.out (by decide) (by decide) (by decide) (by decide) (by unfold msg7; rfl)).mono ?_
  rintro e w12 ⟨rfl, hb12⟩
  have hz12 := hb12.size
  try simp at hz12
  have HM12 := Lib.hid (HM11.out.below hb12 (Nat.le_refl _))
  have x12 := blk_below x11 hb12 (by first | omega | (simp; done) | (simp; omega))
  have o12 := blk_below o11 hb12 (by first | omega | (simp; done) | (simp; omega))
  clear HM11 x11 o11
  have B12 : Below w.heap.size w w12 := B11.trans (hb12.mono (by first | omega | (simp; done) | (simp; omega)))
  clear hb12
  go_wp2_with fail
  refine (Fol_7 _ 0 4 0 0 0 2 _ HM12.out (by decide) (by decide) (by decide) (by decide) (by unfold msg7; rfl)).mono ?_
  rintro e w13 ⟨rfl, hb13⟩
  have hz13 := hb13.size
  try simp at hz13
  have HM13 := Lib.hid (HM12.out.below hb13 (Nat.le_refl _))
  have x13 := blk_below x12 hb13 (by first | omega | (simp; done) | (simp; omega))
  have o13 := blk_below o12 hb13 (by first | omega | (simp; done) | (simp; omega))
  clear HM12 x12 o12
  have B13 : Below w.heap.size w w13 := B12.trans (hb13.mono (by first | omega | (simp; done) | (simp; omega)))
  clear hb13
  go_wp2_with fail
  refine (Fol_7 _ 0 5 4294967308 0 6 0 _ HM13.out (by decide) (by decide) (by decide) (by decide) (by unfold msg7; rfl)).mono ?_
  rintro e w14 ⟨rfl, hb14⟩
  have hz14 := hb14.size
  try simp at hz14
  have HM14 := Lib.hid (HM13.out.below hb14 (Nat.le_refl _))
  have x14 := blk_below x13 hb14 (by first | omega | (simp; done) | (simp; omega))
  have o14 := blk_below o13 hb14 (by first | omega | (simp; done) | (simp; omega))
  clear HM13 x13 o13
  have B14 : Below w.heap.size w w14 := B13.trans (hb14.mono (by first | omega | (simp; done) | (simp; omega)))
  clear hb14
  go_wp2_with fail
  refine (Far_7 4294967298 true _ (by decide) (by decide) (by decide)).mono ?_
  rintro e w15 ⟨rfl, hb15⟩
  have hz15 := hb15.size
  try simp at hz15
  have B15 : Below w.heap.size w w15 := B14.trans (hb15.mono (by first | omega | (simp; done) | (simp; omega)))
  clear hb15
  go_wp2_with fail
  refine (Far_7 4294967308 false _ (by decide) (by decide) (by decide)).mono ?_
  rintro e w16 ⟨rfl, hb16⟩
  have hz16 := hb16.size
  try simp at hz16
  have B16 : Below w.heap.size w w16 := B15.trans (hb16.mono (by first | omega | (simp; done) | (simp; omega)))
  clear hb16
  go_wp2
  go_ret
  exact ⟨rfl, B16⟩
end Go.Proofs.Ytgicohajmnoedaa
