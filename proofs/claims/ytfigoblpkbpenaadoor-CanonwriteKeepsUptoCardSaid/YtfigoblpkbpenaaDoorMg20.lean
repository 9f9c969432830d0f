/- The texts Ref02 (what is wanted of them), one after the other. -/
import Derived.Test.YtfigoblpkbpenaaDoorMg1
import Derived.Test.YtfigoblpkbpenaaDoorMg2
import Derived.Test.YtfigoblpkbpenaaDoorMg3
import Derived.Test.YtfigoblpkbpenaaDoorMg7
import Derived.Test.YtfigoblpkbpenaaDoorMg10
import Derived.Test.YtfigoblpkbpenaaDoorMg17
import Derived.Test.YtfigoblpkbpenaaDoorMg18
import Derived.Test.YtfigoblpkbpenaaDoorMg19
/- What the reference functions of layer 2 do, each by a contract. -/
namespace Go.Proofs.YtfigoblpkbpenaaDoor
open Go.ChangeShapes Go.WideShapes Go.ChangeAt Go.RowKit
set_option linter.unusedVariables false
set_option linter.unusedSimpArgs false
set_option maxRecDepth 100000

def offB (n : Int) : Bool := decide (-536870912 ≤ n ∧ n ≤ 536870911)
theorem offset_any (n : Int) (w : World) : Calls Tryd.prog 53 #[.int .i64 n] w fun e w' => e = .returned (.bool (offB n)) ∧ w = w' := by
  by_cases h1 : -536870912 ≤ n
  · by_cases h2 : n ≤ 536870911
    · have h3 : offB n = true := by simp [offB, h1, h2]
      have H3 := Lib.hid h3
      clear h3
      go_enter Tryd.func53, Tryd.ntmps53
      go_wp2
      go_ret
      exact ⟨by rw [H3.out]; rfl, rfl⟩
    · have h3 : offB n = false := by simp [offB, h2]
      have H3 := Lib.hid h3
      clear h3
      go_enter Tryd.func53, Tryd.ntmps53
      go_wp2
      go_ret
      exact ⟨by rw [H3.out]; rfl, rfl⟩
  · have h3 : offB n = false := by simp [offB, h1]
    have H3 := Lib.hid h3
    clear h3
    go_enter Tryd.func53, Tryd.ntmps53
    go_wp2
    go_ret
    exact ⟨by rw [H3.out]; rfl, rfl⟩

theorem ok0 (o d p el c pa sg lo : Int) (db : Bool) (s0 : 0 ≤ sg) (s1 : sg < 4294967296) (l0 : 0 ≤ lo) : okE ⟨0, o, d, p, el, c, db, pa, sg, lo⟩ = (peq 0 o d p 0 0 0 0 0 false 0 o d p el c pa sg lo db && (offB o && decide (0 ≤ d) && decide (d ≤ 65535) && decide (0 ≤ p) && decide (p ≤ 65535))) := by
  rw [Bool.eq_iff_iff]
  cases db <;> simp [okE, Vld, peq, offB] <;> omega

set_option maxHeartbeats 1000000 in
theorem RefValid0 (o d p el c pa sg lo : Int) (db : Bool) (w : World) (s0 : 0 ≤ sg) (s1 : sg < 4294967296) (l0 : 0 ≤ lo) :
    Calls Tryd.prog 44 #[.agg #[.int .i64 0, .int .i64 o, .int .i64 d, .int .i64 p, .int .i64 el, .int .i64 c, .bool db, .int .i64 pa, .int .u32 sg, .int .u32 lo]] w fun e w' => e = .returned (.bool (okE ⟨0, o, d, p, el, c, db, pa, sg, lo⟩)) ∧ Below w.heap.size w w' := by
  have heq := fun w => run_eql_ptr 0 o d p 0 0 0 0 0 false 0 o d p el c pa sg lo db w
  have hp : peq 0 o d p 0 0 0 0 0 false 0 o d p el c pa sg lo db = true ∨ peq 0 o d p 0 0 0 0 0 false 0 o d p el c pa sg lo db = false := by cases peq 0 o d p 0 0 0 0 0 false 0 o d p el c pa sg lo db <;> simp
  rcases hp with hp | hp
  · have h2 := of_decide_eq_true hp
    have H2 := Lib.hid h2
    clear h2
    go_enter Tryd.func44, Tryd.ntmps44
    go_wp2_with (go_at_call 53; refine (offset_any _ _).mono ?_; rintro e w' ⟨rfl, rfl⟩)
    all_goals
      go_ret
      refine ⟨?_, ((Below.refl _ _).alloc (Nat.le_refl _) _).alloc (by simp) _⟩
      rw [ok0 _ _ _ _ _ _ _ _ _ s0 s1 l0, hp]
      first | (simp [*]; done) | (simp [*]; omega)
  · go_enter Tryd.func44, Tryd.ntmps44
    go_wp2_with (go_at_call 53; refine (offset_any _ _).mono ?_; rintro e w' ⟨rfl, rfl⟩)
    go_ret
    refine ⟨?_, ((Below.refl _ _).alloc (Nat.le_refl _) _).alloc (by simp) _⟩
    rw [ok0 _ _ _ _ _ _ _ _ _ s0 s1 l0, hp]
    rfl

theorem ok1 (o d p el c pa sg lo : Int) (db : Bool) (s0 : 0 ≤ sg) (s1 : sg < 4294967296) (l0 : 0 ≤ lo) : okE ⟨1, o, d, p, el, c, db, pa, sg, lo⟩ = (peq 1 o 0 0 el c 0 0 0 false 1 o d p el c pa sg lo db && (offB o && decide (0 ≤ el) && decide (el ≤ 7) && decide (0 ≤ c) && decide (c ≤ 536870911))) := by
  rw [Bool.eq_iff_iff]
  cases db <;> simp [okE, Vld, peq, offB] <;> omega

set_option maxHeartbeats 1000000 in
theorem RefValid1 (o d p el c pa sg lo : Int) (db : Bool) (w : World) (s0 : 0 ≤ sg) (s1 : sg < 4294967296) (l0 : 0 ≤ lo) :
    Calls Tryd.prog 44 #[.agg #[.int .i64 1, .int .i64 o, .int .i64 d, .int .i64 p, .int .i64 el, .int .i64 c, .bool db, .int .i64 pa, .int .u32 sg, .int .u32 lo]] w fun e w' => e = .returned (.bool (okE ⟨1, o, d, p, el, c, db, pa, sg, lo⟩)) ∧ Below w.heap.size w w' := by
  have heq := fun w => run_eql_ptr 1 o 0 0 el c 0 0 0 false 1 o d p el c pa sg lo db w
  have hp : peq 1 o 0 0 el c 0 0 0 false 1 o d p el c pa sg lo db = true ∨ peq 1 o 0 0 el c 0 0 0 false 1 o d p el c pa sg lo db = false := by cases peq 1 o 0 0 el c 0 0 0 false 1 o d p el c pa sg lo db <;> simp
  rcases hp with hp | hp
  · have h2 := of_decide_eq_true hp
    have H2 := Lib.hid h2
    clear h2
    go_enter Tryd.func44, Tryd.ntmps44
    go_wp2_with (go_at_call 53; refine (offset_any _ _).mono ?_; rintro e w' ⟨rfl, rfl⟩)
    all_goals
      go_ret
      refine ⟨?_, ((Below.refl _ _).alloc (Nat.le_refl _) _).alloc (by simp) _⟩
      rw [ok1 _ _ _ _ _ _ _ _ _ s0 s1 l0, hp]
      first | (simp [*]; done) | (simp [*]; omega)
  · go_enter Tryd.func44, Tryd.ntmps44
    go_wp2_with (go_at_call 53; refine (offset_any _ _).mono ?_; rintro e w' ⟨rfl, rfl⟩)
    go_ret
    refine ⟨?_, ((Below.refl _ _).alloc (Nat.le_refl _) _).alloc (by simp) _⟩
    rw [ok1 _ _ _ _ _ _ _ _ _ s0 s1 l0, hp]
    rfl

theorem ok2 (o d p el c pa sg lo : Int) (db : Bool) (s0 : 0 ≤ sg) (s1 : sg < 4294967296) (l0 : 0 ≤ lo) : okE ⟨2, o, d, p, el, c, db, pa, sg, lo⟩ = (peq 2 0 0 0 0 0 pa sg 0 db 2 o d p el c pa sg lo db && (decide (0 ≤ pa) && decide (pa ≤ 536870911))) := by
  rw [Bool.eq_iff_iff]
  cases db <;> simp [okE, Vld, peq, offB] <;> omega

set_option maxHeartbeats 1000000 in
theorem RefValid2 (o d p el c pa sg lo : Int) (db : Bool) (w : World) (s0 : 0 ≤ sg) (s1 : sg < 4294967296) (l0 : 0 ≤ lo) :
    Calls Tryd.prog 44 #[.agg #[.int .i64 2, .int .i64 o, .int .i64 d, .int .i64 p, .int .i64 el, .int .i64 c, .bool db, .int .i64 pa, .int .u32 sg, .int .u32 lo]] w fun e w' => e = .returned (.bool (okE ⟨2, o, d, p, el, c, db, pa, sg, lo⟩)) ∧ Below w.heap.size w w' := by
  have heq := fun w => run_eql_ptr 2 0 0 0 0 0 pa sg 0 db 2 o d p el c pa sg lo db w
  have hp : peq 2 0 0 0 0 0 pa sg 0 db 2 o d p el c pa sg lo db = true ∨ peq 2 0 0 0 0 0 pa sg 0 db 2 o d p el c pa sg lo db = false := by cases peq 2 0 0 0 0 0 pa sg 0 db 2 o d p el c pa sg lo db <;> simp
  rcases hp with hp | hp
  · have h2 := of_decide_eq_true hp
    have H2 := Lib.hid h2
    clear h2
    go_enter Tryd.func44, Tryd.ntmps44
    go_wp2_with (go_at_call 53; refine (offset_any _ _).mono ?_; rintro e w' ⟨rfl, rfl⟩)
    all_goals
      go_ret
      refine ⟨?_, ((Below.refl _ _).alloc (Nat.le_refl _) _).alloc (by simp) _⟩
      rw [ok2 _ _ _ _ _ _ _ _ _ s0 s1 l0, hp]
      first | (simp [*]; done) | (simp [*]; omega)
  · go_enter Tryd.func44, Tryd.ntmps44
    go_wp2_with (go_at_call 53; refine (offset_any _ _).mono ?_; rintro e w' ⟨rfl, rfl⟩)
    go_ret
    refine ⟨?_, ((Below.refl _ _).alloc (Nat.le_refl _) _).alloc (by simp) _⟩
    rw [ok2 _ _ _ _ _ _ _ _ _ s0 s1 l0, hp]
    rfl

theorem ok3 (o d p el c pa sg lo : Int) (db : Bool) (s0 : 0 ≤ sg) (s1 : sg < 4294967296) (l0 : 0 ≤ lo) : okE ⟨3, o, d, p, el, c, db, pa, sg, lo⟩ = (peq 3 0 0 0 0 0 0 sg lo false 3 o d p el c pa sg lo db && (decide (lo ≤ 1073741823))) := by
  rw [Bool.eq_iff_iff]
  cases db <;> simp [okE, Vld, peq, offB] <;> omega

set_option maxHeartbeats 1000000 in
theorem RefValid3 (o d p el c pa sg lo : Int) (db : Bool) (w : World) (s0 : 0 ≤ sg) (s1 : sg < 4294967296) (l0 : 0 ≤ lo) :
    Calls Tryd.prog 44 #[.agg #[.int .i64 3, .int .i64 o, .int .i64 d, .int .i64 p, .int .i64 el, .int .i64 c, .bool db, .int .i64 pa, .int .u32 sg, .int .u32 lo]] w fun e w' => e = .returned (.bool (okE ⟨3, o, d, p, el, c, db, pa, sg, lo⟩)) ∧ Below w.heap.size w w' := by
  have heq := fun w => run_eql_ptr 3 0 0 0 0 0 0 sg lo false 3 o d p el c pa sg lo db w
  have hp : peq 3 0 0 0 0 0 0 sg lo false 3 o d p el c pa sg lo db = true ∨ peq 3 0 0 0 0 0 0 sg lo false 3 o d p el c pa sg lo db = false := by cases peq 3 0 0 0 0 0 0 sg lo false 3 o d p el c pa sg lo db <;> simp
  rcases hp with hp | hp
  · have h2 := of_decide_eq_true hp
    have H2 := Lib.hid h2
    clear h2
    go_enter Tryd.func44, Tryd.ntmps44
    go_wp2_with (go_at_call 53; refine (offset_any _ _).mono ?_; rintro e w' ⟨rfl, rfl⟩)
    all_goals
      go_ret
      refine ⟨?_, ((Below.refl _ _).alloc (Nat.le_refl _) _).alloc (by simp) _⟩
      rw [ok3 _ _ _ _ _ _ _ _ _ s0 s1 l0, hp]
      first | (simp [*]; done) | (simp [*]; omega)
  · go_enter Tryd.func44, Tryd.ntmps44
    go_wp2_with (go_at_call 53; refine (offset_any _ _).mono ?_; rintro e w' ⟨rfl, rfl⟩)
    go_ret
    refine ⟨?_, ((Below.refl _ _).alloc (Nat.le_refl _) _).alloc (by simp) _⟩
    rw [ok3 _ _ _ _ _ _ _ _ _ s0 s1 l0, hp]
    rfl

theorem okN (k o d p el c pa sg lo : Int) (db : Bool) (h : k < 0 ∨ 3 < k) : okE ⟨k, o, d, p, el, c, db, pa, sg, lo⟩ = false := by
  unfold okE
  rw [decide_eq_false_iff_not]
  unfold Vld
  simp only
  omega

set_option maxHeartbeats 1000000 in
theorem RefValidN (k o d p el c pa sg lo : Int) (db : Bool) (w : World) (h : k < 0 ∨ 3 < k) :
    Calls Tryd.prog 44 #[.agg #[.int .i64 k, .int .i64 o, .int .i64 d, .int .i64 p, .int .i64 el, .int .i64 c, .bool db, .int .i64 pa, .int .u32 sg, .int .u32 lo]] w fun e w' => e = .returned (.bool (okE ⟨k, o, d, p, el, c, db, pa, sg, lo⟩)) ∧ Below w.heap.size w w' := by
  have h0 : (k == 0) = false := by rw [beq_eq_false_iff_ne]; omega
  have h1 : (k == 1) = false := by rw [beq_eq_false_iff_ne]; omega
  have h2 : (k == 2) = false := by rw [beq_eq_false_iff_ne]; omega
  have h3 : (k == 3) = false := by rw [beq_eq_false_iff_ne]; omega
  have HN := Lib.hid (okN k o d p el c pa sg lo db h)
  clear h
  go_enter Tryd.func44, Tryd.ntmps44
  go_wp2
  go_ret
  refine ⟨?_, ((Below.refl _ _).alloc (Nat.le_refl _) _).alloc (by simp) _⟩
  rw [HN.out]
  rfl

theorem RefValid_any (k o d p el c pa sg lo : Int) (db : Bool) (w : World) (s0 : 0 ≤ sg) (s1 : sg < 4294967296) (l0 : 0 ≤ lo) :
    Calls Tryd.prog 44 #[.agg #[.int .i64 k, .int .i64 o, .int .i64 d, .int .i64 p, .int .i64 el, .int .i64 c, .bool db, .int .i64 pa, .int .u32 sg, .int .u32 lo]] w fun e w' => e = .returned (.bool (okE ⟨k, o, d, p, el, c, db, pa, sg, lo⟩)) ∧ Below w.heap.size w w' := by
  by_cases h : k < 0 ∨ 3 < k
  · exact RefValidN k o d p el c pa sg lo db w h
  · have c4 : k = 0 ∨ k = 1 ∨ k = 2 ∨ k = 3 := by omega
    rcases c4 with rfl | rfl | rfl | rfl
    · exact RefValid0 o d p el c pa sg lo db w s0 s1 l0
    · exact RefValid1 o d p el c pa sg lo db w s0 s1 l0
    · exact RefValid2 o d p el c pa sg lo db w s0 s1 l0
    · exact RefValid3 o d p el c pa sg lo db w s0 s1 l0


set_option maxHeartbeats 1000000 in
theorem RefEncode_no (k o d p el c pa sg lo : Int) (db : Bool) (w : World) (s0 : 0 ≤ sg) (s1 : sg < 4294967296) (l0 : 0 ≤ lo) (hv : okE ⟨k, o, d, p, el, c, db, pa, sg, lo⟩ = false) :
    Calls Tryd.prog 31 #[.agg #[.int .i64 k, .int .i64 o, .int .i64 d, .int .i64 p, .int .i64 el, .int .i64 c, .bool db, .int .i64 pa, .int .u32 sg, .int .u32 lo]] w fun e w' => e = .returned (.tuple #[.int .u64 (encE ⟨k, o, d, p, el, c, db, pa, sg, lo⟩), .bool (okE ⟨k, o, d, p, el, c, db, pa, sg, lo⟩)]) ∧ Below w.heap.size w w' := by
  have HV := Lib.hid hv
  clear hv
  go_enter Tryd.func31, Tryd.ntmps31
  go_wp2_with fail
  refine (RefValid_any k o d p el c pa sg lo db _ s0 s1 l0).mono ?_
  rintro e w1 ⟨rfl, hb⟩
  rw [HV.out]
  have HB := Lib.hid hb
  clear hb
  go_wp2
  go_ret2
  exact ⟨by rw [encE, HV.out]; rfl, bel_on ((Below.refl _ _).alloc (Nat.le_refl _) _) HB.out⟩

set_option maxHeartbeats 1000000 in
theorem RefEncode0 (o d p el c pa sg lo : Int) (db : Bool) (w : World) (s0 : 0 ≤ sg) (s1 : sg < 4294967296) (l0 : 0 ≤ lo) (hv : Vld ⟨0, o, d, p, el, c, db, pa, sg, lo⟩) (hn : 0 ≤ o) :
    Calls Tryd.prog 31 #[.agg #[.int .i64 0, .int .i64 o, .int .i64 d, .int .i64 p, .int .i64 el, .int .i64 c, .bool db, .int .i64 pa, .int .u32 sg, .int .u32 lo]] w fun e w' => e = .returned (.tuple #[.int .u64 (encE ⟨0, o, d, p, el, c, db, pa, sg, lo⟩), .bool (okE ⟨0, o, d, p, el, c, db, pa, sg, lo⟩)]) ∧ Below w.heap.size w w' := by
  have hw := hv
  unfold Vld at hw
  simp at hw
  have b1 : -536870912 ≤ o ∧ o ≤ 536870911 := by omega
  have b2 : 0 ≤ d ∧ d ≤ 65535 := by omega
  have b3 : 0 ≤ p ∧ p ≤ 65535 := by omega
  have b4 : 0 ≤ el ∧ el ≤ 7 := by omega
  have b5 : 0 ≤ c ∧ c ≤ 536870911 := by omega
  have b6 : 0 ≤ pa ∧ pa ≤ 536870911 := by omega
  have b7 : lo ≤ 1073741823 := by omega
  clear hw
  have hk : okE ⟨0, o, d, p, el, c, db, pa, sg, lo⟩ = true := by simp [okE, hv]
  have HV := Lib.hid hk
  clear hk hv
  go_enter Tryd.func31, Tryd.ntmps31
  go_wp2_with fail
  refine (RefValid_any _ _ _ _ _ _ _ _ _ _ _ s0 s1 l0).mono ?_
  rintro e w1 ⟨rfl, hb⟩
  rw [HV.out]
  obtain ⟨hc, hf⟩ := bcell hb
  have hz : w.heap.size < w1.heap.size := by have := hb.size; simp at this; omega
  have HB := Lib.hid hb
  clear hb
  simp at hc hf
  go_wp2
  go_ret2
  refine ⟨?_, bel_on ((Below.refl _ _).alloc (Nat.le_refl _) _) HB.out⟩
  rw [encE, HV.out]
  simp [encW]
  omega

set_option maxHeartbeats 1000000 in
theorem RefEncode0n (o d p el c pa sg lo : Int) (db : Bool) (w : World) (s0 : 0 ≤ sg) (s1 : sg < 4294967296) (l0 : 0 ≤ lo) (hv : Vld ⟨0, o, d, p, el, c, db, pa, sg, lo⟩) (hn : o < 0) :
    Calls Tryd.prog 31 #[.agg #[.int .i64 0, .int .i64 o, .int .i64 d, .int .i64 p, .int .i64 el, .int .i64 c, .bool db, .int .i64 pa, .int .u32 sg, .int .u32 lo]] w fun e w' => e = .returned (.tuple #[.int .u64 (encE ⟨0, o, d, p, el, c, db, pa, sg, lo⟩), .bool (okE ⟨0, o, d, p, el, c, db, pa, sg, lo⟩)]) ∧ Below w.heap.size w w' := by
  have hw := hv
  unfold Vld at hw
  simp at hw
  have b1 : -536870912 ≤ o ∧ o ≤ 536870911 := by omega
  have b2 : 0 ≤ d ∧ d ≤ 65535 := by omega
  have b3 : 0 ≤ p ∧ p ≤ 65535 := by omega
  have b4 : 0 ≤ el ∧ el ≤ 7 := by omega
  have b5 : 0 ≤ c ∧ c ≤ 536870911 := by omega
  have b6 : 0 ≤ pa ∧ pa ≤ 536870911 := by omega
  have b7 : lo ≤ 1073741823 := by omega
  clear hw
  have hk : okE ⟨0, o, d, p, el, c, db, pa, sg, lo⟩ = true := by simp [okE, hv]
  have HV := Lib.hid hk
  clear hk hv
  go_enter Tryd.func31, Tryd.ntmps31
  go_wp2_with fail
  refine (RefValid_any _ _ _ _ _ _ _ _ _ _ _ s0 s1 l0).mono ?_
  rintro e w1 ⟨rfl, hb⟩
  rw [HV.out]
  obtain ⟨hc, hf⟩ := bcell hb
  have hz : w.heap.size < w1.heap.size := by have := hb.size; simp at this; omega
  have HB := Lib.hid hb
  clear hb
  simp at hc hf
  go_wp2
  go_ret2
  refine ⟨?_, bel_on ((Below.refl _ _).alloc (Nat.le_refl _) _) HB.out⟩
  rw [encE, HV.out]
  simp [encW]
  omega

set_option maxHeartbeats 1000000 in
theorem RefEncode1 (o d p el c pa sg lo : Int) (db : Bool) (w : World) (s0 : 0 ≤ sg) (s1 : sg < 4294967296) (l0 : 0 ≤ lo) (hv : Vld ⟨1, o, d, p, el, c, db, pa, sg, lo⟩) (hn : 0 ≤ o) :
    Calls Tryd.prog 31 #[.agg #[.int .i64 1, .int .i64 o, .int .i64 d, .int .i64 p, .int .i64 el, .int .i64 c, .bool db, .int .i64 pa, .int .u32 sg, .int .u32 lo]] w fun e w' => e = .returned (.tuple #[.int .u64 (encE ⟨1, o, d, p, el, c, db, pa, sg, lo⟩), .bool (okE ⟨1, o, d, p, el, c, db, pa, sg, lo⟩)]) ∧ Below w.heap.size w w' := by
  have hw := hv
  unfold Vld at hw
  simp at hw
  have b1 : -536870912 ≤ o ∧ o ≤ 536870911 := by omega
  have b2 : 0 ≤ d ∧ d ≤ 65535 := by omega
  have b3 : 0 ≤ p ∧ p ≤ 65535 := by omega
  have b4 : 0 ≤ el ∧ el ≤ 7 := by omega
  have b5 : 0 ≤ c ∧ c ≤ 536870911 := by omega
  have b6 : 0 ≤ pa ∧ pa ≤ 536870911 := by omega
  have b7 : lo ≤ 1073741823 := by omega
  clear hw
  have hk : okE ⟨1, o, d, p, el, c, db, pa, sg, lo⟩ = true := by simp [okE, hv]
  have HV := Lib.hid hk
  clear hk hv
  go_enter Tryd.func31, Tryd.ntmps31
  go_wp2_with fail
  refine (RefValid_any _ _ _ _ _ _ _ _ _ _ _ s0 s1 l0).mono ?_
  rintro e w1 ⟨rfl, hb⟩
  rw [HV.out]
  obtain ⟨hc, hf⟩ := bcell hb
  have hz : w.heap.size < w1.heap.size := by have := hb.size; simp at this; omega
  have HB := Lib.hid hb
  clear hb
  simp at hc hf
  go_wp2
  go_ret2
  refine ⟨?_, bel_on ((Below.refl _ _).alloc (Nat.le_refl _) _) HB.out⟩
  rw [encE, HV.out]
  simp [encW]
  omega

set_option maxHeartbeats 1000000 in
theorem RefEncode1n (o d p el c pa sg lo : Int) (db : Bool) (w : World) (s0 : 0 ≤ sg) (s1 : sg < 4294967296) (l0 : 0 ≤ lo) (hv : Vld ⟨1, o, d, p, el, c, db, pa, sg, lo⟩) (hn : o < 0) :
    Calls Tryd.prog 31 #[.agg #[.int .i64 1, .int .i64 o, .int .i64 d, .int .i64 p, .int .i64 el, .int .i64 c, .bool db, .int .i64 pa, .int .u32 sg, .int .u32 lo]] w fun e w' => e = .returned (.tuple #[.int .u64 (encE ⟨1, o, d, p, el, c, db, pa, sg, lo⟩), .bool (okE ⟨1, o, d, p, el, c, db, pa, sg, lo⟩)]) ∧ Below w.heap.size w w' := by
  have hw := hv
  unfold Vld at hw
  simp at hw
  have b1 : -536870912 ≤ o ∧ o ≤ 536870911 := by omega
  have b2 : 0 ≤ d ∧ d ≤ 65535 := by omega
  have b3 : 0 ≤ p ∧ p ≤ 65535 := by omega
  have b4 : 0 ≤ el ∧ el ≤ 7 := by omega
  have b5 : 0 ≤ c ∧ c ≤ 536870911 := by omega
  have b6 : 0 ≤ pa ∧ pa ≤ 536870911 := by omega
  have b7 : lo ≤ 1073741823 := by omega
  clear hw
  have hk : okE ⟨1, o, d, p, el, c, db, pa, sg, lo⟩ = true := by simp [okE, hv]
  have HV := Lib.hid hk
  clear hk hv
  go_enter Tryd.func31, Tryd.ntmps31
  go_wp2_with fail
  refine (RefValid_any _ _ _ _ _ _ _ _ _ _ _ s0 s1 l0).mono ?_
  rintro e w1 ⟨rfl, hb⟩
  rw [HV.out]
  obtain ⟨hc, hf⟩ := bcell hb
  have hz : w.heap.size < w1.heap.size := by have := hb.size; simp at this; omega
  have HB := Lib.hid hb
  clear hb
  simp at hc hf
  go_wp2
  go_ret2
  refine ⟨?_, bel_on ((Below.refl _ _).alloc (Nat.le_refl _) _) HB.out⟩
  rw [encE, HV.out]
  simp [encW]
  omega

set_option maxHeartbeats 1000000 in
theorem RefEncode2_true (o d p el c pa sg lo : Int) (w : World) (s0 : 0 ≤ sg) (s1 : sg < 4294967296) (l0 : 0 ≤ lo) (hv : Vld ⟨2, o, d, p, el, c, true, pa, sg, lo⟩) :
    Calls Tryd.prog 31 #[.agg #[.int .i64 2, .int .i64 o, .int .i64 d, .int .i64 p, .int .i64 el, .int .i64 c, .bool true, .int .i64 pa, .int .u32 sg, .int .u32 lo]] w fun e w' => e = .returned (.tuple #[.int .u64 (encE ⟨2, o, d, p, el, c, true, pa, sg, lo⟩), .bool (okE ⟨2, o, d, p, el, c, true, pa, sg, lo⟩)]) ∧ Below w.heap.size w w' := by
  have hw := hv
  unfold Vld at hw
  simp at hw
  have b1 : -536870912 ≤ o ∧ o ≤ 536870911 := by omega
  have b2 : 0 ≤ d ∧ d ≤ 65535 := by omega
  have b3 : 0 ≤ p ∧ p ≤ 65535 := by omega
  have b4 : 0 ≤ el ∧ el ≤ 7 := by omega
  have b5 : 0 ≤ c ∧ c ≤ 536870911 := by omega
  have b6 : 0 ≤ pa ∧ pa ≤ 536870911 := by omega
  have b7 : lo ≤ 1073741823 := by omega
  have b8 : 0 ≤ o := by omega
  clear hw
  have hk : okE ⟨2, o, d, p, el, c, true, pa, sg, lo⟩ = true := by simp [okE, hv]
  have HV := Lib.hid hk
  clear hk hv
  go_enter Tryd.func31, Tryd.ntmps31
  go_wp2_with fail
  refine (RefValid_any _ _ _ _ _ _ _ _ _ _ _ s0 s1 l0).mono ?_
  rintro e w1 ⟨rfl, hb⟩
  rw [HV.out]
  obtain ⟨hc, hf⟩ := bcell hb
  have hz : w.heap.size < w1.heap.size := by have := hb.size; simp at this; omega
  have HB := Lib.hid hb
  clear hb
  simp at hc hf
  go_wp2
  go_ret2
  refine ⟨?_, bel_on ((Below.refl _ _).alloc (Nat.le_refl _) _) HB.out⟩
  rw [encE, HV.out]
  simp [encW]
  omega

set_option maxHeartbeats 1000000 in
theorem RefEncode2_false (o d p el c pa sg lo : Int) (w : World) (s0 : 0 ≤ sg) (s1 : sg < 4294967296) (l0 : 0 ≤ lo) (hv : Vld ⟨2, o, d, p, el, c, false, pa, sg, lo⟩) :
    Calls Tryd.prog 31 #[.agg #[.int .i64 2, .int .i64 o, .int .i64 d, .int .i64 p, .int .i64 el, .int .i64 c, .bool false, .int .i64 pa, .int .u32 sg, .int .u32 lo]] w fun e w' => e = .returned (.tuple #[.int .u64 (encE ⟨2, o, d, p, el, c, false, pa, sg, lo⟩), .bool (okE ⟨2, o, d, p, el, c, false, pa, sg, lo⟩)]) ∧ Below w.heap.size w w' := by
  have hw := hv
  unfold Vld at hw
  simp at hw
  have b1 : -536870912 ≤ o ∧ o ≤ 536870911 := by omega
  have b2 : 0 ≤ d ∧ d ≤ 65535 := by omega
  have b3 : 0 ≤ p ∧ p ≤ 65535 := by omega
  have b4 : 0 ≤ el ∧ el ≤ 7 := by omega
  have b5 : 0 ≤ c ∧ c ≤ 536870911 := by omega
  have b6 : 0 ≤ pa ∧ pa ≤ 536870911 := by omega
  have b7 : lo ≤ 1073741823 := by omega
  have b8 : 0 ≤ o := by omega
  clear hw
  have hk : okE ⟨2, o, d, p, el, c, false, pa, sg, lo⟩ = true := by simp [okE, hv]
  have HV := Lib.hid hk
  clear hk hv
  go_enter Tryd.func31, Tryd.ntmps31
  go_wp2_with fail
  refine (RefValid_any _ _ _ _ _ _ _ _ _ _ _ s0 s1 l0).mono ?_
  rintro e w1 ⟨rfl, hb⟩
  rw [HV.out]
  obtain ⟨hc, hf⟩ := bcell hb
  have hz : w.heap.size < w1.heap.size := by have := hb.size; simp at this; omega
  have HB := Lib.hid hb
  clear hb
  simp at hc hf
  go_wp2
  go_ret2
  refine ⟨?_, bel_on ((Below.refl _ _).alloc (Nat.le_refl _) _) HB.out⟩
  rw [encE, HV.out]
  simp [encW]
  omega

set_option maxHeartbeats 1000000 in
theorem RefEncode3 (o d p el c pa sg lo : Int) (db : Bool) (w : World) (s0 : 0 ≤ sg) (s1 : sg < 4294967296) (l0 : 0 ≤ lo) (hv : Vld ⟨3, o, d, p, el, c, db, pa, sg, lo⟩) :
    Calls Tryd.prog 31 #[.agg #[.int .i64 3, .int .i64 o, .int .i64 d, .int .i64 p, .int .i64 el, .int .i64 c, .bool db, .int .i64 pa, .int .u32 sg, .int .u32 lo]] w fun e w' => e = .returned (.tuple #[.int .u64 (encE ⟨3, o, d, p, el, c, db, pa, sg, lo⟩), .bool (okE ⟨3, o, d, p, el, c, db, pa, sg, lo⟩)]) ∧ Below w.heap.size w w' := by
  have hw := hv
  unfold Vld at hw
  simp at hw
  have b1 : -536870912 ≤ o ∧ o ≤ 536870911 := by omega
  have b2 : 0 ≤ d ∧ d ≤ 65535 := by omega
  have b3 : 0 ≤ p ∧ p ≤ 65535 := by omega
  have b4 : 0 ≤ el ∧ el ≤ 7 := by omega
  have b5 : 0 ≤ c ∧ c ≤ 536870911 := by omega
  have b6 : 0 ≤ pa ∧ pa ≤ 536870911 := by omega
  have b7 : lo ≤ 1073741823 := by omega
  have b8 : 0 ≤ o := by omega
  clear hw
  have hk : okE ⟨3, o, d, p, el, c, db, pa, sg, lo⟩ = true := by simp [okE, hv]
  have HV := Lib.hid hk
  clear hk hv
  go_enter Tryd.func31, Tryd.ntmps31
  go_wp2_with fail
  refine (RefValid_any _ _ _ _ _ _ _ _ _ _ _ s0 s1 l0).mono ?_
  rintro e w1 ⟨rfl, hb⟩
  rw [HV.out]
  obtain ⟨hc, hf⟩ := bcell hb
  have hz : w.heap.size < w1.heap.size := by have := hb.size; simp at this; omega
  have HB := Lib.hid hb
  clear hb
  simp at hc hf
  go_wp2
  go_ret2
  refine ⟨?_, bel_on ((Below.refl _ _).alloc (Nat.le_refl _) _) HB.out⟩
  rw [encE, HV.out]
  simp [encW]
  omega

theorem RefEncode_any (k o d p el c pa sg lo : Int) (db : Bool) (w : World) (s0 : 0 ≤ sg) (s1 : sg < 4294967296) (l0 : 0 ≤ lo) :
    Calls Tryd.prog 31 #[.agg #[.int .i64 k, .int .i64 o, .int .i64 d, .int .i64 p, .int .i64 el, .int .i64 c, .bool db, .int .i64 pa, .int .u32 sg, .int .u32 lo]] w fun e w' => e = .returned (.tuple #[.int .u64 (encE ⟨k, o, d, p, el, c, db, pa, sg, lo⟩), .bool (okE ⟨k, o, d, p, el, c, db, pa, sg, lo⟩)]) ∧ Below w.heap.size w w' := by
  by_cases hv : Vld ⟨k, o, d, p, el, c, db, pa, sg, lo⟩
  · have hk : 0 ≤ k ∧ k ≤ 3 := by have h := hv; unfold Vld at h; simp at h; omega
    have c4 : k = 0 ∨ k = 1 ∨ k = 2 ∨ k = 3 := by omega
    rcases c4 with rfl | rfl | rfl | rfl
    · by_cases hn : 0 ≤ o
      · exact RefEncode0 o d p el c pa sg lo db w s0 s1 l0 hv hn
      · exact RefEncode0n o d p el c pa sg lo db w s0 s1 l0 hv (by omega)
    · by_cases hn : 0 ≤ o
      · exact RefEncode1 o d p el c pa sg lo db w s0 s1 l0 hv hn
      · exact RefEncode1n o d p el c pa sg lo db w s0 s1 l0 hv (by omega)
    · cases db
      · exact RefEncode2_false o d p el c pa sg lo w s0 s1 l0 hv
      · exact RefEncode2_true o d p el c pa sg lo w s0 s1 l0 hv
    · exact RefEncode3 o d p el c pa sg lo db w s0 s1 l0 hv
  · exact RefEncode_no k o d p el c pa sg lo db w s0 s1 l0 (by simp [okE, hv])
end Go.Proofs.YtfigoblpkbpenaaDoor
