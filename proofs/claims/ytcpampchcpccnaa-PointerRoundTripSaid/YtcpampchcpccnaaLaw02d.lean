/- 'PointerRoundTrip' of layer 2. -/
import Derived.Test.YtcpampchcpccnaaLaw02
namespace Go.Proofs.Ytcpampchcpccnaa
open Go.ChangeShapes Go.WideShapes Go.ChangeAt Go.RowKit
set_option linter.unusedVariables false
set_option linter.unusedSimpArgs false

attribute [local simp] AllK KnowsV look Is

theorem Encode_no (k o d p el c pa sg lo : Int) (db : Bool) (w : World) (hv : ¬ Vld ⟨k, o, d, p, el, c, db, pa, sg, lo⟩) :
    Calls Try.prog 9 #[.agg #[.int .i64 k, .int .i64 o, .int .i64 d, .int .i64 p, .int .i64 el, .int .i64 c, .bool db, .int .i64 pa, .int .u32 sg, .int .u32 lo]] w fun e w' => e = .returned (.tuple #[.int .u64 0, .bool false]) ∧ Below w.heap.size w w' :=
  (Encode_any k o d p el c pa sg lo db w).mono fun e w' ⟨h1, h2⟩ => ⟨h1.trans (by simp [encE, okE, hv]), h2⟩
theorem Valid_no (k o d p el c pa sg lo : Int) (db : Bool) (w : World) (hv : ¬ Vld ⟨k, o, d, p, el, c, db, pa, sg, lo⟩) :
    Calls Try.prog 13 #[.agg #[.int .i64 k, .int .i64 o, .int .i64 d, .int .i64 p, .int .i64 el, .int .i64 c, .bool db, .int .i64 pa, .int .u32 sg, .int .u32 lo]] w fun e w' => e = .returned (.bool false) ∧ Below w.heap.size w w' :=
  (Valid_any k o d p el c pa sg lo db w).mono fun e w' ⟨h1, h2⟩ => ⟨h1.trans (by simp [okE, hv]), h2⟩

set_option maxRecDepth 100000 in
set_option maxHeartbeats 4000000 in
theorem RoundTrip_yy (x : Int) (k1 o1 d1 p1 el1 c1 pa1 sg1 lo1 : Int) (db1 : Bool) (k2 o2 d2 p2 el2 c2 pa2 sg2 lo2 : Int) (db2 : Bool) (w : World) (h5 : 0 ≤ x) (h6 : x < 18446744073709551616) (v1 : Vld ⟨k1, o1, d1, p1, el1, c1, db1, pa1, sg1, lo1⟩) (v2 : Vld ⟨k2, o2, d2, p2, el2, c2, db2, pa2, sg2, lo2⟩) :
    Calls Try.prog 4 #[.int .u64 x, .agg #[.int .i64 k1, .int .i64 o1, .int .i64 d1, .int .i64 p1, .int .i64 el1, .int .i64 c1, .bool db1, .int .i64 pa1, .int .u32 sg1, .int .u32 lo1], .agg #[.int .i64 k2, .int .i64 o2, .int .i64 d2, .int .i64 p2, .int .i64 el2, .int .i64 c2, .bool db2, .int .i64 pa2, .int .u32 sg2, .int .u32 lo2]] w fun e w' => e = .returned (.bool true) ∧ Below w.heap.size w w' := by
  have HPQ : Hid (peq k1 o1 d1 p1 el1 c1 pa1 sg1 lo1 db1 k2 o2 d2 p2 el2 c2 pa2 sg2 lo2 db2 = (encW ⟨k1, o1, d1, p1, el1, c1, db1, pa1, sg1, lo1⟩ == encW ⟨k2, o2, d2, p2, el2, c2, db2, pa2, sg2, lo2⟩)) := Lib.hid (by
    rw [Bool.eq_iff_iff, peq_iff ⟨k1, o1, d1, p1, el1, c1, db1, pa1, sg1, lo1⟩ ⟨k2, o2, d2, p2, el2, c2, db2, pa2, sg2, lo2⟩, ← enc_inj _ _ v1 v2, beq_iff_eq])
  go_enter Try.func4, Try.ntmps4
  go_wp2_with fail
  refine (awake_any _).mono ?_
  rintro e w1 ⟨rfl, hb1⟩
  have hz1 := hb1.size
  simp at hz1
  have xp1 := blk_below (blk_alloc (blk_new w #[.int .i64 k1, .int .i64 o1, .int .i64 d1, .int .i64 p1, .int .i64 el1, .int .i64 c1, .bool db1, .int .i64 pa1, .int .u32 sg1, .int .u32 lo1] 25) (by simp) (.cells #[.int .i64 k2, .int .i64 o2, .int .i64 d2, .int .i64 p2, .int .i64 el2, .int .i64 c2, .bool db2, .int .i64 pa2, .int .u32 sg2, .int .u32 lo2] 25)) hb1 (by simp; omega)
  have xq1 := blk_below (blk_new (w.alloc (.cells #[.int .i64 k1, .int .i64 o1, .int .i64 d1, .int .i64 p1, .int .i64 el1, .int .i64 c1, .bool db1, .int .i64 pa1, .int .u32 sg1, .int .u32 lo1] 25)) #[.int .i64 k2, .int .i64 o2, .int .i64 d2, .int .i64 p2, .int .i64 el2, .int .i64 c2, .bool db2, .int .i64 pa2, .int .u32 sg2, .int .u32 lo2] 25) hb1 (by simp)
  simp only [World.size_alloc] at xq1
  have B1 : Below w.heap.size w w1 := (((Below.refl _ _).alloc (Nat.le_refl _) _).alloc (by simp) _).trans (hb1.mono (by simp; omega))
  clear hb1
  go_wp2_with fail
  refine (Decode_any x _ h5 h6).mono ?_
  rintro e w2 ⟨rfl, hb2⟩
  have hz2 := hb2.size
  have xp2 := blk_below xp1 hb2 (by omega)
  have xq2 := blk_below xq1 hb2 (by omega)
  have B2 : Below w.heap.size w w2 := B1.trans (hb2.mono (by omega))
  have lp2 : w.heap.size < w2.heap.size := by omega
  have lq2 : w.heap.size + 1 < w2.heap.size := by omega
  clear hb2 xp1 xq1
  go_wp2_with fail
  refine (Encode_dec x _ h5 h6).mono ?_
  rintro e w3 ⟨rfl, hb3⟩
  have hz3 := hb3.size
  simp at hz3
  have xp3 := blk_below (blk_alloc xp2 (by omega) _) hb3 (by simp; omega)
  have xq3 := blk_below (blk_alloc xq2 (by omega) _) hb3 (by simp; omega)
  have xd3 := blk_below (blk_new w2 #[.int .i64 (decP x).k, .int .i64 (decP x).o, .int .i64 (decP x).d, .int .i64 (decP x).p, .int .i64 (decP x).el, .int .i64 (decP x).c, .bool (decP x).db, .int .i64 (decP x).pa, .int .u32 (decP x).sg, .int .u32 (decP x).lo] 25) hb3 (by simp)
  have B3 : Below w.heap.size w w3 := (B2.alloc (by omega) _).trans (hb3.mono (by simp; omega))
  clear hb3 xp2 xq2
  go_wp2_with fail
  refine (Valid_dec x _ h5 h6).mono ?_
  rintro e w4 ⟨rfl, hb4⟩
  have hz4 := hb4.size
  have xp4 := blk_below xp3 hb4 (by omega)
  have xq4 := blk_below xq3 hb4 (by omega)
  have B4 : Below w.heap.size w w4 := B3.trans (hb4.mono (by omega))
  clear hb4 xp3 xq3 xd3
  go_wp2_with fail
  refine (Encode_yes k1 o1 d1 p1 el1 c1 pa1 sg1 lo1 db1 _ v1).mono ?_
  rintro e w5 ⟨rfl, hb5⟩
  have hz5 := hb5.size
  have xp5 := blk_below xp4 hb5 (by omega)
  have xq5 := blk_below xq4 hb5 (by omega)
  have B5 : Below w.heap.size w w5 := B4.trans (hb5.mono (by omega))
  clear hb5 xp4 xq4
  go_wp2_with fail
  refine (Encode_yes k2 o2 d2 p2 el2 c2 pa2 sg2 lo2 db2 _ v2).mono ?_
  rintro e w6 ⟨rfl, hb6⟩
  have hz6 := hb6.size
  have xp6 := blk_below xp5 hb6 (by omega)
  have xq6 := blk_below xq5 hb6 (by omega)
  have B6 : Below w.heap.size w w6 := B5.trans (hb6.mono (by omega))
  clear hb6 xp5 xq5
  go_wp2_with fail
  refine (Valid_yes k1 o1 d1 p1 el1 c1 pa1 sg1 lo1 db1 _ v1).mono ?_
  rintro e w7 ⟨rfl, hb7⟩
  have hz7 := hb7.size
  have xp7 := blk_below xp6 hb7 (by omega)
  have xq7 := blk_below xq6 hb7 (by omega)
  have B7 : Below w.heap.size w w7 := B6.trans (hb7.mono (by omega))
  clear hb7 xp6 xq6
  go_wp2_with fail
  refine (Valid_yes k2 o2 d2 p2 el2 c2 pa2 sg2 lo2 db2 _ v2).mono ?_
  rintro e w8 ⟨rfl, hb8⟩
  have hz8 := hb8.size
  have xp8 := blk_below xp7 hb8 (by omega)
  have xq8 := blk_below xq7 hb8 (by omega)
  have HB := Lib.hid (B7.trans (hb8.mono (by omega)))
  have zp : w.heap.size < w8.heap.size := by omega
  have zq : w.heap.size + 1 < w8.heap.size := by omega
  clear hb8 xp7 xq7 B1 B2 B3 B4 B5 B6 B7 hz1 hz2 hz3 hz4 hz5 hz6 hz7 hz8
  go_wp2_with fail
  rename_i KK hKK
  refine wp_region_chain (by kernel_rfl) (by kernel_rfl) ?_
  refine chain_val (u := ?_) [11] rfl (by kernel_rfl) trivial (fun ρ wc hbc hcn hk => ?_) ?_; rotate_left
  · obtain ⟨hcn, -⟩ := hcn
    simp at hk
    go_simp
    rfl
  refine chain_val (u := ?_) [63] rfl (by kernel_rfl) trivial (fun ρ wc hbc hcn hk => ?_) ?_; rotate_left
  · obtain ⟨hcn, -⟩ := hcn
    simp at hk
    go_simp
    rfl
  refine chain_val (u := ?_) [64] rfl (by kernel_rfl) trivial (fun ρ wc hbc hcn hk => ?_) ?_; rotate_left
  · obtain ⟨hcn, -⟩ := hcn
    simp at hk
    go_simp
    rfl
  refine chain_val (u := ?_) [10] rfl (by kernel_rfl) ⟨65, by decide +kernel, rfl, fun w x hx => by simpa using hx⟩ (fun ρ wc hbc hcn hk => ?_) ?_; rotate_left
  · obtain ⟨hcn, -⟩ := hcn
    simp at hk
    go_simp
    rfl
  refine chain_call (T := Is ?_) 11 [66] rfl (by kernel_rfl) ⟨65, by decide +kernel, rfl, fun w x hx => by simpa using hx⟩ (stable_is _) (fun ρ wc hbc hcn hk => ?_) ?_; rotate_left
  · obtain ⟨hcn, hfn⟩ := hcn
    simp at hk
    refine ⟨_, by go_simp; rfl, ?_⟩
    refine (Decode_enc k1 o1 d1 p1 el1 c1 pa1 sg1 lo1 db1 _ v1).mono ?_
    rintro e w' ⟨rfl, hbq⟩
    refine ⟨_, rfl, ?_, hbq⟩
    unfold Is
    rfl
  refine chain_val (u := ?_) [4] rfl (by kernel_rfl) ⟨65, by decide +kernel, rfl, fun w x hx => by simpa using hx⟩ (fun ρ wc hbc hcn hk => ?_) ?_; rotate_left
  · obtain ⟨hcn, -⟩ := hcn
    simp at hk
    obtain ⟨hcc, -⟩ := bcell hbc
    simp at hcc
    go_simp
    rfl
  refine chain_val (u := ?_) [67, 68] rfl (by kernel_rfl) ⟨65, by decide +kernel, rfl, fun w x hx => by simpa using hx⟩ (fun ρ wc hbc hcn hk => ?_) ?_; rotate_left
  · obtain ⟨hcn, -⟩ := hcn
    simp at hk
    go_simp
    rfl
  refine chain_val (u := ?_) [65, 69] rfl (by kernel_rfl) trivial (fun ρ wc hbc hcn hk => ?_) ?_; rotate_left
  · obtain ⟨hcn, -⟩ := hcn
    simp at hk
    go_simp
    rfl
  refine chain_val (u := ?_) [70] rfl (by kernel_rfl) trivial (fun ρ wc hbc hcn hk => ?_) ?_; rotate_left
  · obtain ⟨hcn, -⟩ := hcn
    simp at hk
    go_simp
    rfl
  refine chain_val (u := ?_) [11] rfl (by kernel_rfl) ⟨71, by decide +kernel, rfl, fun w x hx => by simpa using hx⟩ (fun ρ wc hbc hcn hk => ?_) ?_; rotate_left
  · obtain ⟨hcn, -⟩ := hcn
    simp at hk
    go_simp
    rfl
  refine chain_val (u := ?_) [72] rfl (by kernel_rfl) ⟨71, by decide +kernel, rfl, fun w x hx => by simpa using hx⟩ (fun ρ wc hbc hcn hk => ?_) ?_; rotate_left
  · obtain ⟨hcn, -⟩ := hcn
    simp at hk
    go_simp
    rfl
  refine chain_val (u := ?_) [73] rfl (by kernel_rfl) ⟨71, by decide +kernel, rfl, fun w x hx => by simpa using hx⟩ (fun ρ wc hbc hcn hk => ?_) ?_; rotate_left
  · obtain ⟨hcn, -⟩ := hcn
    simp at hk
    go_simp
    rfl
  refine chain_val (u := ?_) [13] rfl (by kernel_rfl) ⟨74, by decide +kernel, rfl, fun w x hx => by simpa using hx⟩ (fun ρ wc hbc hcn hk => ?_) ?_; rotate_left
  · obtain ⟨hcn, -⟩ := hcn
    simp at hk
    go_simp
    rfl
  refine chain_val (u := ?_) [75] rfl (by kernel_rfl) ⟨74, by decide +kernel, rfl, fun w x hx => by simpa using hx⟩ (fun ρ wc hbc hcn hk => ?_) ?_; rotate_left
  · obtain ⟨hcn, -⟩ := hcn
    simp at hk
    go_simp
    rfl
  refine chain_val (u := ?_) [74, 76] rfl (by kernel_rfl) ⟨71, by decide +kernel, rfl, fun w x hx => by simpa using hx⟩ (fun ρ wc hbc hcn hk => ?_) ?_; rotate_left
  · obtain ⟨hcn, -⟩ := hcn
    simp at hk
    go_simp
    rfl
  refine chain_val (u := ?_) [77] rfl (by kernel_rfl) ⟨71, by decide +kernel, rfl, fun w x hx => by simpa using hx⟩ (fun ρ wc hbc hcn hk => ?_) ?_; rotate_left
  · obtain ⟨hcn, -⟩ := hcn
    simp at hk
    go_simp
    rfl
  refine chain_val (u := ?_) [10] rfl (by kernel_rfl) ⟨78, by decide +kernel, rfl, fun w x hx => by simpa using hx⟩ (fun ρ wc hbc hcn hk => ?_) ?_; rotate_left
  · obtain ⟨hcn, -⟩ := hcn
    simp at hk
    go_simp
    rfl
  refine chain_val (u := ?_) [12] rfl (by kernel_rfl) ⟨78, by decide +kernel, rfl, fun w x hx => by simpa using hx⟩ (fun ρ wc hbc hcn hk => ?_) ?_; rotate_left
  · obtain ⟨hcn, -⟩ := hcn
    simp at hk
    go_simp
    rfl
  refine chain_val (u := ?_) [79, 80] rfl (by kernel_rfl) ⟨78, by decide +kernel, rfl, fun w x hx => by simpa using hx⟩ (fun ρ wc hbc hcn hk => ?_) ?_; rotate_left
  · obtain ⟨hcn, -⟩ := hcn
    simp at hk
    go_simp
    rfl
  refine chain_val (u := ?_) [4] rfl (by kernel_rfl) ⟨78, by decide +kernel, rfl, fun w x hx => by simpa using hx⟩ (fun ρ wc hbc hcn hk => ?_) ?_; rotate_left
  · obtain ⟨hcn, -⟩ := hcn
    simp at hk
    obtain ⟨hcc, -⟩ := bcell hbc
    simp at hcc
    go_simp
    rfl
  refine chain_val (u := ?_) [5] rfl (by kernel_rfl) ⟨78, by decide +kernel, rfl, fun w x hx => by simpa using hx⟩ (fun ρ wc hbc hcn hk => ?_) ?_; rotate_left
  · obtain ⟨hcn, -⟩ := hcn
    simp at hk
    obtain ⟨hcc, -⟩ := bcell hbc
    simp at hcc
    go_simp
    rfl
  refine chain_val (u := .bool (encW ⟨k1, o1, d1, p1, el1, c1, db1, pa1, sg1, lo1⟩ == encW ⟨k2, o2, d2, p2, el2, c2, db2, pa2, sg2, lo2⟩)) [82, 83] rfl (by kernel_rfl) ⟨78, by decide +kernel, rfl, fun w x hx => by simpa using hx⟩ (fun ρ wc hbc hcn hk => ?_) ?_
  · obtain ⟨hcn, -⟩ := hcn
    simp at hk
    exact run_exec_eql rfl hk.1 hk.2 ((run_eql_ptr k1 o1 d1 p1 el1 c1 pa1 sg1 lo1 db1 k2 o2 d2 p2 el2 c2 pa2 sg2 lo2 db2 wc).trans (by rw [HPQ.out]))
  refine chain_val (u := ?_) [81, 84] rfl (by kernel_rfl) ⟨78, by decide +kernel, rfl, fun w x hx => by simpa using hx⟩ (fun ρ wc hbc hcn hk => ?_) ?_; rotate_left
  · obtain ⟨hcn, -⟩ := hcn
    simp at hk
    go_simp
    rfl
  refine chain_val (u := ?_) [78, 85] rfl (by kernel_rfl) ⟨71, by decide +kernel, rfl, fun w x hx => by simpa using hx⟩ (fun ρ wc hbc hcn hk => ?_) ?_; rotate_left
  · obtain ⟨hcn, -⟩ := hcn
    simp at hk
    go_simp
    rfl
  refine chain_val (u := ?_) [71, 86] rfl (by kernel_rfl) trivial (fun ρ wc hbc hcn hk => ?_) ?_; rotate_left
  · obtain ⟨hcn, -⟩ := hcn
    simp at hk
    go_simp
    rfl
  refine chain_val (u := ?_) [87] rfl (by kernel_rfl) trivial (fun ρ wc hbc hcn hk => ?_) ?_; rotate_left
  · obtain ⟨hcn, -⟩ := hcn
    simp at hk
    go_simp
    rfl
  refine chain_end_lit 88 rfl (fun ff w9 hb9 hk => ?_)
  refine hKK _ _ ?_
  clear hKK KK
  simp [AllN] at hk
  simp only [frameL, hk]
  have HB9 := Lib.hid hb9
  clear hb9 hk
  go_wp2
  go_ret
  exact ⟨rfl, HB.out.trans ((bel_drew (Below.refl _ _)).trans (HB9.out.mono (by simp; omega)))⟩

set_option maxRecDepth 100000 in
set_option maxHeartbeats 4000000 in
theorem RoundTrip_yn (x : Int) (k1 o1 d1 p1 el1 c1 pa1 sg1 lo1 : Int) (db1 : Bool) (k2 o2 d2 p2 el2 c2 pa2 sg2 lo2 : Int) (db2 : Bool) (w : World) (h5 : 0 ≤ x) (h6 : x < 18446744073709551616) (v1 : Vld ⟨k1, o1, d1, p1, el1, c1, db1, pa1, sg1, lo1⟩) (v2 : ¬ Vld ⟨k2, o2, d2, p2, el2, c2, db2, pa2, sg2, lo2⟩) :
    Calls Try.prog 4 #[.int .u64 x, .agg #[.int .i64 k1, .int .i64 o1, .int .i64 d1, .int .i64 p1, .int .i64 el1, .int .i64 c1, .bool db1, .int .i64 pa1, .int .u32 sg1, .int .u32 lo1], .agg #[.int .i64 k2, .int .i64 o2, .int .i64 d2, .int .i64 p2, .int .i64 el2, .int .i64 c2, .bool db2, .int .i64 pa2, .int .u32 sg2, .int .u32 lo2]] w fun e w' => e = .returned (.bool true) ∧ Below w.heap.size w w' := by
  go_enter Try.func4, Try.ntmps4
  go_wp2_with fail
  refine (awake_any _).mono ?_
  rintro e w1 ⟨rfl, hb1⟩
  have hz1 := hb1.size
  simp at hz1
  have xp1 := blk_below (blk_alloc (blk_new w #[.int .i64 k1, .int .i64 o1, .int .i64 d1, .int .i64 p1, .int .i64 el1, .int .i64 c1, .bool db1, .int .i64 pa1, .int .u32 sg1, .int .u32 lo1] 25) (by simp) (.cells #[.int .i64 k2, .int .i64 o2, .int .i64 d2, .int .i64 p2, .int .i64 el2, .int .i64 c2, .bool db2, .int .i64 pa2, .int .u32 sg2, .int .u32 lo2] 25)) hb1 (by simp; omega)
  have xq1 := blk_below (blk_new (w.alloc (.cells #[.int .i64 k1, .int .i64 o1, .int .i64 d1, .int .i64 p1, .int .i64 el1, .int .i64 c1, .bool db1, .int .i64 pa1, .int .u32 sg1, .int .u32 lo1] 25)) #[.int .i64 k2, .int .i64 o2, .int .i64 d2, .int .i64 p2, .int .i64 el2, .int .i64 c2, .bool db2, .int .i64 pa2, .int .u32 sg2, .int .u32 lo2] 25) hb1 (by simp)
  simp only [World.size_alloc] at xq1
  have B1 : Below w.heap.size w w1 := (((Below.refl _ _).alloc (Nat.le_refl _) _).alloc (by simp) _).trans (hb1.mono (by simp; omega))
  clear hb1
  go_wp2_with fail
  refine (Decode_any x _ h5 h6).mono ?_
  rintro e w2 ⟨rfl, hb2⟩
  have hz2 := hb2.size
  have xp2 := blk_below xp1 hb2 (by omega)
  have xq2 := blk_below xq1 hb2 (by omega)
  have B2 : Below w.heap.size w w2 := B1.trans (hb2.mono (by omega))
  have lp2 : w.heap.size < w2.heap.size := by omega
  have lq2 : w.heap.size + 1 < w2.heap.size := by omega
  clear hb2 xp1 xq1
  go_wp2_with fail
  refine (Encode_dec x _ h5 h6).mono ?_
  rintro e w3 ⟨rfl, hb3⟩
  have hz3 := hb3.size
  simp at hz3
  have xp3 := blk_below (blk_alloc xp2 (by omega) _) hb3 (by simp; omega)
  have xq3 := blk_below (blk_alloc xq2 (by omega) _) hb3 (by simp; omega)
  have xd3 := blk_below (blk_new w2 #[.int .i64 (decP x).k, .int .i64 (decP x).o, .int .i64 (decP x).d, .int .i64 (decP x).p, .int .i64 (decP x).el, .int .i64 (decP x).c, .bool (decP x).db, .int .i64 (decP x).pa, .int .u32 (decP x).sg, .int .u32 (decP x).lo] 25) hb3 (by simp)
  have B3 : Below w.heap.size w w3 := (B2.alloc (by omega) _).trans (hb3.mono (by simp; omega))
  clear hb3 xp2 xq2
  go_wp2_with fail
  refine (Valid_dec x _ h5 h6).mono ?_
  rintro e w4 ⟨rfl, hb4⟩
  have hz4 := hb4.size
  have xp4 := blk_below xp3 hb4 (by omega)
  have xq4 := blk_below xq3 hb4 (by omega)
  have B4 : Below w.heap.size w w4 := B3.trans (hb4.mono (by omega))
  clear hb4 xp3 xq3 xd3
  go_wp2_with fail
  refine (Encode_yes k1 o1 d1 p1 el1 c1 pa1 sg1 lo1 db1 _ v1).mono ?_
  rintro e w5 ⟨rfl, hb5⟩
  have hz5 := hb5.size
  have xp5 := blk_below xp4 hb5 (by omega)
  have xq5 := blk_below xq4 hb5 (by omega)
  have B5 : Below w.heap.size w w5 := B4.trans (hb5.mono (by omega))
  clear hb5 xp4 xq4
  go_wp2_with fail
  refine (Encode_no k2 o2 d2 p2 el2 c2 pa2 sg2 lo2 db2 _ v2).mono ?_
  rintro e w6 ⟨rfl, hb6⟩
  have hz6 := hb6.size
  have xp6 := blk_below xp5 hb6 (by omega)
  have xq6 := blk_below xq5 hb6 (by omega)
  have B6 : Below w.heap.size w w6 := B5.trans (hb6.mono (by omega))
  clear hb6 xp5 xq5
  go_wp2_with fail
  refine (Valid_yes k1 o1 d1 p1 el1 c1 pa1 sg1 lo1 db1 _ v1).mono ?_
  rintro e w7 ⟨rfl, hb7⟩
  have hz7 := hb7.size
  have xp7 := blk_below xp6 hb7 (by omega)
  have xq7 := blk_below xq6 hb7 (by omega)
  have B7 : Below w.heap.size w w7 := B6.trans (hb7.mono (by omega))
  clear hb7 xp6 xq6
  go_wp2_with fail
  refine (Valid_no k2 o2 d2 p2 el2 c2 pa2 sg2 lo2 db2 _ v2).mono ?_
  rintro e w8 ⟨rfl, hb8⟩
  have hz8 := hb8.size
  have xp8 := blk_below xp7 hb8 (by omega)
  have xq8 := blk_below xq7 hb8 (by omega)
  have HB := Lib.hid (B7.trans (hb8.mono (by omega)))
  have zp : w.heap.size < w8.heap.size := by omega
  have zq : w.heap.size + 1 < w8.heap.size := by omega
  clear hb8 xp7 xq7 B1 B2 B3 B4 B5 B6 B7 hz1 hz2 hz3 hz4 hz5 hz6 hz7 hz8
  go_wp2_with fail
  rename_i KK hKK
  refine wp_region_chain (by kernel_rfl) (by kernel_rfl) ?_
  refine chain_val (u := ?_) [11] rfl (by kernel_rfl) trivial (fun ρ wc hbc hcn hk => ?_) ?_; rotate_left
  · obtain ⟨hcn, -⟩ := hcn
    simp at hk
    go_simp
    rfl
  refine chain_val (u := ?_) [63] rfl (by kernel_rfl) trivial (fun ρ wc hbc hcn hk => ?_) ?_; rotate_left
  · obtain ⟨hcn, -⟩ := hcn
    simp at hk
    go_simp
    rfl
  refine chain_val (u := ?_) [64] rfl (by kernel_rfl) trivial (fun ρ wc hbc hcn hk => ?_) ?_; rotate_left
  · obtain ⟨hcn, -⟩ := hcn
    simp at hk
    go_simp
    rfl
  refine chain_val (u := ?_) [10] rfl (by kernel_rfl) ⟨65, by decide +kernel, rfl, fun w x hx => by simpa using hx⟩ (fun ρ wc hbc hcn hk => ?_) ?_; rotate_left
  · obtain ⟨hcn, -⟩ := hcn
    simp at hk
    go_simp
    rfl
  refine chain_call (T := Is ?_) 11 [66] rfl (by kernel_rfl) ⟨65, by decide +kernel, rfl, fun w x hx => by simpa using hx⟩ (stable_is _) (fun ρ wc hbc hcn hk => ?_) ?_; rotate_left
  · obtain ⟨hcn, hfn⟩ := hcn
    simp at hk
    refine ⟨_, by go_simp; rfl, ?_⟩
    refine (Decode_enc k1 o1 d1 p1 el1 c1 pa1 sg1 lo1 db1 _ v1).mono ?_
    rintro e w' ⟨rfl, hbq⟩
    refine ⟨_, rfl, ?_, hbq⟩
    unfold Is
    rfl
  refine chain_val (u := ?_) [4] rfl (by kernel_rfl) ⟨65, by decide +kernel, rfl, fun w x hx => by simpa using hx⟩ (fun ρ wc hbc hcn hk => ?_) ?_; rotate_left
  · obtain ⟨hcn, -⟩ := hcn
    simp at hk
    obtain ⟨hcc, -⟩ := bcell hbc
    simp at hcc
    go_simp
    rfl
  refine chain_val (u := ?_) [67, 68] rfl (by kernel_rfl) ⟨65, by decide +kernel, rfl, fun w x hx => by simpa using hx⟩ (fun ρ wc hbc hcn hk => ?_) ?_; rotate_left
  · obtain ⟨hcn, -⟩ := hcn
    simp at hk
    go_simp
    rfl
  refine chain_val (u := ?_) [65, 69] rfl (by kernel_rfl) trivial (fun ρ wc hbc hcn hk => ?_) ?_; rotate_left
  · obtain ⟨hcn, -⟩ := hcn
    simp at hk
    go_simp
    rfl
  refine chain_val (u := ?_) [70] rfl (by kernel_rfl) trivial (fun ρ wc hbc hcn hk => ?_) ?_; rotate_left
  · obtain ⟨hcn, -⟩ := hcn
    simp at hk
    go_simp
    rfl
  refine chain_val (u := ?_) [11] rfl (by kernel_rfl) ⟨71, by decide +kernel, rfl, fun w x hx => by simpa using hx⟩ (fun ρ wc hbc hcn hk => ?_) ?_; rotate_left
  · obtain ⟨hcn, -⟩ := hcn
    simp at hk
    go_simp
    rfl
  refine chain_val (u := ?_) [72] rfl (by kernel_rfl) ⟨71, by decide +kernel, rfl, fun w x hx => by simpa using hx⟩ (fun ρ wc hbc hcn hk => ?_) ?_; rotate_left
  · obtain ⟨hcn, -⟩ := hcn
    simp at hk
    go_simp
    rfl
  refine chain_val (u := ?_) [73] rfl (by kernel_rfl) ⟨71, by decide +kernel, rfl, fun w x hx => by simpa using hx⟩ (fun ρ wc hbc hcn hk => ?_) ?_; rotate_left
  · obtain ⟨hcn, -⟩ := hcn
    simp at hk
    go_simp
    rfl
  refine chain_val (u := ?_) [13] rfl (by kernel_rfl) ⟨74, by decide +kernel, rfl, fun w x hx => by simpa using hx⟩ (fun ρ wc hbc hcn hk => ?_) ?_; rotate_left
  · obtain ⟨hcn, -⟩ := hcn
    simp at hk
    go_simp
    rfl
  refine chain_val (u := ?_) [75] rfl (by kernel_rfl) ⟨74, by decide +kernel, rfl, fun w x hx => by simpa using hx⟩ (fun ρ wc hbc hcn hk => ?_) ?_; rotate_left
  · obtain ⟨hcn, -⟩ := hcn
    simp at hk
    go_simp
    rfl
  refine chain_val (u := ?_) [74, 76] rfl (by kernel_rfl) ⟨71, by decide +kernel, rfl, fun w x hx => by simpa using hx⟩ (fun ρ wc hbc hcn hk => ?_) ?_; rotate_left
  · obtain ⟨hcn, -⟩ := hcn
    simp at hk
    go_simp
    rfl
  refine chain_val (u := ?_) [77] rfl (by kernel_rfl) ⟨71, by decide +kernel, rfl, fun w x hx => by simpa using hx⟩ (fun ρ wc hbc hcn hk => ?_) ?_; rotate_left
  · obtain ⟨hcn, -⟩ := hcn
    simp at hk
    go_simp
    rfl
  refine chain_skip (s := 78) (c := true) rfl rfl (by decide +kernel) rfl rfl (fun w x hx => by simpa using hx) ?_
  refine chain_skip (s := 78) (c := true) rfl rfl (by decide +kernel) rfl rfl (fun w x hx => by simpa using hx) ?_
  refine chain_skip (s := 78) (c := true) rfl rfl (by decide +kernel) rfl rfl (fun w x hx => by simpa using hx) ?_
  refine chain_skip (s := 78) (c := true) rfl rfl (by decide +kernel) rfl rfl (fun w x hx => by simpa using hx) ?_
  refine chain_skip (s := 78) (c := true) rfl rfl (by decide +kernel) rfl rfl (fun w x hx => by simpa using hx) ?_
  refine chain_skip (s := 78) (c := true) rfl rfl (by decide +kernel) rfl rfl (fun w x hx => by simpa using hx) ?_
  refine chain_skip (s := 78) (c := true) rfl rfl (by decide +kernel) rfl rfl (fun w x hx => by simpa using hx) ?_
  refine chain_val (u := ?_) [78, 85] rfl (by kernel_rfl) ⟨71, by decide +kernel, rfl, fun w x hx => by simpa using hx⟩ (fun ρ wc hbc hcn hk => ?_) ?_; rotate_left
  · obtain ⟨hcn, -⟩ := hcn
    simp at hk
    go_simp
    rfl
  refine chain_val (u := ?_) [71, 86] rfl (by kernel_rfl) trivial (fun ρ wc hbc hcn hk => ?_) ?_; rotate_left
  · obtain ⟨hcn, -⟩ := hcn
    simp at hk
    go_simp
    rfl
  refine chain_val (u := ?_) [87] rfl (by kernel_rfl) trivial (fun ρ wc hbc hcn hk => ?_) ?_; rotate_left
  · obtain ⟨hcn, -⟩ := hcn
    simp at hk
    go_simp
    rfl
  refine chain_end_lit 88 rfl (fun ff w9 hb9 hk => ?_)
  refine hKK _ _ ?_
  clear hKK KK
  simp [AllN] at hk
  simp only [frameL, hk]
  have HB9 := Lib.hid hb9
  clear hb9 hk
  go_wp2
  go_ret
  exact ⟨rfl, HB.out.trans ((bel_drew (Below.refl _ _)).trans (HB9.out.mono (by simp; omega)))⟩

set_option maxRecDepth 100000 in
set_option maxHeartbeats 4000000 in
theorem RoundTrip_ny (x : Int) (k1 o1 d1 p1 el1 c1 pa1 sg1 lo1 : Int) (db1 : Bool) (k2 o2 d2 p2 el2 c2 pa2 sg2 lo2 : Int) (db2 : Bool) (w : World) (h5 : 0 ≤ x) (h6 : x < 18446744073709551616) (v1 : ¬ Vld ⟨k1, o1, d1, p1, el1, c1, db1, pa1, sg1, lo1⟩) (v2 : Vld ⟨k2, o2, d2, p2, el2, c2, db2, pa2, sg2, lo2⟩) :
    Calls Try.prog 4 #[.int .u64 x, .agg #[.int .i64 k1, .int .i64 o1, .int .i64 d1, .int .i64 p1, .int .i64 el1, .int .i64 c1, .bool db1, .int .i64 pa1, .int .u32 sg1, .int .u32 lo1], .agg #[.int .i64 k2, .int .i64 o2, .int .i64 d2, .int .i64 p2, .int .i64 el2, .int .i64 c2, .bool db2, .int .i64 pa2, .int .u32 sg2, .int .u32 lo2]] w fun e w' => e = .returned (.bool true) ∧ Below w.heap.size w w' := by
  go_enter Try.func4, Try.ntmps4
  go_wp2_with fail
  refine (awake_any _).mono ?_
  rintro e w1 ⟨rfl, hb1⟩
  have hz1 := hb1.size
  simp at hz1
  have xp1 := blk_below (blk_alloc (blk_new w #[.int .i64 k1, .int .i64 o1, .int .i64 d1, .int .i64 p1, .int .i64 el1, .int .i64 c1, .bool db1, .int .i64 pa1, .int .u32 sg1, .int .u32 lo1] 25) (by simp) (.cells #[.int .i64 k2, .int .i64 o2, .int .i64 d2, .int .i64 p2, .int .i64 el2, .int .i64 c2, .bool db2, .int .i64 pa2, .int .u32 sg2, .int .u32 lo2] 25)) hb1 (by simp; omega)
  have xq1 := blk_below (blk_new (w.alloc (.cells #[.int .i64 k1, .int .i64 o1, .int .i64 d1, .int .i64 p1, .int .i64 el1, .int .i64 c1, .bool db1, .int .i64 pa1, .int .u32 sg1, .int .u32 lo1] 25)) #[.int .i64 k2, .int .i64 o2, .int .i64 d2, .int .i64 p2, .int .i64 el2, .int .i64 c2, .bool db2, .int .i64 pa2, .int .u32 sg2, .int .u32 lo2] 25) hb1 (by simp)
  simp only [World.size_alloc] at xq1
  have B1 : Below w.heap.size w w1 := (((Below.refl _ _).alloc (Nat.le_refl _) _).alloc (by simp) _).trans (hb1.mono (by simp; omega))
  clear hb1
  go_wp2_with fail
  refine (Decode_any x _ h5 h6).mono ?_
  rintro e w2 ⟨rfl, hb2⟩
  have hz2 := hb2.size
  have xp2 := blk_below xp1 hb2 (by omega)
  have xq2 := blk_below xq1 hb2 (by omega)
  have B2 : Below w.heap.size w w2 := B1.trans (hb2.mono (by omega))
  have lp2 : w.heap.size < w2.heap.size := by omega
  have lq2 : w.heap.size + 1 < w2.heap.size := by omega
  clear hb2 xp1 xq1
  go_wp2_with fail
  refine (Encode_dec x _ h5 h6).mono ?_
  rintro e w3 ⟨rfl, hb3⟩
  have hz3 := hb3.size
  simp at hz3
  have xp3 := blk_below (blk_alloc xp2 (by omega) _) hb3 (by simp; omega)
  have xq3 := blk_below (blk_alloc xq2 (by omega) _) hb3 (by simp; omega)
  have xd3 := blk_below (blk_new w2 #[.int .i64 (decP x).k, .int .i64 (decP x).o, .int .i64 (decP x).d, .int .i64 (decP x).p, .int .i64 (decP x).el, .int .i64 (decP x).c, .bool (decP x).db, .int .i64 (decP x).pa, .int .u32 (decP x).sg, .int .u32 (decP x).lo] 25) hb3 (by simp)
  have B3 : Below w.heap.size w w3 := (B2.alloc (by omega) _).trans (hb3.mono (by simp; omega))
  clear hb3 xp2 xq2
  go_wp2_with fail
  refine (Valid_dec x _ h5 h6).mono ?_
  rintro e w4 ⟨rfl, hb4⟩
  have hz4 := hb4.size
  have xp4 := blk_below xp3 hb4 (by omega)
  have xq4 := blk_below xq3 hb4 (by omega)
  have B4 : Below w.heap.size w w4 := B3.trans (hb4.mono (by omega))
  clear hb4 xp3 xq3 xd3
  go_wp2_with fail
  refine (Encode_no k1 o1 d1 p1 el1 c1 pa1 sg1 lo1 db1 _ v1).mono ?_
  rintro e w5 ⟨rfl, hb5⟩
  have hz5 := hb5.size
  have xp5 := blk_below xp4 hb5 (by omega)
  have xq5 := blk_below xq4 hb5 (by omega)
  have B5 : Below w.heap.size w w5 := B4.trans (hb5.mono (by omega))
  clear hb5 xp4 xq4
  go_wp2_with fail
  refine (Encode_yes k2 o2 d2 p2 el2 c2 pa2 sg2 lo2 db2 _ v2).mono ?_
  rintro e w6 ⟨rfl, hb6⟩
  have hz6 := hb6.size
  have xp6 := blk_below xp5 hb6 (by omega)
  have xq6 := blk_below xq5 hb6 (by omega)
  have B6 : Below w.heap.size w w6 := B5.trans (hb6.mono (by omega))
  clear hb6 xp5 xq5
  go_wp2_with fail
  refine (Valid_no k1 o1 d1 p1 el1 c1 pa1 sg1 lo1 db1 _ v1).mono ?_
  rintro e w7 ⟨rfl, hb7⟩
  have hz7 := hb7.size
  have xp7 := blk_below xp6 hb7 (by omega)
  have xq7 := blk_below xq6 hb7 (by omega)
  have B7 : Below w.heap.size w w7 := B6.trans (hb7.mono (by omega))
  clear hb7 xp6 xq6
  go_wp2_with fail
  refine (Valid_yes k2 o2 d2 p2 el2 c2 pa2 sg2 lo2 db2 _ v2).mono ?_
  rintro e w8 ⟨rfl, hb8⟩
  have hz8 := hb8.size
  have xp8 := blk_below xp7 hb8 (by omega)
  have xq8 := blk_below xq7 hb8 (by omega)
  have HB := Lib.hid (B7.trans (hb8.mono (by omega)))
  have zp : w.heap.size < w8.heap.size := by omega
  have zq : w.heap.size + 1 < w8.heap.size := by omega
  clear hb8 xp7 xq7 B1 B2 B3 B4 B5 B6 B7 hz1 hz2 hz3 hz4 hz5 hz6 hz7 hz8
  go_wp2_with fail
  rename_i KK hKK
  refine wp_region_chain (by kernel_rfl) (by kernel_rfl) ?_
  refine chain_val (u := ?_) [11] rfl (by kernel_rfl) trivial (fun ρ wc hbc hcn hk => ?_) ?_; rotate_left
  · obtain ⟨hcn, -⟩ := hcn
    simp at hk
    go_simp
    rfl
  refine chain_val (u := ?_) [63] rfl (by kernel_rfl) trivial (fun ρ wc hbc hcn hk => ?_) ?_; rotate_left
  · obtain ⟨hcn, -⟩ := hcn
    simp at hk
    go_simp
    rfl
  refine chain_val (u := ?_) [64] rfl (by kernel_rfl) trivial (fun ρ wc hbc hcn hk => ?_) ?_; rotate_left
  · obtain ⟨hcn, -⟩ := hcn
    simp at hk
    go_simp
    rfl
  refine chain_skip (s := 65) (c := true) rfl rfl (by decide +kernel) rfl rfl (fun w x hx => by simpa using hx) ?_
  refine chain_skip (s := 65) (c := true) rfl rfl (by decide +kernel) rfl rfl (fun w x hx => by simpa using hx) ?_
  refine chain_skip (s := 65) (c := true) rfl rfl (by decide +kernel) rfl rfl (fun w x hx => by simpa using hx) ?_
  refine chain_skip (s := 65) (c := true) rfl rfl (by decide +kernel) rfl rfl (fun w x hx => by simpa using hx) ?_
  refine chain_val (u := ?_) [65, 69] rfl (by kernel_rfl) trivial (fun ρ wc hbc hcn hk => ?_) ?_; rotate_left
  · obtain ⟨hcn, -⟩ := hcn
    simp at hk
    go_simp
    rfl
  refine chain_val (u := ?_) [70] rfl (by kernel_rfl) trivial (fun ρ wc hbc hcn hk => ?_) ?_; rotate_left
  · obtain ⟨hcn, -⟩ := hcn
    simp at hk
    go_simp
    rfl
  refine chain_val (u := ?_) [11] rfl (by kernel_rfl) ⟨71, by decide +kernel, rfl, fun w x hx => by simpa using hx⟩ (fun ρ wc hbc hcn hk => ?_) ?_; rotate_left
  · obtain ⟨hcn, -⟩ := hcn
    simp at hk
    go_simp
    rfl
  refine chain_val (u := ?_) [72] rfl (by kernel_rfl) ⟨71, by decide +kernel, rfl, fun w x hx => by simpa using hx⟩ (fun ρ wc hbc hcn hk => ?_) ?_; rotate_left
  · obtain ⟨hcn, -⟩ := hcn
    simp at hk
    go_simp
    rfl
  refine chain_val (u := ?_) [73] rfl (by kernel_rfl) ⟨71, by decide +kernel, rfl, fun w x hx => by simpa using hx⟩ (fun ρ wc hbc hcn hk => ?_) ?_; rotate_left
  · obtain ⟨hcn, -⟩ := hcn
    simp at hk
    go_simp
    rfl
  refine chain_skip (s := 74) (c := true) rfl rfl (by decide +kernel) rfl rfl (fun w x hx => by simpa using hx) ?_
  refine chain_skip (s := 74) (c := true) rfl rfl (by decide +kernel) rfl rfl (fun w x hx => by simpa using hx) ?_
  refine chain_val (u := ?_) [74, 76] rfl (by kernel_rfl) ⟨71, by decide +kernel, rfl, fun w x hx => by simpa using hx⟩ (fun ρ wc hbc hcn hk => ?_) ?_; rotate_left
  · obtain ⟨hcn, -⟩ := hcn
    simp at hk
    go_simp
    rfl
  refine chain_val (u := ?_) [77] rfl (by kernel_rfl) ⟨71, by decide +kernel, rfl, fun w x hx => by simpa using hx⟩ (fun ρ wc hbc hcn hk => ?_) ?_; rotate_left
  · obtain ⟨hcn, -⟩ := hcn
    simp at hk
    go_simp
    rfl
  refine chain_skip (s := 78) (c := true) rfl rfl (by decide +kernel) rfl rfl (fun w x hx => by simpa using hx) ?_
  refine chain_skip (s := 78) (c := true) rfl rfl (by decide +kernel) rfl rfl (fun w x hx => by simpa using hx) ?_
  refine chain_skip (s := 78) (c := true) rfl rfl (by decide +kernel) rfl rfl (fun w x hx => by simpa using hx) ?_
  refine chain_skip (s := 78) (c := true) rfl rfl (by decide +kernel) rfl rfl (fun w x hx => by simpa using hx) ?_
  refine chain_skip (s := 78) (c := true) rfl rfl (by decide +kernel) rfl rfl (fun w x hx => by simpa using hx) ?_
  refine chain_skip (s := 78) (c := true) rfl rfl (by decide +kernel) rfl rfl (fun w x hx => by simpa using hx) ?_
  refine chain_skip (s := 78) (c := true) rfl rfl (by decide +kernel) rfl rfl (fun w x hx => by simpa using hx) ?_
  refine chain_val (u := ?_) [78, 85] rfl (by kernel_rfl) ⟨71, by decide +kernel, rfl, fun w x hx => by simpa using hx⟩ (fun ρ wc hbc hcn hk => ?_) ?_; rotate_left
  · obtain ⟨hcn, -⟩ := hcn
    simp at hk
    go_simp
    rfl
  refine chain_val (u := ?_) [71, 86] rfl (by kernel_rfl) trivial (fun ρ wc hbc hcn hk => ?_) ?_; rotate_left
  · obtain ⟨hcn, -⟩ := hcn
    simp at hk
    go_simp
    rfl
  refine chain_val (u := ?_) [87] rfl (by kernel_rfl) trivial (fun ρ wc hbc hcn hk => ?_) ?_; rotate_left
  · obtain ⟨hcn, -⟩ := hcn
    simp at hk
    go_simp
    rfl
  refine chain_end_lit 88 rfl (fun ff w9 hb9 hk => ?_)
  refine hKK _ _ ?_
  clear hKK KK
  simp [AllN] at hk
  simp only [frameL, hk]
  have HB9 := Lib.hid hb9
  clear hb9 hk
  go_wp2
  go_ret
  exact ⟨rfl, HB.out.trans ((bel_drew (Below.refl _ _)).trans (HB9.out.mono (by simp; omega)))⟩

set_option maxRecDepth 100000 in
set_option maxHeartbeats 4000000 in
theorem RoundTrip_nn (x : Int) (k1 o1 d1 p1 el1 c1 pa1 sg1 lo1 : Int) (db1 : Bool) (k2 o2 d2 p2 el2 c2 pa2 sg2 lo2 : Int) (db2 : Bool) (w : World) (h5 : 0 ≤ x) (h6 : x < 18446744073709551616) (v1 : ¬ Vld ⟨k1, o1, d1, p1, el1, c1, db1, pa1, sg1, lo1⟩) (v2 : ¬ Vld ⟨k2, o2, d2, p2, el2, c2, db2, pa2, sg2, lo2⟩) :
    Calls Try.prog 4 #[.int .u64 x, .agg #[.int .i64 k1, .int .i64 o1, .int .i64 d1, .int .i64 p1, .int .i64 el1, .int .i64 c1, .bool db1, .int .i64 pa1, .int .u32 sg1, .int .u32 lo1], .agg #[.int .i64 k2, .int .i64 o2, .int .i64 d2, .int .i64 p2, .int .i64 el2, .int .i64 c2, .bool db2, .int .i64 pa2, .int .u32 sg2, .int .u32 lo2]] w fun e w' => e = .returned (.bool true) ∧ Below w.heap.size w w' := by
  go_enter Try.func4, Try.ntmps4
  go_wp2_with fail
  refine (awake_any _).mono ?_
  rintro e w1 ⟨rfl, hb1⟩
  have hz1 := hb1.size
  simp at hz1
  have xp1 := blk_below (blk_alloc (blk_new w #[.int .i64 k1, .int .i64 o1, .int .i64 d1, .int .i64 p1, .int .i64 el1, .int .i64 c1, .bool db1, .int .i64 pa1, .int .u32 sg1, .int .u32 lo1] 25) (by simp) (.cells #[.int .i64 k2, .int .i64 o2, .int .i64 d2, .int .i64 p2, .int .i64 el2, .int .i64 c2, .bool db2, .int .i64 pa2, .int .u32 sg2, .int .u32 lo2] 25)) hb1 (by simp; omega)
  have xq1 := blk_below (blk_new (w.alloc (.cells #[.int .i64 k1, .int .i64 o1, .int .i64 d1, .int .i64 p1, .int .i64 el1, .int .i64 c1, .bool db1, .int .i64 pa1, .int .u32 sg1, .int .u32 lo1] 25)) #[.int .i64 k2, .int .i64 o2, .int .i64 d2, .int .i64 p2, .int .i64 el2, .int .i64 c2, .bool db2, .int .i64 pa2, .int .u32 sg2, .int .u32 lo2] 25) hb1 (by simp)
  simp only [World.size_alloc] at xq1
  have B1 : Below w.heap.size w w1 := (((Below.refl _ _).alloc (Nat.le_refl _) _).alloc (by simp) _).trans (hb1.mono (by simp; omega))
  clear hb1
  go_wp2_with fail
  refine (Decode_any x _ h5 h6).mono ?_
  rintro e w2 ⟨rfl, hb2⟩
  have hz2 := hb2.size
  have xp2 := blk_below xp1 hb2 (by omega)
  have xq2 := blk_below xq1 hb2 (by omega)
  have B2 : Below w.heap.size w w2 := B1.trans (hb2.mono (by omega))
  have lp2 : w.heap.size < w2.heap.size := by omega
  have lq2 : w.heap.size + 1 < w2.heap.size := by omega
  clear hb2 xp1 xq1
  go_wp2_with fail
  refine (Encode_dec x _ h5 h6).mono ?_
  rintro e w3 ⟨rfl, hb3⟩
  have hz3 := hb3.size
  simp at hz3
  have xp3 := blk_below (blk_alloc xp2 (by omega) _) hb3 (by simp; omega)
  have xq3 := blk_below (blk_alloc xq2 (by omega) _) hb3 (by simp; omega)
  have xd3 := blk_below (blk_new w2 #[.int .i64 (decP x).k, .int .i64 (decP x).o, .int .i64 (decP x).d, .int .i64 (decP x).p, .int .i64 (decP x).el, .int .i64 (decP x).c, .bool (decP x).db, .int .i64 (decP x).pa, .int .u32 (decP x).sg, .int .u32 (decP x).lo] 25) hb3 (by simp)
  have B3 : Below w.heap.size w w3 := (B2.alloc (by omega) _).trans (hb3.mono (by simp; omega))
  clear hb3 xp2 xq2
  go_wp2_with fail
  refine (Valid_dec x _ h5 h6).mono ?_
  rintro e w4 ⟨rfl, hb4⟩
  have hz4 := hb4.size
  have xp4 := blk_below xp3 hb4 (by omega)
  have xq4 := blk_below xq3 hb4 (by omega)
  have B4 : Below w.heap.size w w4 := B3.trans (hb4.mono (by omega))
  clear hb4 xp3 xq3 xd3
  go_wp2_with fail
  refine (Encode_no k1 o1 d1 p1 el1 c1 pa1 sg1 lo1 db1 _ v1).mono ?_
  rintro e w5 ⟨rfl, hb5⟩
  have hz5 := hb5.size
  have xp5 := blk_below xp4 hb5 (by omega)
  have xq5 := blk_below xq4 hb5 (by omega)
  have B5 : Below w.heap.size w w5 := B4.trans (hb5.mono (by omega))
  clear hb5 xp4 xq4
  go_wp2_with fail
  refine (Encode_no k2 o2 d2 p2 el2 c2 pa2 sg2 lo2 db2 _ v2).mono ?_
  rintro e w6 ⟨rfl, hb6⟩
  have hz6 := hb6.size
  have xp6 := blk_below xp5 hb6 (by omega)
  have xq6 := blk_below xq5 hb6 (by omega)
  have B6 : Below w.heap.size w w6 := B5.trans (hb6.mono (by omega))
  clear hb6 xp5 xq5
  go_wp2_with fail
  refine (Valid_no k1 o1 d1 p1 el1 c1 pa1 sg1 lo1 db1 _ v1).mono ?_
  rintro e w7 ⟨rfl, hb7⟩
  have hz7 := hb7.size
  have xp7 := blk_below xp6 hb7 (by omega)
  have xq7 := blk_below xq6 hb7 (by omega)
  have B7 : Below w.heap.size w w7 := B6.trans (hb7.mono (by omega))
  clear hb7 xp6 xq6
  go_wp2_with fail
  refine (Valid_no k2 o2 d2 p2 el2 c2 pa2 sg2 lo2 db2 _ v2).mono ?_
  rintro e w8 ⟨rfl, hb8⟩
  have hz8 := hb8.size
  have xp8 := blk_below xp7 hb8 (by omega)
  have xq8 := blk_below xq7 hb8 (by omega)
  have HB := Lib.hid (B7.trans (hb8.mono (by omega)))
  have zp : w.heap.size < w8.heap.size := by omega
  have zq : w.heap.size + 1 < w8.heap.size := by omega
  clear hb8 xp7 xq7 B1 B2 B3 B4 B5 B6 B7 hz1 hz2 hz3 hz4 hz5 hz6 hz7 hz8
  go_wp2_with fail
  rename_i KK hKK
  refine wp_region_chain (by kernel_rfl) (by kernel_rfl) ?_
  refine chain_val (u := ?_) [11] rfl (by kernel_rfl) trivial (fun ρ wc hbc hcn hk => ?_) ?_; rotate_left
  · obtain ⟨hcn, -⟩ := hcn
    simp at hk
    go_simp
    rfl
  refine chain_val (u := ?_) [63] rfl (by kernel_rfl) trivial (fun ρ wc hbc hcn hk => ?_) ?_; rotate_left
  · obtain ⟨hcn, -⟩ := hcn
    simp at hk
    go_simp
    rfl
  refine chain_val (u := ?_) [64] rfl (by kernel_rfl) trivial (fun ρ wc hbc hcn hk => ?_) ?_; rotate_left
  · obtain ⟨hcn, -⟩ := hcn
    simp at hk
    go_simp
    rfl
  refine chain_skip (s := 65) (c := true) rfl rfl (by decide +kernel) rfl rfl (fun w x hx => by simpa using hx) ?_
  refine chain_skip (s := 65) (c := true) rfl rfl (by decide +kernel) rfl rfl (fun w x hx => by simpa using hx) ?_
  refine chain_skip (s := 65) (c := true) rfl rfl (by decide +kernel) rfl rfl (fun w x hx => by simpa using hx) ?_
  refine chain_skip (s := 65) (c := true) rfl rfl (by decide +kernel) rfl rfl (fun w x hx => by simpa using hx) ?_
  refine chain_val (u := ?_) [65, 69] rfl (by kernel_rfl) trivial (fun ρ wc hbc hcn hk => ?_) ?_; rotate_left
  · obtain ⟨hcn, -⟩ := hcn
    simp at hk
    go_simp
    rfl
  refine chain_val (u := ?_) [70] rfl (by kernel_rfl) trivial (fun ρ wc hbc hcn hk => ?_) ?_; rotate_left
  · obtain ⟨hcn, -⟩ := hcn
    simp at hk
    go_simp
    rfl
  refine chain_val (u := ?_) [11] rfl (by kernel_rfl) ⟨71, by decide +kernel, rfl, fun w x hx => by simpa using hx⟩ (fun ρ wc hbc hcn hk => ?_) ?_; rotate_left
  · obtain ⟨hcn, -⟩ := hcn
    simp at hk
    go_simp
    rfl
  refine chain_val (u := ?_) [72] rfl (by kernel_rfl) ⟨71, by decide +kernel, rfl, fun w x hx => by simpa using hx⟩ (fun ρ wc hbc hcn hk => ?_) ?_; rotate_left
  · obtain ⟨hcn, -⟩ := hcn
    simp at hk
    go_simp
    rfl
  refine chain_val (u := ?_) [73] rfl (by kernel_rfl) ⟨71, by decide +kernel, rfl, fun w x hx => by simpa using hx⟩ (fun ρ wc hbc hcn hk => ?_) ?_; rotate_left
  · obtain ⟨hcn, -⟩ := hcn
    simp at hk
    go_simp
    rfl
  refine chain_skip (s := 74) (c := true) rfl rfl (by decide +kernel) rfl rfl (fun w x hx => by simpa using hx) ?_
  refine chain_skip (s := 74) (c := true) rfl rfl (by decide +kernel) rfl rfl (fun w x hx => by simpa using hx) ?_
  refine chain_val (u := ?_) [74, 76] rfl (by kernel_rfl) ⟨71, by decide +kernel, rfl, fun w x hx => by simpa using hx⟩ (fun ρ wc hbc hcn hk => ?_) ?_; rotate_left
  · obtain ⟨hcn, -⟩ := hcn
    simp at hk
    go_simp
    rfl
  refine chain_val (u := ?_) [77] rfl (by kernel_rfl) ⟨71, by decide +kernel, rfl, fun w x hx => by simpa using hx⟩ (fun ρ wc hbc hcn hk => ?_) ?_; rotate_left
  · obtain ⟨hcn, -⟩ := hcn
    simp at hk
    go_simp
    rfl
  refine chain_skip (s := 78) (c := true) rfl rfl (by decide +kernel) rfl rfl (fun w x hx => by simpa using hx) ?_
  refine chain_skip (s := 78) (c := true) rfl rfl (by decide +kernel) rfl rfl (fun w x hx => by simpa using hx) ?_
  refine chain_skip (s := 78) (c := true) rfl rfl (by decide +kernel) rfl rfl (fun w x hx => by simpa using hx) ?_
  refine chain_skip (s := 78) (c := true) rfl rfl (by decide +kernel) rfl rfl (fun w x hx => by simpa using hx) ?_
  refine chain_skip (s := 78) (c := true) rfl rfl (by decide +kernel) rfl rfl (fun w x hx => by simpa using hx) ?_
  refine chain_skip (s := 78) (c := true) rfl rfl (by decide +kernel) rfl rfl (fun w x hx => by simpa using hx) ?_
  refine chain_skip (s := 78) (c := true) rfl rfl (by decide +kernel) rfl rfl (fun w x hx => by simpa using hx) ?_
  refine chain_val (u := ?_) [78, 85] rfl (by kernel_rfl) ⟨71, by decide +kernel, rfl, fun w x hx => by simpa using hx⟩ (fun ρ wc hbc hcn hk => ?_) ?_; rotate_left
  · obtain ⟨hcn, -⟩ := hcn
    simp at hk
    go_simp
    rfl
  refine chain_val (u := ?_) [71, 86] rfl (by kernel_rfl) trivial (fun ρ wc hbc hcn hk => ?_) ?_; rotate_left
  · obtain ⟨hcn, -⟩ := hcn
    simp at hk
    go_simp
    rfl
  refine chain_val (u := ?_) [87] rfl (by kernel_rfl) trivial (fun ρ wc hbc hcn hk => ?_) ?_; rotate_left
  · obtain ⟨hcn, -⟩ := hcn
    simp at hk
    go_simp
    rfl
  refine chain_end_lit 88 rfl (fun ff w9 hb9 hk => ?_)
  refine hKK _ _ ?_
  clear hKK KK
  simp [AllN] at hk
  simp only [frameL, hk]
  have HB9 := Lib.hid hb9
  clear hb9 hk
  go_wp2
  go_ret
  exact ⟨rfl, HB.out.trans ((bel_drew (Below.refl _ _)).trans (HB9.out.mono (by simp; omega)))⟩

theorem RoundTrip_walk (x : Int) (k1 o1 d1 p1 el1 c1 pa1 sg1 lo1 : Int) (db1 : Bool) (k2 o2 d2 p2 el2 c2 pa2 sg2 lo2 : Int) (db2 : Bool) (w : World) (h5 : 0 ≤ x) (h6 : x < 18446744073709551616) :
    Calls Try.prog 4 #[.int .u64 x, .agg #[.int .i64 k1, .int .i64 o1, .int .i64 d1, .int .i64 p1, .int .i64 el1, .int .i64 c1, .bool db1, .int .i64 pa1, .int .u32 sg1, .int .u32 lo1], .agg #[.int .i64 k2, .int .i64 o2, .int .i64 d2, .int .i64 p2, .int .i64 el2, .int .i64 c2, .bool db2, .int .i64 pa2, .int .u32 sg2, .int .u32 lo2]] w fun e w' => e = .returned (.bool true) ∧ Below w.heap.size w w' := by
  by_cases v1 : Vld ⟨k1, o1, d1, p1, el1, c1, db1, pa1, sg1, lo1⟩
  · by_cases v2 : Vld ⟨k2, o2, d2, p2, el2, c2, db2, pa2, sg2, lo2⟩
    · exact RoundTrip_yy x k1 o1 d1 p1 el1 c1 pa1 sg1 lo1 db1 k2 o2 d2 p2 el2 c2 pa2 sg2 lo2 db2 w h5 h6 v1 v2
    · exact RoundTrip_yn x k1 o1 d1 p1 el1 c1 pa1 sg1 lo1 db1 k2 o2 d2 p2 el2 c2 pa2 sg2 lo2 db2 w h5 h6 v1 v2
  · by_cases v2 : Vld ⟨k2, o2, d2, p2, el2, c2, db2, pa2, sg2, lo2⟩
    · exact RoundTrip_ny x k1 o1 d1 p1 el1 c1 pa1 sg1 lo1 db1 k2 o2 d2 p2 el2 c2 pa2 sg2 lo2 db2 w h5 h6 v1 v2
    · exact RoundTrip_nn x k1 o1 d1 p1 el1 c1 pa1 sg1 lo1 db1 k2 o2 d2 p2 el2 c2 pa2 sg2 lo2 db2 w h5 h6 v1 v2
end Go.Proofs.Ytcpampchcpccnaa
