/- The fixed examples of layer 2: 'awake' is true. -/
import Derived.Test.YtcpampchcpccnaaPtrFns
namespace Go.Proofs.Ytcpampchcpccnaa
open Go.ChangeShapes Go.WideShapes Go.ChangeAt Go.RowKit
set_option linter.unusedVariables false
set_option linter.unusedSimpArgs false

theorem Enc_a (w : World) : Calls Try.prog 9 #[.agg #[.int .i64 0, .int .i64 1, .int .i64 2, .int .i64 1, .int .i64 0, .int .i64 0, .bool false, .int .i64 0, .int .u32 0, .int .u32 0]] w fun e w' => e = .returned (.tuple #[.int .u64 281483566645252, .bool true]) ∧ Below w.heap.size w w' :=
  (Encode_any 0 1 2 1 0 0 0 0 0 false w).mono fun e w' ⟨h1, h2⟩ => ⟨h1.trans (by rw [show encE ⟨0, 1, 2, 1, 0, 0, false, 0, 0, 0⟩ = 281483566645252 by decide +kernel, show okE ⟨0, 1, 2, 1, 0, 0, false, 0, 0, 0⟩ = true by decide +kernel]), h2⟩
theorem Enc_b (w : World) : Calls Try.prog 9 #[.agg #[.int .i64 0, .int .i64 (-1), .int .i64 0, .int .i64 0, .int .i64 0, .int .i64 0, .bool false, .int .i64 0, .int .u32 0, .int .u32 0]] w fun e w' => e = .returned (.tuple #[.int .u64 4294967292, .bool true]) ∧ Below w.heap.size w w' :=
  (Encode_any 0 (-1) 0 0 0 0 0 0 0 false w).mono fun e w' ⟨h1, h2⟩ => ⟨h1.trans (by rw [show encE ⟨0, (-1), 0, 0, 0, 0, false, 0, 0, 0⟩ = 4294967292 by decide +kernel, show okE ⟨0, (-1), 0, 0, 0, 0, false, 0, 0, 0⟩ = true by decide +kernel]), h2⟩
theorem Enc_c (w : World) : Calls Try.prog 9 #[.agg #[.int .i64 0, .int .i64 536870912, .int .i64 0, .int .i64 0, .int .i64 0, .int .i64 0, .bool false, .int .i64 0, .int .u32 0, .int .u32 0]] w fun e w' => e = .returned (.tuple #[.int .u64 0, .bool false]) ∧ Below w.heap.size w w' :=
  (Encode_any 0 536870912 0 0 0 0 0 0 0 false w).mono fun e w' ⟨h1, h2⟩ => ⟨h1.trans (by rw [show encE ⟨0, 536870912, 0, 0, 0, 0, false, 0, 0, 0⟩ = 0 by decide +kernel, show okE ⟨0, 536870912, 0, 0, 0, 0, false, 0, 0, 0⟩ = false by decide +kernel]), h2⟩
theorem Dec_a (w : World) : Calls Try.prog 11 #[.int .u64 281483566645252] w fun e w' => e = .returned (.agg #[.int .i64 0, .int .i64 1, .int .i64 2, .int .i64 1, .int .i64 0, .int .i64 0, .bool false, .int .i64 0, .int .u32 0, .int .u32 0]) ∧ Below w.heap.size w w' :=
  (Decode_any 281483566645252 w (by decide) (by decide)).mono fun e w' ⟨h1, h2⟩ => ⟨h1.trans (by rw [show decP 281483566645252 = ⟨0, 1, 2, 1, 0, 0, false, 0, 0, 0⟩ by rfl]), h2⟩
theorem Dec_l (w : World) : Calls Try.prog 11 #[.int .u64 373662154753] w fun e w' => e = .returned (.agg #[.int .i64 1, .int .i64 0, .int .i64 0, .int .i64 0, .int .i64 7, .int .i64 10, .bool false, .int .i64 0, .int .u32 0, .int .u32 0]) ∧ Below w.heap.size w w' :=
  (Decode_any 373662154753 w (by decide) (by decide)).mono fun e w' ⟨h1, h2⟩ => ⟨h1.trans (by rw [show decP 373662154753 = ⟨1, 0, 0, 0, 7, 10, false, 0, 0, 0⟩ by rfl]), h2⟩
theorem Dec_f (w : World) : Calls Try.prog 11 #[.int .u64 12884901910] w fun e w' => e = .returned (.agg #[.int .i64 2, .int .i64 0, .int .i64 0, .int .i64 0, .int .i64 0, .int .i64 0, .bool true, .int .i64 2, .int .u32 3, .int .u32 0]) ∧ Below w.heap.size w w' :=
  (Decode_any 12884901910 w (by decide) (by decide)).mono fun e w' ⟨h1, h2⟩ => ⟨h1.trans (by rw [show decP 12884901910 = ⟨2, 0, 0, 0, 0, 0, true, 2, 3, 0⟩ by rfl]), h2⟩
theorem Dec_c (w : World) : Calls Try.prog 11 #[.int .u64 21474836483] w fun e w' => e = .returned (.agg #[.int .i64 3, .int .i64 0, .int .i64 0, .int .i64 0, .int .i64 0, .int .i64 0, .bool false, .int .i64 0, .int .u32 5, .int .u32 0]) ∧ Below w.heap.size w w' :=
  (Decode_any 21474836483 w (by decide) (by decide)).mono fun e w' ⟨h1, h2⟩ => ⟨h1.trans (by rw [show decP 21474836483 = ⟨3, 0, 0, 0, 0, 0, false, 0, 5, 0⟩ by rfl]), h2⟩
theorem Val_4 (w : World) : Calls Try.prog 13 #[.agg #[.int .i64 4, .int .i64 0, .int .i64 0, .int .i64 0, .int .i64 0, .int .i64 0, .bool false, .int .i64 0, .int .u32 0, .int .u32 0]] w fun e w' => e = .returned (.bool false) ∧ Below w.heap.size w w' :=
  (Valid_any 4 0 0 0 0 0 0 0 0 false w).mono fun e w' ⟨h1, h2⟩ => ⟨h1.trans (by rw [show okE ⟨4, 0, 0, 0, 0, 0, false, 0, 0, 0⟩ = false by decide +kernel]), h2⟩

attribute [local simp] AllK KnowsV look Is

set_option maxHeartbeats 4000000 in
theorem awake_any (w : World) : Calls Try.prog 8 #[] w fun e w' => e = .returned (.bool true) ∧ Below w.heap.size w w' := by
  go_enter Try.func8, Try.ntmps8
  go_wp2_with fail
  refine (Enc_a _).mono ?_
  rintro e w1 ⟨rfl, hb1⟩
  have hz1 := hb1.size
  try simp at hz1
  have xs1 := blk_below (blk_new w #[.int .i64 0, .int .i64 1, .int .i64 2, .int .i64 1, .int .i64 0, .int .i64 0, .bool false, .int .i64 0, .int .u32 0, .int .u32 0] 25) hb1 (by simp)
  have B1 : Below w.heap.size w w1 := bel_on ((Below.refl _ _).alloc (Nat.le_refl _) _) hb1
  clear hb1 
  go_wp2_with fail
  refine (Enc_b _).mono ?_
  rintro e w2 ⟨rfl, hb2⟩
  have hz2 := hb2.size
  try simp at hz2
  have xs2 := blk_below xs1 hb2 (by omega)
  have B2 : Below w.heap.size w w2 := B1.trans (hb2.mono (by omega))
  clear hb2 xs1
  go_wp2_with fail
  refine (Dec_l _).mono ?_
  rintro e w3 ⟨rfl, hb3⟩
  have hz3 := hb3.size
  try simp at hz3
  have xs3 := blk_below xs2 hb3 (by omega)
  have B3 : Below w.heap.size w w3 := B2.trans (hb3.mono (by omega))
  clear hb3 xs2
  go_wp2_with fail
  refine (Dec_f _).mono ?_
  rintro e w4 ⟨rfl, hb4⟩
  have hz4 := hb4.size
  try simp at hz4
  have xs4 := blk_below (blk_alloc xs3 (by omega) _) hb4 (by simp; omega)
  have xl4 := blk_below (blk_new w3 #[.int .i64 1, .int .i64 0, .int .i64 0, .int .i64 0, .int .i64 7, .int .i64 10, .bool false, .int .i64 0, .int .u32 0, .int .u32 0] 25) hb4 (by simp)
  have B4 : Below w.heap.size w w4 := (B3.alloc (by omega) _).trans (hb4.mono (by simp; omega))
  clear hb4 xs3
  go_wp2_with fail
  refine (Dec_c _).mono ?_
  rintro e w5 ⟨rfl, hb5⟩
  have hz5 := hb5.size
  try simp at hz5
  have xs5 := blk_below (blk_alloc xs4 (by omega) _) hb5 (by simp; omega)
  have xl5 := blk_below (blk_alloc xl4 (by omega) _) hb5 (by simp; omega)
  have xf5 := blk_below (blk_new w4 #[.int .i64 2, .int .i64 0, .int .i64 0, .int .i64 0, .int .i64 0, .int .i64 0, .bool true, .int .i64 2, .int .u32 3, .int .u32 0] 25) hb5 (by simp)
  have B5 : Below w.heap.size w w5 := (B4.alloc (by omega) _).trans (hb5.mono (by simp; omega))
  clear hb5 xs4 xl4
  go_wp2_with fail
  refine (Enc_c _).mono ?_
  rintro e w6 ⟨rfl, hb6⟩
  have hz6 := hb6.size
  try simp at hz6
  have xs6 := blk_below (blk_alloc xs5 (by omega) _) hb6 (by simp; omega)
  have xl6 := blk_below (blk_alloc xl5 (by omega) _) hb6 (by simp; omega)
  have xf6 := blk_below (blk_alloc xf5 (by omega) _) hb6 (by simp; omega)
  have xc6 := blk_below (blk_new w5 #[.int .i64 3, .int .i64 0, .int .i64 0, .int .i64 0, .int .i64 0, .int .i64 0, .bool false, .int .i64 0, .int .u32 5, .int .u32 0] 25) hb6 (by simp)
  have B6 : Below w.heap.size w w6 := (B5.alloc (by omega) _).trans (hb6.mono (by simp; omega))
  clear hb6 xs5 xl5 xf5
  have zs : w.heap.size < w6.heap.size := by omega
  have zl : w3.heap.size < w6.heap.size := by omega
  have zf : w4.heap.size < w6.heap.size := by omega
  have zc : w5.heap.size < w6.heap.size := by omega
  have HB := Lib.hid B6
  clear B1 B2 B3 B4 B5 B6 hz1 hz2 hz3 hz4 hz5 hz6
  go_wp2_with fail
  rename_i KK hKK
  refine wp_region_chain (by kernel_rfl) (by kernel_rfl) ?_
  refine chain_val (u := ?_) [2] rfl (by kernel_rfl) trivial (fun ρ wc hbc hcn hk => ?_) ?_; rotate_left
  · obtain ⟨hcn, -⟩ := hcn
    simp at hk
    go_simp
    rfl
  refine chain_val (u := ?_) [30] rfl (by kernel_rfl) trivial (fun ρ wc hbc hcn hk => ?_) ?_; rotate_left
  · obtain ⟨hcn, -⟩ := hcn
    simp at hk
    go_simp
    rfl
  refine chain_val (u := ?_) [31] rfl (by kernel_rfl) trivial (fun ρ wc hbc hcn hk => ?_) ?_; rotate_left
  · obtain ⟨hcn, -⟩ := hcn
    simp at hk
    go_simp
    rfl
  refine chain_val (u := ?_) [3] rfl (by kernel_rfl) ⟨32, by decide +kernel, rfl, fun w x hx => by simpa using hx⟩ (fun ρ wc hbc hcn hk => ?_) ?_; rotate_left
  · obtain ⟨hcn, -⟩ := hcn
    simp at hk
    go_simp
    rfl
  refine chain_val (u := ?_) [32, 33] rfl (by kernel_rfl) trivial (fun ρ wc hbc hcn hk => ?_) ?_; rotate_left
  · obtain ⟨hcn, -⟩ := hcn
    simp at hk
    go_simp
    rfl
  refine chain_val (u := ?_) [34] rfl (by kernel_rfl) trivial (fun ρ wc hbc hcn hk => ?_) ?_; rotate_left
  · obtain ⟨hcn, -⟩ := hcn
    simp at hk
    go_simp
    rfl
  refine chain_val (u := ?_) [2] rfl (by kernel_rfl) ⟨35, by decide +kernel, rfl, fun w x hx => by simpa using hx⟩ (fun ρ wc hbc hcn hk => ?_) ?_; rotate_left
  · obtain ⟨hcn, -⟩ := hcn
    simp at hk
    go_simp
    rfl
  refine chain_call (T := Is ?_) 11 [36] rfl (by kernel_rfl) ⟨35, by decide +kernel, rfl, fun w x hx => by simpa using hx⟩ (stable_is _) (fun ρ wc hbc hcn hk => ?_) ?_; rotate_left
  · obtain ⟨hcn, hfn⟩ := hcn
    simp at hk
    refine ⟨_, by go_simp; rfl, ?_⟩
    refine (Dec_a _).mono ?_
    rintro e w' ⟨rfl, hbq⟩
    refine ⟨_, rfl, ?_, hbq⟩
    unfold Is
    rfl
  refine chain_val (u := ?_) [1] rfl (by kernel_rfl) ⟨35, by decide +kernel, rfl, fun w x hx => by simpa using hx⟩ (fun ρ wc hbc hcn hk => ?_) ?_; rotate_left
  · obtain ⟨hcn, -⟩ := hcn
    simp at hk
    obtain ⟨hcc, -⟩ := bcell hbc
    simp at hcc
    go_simp
    rfl
  refine chain_val (u := ?_) [37, 38] rfl (by kernel_rfl) ⟨35, by decide +kernel, rfl, fun w x hx => by simpa using hx⟩ (fun ρ wc hbc hcn hk => ?_) ?_; rotate_left
  · obtain ⟨hcn, -⟩ := hcn
    simp at hk
    go_simp
    rfl
  refine chain_val (u := ?_) [35, 39] rfl (by kernel_rfl) trivial (fun ρ wc hbc hcn hk => ?_) ?_; rotate_left
  · obtain ⟨hcn, -⟩ := hcn
    simp at hk
    go_simp
    rfl
  refine chain_val (u := ?_) [40] rfl (by kernel_rfl) trivial (fun ρ wc hbc hcn hk => ?_) ?_; rotate_left
  · obtain ⟨hcn, -⟩ := hcn
    simp at hk
    go_simp
    rfl
  refine chain_val (u := ?_) [4] rfl (by kernel_rfl) ⟨41, by decide +kernel, rfl, fun w x hx => by simpa using hx⟩ (fun ρ wc hbc hcn hk => ?_) ?_; rotate_left
  · obtain ⟨hcn, -⟩ := hcn
    simp at hk
    go_simp
    rfl
  refine chain_val (u := ?_) [42] rfl (by kernel_rfl) ⟨41, by decide +kernel, rfl, fun w x hx => by simpa using hx⟩ (fun ρ wc hbc hcn hk => ?_) ?_; rotate_left
  · obtain ⟨hcn, -⟩ := hcn
    simp at hk
    go_simp
    rfl
  refine chain_val (u := ?_) [41, 43] rfl (by kernel_rfl) trivial (fun ρ wc hbc hcn hk => ?_) ?_; rotate_left
  · obtain ⟨hcn, -⟩ := hcn
    simp at hk
    go_simp
    rfl
  refine chain_val (u := ?_) [44] rfl (by kernel_rfl) trivial (fun ρ wc hbc hcn hk => ?_) ?_; rotate_left
  · obtain ⟨hcn, -⟩ := hcn
    simp at hk
    go_simp
    rfl
  refine chain_val (u := ?_) [5] rfl (by kernel_rfl) ⟨45, by decide +kernel, rfl, fun w x hx => by simpa using hx⟩ (fun ρ wc hbc hcn hk => ?_) ?_; rotate_left
  · obtain ⟨hcn, -⟩ := hcn
    simp at hk
    go_simp
    rfl
  refine chain_val (u := ?_) [45, 46] rfl (by kernel_rfl) trivial (fun ρ wc hbc hcn hk => ?_) ?_; rotate_left
  · obtain ⟨hcn, -⟩ := hcn
    simp at hk
    go_simp
    rfl
  refine chain_val (u := ?_) [47] rfl (by kernel_rfl) trivial (fun ρ wc hbc hcn hk => ?_) ?_; rotate_left
  · obtain ⟨hcn, -⟩ := hcn
    simp at hk
    go_simp
    rfl
  refine chain_val (u := ?_) [6] rfl (by kernel_rfl) ⟨48, by decide +kernel, rfl, fun w x hx => by simpa using hx⟩ (fun ρ wc hbc hcn hk => ?_) ?_; rotate_left
  · obtain ⟨hcn, -⟩ := hcn
    simp at hk
    obtain ⟨hcc, -⟩ := bcell hbc
    simp at hcc
    go_simp
    rfl
  refine chain_val (u := ?_) [] rfl (by kernel_rfl) ⟨48, by decide +kernel, rfl, fun w x hx => by simpa using hx⟩ (fun ρ wc hbc hcn hk => ?_) ?_; rotate_left
  · obtain ⟨hcn, -⟩ := hcn
    go_simp
    rfl
  refine chain_val (u := ?_) [49, 50] rfl (by kernel_rfl) ⟨48, by decide +kernel, rfl, fun w x hx => by simpa using hx⟩ (fun ρ wc hbc hcn hk => ?_) ?_; rotate_left
  · obtain ⟨hcn, -⟩ := hcn
    simp at hk
    go_simp
    rfl
  refine chain_val (u := ?_) [48, 51] rfl (by kernel_rfl) trivial (fun ρ wc hbc hcn hk => ?_) ?_; rotate_left
  · obtain ⟨hcn, -⟩ := hcn
    simp at hk
    go_simp
    rfl
  refine chain_val (u := ?_) [52] rfl (by kernel_rfl) trivial (fun ρ wc hbc hcn hk => ?_) ?_; rotate_left
  · obtain ⟨hcn, -⟩ := hcn
    simp at hk
    go_simp
    rfl
  refine chain_val (u := ?_) [7] rfl (by kernel_rfl) ⟨53, by decide +kernel, rfl, fun w x hx => by simpa using hx⟩ (fun ρ wc hbc hcn hk => ?_) ?_; rotate_left
  · obtain ⟨hcn, -⟩ := hcn
    simp at hk
    obtain ⟨hcc, -⟩ := bcell hbc
    simp at hcc
    go_simp
    rfl
  refine chain_val (u := ?_) [] rfl (by kernel_rfl) ⟨53, by decide +kernel, rfl, fun w x hx => by simpa using hx⟩ (fun ρ wc hbc hcn hk => ?_) ?_; rotate_left
  · obtain ⟨hcn, -⟩ := hcn
    go_simp
    rfl
  refine chain_val (u := ?_) [54, 55] rfl (by kernel_rfl) ⟨53, by decide +kernel, rfl, fun w x hx => by simpa using hx⟩ (fun ρ wc hbc hcn hk => ?_) ?_; rotate_left
  · obtain ⟨hcn, -⟩ := hcn
    simp at hk
    go_simp
    rfl
  refine chain_val (u := ?_) [53, 56] rfl (by kernel_rfl) trivial (fun ρ wc hbc hcn hk => ?_) ?_; rotate_left
  · obtain ⟨hcn, -⟩ := hcn
    simp at hk
    go_simp
    rfl
  refine chain_val (u := ?_) [57] rfl (by kernel_rfl) trivial (fun ρ wc hbc hcn hk => ?_) ?_; rotate_left
  · obtain ⟨hcn, -⟩ := hcn
    simp at hk
    go_simp
    rfl
  refine chain_val (u := ?_) [8] rfl (by kernel_rfl) ⟨58, by decide +kernel, rfl, fun w x hx => by simpa using hx⟩ (fun ρ wc hbc hcn hk => ?_) ?_; rotate_left
  · obtain ⟨hcn, -⟩ := hcn
    simp at hk
    obtain ⟨hcc, -⟩ := bcell hbc
    simp at hcc
    go_simp
    rfl
  refine chain_val (u := ?_) [] rfl (by kernel_rfl) ⟨58, by decide +kernel, rfl, fun w x hx => by simpa using hx⟩ (fun ρ wc hbc hcn hk => ?_) ?_; rotate_left
  · obtain ⟨hcn, -⟩ := hcn
    go_simp
    rfl
  refine chain_val (u := ?_) [59, 60] rfl (by kernel_rfl) ⟨58, by decide +kernel, rfl, fun w x hx => by simpa using hx⟩ (fun ρ wc hbc hcn hk => ?_) ?_; rotate_left
  · obtain ⟨hcn, -⟩ := hcn
    simp at hk
    go_simp
    rfl
  refine chain_val (u := ?_) [58, 61] rfl (by kernel_rfl) trivial (fun ρ wc hbc hcn hk => ?_) ?_; rotate_left
  · obtain ⟨hcn, -⟩ := hcn
    simp at hk
    go_simp
    rfl
  refine chain_val (u := ?_) [62] rfl (by kernel_rfl) trivial (fun ρ wc hbc hcn hk => ?_) ?_; rotate_left
  · obtain ⟨hcn, -⟩ := hcn
    simp at hk
    go_simp
    rfl
  refine chain_val (u := ?_) [8] rfl (by kernel_rfl) ⟨63, by decide +kernel, rfl, fun w x hx => by simpa using hx⟩ (fun ρ wc hbc hcn hk => ?_) ?_; rotate_left
  · obtain ⟨hcn, -⟩ := hcn
    simp at hk
    obtain ⟨hcc, -⟩ := bcell hbc
    simp at hcc
    go_simp
    rfl
  refine chain_call (T := Is ?_) 16 [64] rfl (by kernel_rfl) ⟨63, by decide +kernel, rfl, fun w x hx => by simpa using hx⟩ (stable_is _) (fun ρ wc hbc hcn hk => ?_) ?_; rotate_left
  · obtain ⟨hcn, hfn⟩ := hcn
    simp at hk
    refine ⟨_, by go_simp; rfl, ?_⟩
    refine (IsCapability_any _ _ _ _ _ _ _ _ _ _ _).mono ?_
    rintro e w' ⟨rfl, hbq⟩
    refine ⟨_, rfl, ?_, hbq⟩
    unfold Is
    rfl
  refine chain_val (u := ?_) [63, 65] rfl (by kernel_rfl) trivial (fun ρ wc hbc hcn hk => ?_) ?_; rotate_left
  · obtain ⟨hcn, -⟩ := hcn
    simp at hk
    go_simp
    rfl
  refine chain_val (u := ?_) [66] rfl (by kernel_rfl) trivial (fun ρ wc hbc hcn hk => ?_) ?_; rotate_left
  · obtain ⟨hcn, -⟩ := hcn
    simp at hk
    go_simp
    rfl
  refine chain_val (u := ?_) [] rfl (by kernel_rfl) ⟨67, by decide +kernel, rfl, fun w x hx => by simpa using hx⟩ (fun ρ wc hbc hcn hk => ?_) ?_; rotate_left
  · obtain ⟨hcn, -⟩ := hcn
    go_simp
    rfl
  refine chain_call (T := Is ?_) 16 [68] rfl (by kernel_rfl) ⟨67, by decide +kernel, rfl, fun w x hx => by simpa using hx⟩ (stable_is _) (fun ρ wc hbc hcn hk => ?_) ?_; rotate_left
  · obtain ⟨hcn, hfn⟩ := hcn
    simp at hk
    refine ⟨_, by go_simp; rfl, ?_⟩
    refine (IsCapability_any _ _ _ _ _ _ _ _ _ _ _).mono ?_
    rintro e w' ⟨rfl, hbq⟩
    refine ⟨_, rfl, ?_, hbq⟩
    unfold Is
    rfl
  refine chain_val (u := ?_) [69] rfl (by kernel_rfl) ⟨67, by decide +kernel, rfl, fun w x hx => by simpa using hx⟩ (fun ρ wc hbc hcn hk => ?_) ?_; rotate_left
  · obtain ⟨hcn, -⟩ := hcn
    simp at hk
    go_simp
    rfl
  refine chain_val (u := ?_) [67, 70] rfl (by kernel_rfl) trivial (fun ρ wc hbc hcn hk => ?_) ?_; rotate_left
  · obtain ⟨hcn, -⟩ := hcn
    simp at hk
    go_simp
    rfl
  refine chain_val (u := ?_) [71] rfl (by kernel_rfl) trivial (fun ρ wc hbc hcn hk => ?_) ?_; rotate_left
  · obtain ⟨hcn, -⟩ := hcn
    simp at hk
    go_simp
    rfl
  refine chain_val (u := ?_) [10] rfl (by kernel_rfl) ⟨72, by decide +kernel, rfl, fun w x hx => by simpa using hx⟩ (fun ρ wc hbc hcn hk => ?_) ?_; rotate_left
  · obtain ⟨hcn, -⟩ := hcn
    simp at hk
    go_simp
    rfl
  refine chain_val (u := ?_) [73] rfl (by kernel_rfl) ⟨72, by decide +kernel, rfl, fun w x hx => by simpa using hx⟩ (fun ρ wc hbc hcn hk => ?_) ?_; rotate_left
  · obtain ⟨hcn, -⟩ := hcn
    simp at hk
    go_simp
    rfl
  refine chain_val (u := ?_) [72, 74] rfl (by kernel_rfl) trivial (fun ρ wc hbc hcn hk => ?_) ?_; rotate_left
  · obtain ⟨hcn, -⟩ := hcn
    simp at hk
    go_simp
    rfl
  refine chain_val (u := ?_) [75] rfl (by kernel_rfl) trivial (fun ρ wc hbc hcn hk => ?_) ?_; rotate_left
  · obtain ⟨hcn, -⟩ := hcn
    simp at hk
    go_simp
    rfl
  refine chain_call (T := Is ?_) 15 [] rfl (by kernel_rfl) ⟨76, by decide +kernel, rfl, fun w x hx => by simpa using hx⟩ (stable_is _) (fun ρ wc hbc hcn hk => ?_) ?_; rotate_left
  · obtain ⟨hcn, hfn⟩ := hcn
    refine ⟨_, by go_simp; rfl, ?_⟩
    refine (IsNull_any _ _).mono ?_
    rintro e w' ⟨rfl, rfl⟩
    refine ⟨_, rfl, ?_, Below.refl _ _⟩
    unfold Is
    rfl
  refine chain_val (u := ?_) [76, 77] rfl (by kernel_rfl) trivial (fun ρ wc hbc hcn hk => ?_) ?_; rotate_left
  · obtain ⟨hcn, -⟩ := hcn
    simp at hk
    go_simp
    rfl
  refine chain_val (u := ?_) [78] rfl (by kernel_rfl) trivial (fun ρ wc hbc hcn hk => ?_) ?_; rotate_left
  · obtain ⟨hcn, -⟩ := hcn
    simp at hk
    go_simp
    rfl
  refine chain_val (u := ?_) [4] rfl (by kernel_rfl) ⟨79, by decide +kernel, rfl, fun w x hx => by simpa using hx⟩ (fun ρ wc hbc hcn hk => ?_) ?_; rotate_left
  · obtain ⟨hcn, -⟩ := hcn
    simp at hk
    go_simp
    rfl
  refine chain_call (T := Is ?_) 15 [80] rfl (by kernel_rfl) ⟨79, by decide +kernel, rfl, fun w x hx => by simpa using hx⟩ (stable_is _) (fun ρ wc hbc hcn hk => ?_) ?_; rotate_left
  · obtain ⟨hcn, hfn⟩ := hcn
    simp at hk
    refine ⟨_, by go_simp; rfl, ?_⟩
    refine (IsNull_any _ _).mono ?_
    rintro e w' ⟨rfl, rfl⟩
    refine ⟨_, rfl, ?_, Below.refl _ _⟩
    unfold Is
    rfl
  refine chain_val (u := ?_) [81] rfl (by kernel_rfl) ⟨79, by decide +kernel, rfl, fun w x hx => by simpa using hx⟩ (fun ρ wc hbc hcn hk => ?_) ?_; rotate_left
  · obtain ⟨hcn, -⟩ := hcn
    simp at hk
    go_simp
    rfl
  refine chain_val (u := ?_) [79, 82] rfl (by kernel_rfl) trivial (fun ρ wc hbc hcn hk => ?_) ?_; rotate_left
  · obtain ⟨hcn, -⟩ := hcn
    simp at hk
    go_simp
    rfl
  refine chain_val (u := ?_) [83] rfl (by kernel_rfl) trivial (fun ρ wc hbc hcn hk => ?_) ?_; rotate_left
  · obtain ⟨hcn, -⟩ := hcn
    simp at hk
    go_simp
    rfl
  refine chain_val (u := ?_) [] rfl (by kernel_rfl) ⟨84, by decide +kernel, rfl, fun w x hx => by simpa using hx⟩ (fun ρ wc hbc hcn hk => ?_) ?_; rotate_left
  · obtain ⟨hcn, -⟩ := hcn
    go_simp
    rfl
  refine chain_call (T := Is ?_) 13 [85] rfl (by kernel_rfl) ⟨84, by decide +kernel, rfl, fun w x hx => by simpa using hx⟩ (stable_is _) (fun ρ wc hbc hcn hk => ?_) ?_; rotate_left
  · obtain ⟨hcn, hfn⟩ := hcn
    simp at hk
    refine ⟨_, by go_simp; rfl, ?_⟩
    refine (Val_4 _).mono ?_
    rintro e w' ⟨rfl, hbq⟩
    refine ⟨_, rfl, ?_, hbq⟩
    unfold Is
    rfl
  refine chain_val (u := ?_) [86] rfl (by kernel_rfl) ⟨84, by decide +kernel, rfl, fun w x hx => by simpa using hx⟩ (fun ρ wc hbc hcn hk => ?_) ?_; rotate_left
  · obtain ⟨hcn, -⟩ := hcn
    simp at hk
    go_simp
    rfl
  refine chain_val (u := ?_) [84, 87] rfl (by kernel_rfl) trivial (fun ρ wc hbc hcn hk => ?_) ?_; rotate_left
  · obtain ⟨hcn, -⟩ := hcn
    simp at hk
    go_simp
    rfl
  refine chain_val (u := ?_) [88] rfl (by kernel_rfl) trivial (fun ρ wc hbc hcn hk => ?_) ?_; rotate_left
  · obtain ⟨hcn, -⟩ := hcn
    simp at hk
    go_simp
    rfl
  refine chain_end_lit 89 rfl (fun ff w7 hb7 hk => ?_)
  refine hKK _ _ ?_
  clear hKK KK
  simp [AllN] at hk
  simp only [frameL, hk]
  have HB7 := Lib.hid hb7
  clear hb7 hk
  go_wp2
  go_ret
  exact ⟨rfl, HB.out.trans ((bel_drew (Below.refl _ _)).trans (HB7.out.mono (by simp; omega)))⟩
end Go.Proofs.Ytcpampchcpccnaa
