/- 'PointerMatchesReference' of layer 2. -/
import Derived.Test.YtcpampchcpccnaaLaw02
namespace Go.Proofs.Ytcpampchcpccnaa
open Go.ChangeShapes Go.WideShapes Go.ChangeAt Go.RowKit
set_option linter.unusedVariables false
set_option linter.unusedSimpArgs false

attribute [local simp] AllK KnowsV look Is

set_option maxHeartbeats 4000000 in
theorem MatchesReference_yes (x : Int) (k o d p el c pa sg lo : Int) (db : Bool) (w : World) (h5 : 0 ≤ x) (h6 : x < 18446744073709551616) (s0 : 0 ≤ sg) (s1 : sg < 4294967296) (l0 : 0 ≤ lo) (hk3 : (k == 3) = true) :
    Calls Try.prog 3 #[.int .u64 x, .agg #[.int .i64 k, .int .i64 o, .int .i64 d, .int .i64 p, .int .i64 el, .int .i64 c, .bool db, .int .i64 pa, .int .u32 sg, .int .u32 lo]] w fun e w' => e = .returned (.bool true) ∧ Below w.heap.size w w' := by
  go_enter Try.func3, Try.ntmps3
  go_wp2_with fail
  refine (awake_any _).mono ?_
  rintro e w1 ⟨rfl, hb1⟩
  have hz1 := hb1.size
  simp at hz1
  have xp1 := blk_below (blk_new w #[.int .i64 k, .int .i64 o, .int .i64 d, .int .i64 p, .int .i64 el, .int .i64 c, .bool db, .int .i64 pa, .int .u32 sg, .int .u32 lo] 25) hb1 (by simp)
  have B1 : Below w.heap.size w w1 := bel_on ((Below.refl _ _).alloc (Nat.le_refl _) _) hb1
  clear hb1
  go_wp2_with fail
  refine (Encode_any k o d p el c pa sg lo db _).mono ?_
  rintro e w2 ⟨rfl, hb2⟩
  have hz2 := hb2.size
  have xp2 := blk_below xp1 hb2 (by omega)
  have B2 : Below w.heap.size w w2 := B1.trans (hb2.mono (by omega))
  clear hb2 xp1
  go_wp2_with fail
  refine (RefEncode_any k o d p el c pa sg lo db _ s0 s1 l0).mono ?_
  rintro e w3 ⟨rfl, hb3⟩
  have hz3 := hb3.size
  have xp3 := blk_below xp2 hb3 (by omega)
  have HB := Lib.hid (B2.trans (hb3.mono (by omega)))
  have zp : w.heap.size < w3.heap.size := by omega
  clear hb3 xp2 B1 B2 hz1 hz2 hz3
  go_wp2_with fail
  rename_i KK hKK
  refine wp_region_chain (by kernel_rfl) (by kernel_rfl) ?_
  refine chain_val (u := ?_) [0] rfl (by kernel_rfl) trivial (fun ρ wc hbc hcn hk => ?_) ?_; rotate_left
  · obtain ⟨hcn, -⟩ := hcn
    simp at hk
    go_simp
    rfl
  refine chain_call (T := Is ?_) 11 [21] rfl (by kernel_rfl) trivial (stable_is _) (fun ρ wc hbc hcn hk => ?_) ?_; rotate_left
  · obtain ⟨hcn, hfn⟩ := hcn
    simp at hk
    refine ⟨_, by go_simp; rfl, ?_⟩
    refine (Decode_any _ _ h5 h6).mono ?_
    rintro e w' ⟨rfl, hbq⟩
    refine ⟨_, rfl, ?_, hbq⟩
    unfold Is
    rfl
  refine chain_val (u := ?_) [0] rfl (by kernel_rfl) trivial (fun ρ wc hbc hcn hk => ?_) ?_; rotate_left
  · obtain ⟨hcn, -⟩ := hcn
    simp at hk
    go_simp
    rfl
  refine chain_call (T := Is ?_) 12 [23] rfl (by kernel_rfl) trivial (stable_is _) (fun ρ wc hbc hcn hk => ?_) ?_; rotate_left
  · obtain ⟨hcn, hfn⟩ := hcn
    simp at hk
    refine ⟨_, by go_simp; rfl, ?_⟩
    refine (RefDecode_any _ _ h5 h6).mono ?_
    rintro e w' ⟨rfl, hbq⟩
    refine ⟨_, rfl, ?_, hbq⟩
    unfold Is
    rfl
  refine chain_val (u := ?_) [22, 24] rfl (by kernel_rfl) trivial (fun ρ wc hbc hcn hk => ?_) ?_; rotate_left
  · obtain ⟨hcn, -⟩ := hcn
    simp at hk
    go_simp
    rfl
  refine chain_val (u := ?_) [25] rfl (by kernel_rfl) trivial (fun ρ wc hbc hcn hk => ?_) ?_; rotate_left
  · obtain ⟨hcn, -⟩ := hcn
    simp at hk
    go_simp
    rfl
  refine chain_val (u := ?_) [3] rfl (by kernel_rfl) ⟨26, by decide +kernel, rfl, fun w x hx => by simpa using hx⟩ (fun ρ wc hbc hcn hk => ?_) ?_; rotate_left
  · obtain ⟨hcn, -⟩ := hcn
    simp at hk
    obtain ⟨hcc, -⟩ := bcell hbc
    simp at hcc
    go_simp
    rfl
  refine chain_call (T := Is ?_) 13 [27] rfl (by kernel_rfl) ⟨26, by decide +kernel, rfl, fun w x hx => by simpa using hx⟩ (stable_is _) (fun ρ wc hbc hcn hk => ?_) ?_; rotate_left
  · obtain ⟨hcn, hfn⟩ := hcn
    simp at hk
    refine ⟨_, by go_simp; rfl, ?_⟩
    refine (Valid_any _ _ _ _ _ _ _ _ _ _ _).mono ?_
    rintro e w' ⟨rfl, hbq⟩
    refine ⟨_, rfl, ?_, hbq⟩
    unfold Is
    rfl
  refine chain_val (u := ?_) [3] rfl (by kernel_rfl) ⟨26, by decide +kernel, rfl, fun w x hx => by simpa using hx⟩ (fun ρ wc hbc hcn hk => ?_) ?_; rotate_left
  · obtain ⟨hcn, -⟩ := hcn
    simp at hk
    obtain ⟨hcc, -⟩ := bcell hbc
    simp at hcc
    go_simp
    rfl
  refine chain_call (T := Is ?_) 14 [29] rfl (by kernel_rfl) ⟨26, by decide +kernel, rfl, fun w x hx => by simpa using hx⟩ (stable_is _) (fun ρ wc hbc hcn hk => ?_) ?_; rotate_left
  · obtain ⟨hcn, hfn⟩ := hcn
    simp at hk
    refine ⟨_, by go_simp; rfl, ?_⟩
    refine (RefValid_any _ _ _ _ _ _ _ _ _ _ _ s0 s1 l0).mono ?_
    rintro e w' ⟨rfl, hbq⟩
    refine ⟨_, rfl, ?_, hbq⟩
    unfold Is
    rfl
  refine chain_val (u := ?_) [28, 30] rfl (by kernel_rfl) ⟨26, by decide +kernel, rfl, fun w x hx => by simpa using hx⟩ (fun ρ wc hbc hcn hk => ?_) ?_; rotate_left
  · obtain ⟨hcn, -⟩ := hcn
    simp at hk
    go_simp
    rfl
  refine chain_val (u := ?_) [26, 31] rfl (by kernel_rfl) trivial (fun ρ wc hbc hcn hk => ?_) ?_; rotate_left
  · obtain ⟨hcn, -⟩ := hcn
    simp at hk
    go_simp
    rfl
  refine chain_val (u := ?_) [32] rfl (by kernel_rfl) trivial (fun ρ wc hbc hcn hk => ?_) ?_; rotate_left
  · obtain ⟨hcn, -⟩ := hcn
    simp at hk
    go_simp
    rfl
  refine chain_val (u := ?_) [5] rfl (by kernel_rfl) ⟨33, by decide +kernel, rfl, fun w x hx => by simpa using hx⟩ (fun ρ wc hbc hcn hk => ?_) ?_; rotate_left
  · obtain ⟨hcn, -⟩ := hcn
    simp at hk
    go_simp
    rfl
  refine chain_val (u := ?_) [7] rfl (by kernel_rfl) ⟨33, by decide +kernel, rfl, fun w x hx => by simpa using hx⟩ (fun ρ wc hbc hcn hk => ?_) ?_; rotate_left
  · obtain ⟨hcn, -⟩ := hcn
    simp at hk
    go_simp
    rfl
  refine chain_val (u := ?_) [34, 35] rfl (by kernel_rfl) ⟨33, by decide +kernel, rfl, fun w x hx => by simpa using hx⟩ (fun ρ wc hbc hcn hk => ?_) ?_; rotate_left
  · obtain ⟨hcn, -⟩ := hcn
    simp at hk
    go_simp
    rfl
  refine chain_val (u := ?_) [33, 36] rfl (by kernel_rfl) trivial (fun ρ wc hbc hcn hk => ?_) ?_; rotate_left
  · obtain ⟨hcn, -⟩ := hcn
    simp at hk
    go_simp
    rfl
  refine chain_val (u := ?_) [37] rfl (by kernel_rfl) trivial (fun ρ wc hbc hcn hk => ?_) ?_; rotate_left
  · obtain ⟨hcn, -⟩ := hcn
    simp at hk
    go_simp
    rfl
  refine chain_val (u := ?_) [6] rfl (by kernel_rfl) ⟨38, by decide +kernel, rfl, fun w x hx => by simpa using hx⟩ (fun ρ wc hbc hcn hk => ?_) ?_; rotate_left
  · obtain ⟨hcn, -⟩ := hcn
    simp at hk
    go_simp
    rfl
  refine chain_val (u := ?_) [8] rfl (by kernel_rfl) ⟨38, by decide +kernel, rfl, fun w x hx => by simpa using hx⟩ (fun ρ wc hbc hcn hk => ?_) ?_; rotate_left
  · obtain ⟨hcn, -⟩ := hcn
    simp at hk
    go_simp
    rfl
  refine chain_val (u := ?_) [39, 40] rfl (by kernel_rfl) ⟨38, by decide +kernel, rfl, fun w x hx => by simpa using hx⟩ (fun ρ wc hbc hcn hk => ?_) ?_; rotate_left
  · obtain ⟨hcn, -⟩ := hcn
    simp at hk
    go_simp
    rfl
  refine chain_val (u := ?_) [38, 41] rfl (by kernel_rfl) trivial (fun ρ wc hbc hcn hk => ?_) ?_; rotate_left
  · obtain ⟨hcn, -⟩ := hcn
    simp at hk
    go_simp
    rfl
  refine chain_val (u := ?_) [42] rfl (by kernel_rfl) trivial (fun ρ wc hbc hcn hk => ?_) ?_; rotate_left
  · obtain ⟨hcn, -⟩ := hcn
    simp at hk
    go_simp
    rfl
  refine chain_val (u := ?_) [0] rfl (by kernel_rfl) ⟨43, by decide +kernel, rfl, fun w x hx => by simpa using hx⟩ (fun ρ wc hbc hcn hk => ?_) ?_; rotate_left
  · obtain ⟨hcn, -⟩ := hcn
    simp at hk
    go_simp
    rfl
  refine chain_call (T := Is ?_) 15 [44] rfl (by kernel_rfl) ⟨43, by decide +kernel, rfl, fun w x hx => by simpa using hx⟩ (stable_is _) (fun ρ wc hbc hcn hk => ?_) ?_; rotate_left
  · obtain ⟨hcn, hfn⟩ := hcn
    simp at hk
    refine ⟨_, by go_simp; rfl, ?_⟩
    refine (IsNull_any _ _).mono ?_
    rintro e w' ⟨rfl, rfl⟩
    refine ⟨_, rfl, ?_, Below.refl _ _⟩
    unfold Is
    rfl
  refine chain_val (u := ?_) [0] rfl (by kernel_rfl) ⟨43, by decide +kernel, rfl, fun w x hx => by simpa using hx⟩ (fun ρ wc hbc hcn hk => ?_) ?_; rotate_left
  · obtain ⟨hcn, -⟩ := hcn
    simp at hk
    go_simp
    rfl
  refine chain_val (u := ?_) [46] rfl (by kernel_rfl) ⟨43, by decide +kernel, rfl, fun w x hx => by simpa using hx⟩ (fun ρ wc hbc hcn hk => ?_) ?_; rotate_left
  · obtain ⟨hcn, -⟩ := hcn
    simp at hk
    go_simp
    rfl
  refine chain_val (u := ?_) [45, 47] rfl (by kernel_rfl) ⟨43, by decide +kernel, rfl, fun w x hx => by simpa using hx⟩ (fun ρ wc hbc hcn hk => ?_) ?_; rotate_left
  · obtain ⟨hcn, -⟩ := hcn
    simp at hk
    go_simp
    rfl
  refine chain_val (u := ?_) [43, 48] rfl (by kernel_rfl) trivial (fun ρ wc hbc hcn hk => ?_) ?_; rotate_left
  · obtain ⟨hcn, -⟩ := hcn
    simp at hk
    go_simp
    rfl
  refine chain_val (u := ?_) [49] rfl (by kernel_rfl) trivial (fun ρ wc hbc hcn hk => ?_) ?_; rotate_left
  · obtain ⟨hcn, -⟩ := hcn
    simp at hk
    go_simp
    rfl
  refine chain_val (u := ?_) [3] rfl (by kernel_rfl) ⟨50, by decide +kernel, rfl, fun w x hx => by simpa using hx⟩ (fun ρ wc hbc hcn hk => ?_) ?_; rotate_left
  · obtain ⟨hcn, -⟩ := hcn
    simp at hk
    obtain ⟨hcc, -⟩ := bcell hbc
    simp at hcc
    go_simp
    rfl
  refine chain_call (T := Is ?_) 16 [51] rfl (by kernel_rfl) ⟨50, by decide +kernel, rfl, fun w x hx => by simpa using hx⟩ (stable_is _) (fun ρ wc hbc hcn hk => ?_) ?_; rotate_left
  · obtain ⟨hcn, hfn⟩ := hcn
    simp at hk
    refine ⟨_, by go_simp; rfl, ?_⟩
    refine (IsCapability_any _ _ _ _ _ _ _ _ _ _ _).mono ?_
    rintro e w' ⟨rfl, hbq⟩
    refine ⟨_, rfl, ?_, hbq⟩
    unfold Is
    rfl
  refine chain_val (u := ?_) [3] rfl (by kernel_rfl) ⟨50, by decide +kernel, rfl, fun w x hx => by simpa using hx⟩ (fun ρ wc hbc hcn hk => ?_) ?_; rotate_left
  · obtain ⟨hcn, -⟩ := hcn
    simp at hk
    go_simp
    rfl
  refine chain_val (u := ?_) [53] rfl (by kernel_rfl) ⟨50, by decide +kernel, rfl, fun w x hx => by simpa using hx⟩ (fun ρ wc hbc hcn hk => ?_) ?_; rotate_left
  · obtain ⟨hcn, -⟩ := hcn
    simp at hk
    obtain ⟨hcc, -⟩ := bcell hbc
    simp at hcc
    go_simp
    rfl
  refine chain_val (u := ?_) [54] rfl (by kernel_rfl) ⟨50, by decide +kernel, rfl, fun w x hx => by simpa using hx⟩ (fun ρ wc hbc hcn hk => ?_) ?_; rotate_left
  · obtain ⟨hcn, -⟩ := hcn
    simp at hk
    go_simp
    rfl
  refine chain_val (u := ?_) [55] rfl (by kernel_rfl) ⟨50, by decide +kernel, rfl, fun w x hx => by simpa using hx⟩ (fun ρ wc hbc hcn hk => ?_) ?_; rotate_left
  · obtain ⟨hcn, -⟩ := hcn
    simp at hk
    go_simp
    rfl
  refine chain_val (u := ?_) [3] rfl (by kernel_rfl) ⟨56, by decide +kernel, rfl, fun w x hx => by simpa using hx⟩ (fun ρ wc hbc hcn hk => ?_) ?_; rotate_left
  · obtain ⟨hcn, -⟩ := hcn
    simp at hk
    go_simp
    rfl
  refine chain_val (u := ?_) [57] rfl (by kernel_rfl) ⟨56, by decide +kernel, rfl, fun w x hx => by simpa using hx⟩ (fun ρ wc hbc hcn hk => ?_) ?_; rotate_left
  · obtain ⟨hcn, -⟩ := hcn
    simp at hk
    obtain ⟨hcc, -⟩ := bcell hbc
    simp at hcc
    go_simp
    rfl
  refine chain_val (u := ?_) [58] rfl (by kernel_rfl) ⟨56, by decide +kernel, rfl, fun w x hx => by simpa using hx⟩ (fun ρ wc hbc hcn hk => ?_) ?_; rotate_left
  · obtain ⟨hcn, -⟩ := hcn
    simp at hk
    go_simp
    rfl
  refine chain_val (u := ?_) [56, 59] rfl (by kernel_rfl) ⟨50, by decide +kernel, rfl, fun w x hx => by simpa using hx⟩ (fun ρ wc hbc hcn hk => ?_) ?_; rotate_left
  · obtain ⟨hcn, -⟩ := hcn
    simp at hk
    go_simp
    rfl
  refine chain_val (u := ?_) [52, 60] rfl (by kernel_rfl) ⟨50, by decide +kernel, rfl, fun w x hx => by simpa using hx⟩ (fun ρ wc hbc hcn hk => ?_) ?_; rotate_left
  · obtain ⟨hcn, -⟩ := hcn
    simp at hk
    go_simp
    rfl
  refine chain_val (u := ?_) [50, 61] rfl (by kernel_rfl) trivial (fun ρ wc hbc hcn hk => ?_) ?_; rotate_left
  · obtain ⟨hcn, -⟩ := hcn
    simp at hk
    go_simp
    rfl
  refine chain_val (u := ?_) [62] rfl (by kernel_rfl) trivial (fun ρ wc hbc hcn hk => ?_) ?_; rotate_left
  · obtain ⟨hcn, -⟩ := hcn
    simp at hk
    go_simp
    rfl
  refine chain_end_lit 63 rfl (fun ff w7 hb7 hk => ?_)
  refine hKK _ _ ?_
  clear hKK KK
  simp [AllN] at hk
  simp only [frameL, hk]
  have HB7 := Lib.hid hb7
  clear hb7 hk
  go_wp2
  go_ret
  exact ⟨rfl, HB.out.trans ((bel_drew (Below.refl _ _)).trans (HB7.out.mono (by simp; omega)))⟩

set_option maxHeartbeats 4000000 in
theorem MatchesReference_no (x : Int) (k o d p el c pa sg lo : Int) (db : Bool) (w : World) (h5 : 0 ≤ x) (h6 : x < 18446744073709551616) (s0 : 0 ≤ sg) (s1 : sg < 4294967296) (l0 : 0 ≤ lo) (hk3 : (k == 3) = false) :
    Calls Try.prog 3 #[.int .u64 x, .agg #[.int .i64 k, .int .i64 o, .int .i64 d, .int .i64 p, .int .i64 el, .int .i64 c, .bool db, .int .i64 pa, .int .u32 sg, .int .u32 lo]] w fun e w' => e = .returned (.bool true) ∧ Below w.heap.size w w' := by
  go_enter Try.func3, Try.ntmps3
  go_wp2_with fail
  refine (awake_any _).mono ?_
  rintro e w1 ⟨rfl, hb1⟩
  have hz1 := hb1.size
  simp at hz1
  have xp1 := blk_below (blk_new w #[.int .i64 k, .int .i64 o, .int .i64 d, .int .i64 p, .int .i64 el, .int .i64 c, .bool db, .int .i64 pa, .int .u32 sg, .int .u32 lo] 25) hb1 (by simp)
  have B1 : Below w.heap.size w w1 := bel_on ((Below.refl _ _).alloc (Nat.le_refl _) _) hb1
  clear hb1
  go_wp2_with fail
  refine (Encode_any k o d p el c pa sg lo db _).mono ?_
  rintro e w2 ⟨rfl, hb2⟩
  have hz2 := hb2.size
  have xp2 := blk_below xp1 hb2 (by omega)
  have B2 : Below w.heap.size w w2 := B1.trans (hb2.mono (by omega))
  clear hb2 xp1
  go_wp2_with fail
  refine (RefEncode_any k o d p el c pa sg lo db _ s0 s1 l0).mono ?_
  rintro e w3 ⟨rfl, hb3⟩
  have hz3 := hb3.size
  have xp3 := blk_below xp2 hb3 (by omega)
  have HB := Lib.hid (B2.trans (hb3.mono (by omega)))
  have zp : w.heap.size < w3.heap.size := by omega
  clear hb3 xp2 B1 B2 hz1 hz2 hz3
  go_wp2_with fail
  rename_i KK hKK
  refine wp_region_chain (by kernel_rfl) (by kernel_rfl) ?_
  refine chain_val (u := ?_) [0] rfl (by kernel_rfl) trivial (fun ρ wc hbc hcn hk => ?_) ?_; rotate_left
  · obtain ⟨hcn, -⟩ := hcn
    simp at hk
    go_simp
    rfl
  refine chain_call (T := Is ?_) 11 [21] rfl (by kernel_rfl) trivial (stable_is _) (fun ρ wc hbc hcn hk => ?_) ?_; rotate_left
  · obtain ⟨hcn, hfn⟩ := hcn
    simp at hk
    refine ⟨_, by go_simp; rfl, ?_⟩
    refine (Decode_any _ _ h5 h6).mono ?_
    rintro e w' ⟨rfl, hbq⟩
    refine ⟨_, rfl, ?_, hbq⟩
    unfold Is
    rfl
  refine chain_val (u := ?_) [0] rfl (by kernel_rfl) trivial (fun ρ wc hbc hcn hk => ?_) ?_; rotate_left
  · obtain ⟨hcn, -⟩ := hcn
    simp at hk
    go_simp
    rfl
  refine chain_call (T := Is ?_) 12 [23] rfl (by kernel_rfl) trivial (stable_is _) (fun ρ wc hbc hcn hk => ?_) ?_; rotate_left
  · obtain ⟨hcn, hfn⟩ := hcn
    simp at hk
    refine ⟨_, by go_simp; rfl, ?_⟩
    refine (RefDecode_any _ _ h5 h6).mono ?_
    rintro e w' ⟨rfl, hbq⟩
    refine ⟨_, rfl, ?_, hbq⟩
    unfold Is
    rfl
  refine chain_val (u := ?_) [22, 24] rfl (by kernel_rfl) trivial (fun ρ wc hbc hcn hk => ?_) ?_; rotate_left
  · obtain ⟨hcn, -⟩ := hcn
    simp at hk
    go_simp
    rfl
  refine chain_val (u := ?_) [25] rfl (by kernel_rfl) trivial (fun ρ wc hbc hcn hk => ?_) ?_; rotate_left
  · obtain ⟨hcn, -⟩ := hcn
    simp at hk
    go_simp
    rfl
  refine chain_val (u := ?_) [3] rfl (by kernel_rfl) ⟨26, by decide +kernel, rfl, fun w x hx => by simpa using hx⟩ (fun ρ wc hbc hcn hk => ?_) ?_; rotate_left
  · obtain ⟨hcn, -⟩ := hcn
    simp at hk
    obtain ⟨hcc, -⟩ := bcell hbc
    simp at hcc
    go_simp
    rfl
  refine chain_call (T := Is ?_) 13 [27] rfl (by kernel_rfl) ⟨26, by decide +kernel, rfl, fun w x hx => by simpa using hx⟩ (stable_is _) (fun ρ wc hbc hcn hk => ?_) ?_; rotate_left
  · obtain ⟨hcn, hfn⟩ := hcn
    simp at hk
    refine ⟨_, by go_simp; rfl, ?_⟩
    refine (Valid_any _ _ _ _ _ _ _ _ _ _ _).mono ?_
    rintro e w' ⟨rfl, hbq⟩
    refine ⟨_, rfl, ?_, hbq⟩
    unfold Is
    rfl
  refine chain_val (u := ?_) [3] rfl (by kernel_rfl) ⟨26, by decide +kernel, rfl, fun w x hx => by simpa using hx⟩ (fun ρ wc hbc hcn hk => ?_) ?_; rotate_left
  · obtain ⟨hcn, -⟩ := hcn
    simp at hk
    obtain ⟨hcc, -⟩ := bcell hbc
    simp at hcc
    go_simp
    rfl
  refine chain_call (T := Is ?_) 14 [29] rfl (by kernel_rfl) ⟨26, by decide +kernel, rfl, fun w x hx => by simpa using hx⟩ (stable_is _) (fun ρ wc hbc hcn hk => ?_) ?_; rotate_left
  · obtain ⟨hcn, hfn⟩ := hcn
    simp at hk
    refine ⟨_, by go_simp; rfl, ?_⟩
    refine (RefValid_any _ _ _ _ _ _ _ _ _ _ _ s0 s1 l0).mono ?_
    rintro e w' ⟨rfl, hbq⟩
    refine ⟨_, rfl, ?_, hbq⟩
    unfold Is
    rfl
  refine chain_val (u := ?_) [28, 30] rfl (by kernel_rfl) ⟨26, by decide +kernel, rfl, fun w x hx => by simpa using hx⟩ (fun ρ wc hbc hcn hk => ?_) ?_; rotate_left
  · obtain ⟨hcn, -⟩ := hcn
    simp at hk
    go_simp
    rfl
  refine chain_val (u := ?_) [26, 31] rfl (by kernel_rfl) trivial (fun ρ wc hbc hcn hk => ?_) ?_; rotate_left
  · obtain ⟨hcn, -⟩ := hcn
    simp at hk
    go_simp
    rfl
  refine chain_val (u := ?_) [32] rfl (by kernel_rfl) trivial (fun ρ wc hbc hcn hk => ?_) ?_; rotate_left
  · obtain ⟨hcn, -⟩ := hcn
    simp at hk
    go_simp
    rfl
  refine chain_val (u := ?_) [5] rfl (by kernel_rfl) ⟨33, by decide +kernel, rfl, fun w x hx => by simpa using hx⟩ (fun ρ wc hbc hcn hk => ?_) ?_; rotate_left
  · obtain ⟨hcn, -⟩ := hcn
    simp at hk
    go_simp
    rfl
  refine chain_val (u := ?_) [7] rfl (by kernel_rfl) ⟨33, by decide +kernel, rfl, fun w x hx => by simpa using hx⟩ (fun ρ wc hbc hcn hk => ?_) ?_; rotate_left
  · obtain ⟨hcn, -⟩ := hcn
    simp at hk
    go_simp
    rfl
  refine chain_val (u := ?_) [34, 35] rfl (by kernel_rfl) ⟨33, by decide +kernel, rfl, fun w x hx => by simpa using hx⟩ (fun ρ wc hbc hcn hk => ?_) ?_; rotate_left
  · obtain ⟨hcn, -⟩ := hcn
    simp at hk
    go_simp
    rfl
  refine chain_val (u := ?_) [33, 36] rfl (by kernel_rfl) trivial (fun ρ wc hbc hcn hk => ?_) ?_; rotate_left
  · obtain ⟨hcn, -⟩ := hcn
    simp at hk
    go_simp
    rfl
  refine chain_val (u := ?_) [37] rfl (by kernel_rfl) trivial (fun ρ wc hbc hcn hk => ?_) ?_; rotate_left
  · obtain ⟨hcn, -⟩ := hcn
    simp at hk
    go_simp
    rfl
  refine chain_val (u := ?_) [6] rfl (by kernel_rfl) ⟨38, by decide +kernel, rfl, fun w x hx => by simpa using hx⟩ (fun ρ wc hbc hcn hk => ?_) ?_; rotate_left
  · obtain ⟨hcn, -⟩ := hcn
    simp at hk
    go_simp
    rfl
  refine chain_val (u := ?_) [8] rfl (by kernel_rfl) ⟨38, by decide +kernel, rfl, fun w x hx => by simpa using hx⟩ (fun ρ wc hbc hcn hk => ?_) ?_; rotate_left
  · obtain ⟨hcn, -⟩ := hcn
    simp at hk
    go_simp
    rfl
  refine chain_val (u := ?_) [39, 40] rfl (by kernel_rfl) ⟨38, by decide +kernel, rfl, fun w x hx => by simpa using hx⟩ (fun ρ wc hbc hcn hk => ?_) ?_; rotate_left
  · obtain ⟨hcn, -⟩ := hcn
    simp at hk
    go_simp
    rfl
  refine chain_val (u := ?_) [38, 41] rfl (by kernel_rfl) trivial (fun ρ wc hbc hcn hk => ?_) ?_; rotate_left
  · obtain ⟨hcn, -⟩ := hcn
    simp at hk
    go_simp
    rfl
  refine chain_val (u := ?_) [42] rfl (by kernel_rfl) trivial (fun ρ wc hbc hcn hk => ?_) ?_; rotate_left
  · obtain ⟨hcn, -⟩ := hcn
    simp at hk
    go_simp
    rfl
  refine chain_val (u := ?_) [0] rfl (by kernel_rfl) ⟨43, by decide +kernel, rfl, fun w x hx => by simpa using hx⟩ (fun ρ wc hbc hcn hk => ?_) ?_; rotate_left
  · obtain ⟨hcn, -⟩ := hcn
    simp at hk
    go_simp
    rfl
  refine chain_call (T := Is ?_) 15 [44] rfl (by kernel_rfl) ⟨43, by decide +kernel, rfl, fun w x hx => by simpa using hx⟩ (stable_is _) (fun ρ wc hbc hcn hk => ?_) ?_; rotate_left
  · obtain ⟨hcn, hfn⟩ := hcn
    simp at hk
    refine ⟨_, by go_simp; rfl, ?_⟩
    refine (IsNull_any _ _).mono ?_
    rintro e w' ⟨rfl, rfl⟩
    refine ⟨_, rfl, ?_, Below.refl _ _⟩
    unfold Is
    rfl
  refine chain_val (u := ?_) [0] rfl (by kernel_rfl) ⟨43, by decide +kernel, rfl, fun w x hx => by simpa using hx⟩ (fun ρ wc hbc hcn hk => ?_) ?_; rotate_left
  · obtain ⟨hcn, -⟩ := hcn
    simp at hk
    go_simp
    rfl
  refine chain_val (u := ?_) [46] rfl (by kernel_rfl) ⟨43, by decide +kernel, rfl, fun w x hx => by simpa using hx⟩ (fun ρ wc hbc hcn hk => ?_) ?_; rotate_left
  · obtain ⟨hcn, -⟩ := hcn
    simp at hk
    go_simp
    rfl
  refine chain_val (u := ?_) [45, 47] rfl (by kernel_rfl) ⟨43, by decide +kernel, rfl, fun w x hx => by simpa using hx⟩ (fun ρ wc hbc hcn hk => ?_) ?_; rotate_left
  · obtain ⟨hcn, -⟩ := hcn
    simp at hk
    go_simp
    rfl
  refine chain_val (u := ?_) [43, 48] rfl (by kernel_rfl) trivial (fun ρ wc hbc hcn hk => ?_) ?_; rotate_left
  · obtain ⟨hcn, -⟩ := hcn
    simp at hk
    go_simp
    rfl
  refine chain_val (u := ?_) [49] rfl (by kernel_rfl) trivial (fun ρ wc hbc hcn hk => ?_) ?_; rotate_left
  · obtain ⟨hcn, -⟩ := hcn
    simp at hk
    go_simp
    rfl
  refine chain_val (u := ?_) [3] rfl (by kernel_rfl) ⟨50, by decide +kernel, rfl, fun w x hx => by simpa using hx⟩ (fun ρ wc hbc hcn hk => ?_) ?_; rotate_left
  · obtain ⟨hcn, -⟩ := hcn
    simp at hk
    obtain ⟨hcc, -⟩ := bcell hbc
    simp at hcc
    go_simp
    rfl
  refine chain_call (T := Is ?_) 16 [51] rfl (by kernel_rfl) ⟨50, by decide +kernel, rfl, fun w x hx => by simpa using hx⟩ (stable_is _) (fun ρ wc hbc hcn hk => ?_) ?_; rotate_left
  · obtain ⟨hcn, hfn⟩ := hcn
    simp at hk
    refine ⟨_, by go_simp; rfl, ?_⟩
    refine (IsCapability_any _ _ _ _ _ _ _ _ _ _ _).mono ?_
    rintro e w' ⟨rfl, hbq⟩
    refine ⟨_, rfl, ?_, hbq⟩
    unfold Is
    rfl
  refine chain_val (u := ?_) [3] rfl (by kernel_rfl) ⟨50, by decide +kernel, rfl, fun w x hx => by simpa using hx⟩ (fun ρ wc hbc hcn hk => ?_) ?_; rotate_left
  · obtain ⟨hcn, -⟩ := hcn
    simp at hk
    go_simp
    rfl
  refine chain_val (u := ?_) [53] rfl (by kernel_rfl) ⟨50, by decide +kernel, rfl, fun w x hx => by simpa using hx⟩ (fun ρ wc hbc hcn hk => ?_) ?_; rotate_left
  · obtain ⟨hcn, -⟩ := hcn
    simp at hk
    obtain ⟨hcc, -⟩ := bcell hbc
    simp at hcc
    go_simp
    rfl
  refine chain_val (u := ?_) [54] rfl (by kernel_rfl) ⟨50, by decide +kernel, rfl, fun w x hx => by simpa using hx⟩ (fun ρ wc hbc hcn hk => ?_) ?_; rotate_left
  · obtain ⟨hcn, -⟩ := hcn
    simp at hk
    go_simp
    rfl
  refine chain_val (u := ?_) [55] rfl (by kernel_rfl) ⟨50, by decide +kernel, rfl, fun w x hx => by simpa using hx⟩ (fun ρ wc hbc hcn hk => ?_) ?_; rotate_left
  · obtain ⟨hcn, -⟩ := hcn
    simp at hk
    go_simp
    rfl
  refine chain_skip (s := 56) (c := false) rfl rfl (by decide +kernel) rfl rfl (fun w x hx => by simpa using hx) ?_
  refine chain_skip (s := 56) (c := false) rfl rfl (by decide +kernel) rfl rfl (fun w x hx => by simpa using hx) ?_
  refine chain_skip (s := 56) (c := false) rfl rfl (by decide +kernel) rfl rfl (fun w x hx => by simpa using hx) ?_
  refine chain_val (u := ?_) [56, 59] rfl (by kernel_rfl) ⟨50, by decide +kernel, rfl, fun w x hx => by simpa using hx⟩ (fun ρ wc hbc hcn hk => ?_) ?_; rotate_left
  · obtain ⟨hcn, -⟩ := hcn
    simp at hk
    go_simp
    rfl
  refine chain_val (u := ?_) [52, 60] rfl (by kernel_rfl) ⟨50, by decide +kernel, rfl, fun w x hx => by simpa using hx⟩ (fun ρ wc hbc hcn hk => ?_) ?_; rotate_left
  · obtain ⟨hcn, -⟩ := hcn
    simp at hk
    go_simp
    rfl
  refine chain_val (u := ?_) [50, 61] rfl (by kernel_rfl) trivial (fun ρ wc hbc hcn hk => ?_) ?_; rotate_left
  · obtain ⟨hcn, -⟩ := hcn
    simp at hk
    go_simp
    rfl
  refine chain_val (u := ?_) [62] rfl (by kernel_rfl) trivial (fun ρ wc hbc hcn hk => ?_) ?_; rotate_left
  · obtain ⟨hcn, -⟩ := hcn
    simp at hk
    go_simp
    rfl
  refine chain_end_lit 63 rfl (fun ff w7 hb7 hk => ?_)
  refine hKK _ _ ?_
  clear hKK KK
  simp [AllN] at hk
  simp only [frameL, hk]
  have HB7 := Lib.hid hb7
  clear hb7 hk
  go_wp2
  go_ret
  exact ⟨rfl, HB.out.trans ((bel_drew (Below.refl _ _)).trans (HB7.out.mono (by simp; omega)))⟩

theorem MatchesReference_walk (x : Int) (k o d p el c pa sg lo : Int) (db : Bool) (w : World) (h5 : 0 ≤ x) (h6 : x < 18446744073709551616) (s0 : 0 ≤ sg) (s1 : sg < 4294967296) (l0 : 0 ≤ lo) :
    Calls Try.prog 3 #[.int .u64 x, .agg #[.int .i64 k, .int .i64 o, .int .i64 d, .int .i64 p, .int .i64 el, .int .i64 c, .bool db, .int .i64 pa, .int .u32 sg, .int .u32 lo]] w fun e w' => e = .returned (.bool true) ∧ Below w.heap.size w w' := by
  cases hk : (k == 3)
  · exact MatchesReference_no x k o d p el c pa sg lo db w h5 h6 s0 s1 l0 hk
  · exact MatchesReference_yes x k o d p el c pa sg lo db w h5 h6 s0 s1 l0 hk
end Go.Proofs.Ytcpampchcpccnaa
