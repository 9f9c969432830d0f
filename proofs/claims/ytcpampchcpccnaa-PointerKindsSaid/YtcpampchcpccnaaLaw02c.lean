/- 'PointerKinds' of layer 2. -/
import Derived.Test.YtcpampchcpccnaaLaw02
namespace Go.Proofs.Ytcpampchcpccnaa
open Go.ChangeShapes Go.WideShapes Go.ChangeAt Go.RowKit
set_option linter.unusedVariables false
set_option linter.unusedSimpArgs false

attribute [local simp] AllK KnowsV look Is

set_option maxRecDepth 100000 in
set_option maxHeartbeats 4000000 in
theorem Kinds0 (x : Int) (w : World) (h5 : 0 ≤ x) (h6 : x < 18446744073709551616) (hk4 : x % 4 = 0) :
    Calls Try.prog 5 #[.int .u64 x] w fun e w' => e = .returned (.bool true) ∧ Below w.heap.size w w' := by
  have HZ : Hid (peq (decP x).k (decP x).o (decP x).d (decP x).p (decP x).el (decP x).c (decP x).pa (decP x).sg (decP x).lo (decP x).db 0 0 0 0 0 0 0 0 0 false = (x == 0)) := Lib.hid (by
    rw [Bool.eq_iff_iff, peq_iff (decP x) ⟨0, 0, 0, 0, 0, 0, false, 0, 0, 0⟩, dec_zero x h5 h6, beq_iff_eq])
  have HC : Hid (((decP x).k == 3 && (decP x).lo == 0) = (x.tmod 4294967296 == 3)) := Lib.hid (by rw [Int.tmod_eq_emod_of_nonneg h5]; exact dec_cap x h5)
  have hv := decP_vld x h5 h6
  have hkk := dec_k x h5
  rw [hk4] at hkk
  unfold Vld at hv
  rw [hkk] at hv
  have t1 : ((decP x).k != IntKind.i64.wrap (x.tmod 4)) = false := by
    rw [hkk, Int.tmod_eq_emod_of_nonneg h5, hk4]; rfl
  have t4 : ((decP x).k == 0) = true := by rw [hkk]; rfl
  have t5 : ((decP x).k == 1) = false := by rw [hkk]; rfl
  have t6 : ((decP x).k == 2) = false := by rw [hkk]; rfl
  have b1 : -536870912 ≤ (decP x).o ∧ (decP x).o ≤ 536870911 := by omega
  have b2 : 0 ≤ (decP x).d ∧ (decP x).d < 65536 := by omega
  have b3 : 0 ≤ (decP x).p ∧ (decP x).p < 65536 := by omega
  have h7 : x / 4294967296 < 4294967296 := by omega
  clear hv hkk hk4
  go_enter Try.func5, Try.ntmps5
  go_wp2_with fail
  refine (awake_any _).mono ?_
  rintro e w1 ⟨rfl, hb1⟩
  have hz1 := hb1.size
  have HB1 := Lib.hid hb1
  clear hb1
  go_wp2_with fail
  refine (Decode_any x _ h5 h6).mono ?_
  rintro e w2 ⟨rfl, hb2⟩
  have hz2 := hb2.size
  have xp2 := blk_new w2 #[.int .i64 (decP x).k, .int .i64 (decP x).o, .int .i64 (decP x).d, .int .i64 (decP x).p, .int .i64 (decP x).el, .int .i64 (decP x).c, .bool (decP x).db, .int .i64 (decP x).pa, .int .u32 (decP x).sg, .int .u32 (decP x).lo] 25
  have HB := Lib.hid ((HB1.out.trans (hb2.mono hz1)).alloc (by omega) (.cells #[.int .i64 (decP x).k, .int .i64 (decP x).o, .int .i64 (decP x).d, .int .i64 (decP x).p, .int .i64 (decP x).el, .int .i64 (decP x).c, .bool (decP x).db, .int .i64 (decP x).pa, .int .u32 (decP x).sg, .int .u32 (decP x).lo] 25))
  clear hb2 HB1
  go_wp2_with fail
  rename_i KK hKK
  refine wp_region_chain (by kernel_rfl) (by kernel_rfl) ?_
  refine chain_val (u := ?_) [3] rfl (by kernel_rfl) trivial (fun ρ wc hbc hcn hk => ?_) ?_; rotate_left
  · obtain ⟨hcn, -⟩ := hcn
    simp at hk
    go_simp
    rfl
  refine chain_val (u := ?_) [8] rfl (by kernel_rfl) trivial (fun ρ wc hbc hcn hk => ?_) ?_; rotate_left
  · obtain ⟨hcn, -⟩ := hcn
    simp at hk
    obtain ⟨hcc, -⟩ := bcell hbc
    simp at hcc
    go_simp
    rfl
  refine chain_val (u := ?_) [0] rfl (by kernel_rfl) trivial (fun ρ wc hbc hcn hk => ?_) ?_; rotate_left
  · obtain ⟨hcn, -⟩ := hcn
    simp at hk
    go_simp
    rfl
  refine chain_val (u := ?_) [10] rfl (by kernel_rfl) trivial (fun ρ wc hbc hcn hk => ?_) ?_; rotate_left
  · obtain ⟨hcn, -⟩ := hcn
    simp at hk
    go_simp
    rfl
  refine chain_val (u := ?_) [11] rfl (by kernel_rfl) trivial (fun ρ wc hbc hcn hk => ?_) ?_; rotate_left
  · obtain ⟨hcn, -⟩ := hcn
    simp at hk
    go_simp
    rfl
  refine chain_val (u := ?_) [9, 12] rfl (by kernel_rfl) trivial (fun ρ wc hbc hcn hk => ?_) ?_; rotate_left
  · obtain ⟨hcn, -⟩ := hcn
    simp at hk
    go_simp
    rfl
  refine chain_val (u := ?_) [13] rfl (by kernel_rfl) trivial (fun ρ wc hbc hcn hk => ?_) ?_; rotate_left
  · obtain ⟨hcn, -⟩ := hcn
    simp at hk
    go_simp
    rfl
  refine chain_val (u := ?_) [0] rfl (by kernel_rfl) ⟨14, by decide +kernel, rfl, fun w x hx => by simpa using hx⟩ (fun ρ wc hbc hcn hk => ?_) ?_; rotate_left
  · obtain ⟨hcn, -⟩ := hcn
    simp at hk
    go_simp
    rfl
  refine chain_call (T := Is ?_) 15 [15] rfl (by kernel_rfl) ⟨14, by decide +kernel, rfl, fun w x hx => by simpa using hx⟩ (stable_is _) (fun ρ wc hbc hcn hk => ?_) ?_; rotate_left
  · obtain ⟨hcn, hfn⟩ := hcn
    simp at hk
    refine ⟨_, by go_simp; rfl, ?_⟩
    refine (IsNull_any _ _).mono ?_
    rintro e w' ⟨rfl, rfl⟩
    refine ⟨_, rfl, ?_, Below.refl _ _⟩
    unfold Is
    rfl
  refine chain_val (u := ?_) [3] rfl (by kernel_rfl) ⟨14, by decide +kernel, rfl, fun w x hx => by simpa using hx⟩ (fun ρ wc hbc hcn hk => ?_) ?_; rotate_left
  · obtain ⟨hcn, -⟩ := hcn
    simp at hk
    obtain ⟨hcc, -⟩ := bcell hbc
    simp at hcc
    go_simp
    rfl
  refine chain_val (u := ?_) [] rfl (by kernel_rfl) ⟨14, by decide +kernel, rfl, fun w x hx => by simpa using hx⟩ (fun ρ wc hbc hcn hk => ?_) ?_; rotate_left
  · obtain ⟨hcn, -⟩ := hcn
    go_simp
    rfl
  refine chain_val (u := .bool (x == 0)) [17, 18] rfl (by kernel_rfl) ⟨14, by decide +kernel, rfl, fun w x hx => by simpa using hx⟩ (fun ρ wc hbc hcn hk => ?_) ?_
  · obtain ⟨hcn, -⟩ := hcn
    simp at hk
    exact run_exec_eql rfl hk.1 hk.2 ((run_eql_ptr (decP x).k (decP x).o (decP x).d (decP x).p (decP x).el (decP x).c (decP x).pa (decP x).sg (decP x).lo (decP x).db 0 0 0 0 0 0 0 0 0 false wc).trans (by rw [HZ.out]))
  refine chain_val (u := ?_) [16, 19] rfl (by kernel_rfl) ⟨14, by decide +kernel, rfl, fun w x hx => by simpa using hx⟩ (fun ρ wc hbc hcn hk => ?_) ?_; rotate_left
  · obtain ⟨hcn, -⟩ := hcn
    simp at hk
    go_simp
    rfl
  refine chain_val (u := ?_) [14, 20] rfl (by kernel_rfl) trivial (fun ρ wc hbc hcn hk => ?_) ?_; rotate_left
  · obtain ⟨hcn, -⟩ := hcn
    simp at hk
    go_simp
    rfl
  refine chain_val (u := ?_) [21] rfl (by kernel_rfl) trivial (fun ρ wc hbc hcn hk => ?_) ?_; rotate_left
  · obtain ⟨hcn, -⟩ := hcn
    simp at hk
    go_simp
    rfl
  refine chain_val (u := ?_) [3] rfl (by kernel_rfl) ⟨22, by decide +kernel, rfl, fun w x hx => by simpa using hx⟩ (fun ρ wc hbc hcn hk => ?_) ?_; rotate_left
  · obtain ⟨hcn, -⟩ := hcn
    simp at hk
    obtain ⟨hcc, -⟩ := bcell hbc
    simp at hcc
    go_simp
    rfl
  refine chain_call (T := Is (.bool (x.tmod 4294967296 == 3))) 16 [23] rfl (by kernel_rfl) ⟨22, by decide +kernel, rfl, fun w x hx => by simpa using hx⟩ (stable_is _) (fun ρ wc hbc hcn hk => ?_) ?_
  · obtain ⟨hcn, hfn⟩ := hcn
    simp at hk
    refine ⟨_, by go_simp; rfl, ?_⟩
    refine (IsCapability_any _ _ _ _ _ _ _ _ _ _ _).mono ?_
    rintro e w' ⟨rfl, hbq⟩
    exact ⟨_, rfl, by unfold Is; rw [HC.out], hbq⟩
  refine chain_val (u := ?_) [0] rfl (by kernel_rfl) ⟨22, by decide +kernel, rfl, fun w x hx => by simpa using hx⟩ (fun ρ wc hbc hcn hk => ?_) ?_; rotate_left
  · obtain ⟨hcn, -⟩ := hcn
    simp at hk
    go_simp
    rfl
  refine chain_val (u := ?_) [25] rfl (by kernel_rfl) ⟨22, by decide +kernel, rfl, fun w x hx => by simpa using hx⟩ (fun ρ wc hbc hcn hk => ?_) ?_; rotate_left
  · obtain ⟨hcn, -⟩ := hcn
    simp at hk
    go_simp
    rfl
  refine chain_val (u := ?_) [26] rfl (by kernel_rfl) ⟨22, by decide +kernel, rfl, fun w x hx => by simpa using hx⟩ (fun ρ wc hbc hcn hk => ?_) ?_; rotate_left
  · obtain ⟨hcn, -⟩ := hcn
    simp at hk
    go_simp
    rfl
  refine chain_val (u := ?_) [24, 27] rfl (by kernel_rfl) ⟨22, by decide +kernel, rfl, fun w x hx => by simpa using hx⟩ (fun ρ wc hbc hcn hk => ?_) ?_; rotate_left
  · obtain ⟨hcn, -⟩ := hcn
    simp at hk
    go_simp
    rfl
  refine chain_val (u := ?_) [22, 28] rfl (by kernel_rfl) trivial (fun ρ wc hbc hcn hk => ?_) ?_; rotate_left
  · obtain ⟨hcn, -⟩ := hcn
    simp at hk
    go_simp
    rfl
  refine chain_end_lit 121 rfl (fun ff w7 hb7 hk => ?_)
  refine hKK _ _ ?_
  clear hKK KK
  simp [AllN] at hk
  simp only [frameL, hk]
  have xp7 := blk_below (blk_drew xp2) hb7 (by simp)
  have HB7 := Lib.hid hb7
  clear hb7 hk xp2
  go_wp2
  go_ret
  exact ⟨rfl, HB.out.trans ((bel_drew (Below.refl _ _)).trans (HB7.out.mono (by simp; omega)))⟩

set_option maxRecDepth 100000 in
set_option maxHeartbeats 4000000 in
theorem Kinds1 (x : Int) (w : World) (h5 : 0 ≤ x) (h6 : x < 18446744073709551616) (hk4 : x % 4 = 1) :
    Calls Try.prog 5 #[.int .u64 x] w fun e w' => e = .returned (.bool true) ∧ Below w.heap.size w w' := by
  have HZ : Hid (peq (decP x).k (decP x).o (decP x).d (decP x).p (decP x).el (decP x).c (decP x).pa (decP x).sg (decP x).lo (decP x).db 0 0 0 0 0 0 0 0 0 false = (x == 0)) := Lib.hid (by
    rw [Bool.eq_iff_iff, peq_iff (decP x) ⟨0, 0, 0, 0, 0, 0, false, 0, 0, 0⟩, dec_zero x h5 h6, beq_iff_eq])
  have HC : Hid (((decP x).k == 3 && (decP x).lo == 0) = (x.tmod 4294967296 == 3)) := Lib.hid (by rw [Int.tmod_eq_emod_of_nonneg h5]; exact dec_cap x h5)
  have hv := decP_vld x h5 h6
  have hkk := dec_k x h5
  rw [hk4] at hkk
  unfold Vld at hv
  rw [hkk] at hv
  have t1 : ((decP x).k != IntKind.i64.wrap (x.tmod 4)) = false := by
    rw [hkk, Int.tmod_eq_emod_of_nonneg h5, hk4]; rfl
  have t4 : ((decP x).k == 0) = false := by rw [hkk]; rfl
  have t5 : ((decP x).k == 1) = true := by rw [hkk]; rfl
  have t6 : ((decP x).k == 2) = false := by rw [hkk]; rfl
  have b1 : -536870912 ≤ (decP x).o ∧ (decP x).o ≤ 536870911 := by omega
  have b2 : 0 ≤ (decP x).el ∧ (decP x).el ≤ 7 := by omega
  have b3 : 0 ≤ (decP x).c ∧ (decP x).c ≤ 536870911 := by omega
  have h7 : x / 4294967296 < 4294967296 := by omega
  clear hv hkk hk4
  go_enter Try.func5, Try.ntmps5
  go_wp2_with fail
  refine (awake_any _).mono ?_
  rintro e w1 ⟨rfl, hb1⟩
  have hz1 := hb1.size
  have HB1 := Lib.hid hb1
  clear hb1
  go_wp2_with fail
  refine (Decode_any x _ h5 h6).mono ?_
  rintro e w2 ⟨rfl, hb2⟩
  have hz2 := hb2.size
  have xp2 := blk_new w2 #[.int .i64 (decP x).k, .int .i64 (decP x).o, .int .i64 (decP x).d, .int .i64 (decP x).p, .int .i64 (decP x).el, .int .i64 (decP x).c, .bool (decP x).db, .int .i64 (decP x).pa, .int .u32 (decP x).sg, .int .u32 (decP x).lo] 25
  have HB := Lib.hid ((HB1.out.trans (hb2.mono hz1)).alloc (by omega) (.cells #[.int .i64 (decP x).k, .int .i64 (decP x).o, .int .i64 (decP x).d, .int .i64 (decP x).p, .int .i64 (decP x).el, .int .i64 (decP x).c, .bool (decP x).db, .int .i64 (decP x).pa, .int .u32 (decP x).sg, .int .u32 (decP x).lo] 25))
  clear hb2 HB1
  go_wp2_with fail
  rename_i KK hKK
  refine wp_region_chain (by kernel_rfl) (by kernel_rfl) ?_
  refine chain_val (u := ?_) [3] rfl (by kernel_rfl) trivial (fun ρ wc hbc hcn hk => ?_) ?_; rotate_left
  · obtain ⟨hcn, -⟩ := hcn
    simp at hk
    go_simp
    rfl
  refine chain_val (u := ?_) [8] rfl (by kernel_rfl) trivial (fun ρ wc hbc hcn hk => ?_) ?_; rotate_left
  · obtain ⟨hcn, -⟩ := hcn
    simp at hk
    obtain ⟨hcc, -⟩ := bcell hbc
    simp at hcc
    go_simp
    rfl
  refine chain_val (u := ?_) [0] rfl (by kernel_rfl) trivial (fun ρ wc hbc hcn hk => ?_) ?_; rotate_left
  · obtain ⟨hcn, -⟩ := hcn
    simp at hk
    go_simp
    rfl
  refine chain_val (u := ?_) [10] rfl (by kernel_rfl) trivial (fun ρ wc hbc hcn hk => ?_) ?_; rotate_left
  · obtain ⟨hcn, -⟩ := hcn
    simp at hk
    go_simp
    rfl
  refine chain_val (u := ?_) [11] rfl (by kernel_rfl) trivial (fun ρ wc hbc hcn hk => ?_) ?_; rotate_left
  · obtain ⟨hcn, -⟩ := hcn
    simp at hk
    go_simp
    rfl
  refine chain_val (u := ?_) [9, 12] rfl (by kernel_rfl) trivial (fun ρ wc hbc hcn hk => ?_) ?_; rotate_left
  · obtain ⟨hcn, -⟩ := hcn
    simp at hk
    go_simp
    rfl
  refine chain_val (u := ?_) [13] rfl (by kernel_rfl) trivial (fun ρ wc hbc hcn hk => ?_) ?_; rotate_left
  · obtain ⟨hcn, -⟩ := hcn
    simp at hk
    go_simp
    rfl
  refine chain_val (u := ?_) [0] rfl (by kernel_rfl) ⟨14, by decide +kernel, rfl, fun w x hx => by simpa using hx⟩ (fun ρ wc hbc hcn hk => ?_) ?_; rotate_left
  · obtain ⟨hcn, -⟩ := hcn
    simp at hk
    go_simp
    rfl
  refine chain_call (T := Is ?_) 15 [15] rfl (by kernel_rfl) ⟨14, by decide +kernel, rfl, fun w x hx => by simpa using hx⟩ (stable_is _) (fun ρ wc hbc hcn hk => ?_) ?_; rotate_left
  · obtain ⟨hcn, hfn⟩ := hcn
    simp at hk
    refine ⟨_, by go_simp; rfl, ?_⟩
    refine (IsNull_any _ _).mono ?_
    rintro e w' ⟨rfl, rfl⟩
    refine ⟨_, rfl, ?_, Below.refl _ _⟩
    unfold Is
    rfl
  refine chain_val (u := ?_) [3] rfl (by kernel_rfl) ⟨14, by decide +kernel, rfl, fun w x hx => by simpa using hx⟩ (fun ρ wc hbc hcn hk => ?_) ?_; rotate_left
  · obtain ⟨hcn, -⟩ := hcn
    simp at hk
    obtain ⟨hcc, -⟩ := bcell hbc
    simp at hcc
    go_simp
    rfl
  refine chain_val (u := ?_) [] rfl (by kernel_rfl) ⟨14, by decide +kernel, rfl, fun w x hx => by simpa using hx⟩ (fun ρ wc hbc hcn hk => ?_) ?_; rotate_left
  · obtain ⟨hcn, -⟩ := hcn
    go_simp
    rfl
  refine chain_val (u := .bool (x == 0)) [17, 18] rfl (by kernel_rfl) ⟨14, by decide +kernel, rfl, fun w x hx => by simpa using hx⟩ (fun ρ wc hbc hcn hk => ?_) ?_
  · obtain ⟨hcn, -⟩ := hcn
    simp at hk
    exact run_exec_eql rfl hk.1 hk.2 ((run_eql_ptr (decP x).k (decP x).o (decP x).d (decP x).p (decP x).el (decP x).c (decP x).pa (decP x).sg (decP x).lo (decP x).db 0 0 0 0 0 0 0 0 0 false wc).trans (by rw [HZ.out]))
  refine chain_val (u := ?_) [16, 19] rfl (by kernel_rfl) ⟨14, by decide +kernel, rfl, fun w x hx => by simpa using hx⟩ (fun ρ wc hbc hcn hk => ?_) ?_; rotate_left
  · obtain ⟨hcn, -⟩ := hcn
    simp at hk
    go_simp
    rfl
  refine chain_val (u := ?_) [14, 20] rfl (by kernel_rfl) trivial (fun ρ wc hbc hcn hk => ?_) ?_; rotate_left
  · obtain ⟨hcn, -⟩ := hcn
    simp at hk
    go_simp
    rfl
  refine chain_val (u := ?_) [21] rfl (by kernel_rfl) trivial (fun ρ wc hbc hcn hk => ?_) ?_; rotate_left
  · obtain ⟨hcn, -⟩ := hcn
    simp at hk
    go_simp
    rfl
  refine chain_val (u := ?_) [3] rfl (by kernel_rfl) ⟨22, by decide +kernel, rfl, fun w x hx => by simpa using hx⟩ (fun ρ wc hbc hcn hk => ?_) ?_; rotate_left
  · obtain ⟨hcn, -⟩ := hcn
    simp at hk
    obtain ⟨hcc, -⟩ := bcell hbc
    simp at hcc
    go_simp
    rfl
  refine chain_call (T := Is (.bool (x.tmod 4294967296 == 3))) 16 [23] rfl (by kernel_rfl) ⟨22, by decide +kernel, rfl, fun w x hx => by simpa using hx⟩ (stable_is _) (fun ρ wc hbc hcn hk => ?_) ?_
  · obtain ⟨hcn, hfn⟩ := hcn
    simp at hk
    refine ⟨_, by go_simp; rfl, ?_⟩
    refine (IsCapability_any _ _ _ _ _ _ _ _ _ _ _).mono ?_
    rintro e w' ⟨rfl, hbq⟩
    exact ⟨_, rfl, by unfold Is; rw [HC.out], hbq⟩
  refine chain_val (u := ?_) [0] rfl (by kernel_rfl) ⟨22, by decide +kernel, rfl, fun w x hx => by simpa using hx⟩ (fun ρ wc hbc hcn hk => ?_) ?_; rotate_left
  · obtain ⟨hcn, -⟩ := hcn
    simp at hk
    go_simp
    rfl
  refine chain_val (u := ?_) [25] rfl (by kernel_rfl) ⟨22, by decide +kernel, rfl, fun w x hx => by simpa using hx⟩ (fun ρ wc hbc hcn hk => ?_) ?_; rotate_left
  · obtain ⟨hcn, -⟩ := hcn
    simp at hk
    go_simp
    rfl
  refine chain_val (u := ?_) [26] rfl (by kernel_rfl) ⟨22, by decide +kernel, rfl, fun w x hx => by simpa using hx⟩ (fun ρ wc hbc hcn hk => ?_) ?_; rotate_left
  · obtain ⟨hcn, -⟩ := hcn
    simp at hk
    go_simp
    rfl
  refine chain_val (u := ?_) [24, 27] rfl (by kernel_rfl) ⟨22, by decide +kernel, rfl, fun w x hx => by simpa using hx⟩ (fun ρ wc hbc hcn hk => ?_) ?_; rotate_left
  · obtain ⟨hcn, -⟩ := hcn
    simp at hk
    go_simp
    rfl
  refine chain_val (u := ?_) [22, 28] rfl (by kernel_rfl) trivial (fun ρ wc hbc hcn hk => ?_) ?_; rotate_left
  · obtain ⟨hcn, -⟩ := hcn
    simp at hk
    go_simp
    rfl
  refine chain_end_lit 121 rfl (fun ff w7 hb7 hk => ?_)
  refine hKK _ _ ?_
  clear hKK KK
  simp [AllN] at hk
  simp only [frameL, hk]
  have xp7 := blk_below (blk_drew xp2) hb7 (by simp)
  have HB7 := Lib.hid hb7
  clear hb7 hk xp2
  go_wp2
  go_ret
  exact ⟨rfl, HB.out.trans ((bel_drew (Below.refl _ _)).trans (HB7.out.mono (by simp; omega)))⟩

set_option maxRecDepth 100000 in
set_option maxHeartbeats 4000000 in
theorem Kinds2 (x : Int) (w : World) (h5 : 0 ≤ x) (h6 : x < 18446744073709551616) (hk4 : x % 4 = 2) :
    Calls Try.prog 5 #[.int .u64 x] w fun e w' => e = .returned (.bool true) ∧ Below w.heap.size w w' := by
  have HZ : Hid (peq (decP x).k (decP x).o (decP x).d (decP x).p (decP x).el (decP x).c (decP x).pa (decP x).sg (decP x).lo (decP x).db 0 0 0 0 0 0 0 0 0 false = (x == 0)) := Lib.hid (by
    rw [Bool.eq_iff_iff, peq_iff (decP x) ⟨0, 0, 0, 0, 0, 0, false, 0, 0, 0⟩, dec_zero x h5 h6, beq_iff_eq])
  have HC : Hid (((decP x).k == 3 && (decP x).lo == 0) = (x.tmod 4294967296 == 3)) := Lib.hid (by rw [Int.tmod_eq_emod_of_nonneg h5]; exact dec_cap x h5)
  have hv := decP_vld x h5 h6
  have hkk := dec_k x h5
  rw [hk4] at hkk
  unfold Vld at hv
  rw [hkk] at hv
  have t1 : ((decP x).k != IntKind.i64.wrap (x.tmod 4)) = false := by
    rw [hkk, Int.tmod_eq_emod_of_nonneg h5, hk4]; rfl
  have t4 : ((decP x).k == 0) = false := by rw [hkk]; rfl
  have t5 : ((decP x).k == 1) = false := by rw [hkk]; rfl
  have t6 : ((decP x).k == 2) = true := by rw [hkk]; rfl
  have b1 : 0 ≤ (decP x).pa ∧ (decP x).pa ≤ 536870911 := by omega
  have b4 : ((decP x).sg == x / 4294967296) = true := by
    rw [beq_iff_eq]
    unfold decP
    rw [if_neg (by omega), if_neg (by omega), if_pos (by omega)]
    show x / 4294967296 % 4294967296 = x / 4294967296
    omega
  have h7 : x / 4294967296 < 4294967296 := by omega
  clear hv hkk hk4
  go_enter Try.func5, Try.ntmps5
  go_wp2_with fail
  refine (awake_any _).mono ?_
  rintro e w1 ⟨rfl, hb1⟩
  have hz1 := hb1.size
  have HB1 := Lib.hid hb1
  clear hb1
  go_wp2_with fail
  refine (Decode_any x _ h5 h6).mono ?_
  rintro e w2 ⟨rfl, hb2⟩
  have hz2 := hb2.size
  have xp2 := blk_new w2 #[.int .i64 (decP x).k, .int .i64 (decP x).o, .int .i64 (decP x).d, .int .i64 (decP x).p, .int .i64 (decP x).el, .int .i64 (decP x).c, .bool (decP x).db, .int .i64 (decP x).pa, .int .u32 (decP x).sg, .int .u32 (decP x).lo] 25
  have HB := Lib.hid ((HB1.out.trans (hb2.mono hz1)).alloc (by omega) (.cells #[.int .i64 (decP x).k, .int .i64 (decP x).o, .int .i64 (decP x).d, .int .i64 (decP x).p, .int .i64 (decP x).el, .int .i64 (decP x).c, .bool (decP x).db, .int .i64 (decP x).pa, .int .u32 (decP x).sg, .int .u32 (decP x).lo] 25))
  clear hb2 HB1
  go_wp2_with fail
  rename_i KK hKK
  refine wp_region_chain (by kernel_rfl) (by kernel_rfl) ?_
  refine chain_val (u := ?_) [3] rfl (by kernel_rfl) trivial (fun ρ wc hbc hcn hk => ?_) ?_; rotate_left
  · obtain ⟨hcn, -⟩ := hcn
    simp at hk
    go_simp
    rfl
  refine chain_val (u := ?_) [8] rfl (by kernel_rfl) trivial (fun ρ wc hbc hcn hk => ?_) ?_; rotate_left
  · obtain ⟨hcn, -⟩ := hcn
    simp at hk
    obtain ⟨hcc, -⟩ := bcell hbc
    simp at hcc
    go_simp
    rfl
  refine chain_val (u := ?_) [0] rfl (by kernel_rfl) trivial (fun ρ wc hbc hcn hk => ?_) ?_; rotate_left
  · obtain ⟨hcn, -⟩ := hcn
    simp at hk
    go_simp
    rfl
  refine chain_val (u := ?_) [10] rfl (by kernel_rfl) trivial (fun ρ wc hbc hcn hk => ?_) ?_; rotate_left
  · obtain ⟨hcn, -⟩ := hcn
    simp at hk
    go_simp
    rfl
  refine chain_val (u := ?_) [11] rfl (by kernel_rfl) trivial (fun ρ wc hbc hcn hk => ?_) ?_; rotate_left
  · obtain ⟨hcn, -⟩ := hcn
    simp at hk
    go_simp
    rfl
  refine chain_val (u := ?_) [9, 12] rfl (by kernel_rfl) trivial (fun ρ wc hbc hcn hk => ?_) ?_; rotate_left
  · obtain ⟨hcn, -⟩ := hcn
    simp at hk
    go_simp
    rfl
  refine chain_val (u := ?_) [13] rfl (by kernel_rfl) trivial (fun ρ wc hbc hcn hk => ?_) ?_; rotate_left
  · obtain ⟨hcn, -⟩ := hcn
    simp at hk
    go_simp
    rfl
  refine chain_val (u := ?_) [0] rfl (by kernel_rfl) ⟨14, by decide +kernel, rfl, fun w x hx => by simpa using hx⟩ (fun ρ wc hbc hcn hk => ?_) ?_; rotate_left
  · obtain ⟨hcn, -⟩ := hcn
    simp at hk
    go_simp
    rfl
  refine chain_call (T := Is ?_) 15 [15] rfl (by kernel_rfl) ⟨14, by decide +kernel, rfl, fun w x hx => by simpa using hx⟩ (stable_is _) (fun ρ wc hbc hcn hk => ?_) ?_; rotate_left
  · obtain ⟨hcn, hfn⟩ := hcn
    simp at hk
    refine ⟨_, by go_simp; rfl, ?_⟩
    refine (IsNull_any _ _).mono ?_
    rintro e w' ⟨rfl, rfl⟩
    refine ⟨_, rfl, ?_, Below.refl _ _⟩
    unfold Is
    rfl
  refine chain_val (u := ?_) [3] rfl (by kernel_rfl) ⟨14, by decide +kernel, rfl, fun w x hx => by simpa using hx⟩ (fun ρ wc hbc hcn hk => ?_) ?_; rotate_left
  · obtain ⟨hcn, -⟩ := hcn
    simp at hk
    obtain ⟨hcc, -⟩ := bcell hbc
    simp at hcc
    go_simp
    rfl
  refine chain_val (u := ?_) [] rfl (by kernel_rfl) ⟨14, by decide +kernel, rfl, fun w x hx => by simpa using hx⟩ (fun ρ wc hbc hcn hk => ?_) ?_; rotate_left
  · obtain ⟨hcn, -⟩ := hcn
    go_simp
    rfl
  refine chain_val (u := .bool (x == 0)) [17, 18] rfl (by kernel_rfl) ⟨14, by decide +kernel, rfl, fun w x hx => by simpa using hx⟩ (fun ρ wc hbc hcn hk => ?_) ?_
  · obtain ⟨hcn, -⟩ := hcn
    simp at hk
    exact run_exec_eql rfl hk.1 hk.2 ((run_eql_ptr (decP x).k (decP x).o (decP x).d (decP x).p (decP x).el (decP x).c (decP x).pa (decP x).sg (decP x).lo (decP x).db 0 0 0 0 0 0 0 0 0 false wc).trans (by rw [HZ.out]))
  refine chain_val (u := ?_) [16, 19] rfl (by kernel_rfl) ⟨14, by decide +kernel, rfl, fun w x hx => by simpa using hx⟩ (fun ρ wc hbc hcn hk => ?_) ?_; rotate_left
  · obtain ⟨hcn, -⟩ := hcn
    simp at hk
    go_simp
    rfl
  refine chain_val (u := ?_) [14, 20] rfl (by kernel_rfl) trivial (fun ρ wc hbc hcn hk => ?_) ?_; rotate_left
  · obtain ⟨hcn, -⟩ := hcn
    simp at hk
    go_simp
    rfl
  refine chain_val (u := ?_) [21] rfl (by kernel_rfl) trivial (fun ρ wc hbc hcn hk => ?_) ?_; rotate_left
  · obtain ⟨hcn, -⟩ := hcn
    simp at hk
    go_simp
    rfl
  refine chain_val (u := ?_) [3] rfl (by kernel_rfl) ⟨22, by decide +kernel, rfl, fun w x hx => by simpa using hx⟩ (fun ρ wc hbc hcn hk => ?_) ?_; rotate_left
  · obtain ⟨hcn, -⟩ := hcn
    simp at hk
    obtain ⟨hcc, -⟩ := bcell hbc
    simp at hcc
    go_simp
    rfl
  refine chain_call (T := Is (.bool (x.tmod 4294967296 == 3))) 16 [23] rfl (by kernel_rfl) ⟨22, by decide +kernel, rfl, fun w x hx => by simpa using hx⟩ (stable_is _) (fun ρ wc hbc hcn hk => ?_) ?_
  · obtain ⟨hcn, hfn⟩ := hcn
    simp at hk
    refine ⟨_, by go_simp; rfl, ?_⟩
    refine (IsCapability_any _ _ _ _ _ _ _ _ _ _ _).mono ?_
    rintro e w' ⟨rfl, hbq⟩
    exact ⟨_, rfl, by unfold Is; rw [HC.out], hbq⟩
  refine chain_val (u := ?_) [0] rfl (by kernel_rfl) ⟨22, by decide +kernel, rfl, fun w x hx => by simpa using hx⟩ (fun ρ wc hbc hcn hk => ?_) ?_; rotate_left
  · obtain ⟨hcn, -⟩ := hcn
    simp at hk
    go_simp
    rfl
  refine chain_val (u := ?_) [25] rfl (by kernel_rfl) ⟨22, by decide +kernel, rfl, fun w x hx => by simpa using hx⟩ (fun ρ wc hbc hcn hk => ?_) ?_; rotate_left
  · obtain ⟨hcn, -⟩ := hcn
    simp at hk
    go_simp
    rfl
  refine chain_val (u := ?_) [26] rfl (by kernel_rfl) ⟨22, by decide +kernel, rfl, fun w x hx => by simpa using hx⟩ (fun ρ wc hbc hcn hk => ?_) ?_; rotate_left
  · obtain ⟨hcn, -⟩ := hcn
    simp at hk
    go_simp
    rfl
  refine chain_val (u := ?_) [24, 27] rfl (by kernel_rfl) ⟨22, by decide +kernel, rfl, fun w x hx => by simpa using hx⟩ (fun ρ wc hbc hcn hk => ?_) ?_; rotate_left
  · obtain ⟨hcn, -⟩ := hcn
    simp at hk
    go_simp
    rfl
  refine chain_val (u := ?_) [22, 28] rfl (by kernel_rfl) trivial (fun ρ wc hbc hcn hk => ?_) ?_; rotate_left
  · obtain ⟨hcn, -⟩ := hcn
    simp at hk
    go_simp
    rfl
  refine chain_end_lit 121 rfl (fun ff w7 hb7 hk => ?_)
  refine hKK _ _ ?_
  clear hKK KK
  simp [AllN] at hk
  simp only [frameL, hk]
  have xp7 := blk_below (blk_drew xp2) hb7 (by simp)
  have HB7 := Lib.hid hb7
  clear hb7 hk xp2
  go_wp2
  go_ret
  exact ⟨rfl, HB.out.trans ((bel_drew (Below.refl _ _)).trans (HB7.out.mono (by simp; omega)))⟩

set_option maxRecDepth 100000 in
set_option maxHeartbeats 4000000 in
theorem Kinds3 (x : Int) (w : World) (h5 : 0 ≤ x) (h6 : x < 18446744073709551616) (hk4 : x % 4 = 3) :
    Calls Try.prog 5 #[.int .u64 x] w fun e w' => e = .returned (.bool true) ∧ Below w.heap.size w w' := by
  have HZ : Hid (peq (decP x).k (decP x).o (decP x).d (decP x).p (decP x).el (decP x).c (decP x).pa (decP x).sg (decP x).lo (decP x).db 0 0 0 0 0 0 0 0 0 false = (x == 0)) := Lib.hid (by
    rw [Bool.eq_iff_iff, peq_iff (decP x) ⟨0, 0, 0, 0, 0, 0, false, 0, 0, 0⟩, dec_zero x h5 h6, beq_iff_eq])
  have HC : Hid (((decP x).k == 3 && (decP x).lo == 0) = (x.tmod 4294967296 == 3)) := Lib.hid (by rw [Int.tmod_eq_emod_of_nonneg h5]; exact dec_cap x h5)
  have hv := decP_vld x h5 h6
  have hkk := dec_k x h5
  rw [hk4] at hkk
  unfold Vld at hv
  rw [hkk] at hv
  have t1 : ((decP x).k != IntKind.i64.wrap (x.tmod 4)) = false := by
    rw [hkk, Int.tmod_eq_emod_of_nonneg h5, hk4]; rfl
  have t4 : ((decP x).k == 0) = false := by rw [hkk]; rfl
  have t5 : ((decP x).k == 1) = false := by rw [hkk]; rfl
  have t6 : ((decP x).k == 2) = false := by rw [hkk]; rfl
  have b1 : 0 ≤ (decP x).lo ∧ (decP x).lo < 1073741824 := by omega
  have b4 : ((decP x).sg == x / 4294967296) = true := by
    rw [beq_iff_eq]
    unfold decP
    rw [if_neg (by omega), if_neg (by omega), if_neg (by omega)]
    show x / 4294967296 % 4294967296 = x / 4294967296
    omega
  have h7 : x / 4294967296 < 4294967296 := by omega
  clear hv hkk hk4
  go_enter Try.func5, Try.ntmps5
  go_wp2_with fail
  refine (awake_any _).mono ?_
  rintro e w1 ⟨rfl, hb1⟩
  have hz1 := hb1.size
  have HB1 := Lib.hid hb1
  clear hb1
  go_wp2_with fail
  refine (Decode_any x _ h5 h6).mono ?_
  rintro e w2 ⟨rfl, hb2⟩
  have hz2 := hb2.size
  have xp2 := blk_new w2 #[.int .i64 (decP x).k, .int .i64 (decP x).o, .int .i64 (decP x).d, .int .i64 (decP x).p, .int .i64 (decP x).el, .int .i64 (decP x).c, .bool (decP x).db, .int .i64 (decP x).pa, .int .u32 (decP x).sg, .int .u32 (decP x).lo] 25
  have HB := Lib.hid ((HB1.out.trans (hb2.mono hz1)).alloc (by omega) (.cells #[.int .i64 (decP x).k, .int .i64 (decP x).o, .int .i64 (decP x).d, .int .i64 (decP x).p, .int .i64 (decP x).el, .int .i64 (decP x).c, .bool (decP x).db, .int .i64 (decP x).pa, .int .u32 (decP x).sg, .int .u32 (decP x).lo] 25))
  clear hb2 HB1
  go_wp2_with fail
  rename_i KK hKK
  refine wp_region_chain (by kernel_rfl) (by kernel_rfl) ?_
  refine chain_val (u := ?_) [3] rfl (by kernel_rfl) trivial (fun ρ wc hbc hcn hk => ?_) ?_; rotate_left
  · obtain ⟨hcn, -⟩ := hcn
    simp at hk
    go_simp
    rfl
  refine chain_val (u := ?_) [8] rfl (by kernel_rfl) trivial (fun ρ wc hbc hcn hk => ?_) ?_; rotate_left
  · obtain ⟨hcn, -⟩ := hcn
    simp at hk
    obtain ⟨hcc, -⟩ := bcell hbc
    simp at hcc
    go_simp
    rfl
  refine chain_val (u := ?_) [0] rfl (by kernel_rfl) trivial (fun ρ wc hbc hcn hk => ?_) ?_; rotate_left
  · obtain ⟨hcn, -⟩ := hcn
    simp at hk
    go_simp
    rfl
  refine chain_val (u := ?_) [10] rfl (by kernel_rfl) trivial (fun ρ wc hbc hcn hk => ?_) ?_; rotate_left
  · obtain ⟨hcn, -⟩ := hcn
    simp at hk
    go_simp
    rfl
  refine chain_val (u := ?_) [11] rfl (by kernel_rfl) trivial (fun ρ wc hbc hcn hk => ?_) ?_; rotate_left
  · obtain ⟨hcn, -⟩ := hcn
    simp at hk
    go_simp
    rfl
  refine chain_val (u := ?_) [9, 12] rfl (by kernel_rfl) trivial (fun ρ wc hbc hcn hk => ?_) ?_; rotate_left
  · obtain ⟨hcn, -⟩ := hcn
    simp at hk
    go_simp
    rfl
  refine chain_val (u := ?_) [13] rfl (by kernel_rfl) trivial (fun ρ wc hbc hcn hk => ?_) ?_; rotate_left
  · obtain ⟨hcn, -⟩ := hcn
    simp at hk
    go_simp
    rfl
  refine chain_val (u := ?_) [0] rfl (by kernel_rfl) ⟨14, by decide +kernel, rfl, fun w x hx => by simpa using hx⟩ (fun ρ wc hbc hcn hk => ?_) ?_; rotate_left
  · obtain ⟨hcn, -⟩ := hcn
    simp at hk
    go_simp
    rfl
  refine chain_call (T := Is ?_) 15 [15] rfl (by kernel_rfl) ⟨14, by decide +kernel, rfl, fun w x hx => by simpa using hx⟩ (stable_is _) (fun ρ wc hbc hcn hk => ?_) ?_; rotate_left
  · obtain ⟨hcn, hfn⟩ := hcn
    simp at hk
    refine ⟨_, by go_simp; rfl, ?_⟩
    refine (IsNull_any _ _).mono ?_
    rintro e w' ⟨rfl, rfl⟩
    refine ⟨_, rfl, ?_, Below.refl _ _⟩
    unfold Is
    rfl
  refine chain_val (u := ?_) [3] rfl (by kernel_rfl) ⟨14, by decide +kernel, rfl, fun w x hx => by simpa using hx⟩ (fun ρ wc hbc hcn hk => ?_) ?_; rotate_left
  · obtain ⟨hcn, -⟩ := hcn
    simp at hk
    obtain ⟨hcc, -⟩ := bcell hbc
    simp at hcc
    go_simp
    rfl
  refine chain_val (u := ?_) [] rfl (by kernel_rfl) ⟨14, by decide +kernel, rfl, fun w x hx => by simpa using hx⟩ (fun ρ wc hbc hcn hk => ?_) ?_; rotate_left
  · obtain ⟨hcn, -⟩ := hcn
    go_simp
    rfl
  refine chain_val (u := .bool (x == 0)) [17, 18] rfl (by kernel_rfl) ⟨14, by decide +kernel, rfl, fun w x hx => by simpa using hx⟩ (fun ρ wc hbc hcn hk => ?_) ?_
  · obtain ⟨hcn, -⟩ := hcn
    simp at hk
    exact run_exec_eql rfl hk.1 hk.2 ((run_eql_ptr (decP x).k (decP x).o (decP x).d (decP x).p (decP x).el (decP x).c (decP x).pa (decP x).sg (decP x).lo (decP x).db 0 0 0 0 0 0 0 0 0 false wc).trans (by rw [HZ.out]))
  refine chain_val (u := ?_) [16, 19] rfl (by kernel_rfl) ⟨14, by decide +kernel, rfl, fun w x hx => by simpa using hx⟩ (fun ρ wc hbc hcn hk => ?_) ?_; rotate_left
  · obtain ⟨hcn, -⟩ := hcn
    simp at hk
    go_simp
    rfl
  refine chain_val (u := ?_) [14, 20] rfl (by kernel_rfl) trivial (fun ρ wc hbc hcn hk => ?_) ?_; rotate_left
  · obtain ⟨hcn, -⟩ := hcn
    simp at hk
    go_simp
    rfl
  refine chain_val (u := ?_) [21] rfl (by kernel_rfl) trivial (fun ρ wc hbc hcn hk => ?_) ?_; rotate_left
  · obtain ⟨hcn, -⟩ := hcn
    simp at hk
    go_simp
    rfl
  refine chain_val (u := ?_) [3] rfl (by kernel_rfl) ⟨22, by decide +kernel, rfl, fun w x hx => by simpa using hx⟩ (fun ρ wc hbc hcn hk => ?_) ?_; rotate_left
  · obtain ⟨hcn, -⟩ := hcn
    simp at hk
    obtain ⟨hcc, -⟩ := bcell hbc
    simp at hcc
    go_simp
    rfl
  refine chain_call (T := Is (.bool (x.tmod 4294967296 == 3))) 16 [23] rfl (by kernel_rfl) ⟨22, by decide +kernel, rfl, fun w x hx => by simpa using hx⟩ (stable_is _) (fun ρ wc hbc hcn hk => ?_) ?_
  · obtain ⟨hcn, hfn⟩ := hcn
    simp at hk
    refine ⟨_, by go_simp; rfl, ?_⟩
    refine (IsCapability_any _ _ _ _ _ _ _ _ _ _ _).mono ?_
    rintro e w' ⟨rfl, hbq⟩
    exact ⟨_, rfl, by unfold Is; rw [HC.out], hbq⟩
  refine chain_val (u := ?_) [0] rfl (by kernel_rfl) ⟨22, by decide +kernel, rfl, fun w x hx => by simpa using hx⟩ (fun ρ wc hbc hcn hk => ?_) ?_; rotate_left
  · obtain ⟨hcn, -⟩ := hcn
    simp at hk
    go_simp
    rfl
  refine chain_val (u := ?_) [25] rfl (by kernel_rfl) ⟨22, by decide +kernel, rfl, fun w x hx => by simpa using hx⟩ (fun ρ wc hbc hcn hk => ?_) ?_; rotate_left
  · obtain ⟨hcn, -⟩ := hcn
    simp at hk
    go_simp
    rfl
  refine chain_val (u := ?_) [26] rfl (by kernel_rfl) ⟨22, by decide +kernel, rfl, fun w x hx => by simpa using hx⟩ (fun ρ wc hbc hcn hk => ?_) ?_; rotate_left
  · obtain ⟨hcn, -⟩ := hcn
    simp at hk
    go_simp
    rfl
  refine chain_val (u := ?_) [24, 27] rfl (by kernel_rfl) ⟨22, by decide +kernel, rfl, fun w x hx => by simpa using hx⟩ (fun ρ wc hbc hcn hk => ?_) ?_; rotate_left
  · obtain ⟨hcn, -⟩ := hcn
    simp at hk
    go_simp
    rfl
  refine chain_val (u := ?_) [22, 28] rfl (by kernel_rfl) trivial (fun ρ wc hbc hcn hk => ?_) ?_; rotate_left
  · obtain ⟨hcn, -⟩ := hcn
    simp at hk
    go_simp
    rfl
  refine chain_end_lit 121 rfl (fun ff w7 hb7 hk => ?_)
  refine hKK _ _ ?_
  clear hKK KK
  simp [AllN] at hk
  simp only [frameL, hk]
  have xp7 := blk_below (blk_drew xp2) hb7 (by simp)
  have HB7 := Lib.hid hb7
  clear hb7 hk xp2
  go_wp2
  go_ret
  exact ⟨rfl, HB.out.trans ((bel_drew (Below.refl _ _)).trans (HB7.out.mono (by simp; omega)))⟩

theorem Kinds_walk (x : Int) (w : World) (h5 : 0 ≤ x) (h6 : x < 18446744073709551616) :
    Calls Try.prog 5 #[.int .u64 x] w fun e w' => e = .returned (.bool true) ∧ Below w.heap.size w w' := by
  have c4 : x % 4 = 0 ∨ x % 4 = 1 ∨ x % 4 = 2 ∨ x % 4 = 3 := by omega
  rcases c4 with c | c | c | c
  · exact Kinds0 x w h5 h6 c
  · exact Kinds1 x w h5 h6 c
  · exact Kinds2 x w h5 h6 c
  · exact Kinds3 x w h5 h6 c
end Go.Proofs.Ytcpampchcpccnaa
