/- 'PointerFields' of layer 2. -/
import Derived.Test.YtcpampchcpccnaaLaw02
namespace Go.Proofs.Ytcpampchcpccnaa
open Go.ChangeShapes Go.WideShapes Go.ChangeAt Go.RowKit
set_option linter.unusedVariables false
set_option linter.unusedSimpArgs false

attribute [local simp] AllK KnowsV look Is

set_option maxRecDepth 100000 in
set_option maxHeartbeats 4000000 in
theorem Fields0 (x off dt pt ct : Int) (w : World) (h5 : 0 ≤ x) (h6 : x < 18446744073709551616) (o1 : -2147483648 ≤ off) (o2 : off < 2147483648) (d1 : 0 ≤ dt) (d2 : dt < 65536) (p1 : 0 ≤ pt) (p2 : pt < 65536) (c1 : 0 ≤ ct) (c2 : ct < 4294967296) (hk4 : x % 4 = 0) :
    Calls Try.prog 6 #[.int .u64 x, .int .i32 off, .int .u16 dt, .int .u16 pt, .int .u32 ct] w fun e w' => e = .returned (.bool true) ∧ Below w.heap.size w w' := by
  have hv : Vld ⟨(decP x).k, (off / 4), dt, pt, (decP x).el, (decP x).c, (decP x).db, (decP x).pa, (decP x).sg, (decP x).lo⟩ := by
    have hkk := (dec_k x h5).trans hk4
    rcases decP_vld x h5 h6 with ⟨k0, a1, a2, a3, a4, a5, a6, a7, a8, a9, a10, a11, a12⟩ | ⟨k0, _⟩ | ⟨k0, _⟩ | ⟨k0, _⟩
    · exact Or.inl ⟨hkk, by show -536870912 ≤ off / 4; omega, by show off / 4 ≤ 536870911; omega, d1, by show dt ≤ 65535; omega, p1, by show pt ≤ 65535; omega, a7, a8, a9, a10, a11, a12⟩
    · exfalso; omega
    · exfalso; omega
    · exfalso; omega
  have HQ : Hid (peq (decP x).k (decP x).o (decP x).d (decP x).p (decP x).el (decP x).c (decP x).pa (decP x).sg (decP x).lo (decP x).db (decP x).k (off / 4) dt pt (decP x).el (decP x).c (decP x).pa (decP x).sg (decP x).lo (decP x).db = (encW ⟨(decP x).k, (off / 4), dt, pt, (decP x).el, (decP x).c, (decP x).db, (decP x).pa, (decP x).sg, (decP x).lo⟩ == x)) := Lib.hid (by
    rw [Bool.eq_iff_iff, peq_iff (decP x) ⟨(decP x).k, (off / 4), dt, pt, (decP x).el, (decP x).c, (decP x).db, (decP x).pa, (decP x).sg, (decP x).lo⟩, beq_iff_eq, enc_eq_iff _ x hv h5 h6])
  have HM : Hid ((encW ⟨(decP x).k, (off / 4), dt, pt, (decP x).el, (decP x).c, (decP x).db, (decP x).pa, (decP x).sg, (decP x).lo⟩).tmod 4 = x.tmod 4) := Lib.hid (by
    rw [Int.tmod_eq_emod_of_nonneg (encW_bd _).1, Int.tmod_eq_emod_of_nonneg h5, enc_k _ hv]
    exact dec_k x h5)
  have t4 : ((decP x).k == 0) = true := by rw [dec_k x h5]; rw [beq_iff_eq]; exact hk4
  have t5 : ((decP x).k == 1) = false := by rw [dec_k x h5]; rw [beq_eq_false_iff_ne]; omega
  have HV := Lib.hid hv
  clear hk4 hv
  go_enter Try.func6, Try.ntmps6
  go_wp2_with fail
  refine (awake_any _).mono ?_
  rintro e w1 ⟨rfl, hb1⟩
  have hz1 := hb1.size
  have HB1 := Lib.hid hb1
  clear hb1
  go_wp2_with fail
  refine (Decode_any x _ h5 h6).mono ?_
  rintro e w2 ⟨rfl, hb2⟩
  have hz2 := hb2.size
  have HB2 := Lib.hid (HB1.out.trans (hb2.mono hz1))
  clear hb2 HB1
  go_wp2_with fail
  refine (Encode_yes (decP x).k (off / 4) dt pt (decP x).el (decP x).c (decP x).pa (decP x).sg (decP x).lo (decP x).db _ HV.out).mono ?_
  rintro e w3 ⟨rfl, hb3⟩
  have hz3 := hb3.size
  simp at hz3
  have xp3 := blk_below (blk_alloc (blk_new w2 #[.int .i64 (decP x).k, .int .i64 (decP x).o, .int .i64 (decP x).d, .int .i64 (decP x).p, .int .i64 (decP x).el, .int .i64 (decP x).c, .bool (decP x).db, .int .i64 (decP x).pa, .int .u32 (decP x).sg, .int .u32 (decP x).lo] 25) (by simp) _) hb3 (by simp; omega)
  have xq3 := blk_below (blk_new (w2.alloc (.cells #[.int .i64 (decP x).k, .int .i64 (decP x).o, .int .i64 (decP x).d, .int .i64 (decP x).p, .int .i64 (decP x).el, .int .i64 (decP x).c, .bool (decP x).db, .int .i64 (decP x).pa, .int .u32 (decP x).sg, .int .u32 (decP x).lo] 25)) #[.int .i64 (decP x).k, .int .i64 (off / 4), .int .i64 dt, .int .i64 pt, .int .i64 (decP x).el, .int .i64 (decP x).c, .bool (decP x).db, .int .i64 (decP x).pa, .int .u32 (decP x).sg, .int .u32 (decP x).lo] 25) hb3 (by simp)
  simp only [World.size_alloc] at xq3
  have HB := Lib.hid (((HB2.out.alloc (by omega) _).alloc (by simp; omega) _).trans (hb3.mono (by simp; omega)))
  have zp : w2.heap.size < w3.heap.size := by omega
  have zq : w2.heap.size + 1 < w3.heap.size := by omega
  clear hb3 HB2
  go_wp2_with fail
  rename_i KK hKK
  refine wp_region_chain (by kernel_rfl) (by kernel_rfl) ?_
  refine chain_val (u := ?_) [14] rfl (by kernel_rfl) trivial (fun ρ wc hbc hcn hk => ?_) ?_; rotate_left
  · obtain ⟨hcn, -⟩ := hcn
    simp at hk
    go_simp
    rfl
  refine chain_val (u := ?_) [55] rfl (by kernel_rfl) trivial (fun ρ wc hbc hcn hk => ?_) ?_; rotate_left
  · obtain ⟨hcn, -⟩ := hcn
    simp at hk
    go_simp
    rfl
  refine chain_val (u := ?_) [13] rfl (by kernel_rfl) ⟨56, by decide +kernel, rfl, fun w x hx => by simpa using hx⟩ (fun ρ wc hbc hcn hk => ?_) ?_; rotate_left
  · obtain ⟨hcn, -⟩ := hcn
    simp at hk
    go_simp
    rfl
  refine chain_call (T := Is ?_) 11 [57] rfl (by kernel_rfl) ⟨56, by decide +kernel, rfl, fun w x hx => by simpa using hx⟩ (stable_is _) (fun ρ wc hbc hcn hk => ?_) ?_; rotate_left
  · obtain ⟨hcn, hfn⟩ := hcn
    simp at hk
    refine ⟨_, by go_simp; rfl, ?_⟩
    refine (Decode_enc (decP x).k (off / 4) dt pt (decP x).el (decP x).c (decP x).pa (decP x).sg (decP x).lo (decP x).db _ HV.out).mono ?_
    rintro e w' ⟨rfl, hbq⟩
    refine ⟨_, rfl, ?_, hbq⟩
    unfold Is
    rfl
  refine chain_val (u := ?_) [12] rfl (by kernel_rfl) ⟨56, by decide +kernel, rfl, fun w x hx => by simpa using hx⟩ (fun ρ wc hbc hcn hk => ?_) ?_; rotate_left
  · obtain ⟨hcn, -⟩ := hcn
    simp at hk
    obtain ⟨hcc, -⟩ := bcell hbc
    simp at hcc
    go_simp
    rfl
  refine chain_val (u := ?_) [58, 59] rfl (by kernel_rfl) ⟨56, by decide +kernel, rfl, fun w x hx => by simpa using hx⟩ (fun ρ wc hbc hcn hk => ?_) ?_; rotate_left
  · obtain ⟨hcn, -⟩ := hcn
    simp at hk
    go_simp
    rfl
  refine chain_val (u := ?_) [56, 60] rfl (by kernel_rfl) trivial (fun ρ wc hbc hcn hk => ?_) ?_; rotate_left
  · obtain ⟨hcn, -⟩ := hcn
    simp at hk
    go_simp
    rfl
  refine chain_val (u := ?_) [61] rfl (by kernel_rfl) trivial (fun ρ wc hbc hcn hk => ?_) ?_; rotate_left
  · obtain ⟨hcn, -⟩ := hcn
    simp at hk
    go_simp
    rfl
  refine chain_val (u := ?_) [13] rfl (by kernel_rfl) ⟨62, by decide +kernel, rfl, fun w x hx => by simpa using hx⟩ (fun ρ wc hbc hcn hk => ?_) ?_; rotate_left
  · obtain ⟨hcn, -⟩ := hcn
    simp at hk
    go_simp
    rfl
  refine chain_val (u := ?_) [0] rfl (by kernel_rfl) ⟨62, by decide +kernel, rfl, fun w x hx => by simpa using hx⟩ (fun ρ wc hbc hcn hk => ?_) ?_; rotate_left
  · obtain ⟨hcn, -⟩ := hcn
    simp at hk
    go_simp
    rfl
  refine chain_val (u := ?_) [63, 64] rfl (by kernel_rfl) ⟨62, by decide +kernel, rfl, fun w x hx => by simpa using hx⟩ (fun ρ wc hbc hcn hk => ?_) ?_; rotate_left
  · obtain ⟨hcn, -⟩ := hcn
    simp at hk
    go_simp
    rfl
  refine chain_val (u := ?_) [11] rfl (by kernel_rfl) ⟨62, by decide +kernel, rfl, fun w x hx => by simpa using hx⟩ (fun ρ wc hbc hcn hk => ?_) ?_; rotate_left
  · obtain ⟨hcn, -⟩ := hcn
    simp at hk
    obtain ⟨hcc, -⟩ := bcell hbc
    simp at hcc
    go_simp
    rfl
  refine chain_val (u := ?_) [12] rfl (by kernel_rfl) ⟨62, by decide +kernel, rfl, fun w x hx => by simpa using hx⟩ (fun ρ wc hbc hcn hk => ?_) ?_; rotate_left
  · obtain ⟨hcn, -⟩ := hcn
    simp at hk
    obtain ⟨hcc, -⟩ := bcell hbc
    simp at hcc
    go_simp
    rfl
  refine chain_val (u := .bool (encW ⟨(decP x).k, (off / 4), dt, pt, (decP x).el, (decP x).c, (decP x).db, (decP x).pa, (decP x).sg, (decP x).lo⟩ == x)) [66, 67] rfl (by kernel_rfl) ⟨62, by decide +kernel, rfl, fun w x hx => by simpa using hx⟩ (fun ρ wc hbc hcn hk => ?_) ?_
  · obtain ⟨hcn, -⟩ := hcn
    simp at hk
    exact run_exec_eql rfl hk.1 hk.2 ((run_eql_ptr (decP x).k (decP x).o (decP x).d (decP x).p (decP x).el (decP x).c (decP x).pa (decP x).sg (decP x).lo (decP x).db (decP x).k (off / 4) dt pt (decP x).el (decP x).c (decP x).pa (decP x).sg (decP x).lo (decP x).db wc).trans (by rw [HQ.out]))
  refine chain_val (u := ?_) [65, 68] rfl (by kernel_rfl) ⟨62, by decide +kernel, rfl, fun w x hx => by simpa using hx⟩ (fun ρ wc hbc hcn hk => ?_) ?_; rotate_left
  · obtain ⟨hcn, -⟩ := hcn
    simp at hk
    go_simp
    rfl
  refine chain_val (u := ?_) [62, 69] rfl (by kernel_rfl) trivial (fun ρ wc hbc hcn hk => ?_) ?_; rotate_left
  · obtain ⟨hcn, -⟩ := hcn
    simp at hk
    go_simp
    rfl
  refine chain_val (u := ?_) [70] rfl (by kernel_rfl) trivial (fun ρ wc hbc hcn hk => ?_) ?_; rotate_left
  · obtain ⟨hcn, -⟩ := hcn
    simp at hk
    go_simp
    rfl
  refine chain_val (u := ?_) [13] rfl (by kernel_rfl) ⟨71, by decide +kernel, rfl, fun w x hx => by simpa using hx⟩ (fun ρ wc hbc hcn hk => ?_) ?_; rotate_left
  · obtain ⟨hcn, -⟩ := hcn
    simp at hk
    go_simp
    rfl
  refine chain_val (u := .int .u64 (x.tmod 4)) [72] rfl (by kernel_rfl) ⟨71, by decide +kernel, rfl, fun w x hx => by simpa using hx⟩ (fun ρ wc hbc hcn hk => ?_) ?_
  · obtain ⟨hcn, -⟩ := hcn
    simp at hk
    go_simp
    rw [HM.out]
  refine chain_val (u := ?_) [0] rfl (by kernel_rfl) ⟨71, by decide +kernel, rfl, fun w x hx => by simpa using hx⟩ (fun ρ wc hbc hcn hk => ?_) ?_; rotate_left
  · obtain ⟨hcn, -⟩ := hcn
    simp at hk
    go_simp
    rfl
  refine chain_val (u := ?_) [74] rfl (by kernel_rfl) ⟨71, by decide +kernel, rfl, fun w x hx => by simpa using hx⟩ (fun ρ wc hbc hcn hk => ?_) ?_; rotate_left
  · obtain ⟨hcn, -⟩ := hcn
    simp at hk
    go_simp
    rfl
  refine chain_val (u := ?_) [73, 75] rfl (by kernel_rfl) ⟨71, by decide +kernel, rfl, fun w x hx => by simpa using hx⟩ (fun ρ wc hbc hcn hk => ?_) ?_; rotate_left
  · obtain ⟨hcn, -⟩ := hcn
    simp at hk
    go_simp
    rfl
  refine chain_val (u := ?_) [71, 76] rfl (by kernel_rfl) trivial (fun ρ wc hbc hcn hk => ?_) ?_; rotate_left
  · obtain ⟨hcn, -⟩ := hcn
    simp at hk
    go_simp
    rfl
  refine chain_val (u := ?_) [77] rfl (by kernel_rfl) trivial (fun ρ wc hbc hcn hk => ?_) ?_; rotate_left
  · obtain ⟨hcn, -⟩ := hcn
    simp at hk
    go_simp
    rfl
  refine chain_end_lit 78 rfl (fun ff w7 hb7 hk => ?_)
  refine hKK _ _ ?_
  clear hKK KK
  simp [AllN] at hk
  simp only [frameL, hk]
  have HB7 := Lib.hid hb7
  clear hb7 hk
  go_wp2
  go_ret
  exact ⟨rfl, HB.out.trans ((bel_drew (Below.refl _ _)).trans (HB7.out.mono (by simp; omega)))⟩

set_option maxRecDepth 100000 in
set_option maxHeartbeats 4000000 in
theorem Fields1 (x off dt pt ct : Int) (w : World) (h5 : 0 ≤ x) (h6 : x < 18446744073709551616) (o1 : -2147483648 ≤ off) (o2 : off < 2147483648) (d1 : 0 ≤ dt) (d2 : dt < 65536) (p1 : 0 ≤ pt) (p2 : pt < 65536) (c1 : 0 ≤ ct) (c2 : ct < 4294967296) (hk4 : x % 4 = 1) :
    Calls Try.prog 6 #[.int .u64 x, .int .i32 off, .int .u16 dt, .int .u16 pt, .int .u32 ct] w fun e w' => e = .returned (.bool true) ∧ Below w.heap.size w w' := by
  have hv : Vld ⟨(decP x).k, (off / 4), (decP x).d, (decP x).p, (dt % 8), (ct % 536870912), (decP x).db, (decP x).pa, (decP x).sg, (decP x).lo⟩ := by
    have hkk := (dec_k x h5).trans hk4
    rcases decP_vld x h5 h6 with ⟨k0, _⟩ | ⟨k0, a1, a2, a3, a4, a5, a6, a7, a8, a9, a10, a11, a12⟩ | ⟨k0, _⟩ | ⟨k0, _⟩
    · exfalso; omega
    · exact Or.inr (Or.inl ⟨hkk, by show -536870912 ≤ off / 4; omega, by show off / 4 ≤ 536870911; omega, a3, a4, by show 0 ≤ dt % 8; omega, by show dt % 8 ≤ 7; omega, by show 0 ≤ ct % 536870912; omega, by show ct % 536870912 ≤ 536870911; omega, a9, a10, a11, a12⟩)
    · exfalso; omega
    · exfalso; omega
  have HQ : Hid (peq (decP x).k (decP x).o (decP x).d (decP x).p (decP x).el (decP x).c (decP x).pa (decP x).sg (decP x).lo (decP x).db (decP x).k (off / 4) (decP x).d (decP x).p (dt % 8) (ct % 536870912) (decP x).pa (decP x).sg (decP x).lo (decP x).db = (encW ⟨(decP x).k, (off / 4), (decP x).d, (decP x).p, (dt % 8), (ct % 536870912), (decP x).db, (decP x).pa, (decP x).sg, (decP x).lo⟩ == x)) := Lib.hid (by
    rw [Bool.eq_iff_iff, peq_iff (decP x) ⟨(decP x).k, (off / 4), (decP x).d, (decP x).p, (dt % 8), (ct % 536870912), (decP x).db, (decP x).pa, (decP x).sg, (decP x).lo⟩, beq_iff_eq, enc_eq_iff _ x hv h5 h6])
  have HM : Hid ((encW ⟨(decP x).k, (off / 4), (decP x).d, (decP x).p, (dt % 8), (ct % 536870912), (decP x).db, (decP x).pa, (decP x).sg, (decP x).lo⟩).tmod 4 = x.tmod 4) := Lib.hid (by
    rw [Int.tmod_eq_emod_of_nonneg (encW_bd _).1, Int.tmod_eq_emod_of_nonneg h5, enc_k _ hv]
    exact dec_k x h5)
  have t4 : ((decP x).k == 0) = false := by rw [dec_k x h5]; rw [beq_eq_false_iff_ne]; omega
  have t5 : ((decP x).k == 1) = true := by rw [dec_k x h5]; rw [beq_iff_eq]; exact hk4
  have HV := Lib.hid hv
  clear hk4 hv
  go_enter Try.func6, Try.ntmps6
  go_wp2_with fail
  refine (awake_any _).mono ?_
  rintro e w1 ⟨rfl, hb1⟩
  have hz1 := hb1.size
  have HB1 := Lib.hid hb1
  clear hb1
  go_wp2_with fail
  refine (Decode_any x _ h5 h6).mono ?_
  rintro e w2 ⟨rfl, hb2⟩
  have hz2 := hb2.size
  have HB2 := Lib.hid (HB1.out.trans (hb2.mono hz1))
  clear hb2 HB1
  go_wp2_with fail
  refine (Encode_yes (decP x).k (off / 4) (decP x).d (decP x).p (dt % 8) (ct % 536870912) (decP x).pa (decP x).sg (decP x).lo (decP x).db _ HV.out).mono ?_
  rintro e w3 ⟨rfl, hb3⟩
  have hz3 := hb3.size
  simp at hz3
  have xp3 := blk_below (blk_alloc (blk_new w2 #[.int .i64 (decP x).k, .int .i64 (decP x).o, .int .i64 (decP x).d, .int .i64 (decP x).p, .int .i64 (decP x).el, .int .i64 (decP x).c, .bool (decP x).db, .int .i64 (decP x).pa, .int .u32 (decP x).sg, .int .u32 (decP x).lo] 25) (by simp) _) hb3 (by simp; omega)
  have xq3 := blk_below (blk_new (w2.alloc (.cells #[.int .i64 (decP x).k, .int .i64 (decP x).o, .int .i64 (decP x).d, .int .i64 (decP x).p, .int .i64 (decP x).el, .int .i64 (decP x).c, .bool (decP x).db, .int .i64 (decP x).pa, .int .u32 (decP x).sg, .int .u32 (decP x).lo] 25)) #[.int .i64 (decP x).k, .int .i64 (off / 4), .int .i64 (decP x).d, .int .i64 (decP x).p, .int .i64 (dt % 8), .int .i64 (ct % 536870912), .bool (decP x).db, .int .i64 (decP x).pa, .int .u32 (decP x).sg, .int .u32 (decP x).lo] 25) hb3 (by simp)
  simp only [World.size_alloc] at xq3
  have HB := Lib.hid (((HB2.out.alloc (by omega) _).alloc (by simp; omega) _).trans (hb3.mono (by simp; omega)))
  have zp : w2.heap.size < w3.heap.size := by omega
  have zq : w2.heap.size + 1 < w3.heap.size := by omega
  clear hb3 HB2
  go_wp2_with fail
  rename_i KK hKK
  refine wp_region_chain (by kernel_rfl) (by kernel_rfl) ?_
  refine chain_val (u := ?_) [14] rfl (by kernel_rfl) trivial (fun ρ wc hbc hcn hk => ?_) ?_; rotate_left
  · obtain ⟨hcn, -⟩ := hcn
    simp at hk
    go_simp
    rfl
  refine chain_val (u := ?_) [55] rfl (by kernel_rfl) trivial (fun ρ wc hbc hcn hk => ?_) ?_; rotate_left
  · obtain ⟨hcn, -⟩ := hcn
    simp at hk
    go_simp
    rfl
  refine chain_val (u := ?_) [13] rfl (by kernel_rfl) ⟨56, by decide +kernel, rfl, fun w x hx => by simpa using hx⟩ (fun ρ wc hbc hcn hk => ?_) ?_; rotate_left
  · obtain ⟨hcn, -⟩ := hcn
    simp at hk
    go_simp
    rfl
  refine chain_call (T := Is ?_) 11 [57] rfl (by kernel_rfl) ⟨56, by decide +kernel, rfl, fun w x hx => by simpa using hx⟩ (stable_is _) (fun ρ wc hbc hcn hk => ?_) ?_; rotate_left
  · obtain ⟨hcn, hfn⟩ := hcn
    simp at hk
    refine ⟨_, by go_simp; rfl, ?_⟩
    refine (Decode_enc (decP x).k (off / 4) (decP x).d (decP x).p (dt % 8) (ct % 536870912) (decP x).pa (decP x).sg (decP x).lo (decP x).db _ HV.out).mono ?_
    rintro e w' ⟨rfl, hbq⟩
    refine ⟨_, rfl, ?_, hbq⟩
    unfold Is
    rfl
  refine chain_val (u := ?_) [12] rfl (by kernel_rfl) ⟨56, by decide +kernel, rfl, fun w x hx => by simpa using hx⟩ (fun ρ wc hbc hcn hk => ?_) ?_; rotate_left
  · obtain ⟨hcn, -⟩ := hcn
    simp at hk
    obtain ⟨hcc, -⟩ := bcell hbc
    simp at hcc
    go_simp
    rfl
  refine chain_val (u := ?_) [58, 59] rfl (by kernel_rfl) ⟨56, by decide +kernel, rfl, fun w x hx => by simpa using hx⟩ (fun ρ wc hbc hcn hk => ?_) ?_; rotate_left
  · obtain ⟨hcn, -⟩ := hcn
    simp at hk
    go_simp
    rfl
  refine chain_val (u := ?_) [56, 60] rfl (by kernel_rfl) trivial (fun ρ wc hbc hcn hk => ?_) ?_; rotate_left
  · obtain ⟨hcn, -⟩ := hcn
    simp at hk
    go_simp
    rfl
  refine chain_val (u := ?_) [61] rfl (by kernel_rfl) trivial (fun ρ wc hbc hcn hk => ?_) ?_; rotate_left
  · obtain ⟨hcn, -⟩ := hcn
    simp at hk
    go_simp
    rfl
  refine chain_val (u := ?_) [13] rfl (by kernel_rfl) ⟨62, by decide +kernel, rfl, fun w x hx => by simpa using hx⟩ (fun ρ wc hbc hcn hk => ?_) ?_; rotate_left
  · obtain ⟨hcn, -⟩ := hcn
    simp at hk
    go_simp
    rfl
  refine chain_val (u := ?_) [0] rfl (by kernel_rfl) ⟨62, by decide +kernel, rfl, fun w x hx => by simpa using hx⟩ (fun ρ wc hbc hcn hk => ?_) ?_; rotate_left
  · obtain ⟨hcn, -⟩ := hcn
    simp at hk
    go_simp
    rfl
  refine chain_val (u := ?_) [63, 64] rfl (by kernel_rfl) ⟨62, by decide +kernel, rfl, fun w x hx => by simpa using hx⟩ (fun ρ wc hbc hcn hk => ?_) ?_; rotate_left
  · obtain ⟨hcn, -⟩ := hcn
    simp at hk
    go_simp
    rfl
  refine chain_val (u := ?_) [11] rfl (by kernel_rfl) ⟨62, by decide +kernel, rfl, fun w x hx => by simpa using hx⟩ (fun ρ wc hbc hcn hk => ?_) ?_; rotate_left
  · obtain ⟨hcn, -⟩ := hcn
    simp at hk
    obtain ⟨hcc, -⟩ := bcell hbc
    simp at hcc
    go_simp
    rfl
  refine chain_val (u := ?_) [12] rfl (by kernel_rfl) ⟨62, by decide +kernel, rfl, fun w x hx => by simpa using hx⟩ (fun ρ wc hbc hcn hk => ?_) ?_; rotate_left
  · obtain ⟨hcn, -⟩ := hcn
    simp at hk
    obtain ⟨hcc, -⟩ := bcell hbc
    simp at hcc
    go_simp
    rfl
  refine chain_val (u := .bool (encW ⟨(decP x).k, (off / 4), (decP x).d, (decP x).p, (dt % 8), (ct % 536870912), (decP x).db, (decP x).pa, (decP x).sg, (decP x).lo⟩ == x)) [66, 67] rfl (by kernel_rfl) ⟨62, by decide +kernel, rfl, fun w x hx => by simpa using hx⟩ (fun ρ wc hbc hcn hk => ?_) ?_
  · obtain ⟨hcn, -⟩ := hcn
    simp at hk
    exact run_exec_eql rfl hk.1 hk.2 ((run_eql_ptr (decP x).k (decP x).o (decP x).d (decP x).p (decP x).el (decP x).c (decP x).pa (decP x).sg (decP x).lo (decP x).db (decP x).k (off / 4) (decP x).d (decP x).p (dt % 8) (ct % 536870912) (decP x).pa (decP x).sg (decP x).lo (decP x).db wc).trans (by rw [HQ.out]))
  refine chain_val (u := ?_) [65, 68] rfl (by kernel_rfl) ⟨62, by decide +kernel, rfl, fun w x hx => by simpa using hx⟩ (fun ρ wc hbc hcn hk => ?_) ?_; rotate_left
  · obtain ⟨hcn, -⟩ := hcn
    simp at hk
    go_simp
    rfl
  refine chain_val (u := ?_) [62, 69] rfl (by kernel_rfl) trivial (fun ρ wc hbc hcn hk => ?_) ?_; rotate_left
  · obtain ⟨hcn, -⟩ := hcn
    simp at hk
    go_simp
    rfl
  refine chain_val (u := ?_) [70] rfl (by kernel_rfl) trivial (fun ρ wc hbc hcn hk => ?_) ?_; rotate_left
  · obtain ⟨hcn, -⟩ := hcn
    simp at hk
    go_simp
    rfl
  refine chain_val (u := ?_) [13] rfl (by kernel_rfl) ⟨71, by decide +kernel, rfl, fun w x hx => by simpa using hx⟩ (fun ρ wc hbc hcn hk => ?_) ?_; rotate_left
  · obtain ⟨hcn, -⟩ := hcn
    simp at hk
    go_simp
    rfl
  refine chain_val (u := .int .u64 (x.tmod 4)) [72] rfl (by kernel_rfl) ⟨71, by decide +kernel, rfl, fun w x hx => by simpa using hx⟩ (fun ρ wc hbc hcn hk => ?_) ?_
  · obtain ⟨hcn, -⟩ := hcn
    simp at hk
    go_simp
    rw [HM.out]
  refine chain_val (u := ?_) [0] rfl (by kernel_rfl) ⟨71, by decide +kernel, rfl, fun w x hx => by simpa using hx⟩ (fun ρ wc hbc hcn hk => ?_) ?_; rotate_left
  · obtain ⟨hcn, -⟩ := hcn
    simp at hk
    go_simp
    rfl
  refine chain_val (u := ?_) [74] rfl (by kernel_rfl) ⟨71, by decide +kernel, rfl, fun w x hx => by simpa using hx⟩ (fun ρ wc hbc hcn hk => ?_) ?_; rotate_left
  · obtain ⟨hcn, -⟩ := hcn
    simp at hk
    go_simp
    rfl
  refine chain_val (u := ?_) [73, 75] rfl (by kernel_rfl) ⟨71, by decide +kernel, rfl, fun w x hx => by simpa using hx⟩ (fun ρ wc hbc hcn hk => ?_) ?_; rotate_left
  · obtain ⟨hcn, -⟩ := hcn
    simp at hk
    go_simp
    rfl
  refine chain_val (u := ?_) [71, 76] rfl (by kernel_rfl) trivial (fun ρ wc hbc hcn hk => ?_) ?_; rotate_left
  · obtain ⟨hcn, -⟩ := hcn
    simp at hk
    go_simp
    rfl
  refine chain_val (u := ?_) [77] rfl (by kernel_rfl) trivial (fun ρ wc hbc hcn hk => ?_) ?_; rotate_left
  · obtain ⟨hcn, -⟩ := hcn
    simp at hk
    go_simp
    rfl
  refine chain_end_lit 78 rfl (fun ff w7 hb7 hk => ?_)
  refine hKK _ _ ?_
  clear hKK KK
  simp [AllN] at hk
  simp only [frameL, hk]
  have HB7 := Lib.hid hb7
  clear hb7 hk
  go_wp2
  go_ret
  exact ⟨rfl, HB.out.trans ((bel_drew (Below.refl _ _)).trans (HB7.out.mono (by simp; omega)))⟩

set_option maxRecDepth 100000 in
set_option maxHeartbeats 4000000 in
theorem Fields2 (x off dt pt ct : Int) (w : World) (h5 : 0 ≤ x) (h6 : x < 18446744073709551616) (o1 : -2147483648 ≤ off) (o2 : off < 2147483648) (d1 : 0 ≤ dt) (d2 : dt < 65536) (p1 : 0 ≤ pt) (p2 : pt < 65536) (c1 : 0 ≤ ct) (c2 : ct < 4294967296) (hk4 : ¬ x % 4 = 0 ∧ ¬ x % 4 = 1) :
    Calls Try.prog 6 #[.int .u64 x, .int .i32 off, .int .u16 dt, .int .u16 pt, .int .u32 ct] w fun e w' => e = .returned (.bool true) ∧ Below w.heap.size w w' := by
  have hv : Vld ⟨(decP x).k, (decP x).o, (decP x).d, (decP x).p, (decP x).el, (decP x).c, (decP x).db, (decP x).pa, ct, (decP x).lo⟩ := by
    have hkk := dec_k x h5
    rcases decP_vld x h5 h6 with ⟨k0, _⟩ | ⟨k0, _⟩ | ⟨k0, a1, a2, a3, a4, a5, a6, a7, a8, a9, a10⟩ | ⟨k0, a1, a2, a3, a4, a5, a6, a7, a8, a9, a10, a11⟩
    · exfalso; omega
    · exfalso; omega
    · exact Or.inr (Or.inr (Or.inl ⟨k0, a1, a2, a3, a4, a5, a6, a7, c1, by show ct ≤ 4294967295; omega, a10⟩))
    · exact Or.inr (Or.inr (Or.inr ⟨k0, a1, a2, a3, a4, a5, a6, a7, c1, by show ct ≤ 4294967295; omega, a10, a11⟩))
  have HQ : Hid (peq (decP x).k (decP x).o (decP x).d (decP x).p (decP x).el (decP x).c (decP x).pa (decP x).sg (decP x).lo (decP x).db (decP x).k (decP x).o (decP x).d (decP x).p (decP x).el (decP x).c (decP x).pa ct (decP x).lo (decP x).db = (encW ⟨(decP x).k, (decP x).o, (decP x).d, (decP x).p, (decP x).el, (decP x).c, (decP x).db, (decP x).pa, ct, (decP x).lo⟩ == x)) := Lib.hid (by
    rw [Bool.eq_iff_iff, peq_iff (decP x) ⟨(decP x).k, (decP x).o, (decP x).d, (decP x).p, (decP x).el, (decP x).c, (decP x).db, (decP x).pa, ct, (decP x).lo⟩, beq_iff_eq, enc_eq_iff _ x hv h5 h6])
  have HM : Hid ((encW ⟨(decP x).k, (decP x).o, (decP x).d, (decP x).p, (decP x).el, (decP x).c, (decP x).db, (decP x).pa, ct, (decP x).lo⟩).tmod 4 = x.tmod 4) := Lib.hid (by
    rw [Int.tmod_eq_emod_of_nonneg (encW_bd _).1, Int.tmod_eq_emod_of_nonneg h5, enc_k _ hv]
    exact dec_k x h5)
  have t4 : ((decP x).k == 0) = false := by rw [dec_k x h5]; rw [beq_eq_false_iff_ne]; omega
  have t5 : ((decP x).k == 1) = false := by rw [dec_k x h5]; rw [beq_eq_false_iff_ne]; omega
  have HV := Lib.hid hv
  clear hk4 hv
  go_enter Try.func6, Try.ntmps6
  go_wp2_with fail
  refine (awake_any _).mono ?_
  rintro e w1 ⟨rfl, hb1⟩
  have hz1 := hb1.size
  have HB1 := Lib.hid hb1
  clear hb1
  go_wp2_with fail
  refine (Decode_any x _ h5 h6).mono ?_
  rintro e w2 ⟨rfl, hb2⟩
  have hz2 := hb2.size
  have HB2 := Lib.hid (HB1.out.trans (hb2.mono hz1))
  clear hb2 HB1
  go_wp2_with fail
  refine (Encode_yes (decP x).k (decP x).o (decP x).d (decP x).p (decP x).el (decP x).c (decP x).pa ct (decP x).lo (decP x).db _ HV.out).mono ?_
  rintro e w3 ⟨rfl, hb3⟩
  have hz3 := hb3.size
  simp at hz3
  have xp3 := blk_below (blk_alloc (blk_new w2 #[.int .i64 (decP x).k, .int .i64 (decP x).o, .int .i64 (decP x).d, .int .i64 (decP x).p, .int .i64 (decP x).el, .int .i64 (decP x).c, .bool (decP x).db, .int .i64 (decP x).pa, .int .u32 (decP x).sg, .int .u32 (decP x).lo] 25) (by simp) _) hb3 (by simp; omega)
  have xq3 := blk_below (blk_new (w2.alloc (.cells #[.int .i64 (decP x).k, .int .i64 (decP x).o, .int .i64 (decP x).d, .int .i64 (decP x).p, .int .i64 (decP x).el, .int .i64 (decP x).c, .bool (decP x).db, .int .i64 (decP x).pa, .int .u32 (decP x).sg, .int .u32 (decP x).lo] 25)) #[.int .i64 (decP x).k, .int .i64 (decP x).o, .int .i64 (decP x).d, .int .i64 (decP x).p, .int .i64 (decP x).el, .int .i64 (decP x).c, .bool (decP x).db, .int .i64 (decP x).pa, .int .u32 ct, .int .u32 (decP x).lo] 25) hb3 (by simp)
  simp only [World.size_alloc] at xq3
  have HB := Lib.hid (((HB2.out.alloc (by omega) _).alloc (by simp; omega) _).trans (hb3.mono (by simp; omega)))
  have zp : w2.heap.size < w3.heap.size := by omega
  have zq : w2.heap.size + 1 < w3.heap.size := by omega
  clear hb3 HB2
  go_wp2_with fail
  rename_i KK hKK
  refine wp_region_chain (by kernel_rfl) (by kernel_rfl) ?_
  refine chain_val (u := ?_) [14] rfl (by kernel_rfl) trivial (fun ρ wc hbc hcn hk => ?_) ?_; rotate_left
  · obtain ⟨hcn, -⟩ := hcn
    simp at hk
    go_simp
    rfl
  refine chain_val (u := ?_) [55] rfl (by kernel_rfl) trivial (fun ρ wc hbc hcn hk => ?_) ?_; rotate_left
  · obtain ⟨hcn, -⟩ := hcn
    simp at hk
    go_simp
    rfl
  refine chain_val (u := ?_) [13] rfl (by kernel_rfl) ⟨56, by decide +kernel, rfl, fun w x hx => by simpa using hx⟩ (fun ρ wc hbc hcn hk => ?_) ?_; rotate_left
  · obtain ⟨hcn, -⟩ := hcn
    simp at hk
    go_simp
    rfl
  refine chain_call (T := Is ?_) 11 [57] rfl (by kernel_rfl) ⟨56, by decide +kernel, rfl, fun w x hx => by simpa using hx⟩ (stable_is _) (fun ρ wc hbc hcn hk => ?_) ?_; rotate_left
  · obtain ⟨hcn, hfn⟩ := hcn
    simp at hk
    refine ⟨_, by go_simp; rfl, ?_⟩
    refine (Decode_enc (decP x).k (decP x).o (decP x).d (decP x).p (decP x).el (decP x).c (decP x).pa ct (decP x).lo (decP x).db _ HV.out).mono ?_
    rintro e w' ⟨rfl, hbq⟩
    refine ⟨_, rfl, ?_, hbq⟩
    unfold Is
    rfl
  refine chain_val (u := ?_) [12] rfl (by kernel_rfl) ⟨56, by decide +kernel, rfl, fun w x hx => by simpa using hx⟩ (fun ρ wc hbc hcn hk => ?_) ?_; rotate_left
  · obtain ⟨hcn, -⟩ := hcn
    simp at hk
    obtain ⟨hcc, -⟩ := bcell hbc
    simp at hcc
    go_simp
    rfl
  refine chain_val (u := ?_) [58, 59] rfl (by kernel_rfl) ⟨56, by decide +kernel, rfl, fun w x hx => by simpa using hx⟩ (fun ρ wc hbc hcn hk => ?_) ?_; rotate_left
  · obtain ⟨hcn, -⟩ := hcn
    simp at hk
    go_simp
    rfl
  refine chain_val (u := ?_) [56, 60] rfl (by kernel_rfl) trivial (fun ρ wc hbc hcn hk => ?_) ?_; rotate_left
  · obtain ⟨hcn, -⟩ := hcn
    simp at hk
    go_simp
    rfl
  refine chain_val (u := ?_) [61] rfl (by kernel_rfl) trivial (fun ρ wc hbc hcn hk => ?_) ?_; rotate_left
  · obtain ⟨hcn, -⟩ := hcn
    simp at hk
    go_simp
    rfl
  refine chain_val (u := ?_) [13] rfl (by kernel_rfl) ⟨62, by decide +kernel, rfl, fun w x hx => by simpa using hx⟩ (fun ρ wc hbc hcn hk => ?_) ?_; rotate_left
  · obtain ⟨hcn, -⟩ := hcn
    simp at hk
    go_simp
    rfl
  refine chain_val (u := ?_) [0] rfl (by kernel_rfl) ⟨62, by decide +kernel, rfl, fun w x hx => by simpa using hx⟩ (fun ρ wc hbc hcn hk => ?_) ?_; rotate_left
  · obtain ⟨hcn, -⟩ := hcn
    simp at hk
    go_simp
    rfl
  refine chain_val (u := ?_) [63, 64] rfl (by kernel_rfl) ⟨62, by decide +kernel, rfl, fun w x hx => by simpa using hx⟩ (fun ρ wc hbc hcn hk => ?_) ?_; rotate_left
  · obtain ⟨hcn, -⟩ := hcn
    simp at hk
    go_simp
    rfl
  refine chain_val (u := ?_) [11] rfl (by kernel_rfl) ⟨62, by decide +kernel, rfl, fun w x hx => by simpa using hx⟩ (fun ρ wc hbc hcn hk => ?_) ?_; rotate_left
  · obtain ⟨hcn, -⟩ := hcn
    simp at hk
    obtain ⟨hcc, -⟩ := bcell hbc
    simp at hcc
    go_simp
    rfl
  refine chain_val (u := ?_) [12] rfl (by kernel_rfl) ⟨62, by decide +kernel, rfl, fun w x hx => by simpa using hx⟩ (fun ρ wc hbc hcn hk => ?_) ?_; rotate_left
  · obtain ⟨hcn, -⟩ := hcn
    simp at hk
    obtain ⟨hcc, -⟩ := bcell hbc
    simp at hcc
    go_simp
    rfl
  refine chain_val (u := .bool (encW ⟨(decP x).k, (decP x).o, (decP x).d, (decP x).p, (decP x).el, (decP x).c, (decP x).db, (decP x).pa, ct, (decP x).lo⟩ == x)) [66, 67] rfl (by kernel_rfl) ⟨62, by decide +kernel, rfl, fun w x hx => by simpa using hx⟩ (fun ρ wc hbc hcn hk => ?_) ?_
  · obtain ⟨hcn, -⟩ := hcn
    simp at hk
    exact run_exec_eql rfl hk.1 hk.2 ((run_eql_ptr (decP x).k (decP x).o (decP x).d (decP x).p (decP x).el (decP x).c (decP x).pa (decP x).sg (decP x).lo (decP x).db (decP x).k (decP x).o (decP x).d (decP x).p (decP x).el (decP x).c (decP x).pa ct (decP x).lo (decP x).db wc).trans (by rw [HQ.out]))
  refine chain_val (u := ?_) [65, 68] rfl (by kernel_rfl) ⟨62, by decide +kernel, rfl, fun w x hx => by simpa using hx⟩ (fun ρ wc hbc hcn hk => ?_) ?_; rotate_left
  · obtain ⟨hcn, -⟩ := hcn
    simp at hk
    go_simp
    rfl
  refine chain_val (u := ?_) [62, 69] rfl (by kernel_rfl) trivial (fun ρ wc hbc hcn hk => ?_) ?_; rotate_left
  · obtain ⟨hcn, -⟩ := hcn
    simp at hk
    go_simp
    rfl
  refine chain_val (u := ?_) [70] rfl (by kernel_rfl) trivial (fun ρ wc hbc hcn hk => ?_) ?_; rotate_left
  · obtain ⟨hcn, -⟩ := hcn
    simp at hk
    go_simp
    rfl
  refine chain_val (u := ?_) [13] rfl (by kernel_rfl) ⟨71, by decide +kernel, rfl, fun w x hx => by simpa using hx⟩ (fun ρ wc hbc hcn hk => ?_) ?_; rotate_left
  · obtain ⟨hcn, -⟩ := hcn
    simp at hk
    go_simp
    rfl
  refine chain_val (u := .int .u64 (x.tmod 4)) [72] rfl (by kernel_rfl) ⟨71, by decide +kernel, rfl, fun w x hx => by simpa using hx⟩ (fun ρ wc hbc hcn hk => ?_) ?_
  · obtain ⟨hcn, -⟩ := hcn
    simp at hk
    go_simp
    rw [HM.out]
  refine chain_val (u := ?_) [0] rfl (by kernel_rfl) ⟨71, by decide +kernel, rfl, fun w x hx => by simpa using hx⟩ (fun ρ wc hbc hcn hk => ?_) ?_; rotate_left
  · obtain ⟨hcn, -⟩ := hcn
    simp at hk
    go_simp
    rfl
  refine chain_val (u := ?_) [74] rfl (by kernel_rfl) ⟨71, by decide +kernel, rfl, fun w x hx => by simpa using hx⟩ (fun ρ wc hbc hcn hk => ?_) ?_; rotate_left
  · obtain ⟨hcn, -⟩ := hcn
    simp at hk
    go_simp
    rfl
  refine chain_val (u := ?_) [73, 75] rfl (by kernel_rfl) ⟨71, by decide +kernel, rfl, fun w x hx => by simpa using hx⟩ (fun ρ wc hbc hcn hk => ?_) ?_; rotate_left
  · obtain ⟨hcn, -⟩ := hcn
    simp at hk
    go_simp
    rfl
  refine chain_val (u := ?_) [71, 76] rfl (by kernel_rfl) trivial (fun ρ wc hbc hcn hk => ?_) ?_; rotate_left
  · obtain ⟨hcn, -⟩ := hcn
    simp at hk
    go_simp
    rfl
  refine chain_val (u := ?_) [77] rfl (by kernel_rfl) trivial (fun ρ wc hbc hcn hk => ?_) ?_; rotate_left
  · obtain ⟨hcn, -⟩ := hcn
    simp at hk
    go_simp
    rfl
  refine chain_end_lit 78 rfl (fun ff w7 hb7 hk => ?_)
  refine hKK _ _ ?_
  clear hKK KK
  simp [AllN] at hk
  simp only [frameL, hk]
  have HB7 := Lib.hid hb7
  clear hb7 hk
  go_wp2
  go_ret
  exact ⟨rfl, HB.out.trans ((bel_drew (Below.refl _ _)).trans (HB7.out.mono (by simp; omega)))⟩

theorem Fields_walk (x off dt pt ct : Int) (w : World) (h5 : 0 ≤ x) (h6 : x < 18446744073709551616) (o1 : -2147483648 ≤ off) (o2 : off < 2147483648) (d1 : 0 ≤ dt) (d2 : dt < 65536) (p1 : 0 ≤ pt) (p2 : pt < 65536) (c1 : 0 ≤ ct) (c2 : ct < 4294967296) :
    Calls Try.prog 6 #[.int .u64 x, .int .i32 off, .int .u16 dt, .int .u16 pt, .int .u32 ct] w fun e w' => e = .returned (.bool true) ∧ Below w.heap.size w w' := by
  by_cases a : x % 4 = 0
  · exact Fields0 x off dt pt ct w h5 h6 o1 o2 d1 d2 p1 p2 c1 c2 a
  · by_cases b : x % 4 = 1
    · exact Fields1 x off dt pt ct w h5 h6 o1 o2 d1 d2 p1 p2 c1 c2 b
    · exact Fields2 x off dt pt ct w h5 h6 o1 o2 d1 d2 p1 p2 c1 c2 ⟨a, b⟩
end Go.Proofs.Ytcpampchcpccnaa
