/- The laws of layer 3 on floating-point fields, overlapping fields, and that nothing is modified. -/
import Derived.Test.YtidbbpingbbndaaLaw03a
namespace Go.Proofs.Ytidbbpingbbndaa
open Go.ChangeShapes Go.WideShapes Go.ChangeAt Go.RowKit
set_option linter.unusedVariables false
set_option linter.unusedSimpArgs false

/-- a part of the section, as a number -/
def gI (b : List Int) (a n : Nat) : Int := (fldN (secN b) a n : Nat)
theorem gI_bd (b : List Int) (a n : Nat) : 0 ≤ gI b a n := Int.natCast_nonneg _
theorem gI_lt (b : List Int) (a n : Nat) (h : n ≤ 64) : gI b a n < 18446744073709551616 := by
  unfold gI
  have := fldN_lt (secN b) a n
  have := pow_le_64 h
  omega
theorem gI_nul (b : List Int) (a : Nat) : gI b a 0 = 0 := by unfold gI fldN; simp [Nat.mod_one]
theorem gI_16 (b : List Int) (a q : Nat) : gI b (a + 16) q * 65536 + gI b a 16 = gI b a (16 + q) := by
  unfold gI
  rw [fldN_split (secN b) a 16 q]
  omega
theorem gI_1 (b : List Int) (a q : Nat) : gI b (a + 1) q * 2 + gI b a 1 = gI b a (1 + q) := by
  unfold gI
  rw [fldN_split (secN b) a 1 q]
  omega
theorem gI_32 (b : List Int) (a q : Nat) : gI b (a + 32) q * 4294967296 + gI b a 32 = gI b a (32 + q) := by
  unfold gI
  rw [fldN_split (secN b) a 32 q]
  omega
theorem uintI_gI {b : List Int} (N I : Nat) (hN : 1 ≤ N) (h : N * I + N ≤ 8 * b.length) : uintI b N I 0 = gI b (N * I) N := by
  have hp : presB b.length (N : Int) (I : Int) = true := presB_of (by omega) (by omega) (by rw [← Int.natCast_mul]; omega)
  rw [uintI_part hp, Int.toNat_natCast, Int.toNat_natCast]
  rfl

attribute [local irreducible] uintI setX setL fld presB gI

set_option maxHeartbeats 2000000 in
theorem Floats_walk (A : Option Addr) (c : Nat) (b : List Int) (i d v : Int) (w : World) (hA : Ri w .u8 A b) (hb : Bts b) (hnil : A = none → c = 0)
    (hbm0 : b.length ≤ 9223372036854775807) (hbc : b.length ≤ c) (hcm : c ≤ 9223372036854775807) (hi : 0 ≤ i) (hi2 : i < 256) (hd : 0 ≤ d) (hd2 : d < 18446744073709551616) (hv : 0 ≤ v) (hv2 : v < 18446744073709551616) :
    Calls Try.prog 6 #[.slice A b.length c, .int .u8 i, .int .u64 d, .int .u64 v] w fun e w' => e = .returned (.bool true) ∧ Below w.heap.size w w' := by
  by_cases hlong : b.length ≤ 500
  · have hbm : b.length ≤ 140737488355328 := by omega
    obtain ⟨D, hD⟩ := Int.eq_ofNat_of_zero_le hd
    obtain ⟨V, hV⟩ := Int.eq_ofNat_of_zero_le hv
    have hW : Wid 64 := by unfold Wid; omega
    have hfd := run_f64from d
    have hfv := run_f64from v
    have eD : d.toNat = D := by omega
    have eV : v.toNat = V := by omega
    have hD2 : D < 18446744073709551616 := by omega
    have hV2 : V < 18446744073709551616 := by omega
    rw [eD] at hfd
    rw [eV] at hfv
    have HD := Lib.hid hD.symm
    have HV := Lib.hid hV.symm
    clear hD hV eD eV
    have hub := uintI_bd b (n := 64) i d (by omega) (by omega)
    obtain ⟨u, hu⟩ : ∃ u : Nat, (u : Int) = uintI b 64 i d := ⟨(uintI b 64 i d).toNat, Int.toNat_of_nonneg hub.1⟩
    have hfb := run_f64bits u
    have hu2 : u < 18446744073709551616 := by omega
    have HU0 := Lib.hid hu
    clear hub hu
    go_enter Try.func6, Try.ntmps6
    go_wp2_with fail
    refine (awake_any _).mono ?_
    rintro e w1 ⟨rfl, hw1⟩
    have HR1 := Lib.hid (hA.below hw1 (Nat.le_refl _))
    go_wp2_with fail
    refine (SetFloat_any A c b i D V _ HR1.out hb hbm hnil hbc hD2 hV2).mono ?_
    rw [HD.out, HV.out]
    rintro e w2 ⟨A2, c2, rfl, hg2, hc2, hc2m, hw2⟩
    have hr2 := hg2.ri.1
    have hb2 := bel_on hw1 hw2
    have HR2 := Lib.hid (hA.below hb2 (Nat.le_refl _))
    clear hg2 hw1 hw2
    go_wp2_with fail
    refine (Set_any A c b 64 i d v _ HR2.out hb hbm hnil hbc hW hd hd2 hv hv2).mono ?_
    rintro e w3 ⟨A3, c3, rfl, hg3, hc3, hc3m, hw3⟩
    have hr3 := hg3.ri.1
    have hb3 := bel_on hb2 hw3
    have HR3 := Lib.hid (hA.below hb3 (Nat.le_refl _))
    have HX3 := Lib.hid (hr2.below hw3 (Nat.le_refl _))
    have HS := Lib.hid (Same_any A2 A3 c2 c3 (setX b 64 i d v) (setX b 64 i d v) w3 HX3.out hr3 (by rw [setX_length]; omega) (by rw [setX_length]; omega))
    rw [setX_length, sameB_self] at HS
    have HB3 := Lib.hid hb3
    clear hg3 hw3 hb2 hb3 hr2 hr3
    have t0 : (presB b.length 64 i != presB b.length 64 i) = false := by simp
    have t1 : ((u : Int) != (u : Int)) = false := by simp
    have t2 : ((d == v) == (d == v)) = true := by simp
    go_wp2_with fail
    refine HS.out.mono ?_
    rintro e w4 ⟨rfl, m, rfl⟩
    go_wp2_with fail
    refine (Float_any A c b i D _ (HR3.out.drewN m) hb hbm hbc hcm hD2).mono ?_
    rw [HD.out, ← HU0.out, Int.toNat_natCast]
    rintro e w' ⟨rfl, rfl⟩
    go_wp2_with fail
    refine (Uint_any A c b 64 i d _ (HR3.out.drewN m) hb hbm hbc hcm hW hd hd2).mono ?_
    rw [← HU0.out]
    rintro e w' ⟨rfl, rfl⟩
    cases hp : presB b.length 64 i with
    | false =>
      have HP := Lib.hid hp
      clear hp
      go_wp2_with fail
      refine (SameBits_any D V _).mono ?_
      rw [HD.out, HV.out]
      rintro e w' ⟨rfl, rfl⟩
      go_wp2
      go_ret
      exact ⟨rfl, bel_drewN HB3.out m⟩
    | true =>
      have HX := HX3
      rw [setX_yes _ _ hp] at HX
      have HU := Lib.hid (Float_any A2 c2 (setL b 64 i d v) i D _ (HX.out.drewN m) (setL_bts _ _ _ _ _) (by rw [setL_length]; omega) (by rw [setL_length]; omega) hc2m hD2)
      rw [HD.out, uintI_set_same hb d v hW hp, fld_all _ hv hv2, setL_length, ← HV.out, Int.toNat_natCast] at HU
      have HP := Lib.hid hp
      have t3 : (v == v) = true := by simp
      clear hp
      go_wp2_with fail
      refine HU.out.mono ?_
      rintro e w' ⟨rfl, rfl⟩
      go_wp2_with fail
      refine (SameBits_any V V _).mono ?_
      rw [HV.out]
      rintro e w' ⟨rfl, rfl⟩
      go_wp2_with fail
      refine (SameBits_any D V _).mono ?_
      rw [HD.out, HV.out]
      rintro e w' ⟨rfl, rfl⟩
      go_wp2
      go_ret
      exact ⟨rfl, bel_drewN HB3.out m⟩
  · have hgt : (500 : Int) < (b.length : Int) := by omega
    go_enter Try.func6, Try.ntmps6
    go_wp2_with fail
    refine (awake_any _).mono ?_
    rintro e w1 ⟨rfl, hw1⟩
    go_wp2_with fail
    refine (awake_any _).mono ?_
    rintro e w2 ⟨rfl, hw2⟩
    go_wp2
    go_ret
    exact ⟨rfl, bel_on hw1 hw2⟩

set_option maxHeartbeats 2000000 in
theorem Overlap_walk (A : Option Addr) (c : Nat) (b : List Int) (i : Int) (w : World) (hA : Ri w .u8 A b) (hb : Bts b)
    (hbm0 : b.length ≤ 9223372036854775807) (hbc : b.length ≤ c) (hcm : c ≤ 9223372036854775807) (hi : 0 ≤ i) (hi2 : i < 256) :
    Calls Try.prog 7 #[.slice A b.length c, .int .u8 i] w fun e w' => e = .returned (.bool true) ∧ Below w.heap.size w w' := by
  by_cases hlong : b.length ≤ 500
  · have hbm : b.length ≤ 140737488355328 := by omega
    go_enter Try.func7, Try.ntmps7
    go_wp2_with fail
    refine (awake_any _).mono ?_
    rintro e w1 ⟨rfl, hw1⟩
    have HR1 := Lib.hid (hA.below hw1 (Nat.le_refl _))
    have HB1 := Lib.hid hw1
    clear hw1
    go_wp2_with fail
    refine (Present_any A c b.length 64 i _ (by omega) (by omega) hbm).mono ?_
    rintro e w' ⟨rfl, rfl⟩
    cases hp : presB b.length 64 i with
    | false =>
      clear hp
      go_wp2_with fail
      refine (awake_any _).mono ?_
      rintro e w2 ⟨rfl, hw2⟩
      go_wp2
      go_ret
      exact ⟨rfl, bel_on HB1.out hw2⟩
    | true =>
      have hroom := (presB_room (by omega) hp).2
      clear hp
      obtain ⟨I, hI⟩ := Int.eq_ofNat_of_zero_le hi
      have hroom2 : 64 * I + 64 ≤ 8 * b.length := by omega
      have HI := Lib.hid hI.symm
      clear hI hroom
      have HU := fun (N J : Nat) (hN : Wid (N : Int)) (h : N * J + N ≤ 8 * b.length) => Lib.hid (show Calls Try.prog 13 #[.slice A b.length c, .int .i64 N, .int .i64 J, .int .u64 0] w1 fun e w' => e = .returned (.int .u64 (gI b (N * J) N)) ∧ w1 = w' by
        have := Uint_any A c b N J 0 w1 HR1.out hb hbm hbc hcm hN (by omega) (by omega)
        rw [uintI_gI N J (by have := hN.pos; omega) h] at this
        exact this)
      have H64 := HU 64 I (by unfold Wid; omega) (by omega)
      obtain ⟨x3, hx3⟩ : ∃ x, gI b (64 * I) 64 = x := ⟨_, rfl⟩
      have g64 : x3 < 18446744073709551616 := hx3 ▸ gI_lt b (64 * I) 64 (by omega)
      have g640 : 0 ≤ x3 := hx3 ▸ gI_bd b (64 * I) 64
      rw [hx3, HI.out] at H64
      have HX3 := Lib.hid hx3
      clear hx3
      go_wp2_with fail
      refine H64.out.mono ?_
      rintro e w' ⟨rfl, rfl⟩
      go_wp2_with fail
      go_loop [6, 7] (fun s j => ∃ m : Nat, m ≤ 4 ∧ j = .int .i64 ((m : Int) - 1) ∧ s = .int .u64 (gI b (64 * I + 16 * m) (64 - 16 * m))) (fun _ j => (intOf j + 1).toNat)
      case atStart => exact ⟨4, by omega, rfl, by rw [gI_nul]⟩
      case round =>
        obtain ⟨m, hm, rfl, rfl⟩ := hrel
        rcases Nat.eq_zero_or_pos m with rfl | hpos
        · have e0 : Hid (gI b (64 * I + 16 * 0) (64 - 16 * 0) = x3) := Lib.hid HX3.out
          rw [e0.out]
          go_wp2
          go_loop [8, 9] (fun s j => ∃ m : Nat, m ≤ 64 ∧ j = .int .i64 ((m : Int) - 1) ∧ s = .int .u64 (gI b (64 * I + m) (64 - m))) (fun _ j => (intOf j + 1).toNat)
          case atStart => exact ⟨64, by omega, rfl, by rw [gI_nul]⟩
          case round =>
            obtain ⟨m, hm2, rfl, rfl⟩ := hrel
            rcases Nat.eq_zero_or_pos m with rfl | hpos
            · have e1 : Hid (gI b (64 * I + 0) (64 - 0) = x3) := Lib.hid HX3.out
              rw [e1.out]
              have Ha := HU 32 (2 * I + 1) (by unfold Wid; omega) (by omega)
              have Hb2 := HU 32 (2 * I) (by unfold Wid; omega) (by omega)
              rw [show 32 * (2 * I + 1) = 64 * I + 32 by omega, show ((2 * I + 1 : Nat) : Int) = 2 * (I : Int) + 1 by omega, HI.out] at Ha
              rw [show 32 * (2 * I) = 64 * I by omega, show ((2 * I : Nat) : Int) = 2 * (I : Int) by omega, HI.out] at Hb2
              have hs := gI_32 b (64 * I) 32
              rw [show 32 + 32 = 64 by rfl, HX3.out] at hs
              have k1 := gI_bd b (64 * I + 32) 32
              have k2 := gI_bd b (64 * I) 32
              generalize gI b (64 * I + 32) 32 = x1 at *
              generalize gI b (64 * I) 32 = x2 at *
              have t1 : (x3 == x3) = true := by simp
              go_wp2_with fail
              refine Ha.out.mono ?_
              rintro e w' ⟨rfl, rfl⟩
              go_wp2_with fail
              refine Hb2.out.mono ?_
              rintro e w' ⟨rfl, rfl⟩
              have t2 : (x1 * 4294967296 + x2 == x3) = true := by simp; omega
              go_wp2
              go_ret
              exact ⟨rfl, HB1.out⟩
            · obtain ⟨M, rfl⟩ : ∃ M, m = M + 1 := ⟨m - 1, by omega⟩
              have Ha := HU 1 (64 * I + M) (by unfold Wid; omega) (by omega)
              rw [Nat.one_mul, show ((64 * I + M : Nat) : Int) = 64 * (I : Int) + M by omega, HI.out] at Ha
              have hs := gI_1 b (64 * I + M) (64 - (M + 1))
              rw [show 1 + (64 - (M + 1)) = 64 - M by omega, show 64 * I + M + 1 = 64 * I + (M + 1) by omega] at hs
              have k1 := gI_bd b (64 * I + (M + 1)) (64 - (M + 1))
              have k2 := gI_bd b (64 * I + M) 1
              have k3 := gI_lt b (64 * I + M) (64 - M) (by omega)
              obtain ⟨x4, hx4⟩ : ∃ x, gI b (64 * I + M) (64 - M) = x := ⟨_, rfl⟩
              rw [hx4] at hs k3
              have HS := Lib.hid hs
              have HX4 := Lib.hid hx4
              clear hx4
              have eM : ((M + 1 : Nat) : Int) - 1 = (M : Int) := by omega
              rw [eM]
              clear eM
              generalize gI b (64 * I + (M + 1)) (64 - (M + 1)) = x1 at *
              generalize gI b (64 * I + M) 1 = x2 at *
              go_wp2_with fail
              refine Ha.out.mono ?_
              rintro e w' ⟨rfl, rfl⟩
              go_wp2
              go_round
              case rel => exact ⟨M, by omega, by go_num, by rw [HX4.out]⟩
              case measure => simp [intOf]
        · obtain ⟨M, rfl⟩ : ∃ M, m = M + 1 := ⟨m - 1, by omega⟩
          have Ha := HU 16 (4 * I + M) (by unfold Wid; omega) (by omega)
          rw [show 16 * (4 * I + M) = 64 * I + 16 * M by omega, show ((4 * I + M : Nat) : Int) = 4 * (I : Int) + M by omega, HI.out] at Ha
          have hs := gI_16 b (64 * I + 16 * M) (64 - 16 * (M + 1))
          rw [show 16 + (64 - 16 * (M + 1)) = 64 - 16 * M by omega, show 64 * I + 16 * M + 16 = 64 * I + 16 * (M + 1) by omega] at hs
          have k1 := gI_bd b (64 * I + 16 * (M + 1)) (64 - 16 * (M + 1))
          have k2 := gI_bd b (64 * I + 16 * M) 16
          have k3 := gI_lt b (64 * I + 16 * M) (64 - 16 * M) (by omega)
          obtain ⟨x4, hx4⟩ : ∃ x, gI b (64 * I + 16 * M) (64 - 16 * M) = x := ⟨_, rfl⟩
          rw [hx4] at hs k3
          have HS := Lib.hid hs
          have HX4 := Lib.hid hx4
          clear hx4
          have eM : ((M + 1 : Nat) : Int) - 1 = (M : Int) := by omega
          rw [eM]
          clear eM
          generalize gI b (64 * I + 16 * (M + 1)) (64 - 16 * (M + 1)) = x1 at *
          generalize gI b (64 * I + 16 * M) 16 = x2 at *
          go_wp2_with fail
          refine Ha.out.mono ?_
          rintro e w' ⟨rfl, rfl⟩
          go_wp2
          go_round
          case rel => exact ⟨M, by omega, by go_num, by rw [HX4.out]⟩
          case measure => simp [intOf]
  · have hgt : (500 : Int) < (b.length : Int) := by omega
    go_enter Try.func7, Try.ntmps7
    go_wp2_with fail
    refine (awake_any _).mono ?_
    rintro e w1 ⟨rfl, hw1⟩
    go_wp2_with fail
    refine (awake_any _).mono ?_
    rintro e w2 ⟨rfl, hw2⟩
    go_wp2
    go_ret
    exact ⟨rfl, bel_on hw1 hw2⟩

set_option maxHeartbeats 4000000 in
theorem Keeps3_walk (A : Option Addr) (c : Nat) (b : List Int) (k i d v : Int) (w : World) (hA : Ri w .u8 A b) (hb : Bts b) (hnil : A = none → c = 0)
    (hbm0 : b.length ≤ 9223372036854775807) (hbc : b.length ≤ c) (hcm : c ≤ 9223372036854775807) (hk : 0 ≤ k) (hk2 : k < 256) (hd : 0 ≤ d) (hd2 : d < 18446744073709551616) (hv : 0 ≤ v) (hv2 : v < 18446744073709551616) :
    Calls Try.prog 8 #[.slice A b.length c, .int .u8 k, .int .i64 i, .int .u64 d, .int .u64 v] w fun e w' => e = .returned (.bool true) ∧ Below w.heap.size w w' := by
  by_cases hlong : b.length ≤ 500
  · have hbm : b.length ≤ 140737488355328 := by omega
    obtain ⟨i8, hi8, hy0, hy1, hy2⟩ := info_parts int8_info
    have hW := wid_widI k
    have hfd := run_f64from d
    have hfv := run_f64from v
    have hD2 : d.toNat < 18446744073709551616 := by omega
    have hV2 : v.toNat < 18446744073709551616 := by omega
    go_enter Try.func8, Try.ntmps8
    go_wp2_with fail
    refine (awake_any _).mono ?_
    rintro e w1 ⟨rfl, hw1⟩
    have HA1 := Lib.hid ((hA.below hw1 (Nat.le_refl _)).alloc (.cells #[] 5))
    go_wp2_with (at_builtin; refine wpList_appN rfl (.tmp 27) (.tmp 28) 22 rfl Try.underlying22 hi8 hy0 hy1 hy2 rfl (Got.empty_made w1 5 .u8 (base := w1.heap.size) (Nat.le_refl _)) rfl HA1.out hnil (by unfold maxLen; simp; omega) (by simp; omega) (by simp) ?_; intro v2 w2 hg2 hb2)
    have hb12 : Below w1.heap.size w1 w2 := ((Below.refl _ _).alloc (Nat.le_refl _) _).trans hb2
    have hw2 := bel_on hw1 hb12
    rw [List.nil_append] at hg2
    obtain ⟨A2, c2, rfl, _, _, hr2⟩ := hg2.slice
    clear hg2 hb12 hb2 hw1 HA1
    go_wp2_with fail
    refine (Width_any k _ hk hk2).mono ?_
    rintro e w3 ⟨rfl, hw3⟩
    have hb3 := bel_on hw2 hw3
    have hr3 := hr2.below hw3 (Nat.le_refl _)
    clear hw2 hw3 hr2
    generalize widI k = n at *
    have HR3 := Lib.hid (hA.below hb3 (Nat.le_refl _))
    go_wp2_with fail
    refine (Set_any A c b n i d v _ HR3.out hb hbm hnil hbc hW hd hd2 hv hv2).mono ?_
    rintro e w4 ⟨A4, c4, rfl, hg4, hc4, hc4m, hw4⟩
    generalize hok : presB b.length n i = ok
    have hm : ∃ m : Nat, (ok = true ∧ m = b.length) ∨ (ok = false ∧ m = 0) := by cases ok; exact ⟨0, .inr ⟨rfl, rfl⟩⟩; exact ⟨_, .inl ⟨rfl, rfl⟩⟩
    obtain ⟨m, hm⟩ := hm
    have hlx : (setX b n i d v).length = b.length := setX_length _ _ _ _ _
    have HB3 := Lib.hid hb3
    have HW4 := Lib.hid hw4
    have HR2 := Lib.hid hr3
    have HG4 := Lib.hid hg4
    have HLX := Lib.hid hlx
    clear hok hb3 hw4 hr3 hg4 hlx
    go_wp2
    go_loopw [15] (fun j wr => ∃ (q : Nat) (zs : List Int), q ≤ m ∧ j = .int .i64 q ∧ zs.length = b.length ∧ Got wr w3.heap.size 5 .u8 (.slice A4 b.length c4) zs ∧ Below w3.heap.size w3 wr) (fun j _ => m - (intOf j).toNat)
    case atStart => exact ⟨0, _, by omega, rfl, HLX.out, HG4.out, HW4.out⟩
    case round =>
      obtain ⟨q, zs, hq, rfl, hzl, hgz, hbz⟩ := hrel
      by_cases hlt : q < m
      · obtain ⟨rfl, rfl⟩ : ok = true ∧ m = b.length := by rcases hm with h | h; exact h; omega
        obtain ⟨g, rfl, hg1, hg2, hnz⟩ := hgz.addr (by omega)
        have hcell := (hgz.cast (congrArg (fun n => Value.slice (some ⟨g, 0, none⟩) n c4) hnz) rfl).cell q (by omega)
        have hfree := (hgz.cast (congrArg (fun n => Value.slice (some ⟨g, 0, none⟩) n c4) hnz) rfl).free q
        have HNZ := Lib.hid hnz
        have HGZ := Lib.hid hgz
        have HBZ := Lib.hid hbz
        have HZL := Lib.hid hzl
        clear hgz hbz hnz hzl
        have hk1 : (q : Int) < (b.length : Int) := by omega
        go_wp2
        go_roundw
        case rel =>
          exact ⟨q + 1, _, by omega, by go_num, by rw [List.length_set]; exact HZL.out, ((HGZ.out.cast (congrArg (fun n => Value.slice (some ⟨g, 0, none⟩) n c4) HNZ.out) rfl).put q _).cast (by rw [← HNZ.out]) rfl, HBZ.out.setCell hg1 _⟩
        case measure => simp [intOf]; omega
      · obtain rfl : q = m := by omega
        have hb5 := bel_on HB3.out hbz
        have HR5 := Lib.hid (hA.below hb5 (Nat.le_refl _))
        have HR25 := Lib.hid (HR2.out.below hbz (Nat.le_refl _))
        have HB5 := Lib.hid hb5
        clear hgz hbz hzl hb5 HG4 HW4 hlt hq
        have HSF := Lib.hid (SetFloat_any A c b i d.toNat v.toNat wr HR5.out hb hbm hnil hbc hD2 hV2)
        generalize hok2 : presB b.length 64 i = ok2 at HSF
        have hm2 : ∃ m : Nat, (ok2 = true ∧ m = b.length) ∨ (ok2 = false ∧ m = 0) := by cases ok2; exact ⟨0, .inr ⟨rfl, rfl⟩⟩; exact ⟨_, .inl ⟨rfl, rfl⟩⟩
        obtain ⟨m2, hm2⟩ := hm2
        clear hok2
        rcases hm with ⟨rfl, rfl⟩ | ⟨rfl, rfl⟩
        all_goals
          go_wp2_with fail
          refine HSF.out.mono ?_
          rintro e w6 ⟨A6, c6, rfl, hg6, _, _, hw6⟩
          have hlx2 : (setX b 64 i d.toNat v.toNat).length = b.length := setX_length _ _ _ _ _
          have HG6 := Lib.hid hg6
          have HW6 := Lib.hid hw6
          have HLX2 := Lib.hid hlx2
          clear hg6 hw6 hlx2
          go_wp2
          go_loopw [18] (fun j wr2 => ∃ (q : Nat) (zs : List Int), q ≤ m2 ∧ j = .int .i64 q ∧ zs.length = b.length ∧ Got wr2 wr.heap.size 5 .u8 (.slice A6 b.length c6) zs ∧ Below wr.heap.size wr wr2) (fun j _ => m2 - (intOf j).toNat)
          case atStart => exact ⟨0, _, by omega, rfl, HLX2.out, HG6.out, HW6.out⟩
          case round =>
            obtain ⟨q, zs, hq, rfl, hzl, hgz, hbz⟩ := hrel
            by_cases hlt : q < m2
            · obtain ⟨rfl, rfl⟩ : ok2 = true ∧ m2 = b.length := by rcases hm2 with h | h; exact h; omega
              obtain ⟨g, rfl, hg1, hg2, hnz⟩ := hgz.addr (by omega)
              have hcell := (hgz.cast (congrArg (fun n => Value.slice (some ⟨g, 0, none⟩) n c6) hnz) rfl).cell q (by omega)
              have hfree := (hgz.cast (congrArg (fun n => Value.slice (some ⟨g, 0, none⟩) n c6) hnz) rfl).free q
              have HNZ := Lib.hid hnz
              have HGZ := Lib.hid hgz
              have HBZ := Lib.hid hbz
              have HZL := Lib.hid hzl
              clear hgz hbz hnz hzl
              have hk1 : (q : Int) < (b.length : Int) := by omega
              go_wp2
              go_roundw
              case rel =>
                exact ⟨q + 1, _, by omega, by go_num, by rw [List.length_set]; exact HZL.out, ((HGZ.out.cast (congrArg (fun n => Value.slice (some ⟨g, 0, none⟩) n c6) HNZ.out) rfl).put q _).cast (by rw [← HNZ.out]) rfl, HBZ.out.setCell hg1 _⟩
              case measure => simp [intOf]; omega
            · obtain rfl : q = m2 := by omega
              have hb7 := bel_on HB5.out hbz
              have HS := Lib.hid (Same_any A A2 c c2 b b _ (hA.below hb7 (Nat.le_refl _)) (HR25.out.below hbz (Nat.le_refl _)) hbm0 hbm0)
              rw [sameB_self] at HS
              have HB7 := Lib.hid hb7
              clear hgz hbz hzl hb7 HG6 HW6 hlt hq
              rcases hm2 with ⟨rfl, rfl⟩ | ⟨rfl, rfl⟩
              all_goals
                go_wp2_with fail
                refine HS.out.mono ?_
                rintro e w' ⟨rfl, m9, rfl⟩
                go_wp2
                go_ret
                exact ⟨rfl, bel_drewN HB7.out m9⟩
  · have hgt : (500 : Int) < (b.length : Int) := by omega
    go_enter Try.func8, Try.ntmps8
    go_wp2_with fail
    refine (awake_any _).mono ?_
    rintro e w1 ⟨rfl, hw1⟩
    go_wp2_with fail
    refine (awake_any _).mono ?_
    rintro e w2 ⟨rfl, hw2⟩
    go_wp2
    go_ret
    exact ⟨rfl, bel_on hw1 hw2⟩
end Go.Proofs.Ytidbbpingbbndaa
