/- The laws of layer 3. -/
import Derived.Test.YtidbbpingbbndaaLaw03
namespace Go.Proofs.Ytidbbpingbbndaa
open Go.ChangeShapes Go.WideShapes Go.ChangeAt Go.RowKit
set_option linter.unusedVariables false
set_option linter.unusedSimpArgs false
attribute [local irreducible] uintI setX setL fld widI presB

set_option maxHeartbeats 2000000 in
theorem MatchesReference3_walk (A : Option Addr) (c : Nat) (b : List Int) (k i d v : Int) (w : World) (hA : Ri w .u8 A b) (hb : Bts b) (hnil : A = none → c = 0)
    (hbm0 : b.length ≤ 9223372036854775807) (hbc : b.length ≤ c) (hcm : c ≤ 9223372036854775807) (hk : 0 ≤ k) (hk2 : k < 256) (hd : 0 ≤ d) (hd2 : d < 18446744073709551616) (hv : 0 ≤ v) (hv2 : v < 18446744073709551616) :
    Calls Try.prog 3 #[.slice A b.length c, .int .u8 k, .int .i64 i, .int .u64 d, .int .u64 v] w fun e w' => e = .returned (.bool true) ∧ Below w.heap.size w w' := by
  by_cases hlong : b.length ≤ 500
  · have hbm : b.length ≤ 140737488355328 := by omega
    have hW := wid_widI k
    have hn := hW.pos
    have hn2 := hW.le
    go_enter Try.func3, Try.ntmps3
    go_wp2_with fail
    refine (awake_any _).mono ?_
    rintro e w1 ⟨rfl, hw1⟩
    go_wp2_with fail
    refine (Width_any k _ hk hk2).mono ?_
    rintro e w2 ⟨rfl, hw2⟩
    have hb2 := bel_on hw1 hw2
    clear hw1 hw2
    generalize widI k = n at *
    have HR2 := Lib.hid (hA.below hb2 (Nat.le_refl _))
    go_wp2_with fail
    refine (Set_any A c b n i d v _ HR2.out hb hbm hnil hbc hW hd hd2 hv hv2).mono ?_
    rintro e w3 ⟨A3, c3, rfl, hg3, _, _, hw3⟩
    have hr3 := hg3.ri.1
    have hb3 := bel_on hb2 hw3
    clear hg3 hw3 hb2
    have HR3 := Lib.hid (hA.below hb3 (Nat.le_refl _))
    go_wp2_with fail
    refine (RefSet_any A c b n i d v _ HR3.out hb hbm hnil hW hd hd2 hv hv2).mono ?_
    rintro e w4 ⟨A4, c4, rfl, hr4, hw4⟩
    have hb4 := bel_on hb3 hw4
    have HR4 := Lib.hid (hA.below hb4 (Nat.le_refl _))
    have hr34 := hr3.below hw4 (Nat.le_refl _)
    have HS := Lib.hid (Same_any A3 A4 c3 c4 (setX b n i d v) (setX b n i d v) w4 hr34 hr4 (by rw [setX_length]; omega) (by rw [setX_length]; omega))
    rw [setX_length, sameB_self] at HS
    have HB4 := Lib.hid hb4
    clear hr3 hr4 hr34 hb3 hb4 hw4
    go_wp2_with fail
    refine (Uint_any A c b n i d _ HR4.out hb hbm hbc hcm hW hd hd2).mono ?_
    rintro e w' ⟨rfl, rfl⟩
    go_wp2_with fail
    refine (RefUint_any A c b n i d _ HR4.out hb hbm hn hn2 hd hd2).mono ?_
    rintro e w' ⟨rfl, rfl⟩
    have t1 : (uintI b n i d == uintI b n i d) = true := by simp
    have t2 : (presB b.length n i == presB b.length n i) = true := by simp
    go_wp2_with fail
    refine HS.out.mono ?_
    rintro e w' ⟨rfl, m, rfl⟩
    go_wp2
    go_ret
    exact ⟨rfl, bel_drewN HB4.out m⟩
  · have hgt : (500 : Int) < (b.length : Int) := by omega
    go_enter Try.func3, Try.ntmps3
    go_wp2_with fail
    refine (awake_any _).mono ?_
    rintro e w1 ⟨rfl, hw1⟩
    go_wp2_with fail
    refine (awake_any _).mono ?_
    rintro e w2 ⟨rfl, hw2⟩
    go_wp2
    go_ret
    exact ⟨rfl, bel_on hw1 hw2⟩

set_option maxHeartbeats 2000000 in
theorem SetThenGet_walk (A : Option Addr) (c : Nat) (b : List Int) (k i j d v : Int) (w : World) (hA : Ri w .u8 A b) (hb : Bts b) (hnil : A = none → c = 0)
    (hbm0 : b.length ≤ 9223372036854775807) (hbc : b.length ≤ c) (hcm : c ≤ 9223372036854775807) (hk : 0 ≤ k) (hk2 : k < 256) (hi : 0 ≤ i) (hi2 : i < 256) (hj : 0 ≤ j) (hj2 : j < 256) (hd : 0 ≤ d) (hd2 : d < 18446744073709551616) (hv : 0 ≤ v) (hv2 : v < 18446744073709551616) :
    Calls Try.prog 4 #[.slice A b.length c, .int .u8 k, .int .u8 i, .int .u8 j, .int .u64 d, .int .u64 v] w fun e w' => e = .returned (.bool true) ∧ Below w.heap.size w w' := by
  by_cases hlong : b.length ≤ 500
  · have hbm : b.length ≤ 140737488355328 := by omega
    have hW := wid_widI k
    have hn := hW.pos
    have hn2 := hW.le
    go_enter Try.func4, Try.ntmps4
    go_wp2_with fail
    refine (awake_any _).mono ?_
    rintro e w1 ⟨rfl, hw1⟩
    go_wp2_with fail
    refine (Width_any k _ hk hk2).mono ?_
    rintro e w2 ⟨rfl, hw2⟩
    have hb2 := bel_on hw1 hw2
    clear hw1 hw2
    generalize widI k = n at *
    have HR2 := Lib.hid (hA.below hb2 (Nat.le_refl _))
    go_wp2_with fail
    refine (Set_any A c b n i d v _ HR2.out hb hbm hnil hbc hW hd hd2 hv hv2).mono ?_
    rintro e w3 ⟨A3, c3, rfl, hg3, hc3, hc3m, hw3⟩
    have hr3 := hg3.ri.1
    have hb3 := bel_on hb2 hw3
    clear hg3 hw3 hb2
    have HR3 := Lib.hid (hA.below hb3 (Nat.le_refl _))
    have HB3 := Lib.hid hb3
    have HX3 := Lib.hid hr3
    clear hb3 hr3
    have hfb := fld_bd v 0 n (by omega)
    go_wp2_with fail
    refine (RefField_any v 0 n _ hn (by omega) (by omega) hv hv2).mono ?_
    rintro e w' ⟨rfl, rfl⟩
    go_wp2_with fail
    refine (Present_any A c b.length n i _ hn hn2 hbm).mono ?_
    rintro e w' ⟨rfl, rfl⟩
    have t0 : (presB b.length n i != presB b.length n i) = false := by simp
    cases hp : presB b.length n i with
    | false =>
      have HP := Lib.hid hp
      have HS := Lib.hid (Same_any A3 A c3 c b b w3 (by have := HX3.out; rw [setX_no d v hp] at this; exact this) HR3.out hbm0 hbm0)
      rw [sameB_self] at HS
      have hu := uintI_no d hp
      have t1 : (fld d 0 n == fld d 0 n) = true := by simp
      have HU := Lib.hid hu
      clear hu t0
      go_wp2_with fail
      refine HS.out.mono ?_
      rintro e w' ⟨rfl, m, rfl⟩
      go_wp2_with fail
      refine (Uint_any A c b n i d _ (HR3.out.drewN m) hb hbm hbc hcm hW hd hd2).mono ?_
      rw [HU.out]
      rintro e w' ⟨rfl, rfl⟩
      go_wp2_with fail
      refine (RefField_any d 0 n _ hn (by omega) (by omega) hd hd2).mono ?_
      rintro e w' ⟨rfl, rfl⟩
      go_wp2
      go_ret
      exact ⟨rfl, bel_drewN HB3.out m⟩
    | true =>
      have HP := Lib.hid hp
      have hXL := setL_length b n i d v
      have HX := HX3
      rw [setX_yes d v hp] at HX
      have HLB := Lib.hid (setL_bts b n i d v)
      have HU1 := Lib.hid (Uint_any A3 c3 (setL b n i d v) n i d w3 HX.out HLB.out (by omega) (by omega) hc3m hW hd hd2)
      rw [uintI_set_same hb d v hW hp, hXL] at HU1
      have HU2 := Lib.hid (Uint_any A3 c3 (setL b n i d v) n j d w3 HX.out HLB.out (by omega) (by omega) hc3m hW hd hd2)
      rw [hXL] at HU2
      have HSO : i ≠ j → Hid (uintI (setL b n i d v) n j d = uintI b n j d) := fun h => Lib.hid (uintI_set_other hb d v hW hj h hp)
      have HU3 := Lib.hid (Uint_any A c b n j d w3 HR3.out hb hbm hbc hcm hW hd hd2)
      have HU4 := Lib.hid (Uint_any A c b n i d w3 HR3.out hb hbm hbc hcm hW hd hd2)
      have hub := uintI_bd b i d hn hn2
      have HUB := Lib.hid hub
      have HS5 := Lib.hid (Set_yes A3 c3 (setL b n i d v) n i d (uintI b n i d) w3 HX.out HLB.out (by omega) (fun h => by
        subst h
        have h4 := HX.out
        rcases h4 with h5 | ⟨_, _, h5, _⟩
        · have h6 := congrArg List.length h5
          rw [hXL] at h6
          have h7 := (presB_room hn hp)
          simp at h6
          rw [h6] at h7
          have h8 := h7.1
          have h9 := Int.mul_nonneg (by omega : 0 ≤ n) h8
          have h10 := h7.2
          simp at h10
          omega
        · cases h5) (by omega) hW hd hd2 hub.1 hub.2 (by rw [hXL]; exact hp))
      rw [setL_back hb d v hW hp, hXL] at HS5
      have t2 : ((b.length : Int) != (b.length : Int)) = false := by simp
      have t3 : (fld v 0 n != fld v 0 n) = false := by simp
      clear hub hXL t0
      by_cases hij : i = j
      · have t4 : (i != j) = false := by simp [hij]
        clear HSO
        have HIJ := Lib.hid hij
        clear hij
        go_wp2_with fail
        refine HU1.out.mono ?_
        rintro e w' ⟨rfl, rfl⟩
        go_wp2_with fail
        refine HU4.out.mono ?_
        rintro e w' ⟨rfl, rfl⟩
        go_wp2_with fail
        refine HS5.out.mono ?_
        rintro e w5 ⟨r5, rfl, hg5, hw5⟩
        have hb5 := bel_on HB3.out hw5
        obtain ⟨A5, c5, rfl, _, _, hr5⟩ := hg5.slice
        clear hg5
        go_wp2_with fail
        refine (Same_any A5 A c5 c b b w5 hr5 (hA.below hb5 (Nat.le_refl _)) hbm0 hbm0).mono ?_
        rw [sameB_self]
        rintro e w' ⟨rfl, m, rfl⟩
        have HB6 := Lib.hid (bel_drewN hb5 m)
        clear hb5 hw5 hr5
        go_wp2
        go_ret
        exact ⟨rfl, HB6.out⟩
      · have t4 : (i != j) = true := by simp [hij]
        have HSO2 := HSO hij
        clear HSO
        rw [HSO2.out] at HU2
        have t5 : (uintI b n j d != uintI b n j d) = false := by simp
        clear hij
        go_wp2_with fail
        refine HU1.out.mono ?_
        rintro e w' ⟨rfl, rfl⟩
        go_wp2_with fail
        refine HU2.out.mono ?_
        rintro e w' ⟨rfl, rfl⟩
        go_wp2_with fail
        refine HU3.out.mono ?_
        rintro e w' ⟨rfl, rfl⟩
        go_wp2_with fail
        refine HU4.out.mono ?_
        rintro e w' ⟨rfl, rfl⟩
        go_wp2_with fail
        refine HS5.out.mono ?_
        rintro e w5 ⟨r5, rfl, hg5, hw5⟩
        have hb5 := bel_on HB3.out hw5
        obtain ⟨A5, c5, rfl, _, _, hr5⟩ := hg5.slice
        clear hg5
        go_wp2_with fail
        refine (Same_any A5 A c5 c b b w5 hr5 (hA.below hb5 (Nat.le_refl _)) hbm0 hbm0).mono ?_
        rw [sameB_self]
        rintro e w' ⟨rfl, m, rfl⟩
        have HB6 := Lib.hid (bel_drewN hb5 m)
        clear hb5 hw5 hr5
        go_wp2
        go_ret
        exact ⟨rfl, HB6.out⟩
  · have hgt : (500 : Int) < (b.length : Int) := by omega
    go_enter Try.func4, Try.ntmps4
    go_wp2_with fail
    refine (awake_any _).mono ?_
    rintro e w1 ⟨rfl, hw1⟩
    go_wp2_with fail
    refine (awake_any _).mono ?_
    rintro e w2 ⟨rfl, hw2⟩
    go_wp2
    go_ret
    exact ⟨rfl, bel_on hw1 hw2⟩

set_option maxHeartbeats 2000000 in
theorem ZeroIsDefault_walk (s k i d : Int) (w : World) (hs : 0 ≤ s) (hs2 : s < 256) (hk : 0 ≤ k) (hk2 : k < 256) (hd : 0 ≤ d) (hd2 : d < 18446744073709551616) :
    Calls Try.prog 5 #[.int .u8 s, .int .u8 k, .int .i64 i, .int .u64 d] w fun e w' => e = .returned (.bool true) ∧ Below w.heap.size w w' := by
  obtain ⟨i0, hi0, hz0, hz1, hz2⟩ := info_parts int8_info
  have hW := wid_widI k
  have hn := hW.pos
  have hn2 := hW.le
  obtain ⟨S, rfl⟩ := Int.eq_ofNat_of_zero_le hs
  go_enter Try.func5, Try.ntmps5
  go_wp2_with fail
  refine (awake_any _).mono ?_
  rintro e w1 ⟨rfl, hw1⟩
  go_wp2_with fail
  refine (Width_any k _ hk hk2).mono ?_
  rintro e w2 ⟨rfl, hw2⟩
  have hb2 := bel_on hw1 hw2
  clear hw1 hw2
  generalize widI k = n at *
  have hsz2 := hb2.size
  go_wp2_with (at_make; refine wpList_make_full _ rfl _ _ 22 rfl w2.heap.size 5 i0 (.int .u8 0) 1 Try.underlying22 hi0 hz0 hz1 .i64 .i64 _ _ S rfl rfl (by omega) (by omega) (by rw [hz2]; omega) (by unfold maxLen; omega) (Nat.le_refl _) ?_; intro w3 hown3 hgrow3)
  have hb3' : Below w2.heap.size w2 w3 := (Below.refl _ _).grown hgrow3 (Nat.le_refl _) (by simp)
  have hb3 := bel_on hb2 hb3'
  have hg3 := got_made hown3
  obtain ⟨A3, c3, he, h5, h6, hr3⟩ := hg3.slice
  have hlen : (List.replicate S (0 : Int)).length = S := List.length_replicate
  injection he with he1 he2 he3
  subst he1
  subst he3
  have HR3 := Lib.hid hr3
  have HB3 := Lib.hid hb3
  have HSE := Lib.hid (Set_any _ S (List.replicate S 0) n i d d w3 hr3 (zeros_bts S) (by omega) (fun h => by cases h) (by omega) hW hd hd2 hd hd2)
  have HUE := Lib.hid (fun w4 (h : Ri w4 .u8 (some ⟨w2.heap.size, 0, none⟩) (List.replicate S 0)) => Uint_any _ S (List.replicate S 0) n i d w4 h (zeros_bts S) (by omega) (by omega) (by omega) hW hd hd2)
  rw [hlen, setX_zero S i d hW] at HSE
  rw [hlen, uintI_zero] at HUE
  have HL := Lib.hid hlen
  clear hown3 hgrow3 hb3' hb3 hg3 hr3 hlen h5 h6 hb2 he2
  go_wp2_with fail
  refine HSE.out.mono ?_
  rintro e w4 ⟨A4, c4, rfl, hg4, _, _, hw4⟩
  have hr4 := hg4.ri.1
  have hb4 := bel_on HB3.out hw4
  have HR4 := Lib.hid (HR3.out.below hw4 (Nat.le_refl _))
  have HX4 := Lib.hid hr4
  have HB4 := Lib.hid hb4
  clear hg4 hr4 hb4 hw4
  have HS := Lib.hid (Same_any A4 (some ⟨w2.heap.size, 0, none⟩) c4 S (List.replicate S 0) (List.replicate S 0) w4 HX4.out HR4.out (by rw [HL.out]; omega) (by rw [HL.out]; omega))
  rw [HL.out, sameB_self] at HS
  have t1 : (fld d 0 n == fld d 0 n) = true := by simp
  go_wp2_with fail
  refine (HUE.out w4 HR4.out).mono ?_
  rintro e w' ⟨rfl, rfl⟩
  go_wp2_with fail
  refine (RefField_any d 0 n _ hn (by omega) (by omega) hd hd2).mono ?_
  rintro e w' ⟨rfl, rfl⟩
  go_wp2_with fail
  refine HS.out.mono ?_
  rintro e w' ⟨rfl, m, rfl⟩
  go_wp2
  go_ret
  exact ⟨rfl, bel_drewN HB4.out m⟩
end Go.Proofs.Ytidbbpingbbndaa
