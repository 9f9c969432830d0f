/- The law of layer 6 on trimming. -/
import Derived.Test.YtkipmljmolaobaaDoorLaw06b
namespace Go.Proofs.YtkipmljmolaobaaDoor
open Go.ChangeShapes Go.WideShapes Go.ChangeAt Go.RowKit
set_option linter.unusedVariables false
set_option linter.unusedSimpArgs false

theorem trimL_congr {b b' : List Int} {e c : Int} (h : ∀ i, i < (bytesI e c).toNat → zat b i = zat b' i) : trimL b e c = trimL b' e c := by
  unfold trimL
  apply List.map_congr_left
  intro i hi
  have h1 := h i (List.mem_range.1 hi)
  unfold trimAt
  rw [h1]
theorem trimL_more {b : List Int} {e c : Int} (hl : bytesI e c ≤ b.length) (x : Int) : trimL (b.take (bytesI e c).toNat ++ [x]) e c = trimL b e c := by
  apply trimL_congr
  intro i hi
  rw [zat_append_left _ _ _ (by rw [List.length_take]; omega), zat_take _ _ _ hi]
theorem trimL_again (b : List Int) (e c : Int) : trimL (trimL b e c) e c = trimL b e c := by
  apply ext_zat
  · rw [trimL_length, trimL_length]
  · intro i hi
    rw [trimL_length] at hi
    rw [trimL_zat _ _ _ _ hi, trimL_zat _ _ _ _ hi]
    unfold trimAt
    rw [trimL_zat _ _ _ _ hi]
    unfold trimAt
    split
    · rw [Int.emod_emod_of_dvd _ (Int.dvd_refl _)]
    · rfl
theorem trimL_diff {b : List Int} {e c : Int} {i : Nat} (hc : 0 ≤ c) (hi : i < (bytesI e c).toNat) (h : zat (trimL b e c) i ≠ zat b i) : e = 1 ∧ ¬ ((i : Int) < bytesI e c - 1) ∧ c % 8 ≠ 0 := by
  rw [trimL_zat _ _ _ _ hi] at h
  unfold trimAt at h
  split at h
  · rename_i h1
    obtain ⟨rfl, h2⟩ := h1
    have e1 : bytesI 1 c = (c + 7) / 8 := by unfold bytesI; rw [show bitsI 1 = 1 from rfl, Int.one_mul]
    rw [e1] at hi ⊢
    refine ⟨rfl, by omega, by omega⟩
  · exact absurd rfl h

attribute [local irreducible] rightB bitsI trimL wordsI bytesI

set_option maxRecDepth 100000 in
set_option maxHeartbeats 4000000 in
theorem Trims_walk (A : Option Addr) (cp : Nat) (el c : Int) (b : List Int) (x : Int) (w : World) (hT : TabOK w) (hA : Ri w .u8 A b) (hb : Bts b) (hnil : A = none → cp = 0) (hbm0 : b.length ≤ 9223372036854775807) (hbc : b.length ≤ cp) (hcm : cp ≤ 9223372036854775807) (hx0 : 0 ≤ x) (hx1 : x < 256) :
    Calls Tryd.prog 6 #[.int .i64 el, .int .i64 c, .slice A b.length cp, .int .u8 x] w fun r w' => r = .returned (.bool true) ∧ Below w.heap.size w w' := by
  obtain ⟨i8, hi8, hy0, hy1, hy2⟩ := info_parts int8_info
  go_enter Tryd.func6, Tryd.ntmps6
  go_wp2_with fail
  refine (awake_any _ hT).mono ?_
  rintro e w1 ⟨rfl, hw1⟩
  have HW1 := Lib.hid hw1
  have HT0 := Lib.hid hT
  have HT1 := Lib.hid (hT.on hw1)
  clear hw1 hT
  by_cases hgood : 0 ≤ el ∧ el ≤ 5 ∧ 0 ≤ c ∧ c ≤ 4000 ∧ b.length ≤ 2000
  · obtain ⟨e0, e5, c0, c4, hlong⟩ := hgood
    have HBR := Lib.hid (fun w => RefBytes6_any el c w c0 (by omega))
    obtain ⟨m0, m1⟩ := bitsI_mul el c c0
    obtain ⟨y0, y1⟩ := bytesI_bd el c
    have q0 : 0 ≤ bytesI el c := by omega
    have q1 : bytesI el c ≤ 40000 := by omega
    clear m0 m1 y0 y1
    by_cases hlt : (b.length : Int) < bytesI el c
    · generalize bytesI el c = Y at *
      go_wp2_with fail
      refine (HBR.out _).mono ?_
      rintro e w' ⟨rfl, rfl⟩
      go_wp2_with fail
      refine (awake_any _ HT1.out).mono ?_
      rintro e w2 ⟨rfl, hw2⟩
      go_wp2
      go_ret
      exact ⟨rfl, bel_on HW1.out hw2⟩
    · have hge : bytesI el c ≤ (b.length : Int) := by omega
      have HBA := Lib.hid (fun w hT => LBytes_any el c w hT e0 e5 c0 (by omega))
      have HLT := Lib.hid (fun (A' : Option Addr) (cp' : Nat) (b' : List Int) (w : World) (hT : TabOK w) (hr : Ri w .u8 A' b') (hb' : Bts b') (hn : A' = none → cp' = 0) (h1 : b'.length ≤ 100000) (h2 : b'.length ≤ cp') (h3 : cp' ≤ 9223372036854775807) (h4 : bytesI el c ≤ b'.length) => LTrim_any A' cp' b' el c w hT hr hb' hn (by omega) h2 h3 e0 e5 c0 (by omega) h4)
      have HTB := Lib.hid (trimL_bts hb el c)
      have HTL := Lib.hid (trimL_length b el c)
      have HMORE := Lib.hid (trimL_more hge x)
      have HAGAIN := Lib.hid (trimL_again b el c)
      have HDIFF := Lib.hid (fun i => trimL_diff (b := b) (e := el) (c := c) (i := i) c0)
      obtain ⟨N, hN⟩ : ∃ N : Nat, bytesI el c = N := ⟨(bytesI el c).toNat, by omega⟩
      have hNb : N ≤ b.length := by omega
      rw [hN] at HBR HBA HLT HMORE HDIFF HTL
      rw [show ((N : Int)).toNat = N from Int.toNat_natCast N] at HMORE HDIFF HTL
      clear hN hlt hge q0 q1
      generalize hT : trimL b el c = T at *
      have HT := Lib.hid hT
      clear hT
      have hNb2 : (N : Int) ≤ (b.length : Int) := by omega
      have HA1 := Lib.hid ((hA.below HW1.out (Nat.le_refl _)).alloc (.cells #[] 5))
      go_wp2_with fail
      refine (HBR.out _).mono ?_
      rintro e w' ⟨rfl, rfl⟩
      go_wp2_with (at_builtin; refine wpList_appN rfl (.tmp 45) (.tmp 46) 22 rfl Tryd.underlying22 hi8 hy0 hy1 hy2 rfl (Got.empty_made w1 5 .u8 (base := w1.heap.size) (Nat.le_refl _)) rfl HA1.out hnil (by unfold maxLen; simp only [List.length_nil]; omega) (by simp only [List.length_nil]; omega) (by simp) ?_; intro v2 w2 hg2 hb2; rw [List.nil_append] at hg2; obtain ⟨A2, c2, rfl, hc2, hm2, hr2, hn2⟩ := hg2.full; have HG2 := Lib.hid hg2; have HR2 := Lib.hid hr2; have HB2 := Lib.hid hb2; clear hg2 hr2 hb2)
      have hm2' : c2 ≤ 9223372036854775807 := by unfold maxLen at hm2; omega
      have hW2 : Below w1.heap.size w1 w2 := ((Below.refl _ _).alloc (Nat.le_refl _) _).trans HB2.out
      have HW2 := Lib.hid (bel_on HW1.out hW2)
      have T1 := Lib.hid (HLT.out A2 c2 b w2 (HT0.out.on HW2.out) HR2.out hb hn2 (by omega) hc2 hm2' hNb2)
      rw [HT.out] at T1
      clear hW2 hm2 HA1
      refine T1.out.mono ?_
      rintro e w3 ⟨v3, rfl, hg3, hw3⟩
      obtain ⟨A3, c3, he3, hc3, hm3, hr3, hn3⟩ := hg3.full
      rw [HTL.out] at he3 hc3
      subst he3
      have hm3' : c3 ≤ 9223372036854775807 := by unfold maxLen at hm3; omega
      have HG3 := Lib.hid hg3
      have HR3 := Lib.hid hr3
      have HW3 := Lib.hid (bel_on HW2.out hw3)
      have HR23 := Lib.hid (HR2.out.below hw3 (Nat.le_refl _))
      have HW23 := Lib.hid hw3
      have hs23 := hw3.size
      clear hg3 hr3 hw3 hm3 T1
      have tNN : ((N : Int) != (N : Int)) = false := by simp
      have hNc : (N : Int) ≤ (c2 : Int) := by omega
      have HTK : Hid (N = (b.take N).length) := Lib.hid (by rw [List.length_take]; omega)
      have HL1 : Hid ((b.take N ++ [x]).length = N + 1) := Lib.hid (by rw [List.length_append, List.length_take]; simp; omega)
      have HBX : Hid (Bts (b.take N ++ [x])) := Lib.hid (fun z hz => by
        rcases List.mem_append.1 hz with h | h
        · exact hb z (List.mem_of_mem_take h)
        · rw [List.mem_singleton.1 h]; exact ⟨hx0, hx1⟩)
      have HRT := Lib.hid ((HR23.out.take N).alloc (.cells #[] 5))
      have hcase : (∃ g2, A2 = some g2) ∨ (A2 = none ∧ c2 = 0 ∧ N = 0) := by
        cases A2 with
        | none => have := hn2 rfl; exact .inr ⟨rfl, this, by omega⟩
        | some g2 => exact .inl ⟨g2, rfl⟩
      have HN2 := Lib.hid hn2
      clear hn2
      go_wp2_with fail
      refine (HBA.out _ (HT0.out.on HW3.out)).mono ?_
      rintro e w' ⟨rfl, rfl⟩
      rcases hcase with ⟨g2, rfl⟩ | ⟨rfl, rfl, rfl⟩
      all_goals
        go_wp2_with (first
          | (at_builtin; refine wpList_unguard rfl ?_; refine wpList_app1 rfl (.tmp 66) (.tmp 68) 22 rfl Tryd.underlying22 hi8 hy0 hy1 hy2 rfl HG4.out rfl (by rw [← HTK.out]; unfold maxLen; omega) (by rw [← HTK.out]; omega) (Nat.le_trans (by simp) HB4.out.size) ?_; intro v5 w5 hg5 hb5)
          | (at_builtin; refine wpList_unguard rfl ?_; refine wpList_appNn _ rfl (.tmp 62) (.tmp 65) 22 rfl Tryd.underlying22 hi8 hy0 hy1 hy2 HTK.out rfl (Got.empty_made w3 5 .u8 (base := w3.heap.size) (Nat.le_refl _)) rfl HRT.out (by first | exact HN2.out | exact fun _ => rfl) (by unfold maxLen; simp only [List.length_nil]; omega) (by simp only [List.length_nil]; omega) (by simp) ?_; intro v4 w4 hg4 hb4; rw [List.nil_append] at hg4; obtain ⟨A4, c4, he4, -⟩ := hg4.slice; rw [← HTK.out] at he4; subst he4; have HG4 := Lib.hid hg4; have HB4 := Lib.hid hb4; clear hg4 hb4))
        have hB5 : Below w3.heap.size w3 w5 := (((Below.refl _ _).alloc (Nat.le_refl _) _).trans HB4.out).trans hb5
        obtain ⟨A5, c5, rfl, hc5, hm5, hr5, hn5⟩ := hg5.full
        have hm5' : c5 ≤ 9223372036854775807 := by unfold maxLen at hm5; omega
        have HB5 := Lib.hid (bel_on HW3.out hB5)
        have T5 := Lib.hid (HLT.out A5 c5 _ w5 (HT0.out.on HB5.out) hr5 HBX.out hn5 (by rw [HL1.out]; omega) hc5 hm5' (by rw [HL1.out]; omega))
        rw [HMORE.out] at T5
        have HH5 := Lib.hid hB5
        clear hg5 hb5 hB5 hr5 hm5 hc5 hn5 hm5'
        go_wp2_with fail
        refine T5.out.mono ?_
        rintro e w6 ⟨v6, rfl, hg6, hw6⟩
        obtain ⟨A6, c6, he6, -, -, hr6⟩ := hg6.slice
        rw [HTL.out] at he6
        subst he6
        have hb36 := bel_on HH5.out hw6
        have hw26 : Below w2.heap.size w2 w6 := HW23.out.trans (hb36.mono hs23)
        have hr36 := HR3.out.below hb36 (Nat.le_refl _)
        have S6 := Lib.hid (Same_any A6 A3 c6 c3 T T w6 hr6 hr36 (by rw [HTL.out]; omega) (by rw [HTL.out]; omega))
        rw [HTL.out, sameB_self] at S6
        have T7 := Lib.hid (fun m => HLT.out A3 c3 T (w6.drewN m) (((HT0.out.on HW2.out).on hw26).drewN m) (hr36.drewN m) HTB.out hn3 (by rw [HTL.out]; omega) (by rw [HTL.out]; exact hc3) hm3' (by rw [HTL.out]; exact Int.le_refl _))
        rw [HTL.out, HAGAIN.out] at T7
        have HW26 := Lib.hid hw26
        have HR36 := Lib.hid hr36
        have HG36 := Lib.hid (HG3.out.below hb36 (Nat.le_refl _))
        clear hg6 hr6 hw6 hb36 hw26 hr36 T5 HH5
        go_wp2_with fail
        refine S6.out.mono ?_
        rintro e w' ⟨rfl, m, rfl⟩
        go_wp2_with fail
        refine (T7.out m).mono ?_
        rintro e w7 ⟨v7, rfl, hg7, hw7⟩
        obtain ⟨A7, c7, he7, -, -, hr7⟩ := hg7.slice
        rw [HTL.out] at he7
        subst he7
        have hw67 : Below w6.heap.size w6 w7 := bel_on (bel_drewN (Below.refl _ _) m) hw7
        have S7 := Lib.hid (Same_any A7 A3 c7 c3 T T w7 hr7 (HR36.out.below hw67 (Nat.le_refl _)) (by rw [HTL.out]; omega) (by rw [HTL.out]; omega))
        rw [HTL.out, sameB_self] at S7
        have HG37 := Lib.hid (HG36.out.below hw67 (Nat.le_refl _))
        have HW27 := Lib.hid (HW26.out.trans (hw67.mono HW26.out.size))
        clear hg7 hr7 hw7 hw67 T7
        go_wp2_with fail
        refine S7.out.mono ?_
        rintro e w' ⟨rfl, m2, rfl⟩
        go_wp2_with fail
        go_loopw [12] (fun i wr => ∃ (k : Nat) (ys : List Int), k ≤ T.length ∧ i = .int .i64 k ∧ ys.length = T.length ∧ (∀ j, k ≤ j → zat ys j = zat T j) ∧ Got wr w2.heap.size 5 .u8 (.slice A3 T.length c3) ys ∧ Below w2.heap.size w2 wr) (fun i _ => T.length - (intOf i).toNat)
        case atStart => exact ⟨0, T, Nat.zero_le _, rfl, rfl, fun _ _ => rfl, by rw [HTL.out]; exact HG37.out, bel_drewN HW27.out m2⟩
        case round =>
          obtain ⟨k, ys, hk, rfl, hyl, hyz, hgy, hby⟩ := hrel
          rw [HTL.out] at hk hyl hgy
          have hbb := bel_on HW2.out hby
          rcases Nat.lt_or_ge k T.length with hlt | hlt
          · rw [HTL.out] at hlt
            first
              | exact absurd hlt (Nat.not_lt_zero _)
              | (
                    obtain ⟨g, rfl, hg1, hg2, hnz⟩ := hgy.addr (by omega)
                    have hgy' := hgy.cast (congrArg (fun n => Value.slice (some ⟨g, 0, none⟩) n c3) hnz) rfl
                    have hcell := hgy'.cell k (by omega)
                    have hfree := hgy'.free k
                    rw [hyz k (Nat.le_refl _)] at hcell
                    obtain ⟨gb, ob, rfl, hcb⟩ := (hA.below hbb (Nat.le_refl _)).at (i := k) (by omega)
                    have hck := hcb k (by omega)
                    have HGY := Lib.hid hgy'
                    have HNZ := Lib.hid hnz
                    have HBY := Lib.hid hby
                    have HYL := Lib.hid hyl
                    have HYZ := Lib.hid hyz
                    have hkN : (k : Int) < (N : Int) := by omega
                    have hkb : (k : Int) < (b.length : Int) := by omega
                    have HD := Lib.hid (HDIFF.out k hlt)
                    have HREL : ∀ wr2 : World, Hid _ := fun wr2 => Lib.hid (rfl : wr2 = wr2)
                    clear hgy hgy' hnz hby hyl hyz hcb hbb HREL
                    generalize hzt : zat T k = zt at *
                    generalize zat b k = zb at *
                    have HZT := Lib.hid hzt
                    clear hzt
                    by_cases hd : zt = zb
                    · have u1 : (zt != zb) = false := by simp [hd]
                      have u2 : (zt == zb) = true := by simp [hd]
                      have HDD := Lib.hid hd
                      clear hd
                      go_wp2
                      go_quiet (fail)
                      go_wp2
                      go_roundw
                      case rel =>
                        refine ⟨k + 1, ys.set k ((zt + 1) % 256), by rw [HTL.out]; omega, by go_num, by rw [List.length_set, HTL.out]; exact HYL.out, ?_, ?_, (bel_drewN HBY.out _).setCell (by show w2.heap.size ≤ g; exact hg1) _⟩
                        · intro j hj
                          rw [zat_set _ _ _ _ (by rw [HYL.out]; exact hlt), if_neg (by omega), HYZ.out j (by omega)]
                        · rw [HTL.out]
                          exact (HGY.out.put k _).cast (by rw [← HNZ.out]) rfl
                      case measure => rw [HTL.out]; simp [intOf]; omega
                    · have u1 : (zt != zb) = true := by simp [hd]
                      have u2 : (zt == zb) = false := by simp [hd]
                      obtain ⟨d1, d2, d3⟩ := HD.out hd
                      have u3 : (el != 1) = false := by simp [d1]
                      have u4 : decide ((k : Int) < (N : Int) - 1) = false := decide_eq_false (by omega)
                      have u5 : (c % 8 == 0) = false := beq_eq_false_iff_ne.2 d3
                      clear hd d1 d2 d3
                      go_wp2
                      go_quiet (fail)
                      go_wp2
                      go_roundw
                      case rel =>
                        refine ⟨k + 1, ys.set k ((zt + 1) % 256), by rw [HTL.out]; omega, by go_num, by rw [List.length_set, HTL.out]; exact HYL.out, ?_, ?_, (bel_drewN HBY.out _).setCell (by show w2.heap.size ≤ g; exact hg1) _⟩
                        · intro j hj
                          rw [zat_set _ _ _ _ (by rw [HYL.out]; exact hlt), if_neg (by omega), HYZ.out j (by omega)]
                        · rw [HTL.out]
                          exact (HGY.out.put k _).cast (by rw [← HNZ.out]) rfl
                      case measure => rw [HTL.out]; simp [intOf]; omega)
          · rw [HTL.out] at hlt
            have hS := Lib.hid (fun q => Same_any _ A q cp b b wr (HR2.out.below hby (Nat.le_refl _)) (hA.below hbb (Nat.le_refl _)) hbm0 hbm0)
            rw [sameB_self] at hS
            have HBB := Lib.hid hbb
            clear hgy hby hbb hyl hyz
            have hke : decide ((k : Int) < (T.length : Int)) = false := decide_eq_false (by rw [HTL.out]; omega)
            have hke2 : decide (k < T.length) = false := decide_eq_false (by rw [HTL.out]; omega)
            rw [HTL.out] at hke hke2
            have hkk : k = T.length := by rw [HTL.out]; omega
            rw [HTL.out] at hkk
            subst hkk
            clear hlt hk
            clear HLT HDIFF HMORE HAGAIN HBA HBR HTB HL1 HBX HTK HRT HN2 HG2 HR23 HG3 HR3 HW3 HW23 HG36 HG37 HR36 HW26 HW27 S6 S7 HB5 HG4 HB4 hNc hNb hNb2 hs23 tNN hm2' hc3 hm3' hx0 hx1 hn3
            go_wp2_with fail
            refine (hS.out _).mono ?_
            rintro e w' ⟨rfl, m9, rfl⟩
            go_wp2
            go_ret
            exact ⟨rfl, bel_drewN HBB.out m9⟩
  · have hbad : el < 0 ∨ (0 ≤ el ∧ 5 < el) ∨ (0 ≤ el ∧ el ≤ 5 ∧ c < 0) ∨ (0 ≤ el ∧ el ≤ 5 ∧ 0 ≤ c ∧ 4000 < c) ∨ (0 ≤ el ∧ el ≤ 5 ∧ 0 ≤ c ∧ c ≤ 4000 ∧ (2000 : Int) < (b.length : Int)) := by omega
    clear hgood
    rcases hbad with h1 | ⟨h1, h2⟩ | ⟨h1, h2, h3⟩ | ⟨h1, h2, h3, h4⟩ | ⟨h1, h2, h3, h4, h5⟩
    all_goals
      go_wp2_with fail
      refine (awake_any _ HT1.out).mono ?_
      rintro e w2 ⟨rfl, hw2⟩
      go_wp2
      go_ret
      exact ⟨rfl, bel_on HW1.out hw2⟩
end Go.Proofs.YtkipmljmolaobaaDoor
