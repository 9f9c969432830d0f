/- A law of layer 8: ResolveThroughFar. -/
import Derived.Test.YtljkdhdkbolnjaaDoorAwake08
import Derived.Test.YtljkdhdkbolnjaaDoorMsgMix
import Derived.Test.YtljkdhdkbolnjaaDoorFarW
namespace Go.Proofs.YtljkdhdkbolnjaaDoor
open Go.ChangeShapes Go.WideShapes Go.ChangeAt Go.RowKit
set_option linter.unusedVariables false
set_option linter.unusedSimpArgs false

theorem seg_behind (ls : List (List Int)) (x : Int) (j : Nat) (h : j < ls.length) : seg (ls ++ [[x]]) j = seg ls j := seg_append_left _ _ _ h
theorem seg_last (ls : List (List Int)) (x : Int) : seg (ls ++ [[x]]) ls.length = [x] := by
  rw [seg_append_right _ _ _ (Nat.le_refl _), Nat.sub_self]; rfl
theorem has_behind (ls : List (List Int)) (x : Int) (S K : Nat) (hS : S < ls.length) (hK : K < (seg ls S).length) : hasB (ls ++ [[x]]) S K = true := by
  unfold hasB
  rw [decide_eq_true_iff, Int.toNat_natCast, seg_behind _ _ _ hS, List.length_append]
  simp; omega
theorem word_behind (ls : List (List Int)) (x : Int) (S K : Nat) (hS : S < ls.length) (hK : K < (seg ls S).length) : wordV (ls ++ [[x]]) S K = zat (seg ls S) K := by
  unfold wordV
  rw [if_pos (has_behind ls x S K hS hK), Int.toNat_natCast, Int.toNat_natCast, seg_behind _ _ _ hS]
theorem fol_behind (ls : List (List Int)) (x : Int) (S K : Nat) (hS : S < ls.length) (hK : K < (seg ls S).length) (hx : zat (seg ls S) K % 4 ≠ 2) : followF (ls ++ [[x]]) S K = ⟨zat (seg ls S) K, S, K + 1, 0⟩ := by
  unfold followF
  rw [has_behind ls x S K hS hK, word_behind ls x S K hS hK, if_neg (by simp), if_pos (by simpa using hx)]
theorem fol_over (ls : List (List Int)) (S K : Nat) (hS : S < ls.length) (hK : K < (seg ls S).length) (hx : zat (seg ls S) K % 4 ≠ 2) (hS2 : S < 1000) (hK2 : K < 65536) : followF (ls ++ [[farW false K S]]) ls.length 0 = ⟨zat (seg ls S) K, S, K + 1, 0⟩ := by
  have h1 : hasB (ls ++ [[farW false K S]]) ls.length 0 = true := by
    unfold hasB
    rw [decide_eq_true_iff, Int.toNat_natCast, seg_last, List.length_append]
    simp; omega
  have h2 : wordV (ls ++ [[farW false K S]]) ls.length 0 = farW false K S := by
    unfold wordV
    rw [if_pos h1, Int.toNat_natCast, seg_last]
    rfl
  have e : farW false K S = 2 + 8 * (K : Int) + 4294967296 * S := by unfold farW; simp
  have d1 : farW false K S / 4294967296 = S := by rw [e]; omega
  have d2 : farW false K S % 4294967296 / 8 = K := by rw [e]; omega
  have d3 : farW false K S / 4 % 2 = 0 := by rw [e]; omega
  have d4 : (farW false K S % 4 == 2) = true := by rw [e]; simp; omega
  unfold followF
  rw [h1, h2, if_neg (by simp), d4, if_neg (by simp), d1, d2, has_behind ls _ S K hS hK, if_neg (by simp), if_pos d3, word_behind ls _ S K hS hK, if_neg (by simpa using hx)]
theorem obj_over (ls : List (List Int)) (S K : Nat) (hS : S < ls.length) (hK : K < (seg ls S).length) (hx : zat (seg ls S) K % 4 ≠ 2) (hS2 : S < 1000) (hK2 : K < 65536) : objF (ls ++ [[farW false K S]]) ls.length 0 = objF (ls ++ [[farW false K S]]) S K := by
  unfold objF
  rw [fol_over ls S K hS hK hx hS2 hK2, fol_behind ls _ S K hS hK hx]
theorem wd_behind {ls : List (List Int)} (hw : Wd2 ls) {x : Int} (h0 : 0 ≤ x) (h1 : x < 18446744073709551616) : Wd2 (ls ++ [[x]]) := by
  intro l hl
  rcases List.mem_append.1 hl with h | h
  · exact hw l h
  · simp at h
    subst h
    intro z hz
    simp at hz
    subst hz
    exact ⟨h0, h1⟩
theorem seg_fits {ls : List (List Int)} (h : ∀ j, (seg ls j).length ≤ 300) (x : Int) (j : Nat) : (seg (ls ++ [[x]]) j).length ≤ 140737488355328 := by
  rcases Nat.lt_trichotomy j ls.length with h1 | h1 | h1
  · rw [seg_behind _ _ _ h1]; have := h j; omega
  · subst h1; rw [seg_last]; simp
  · rw [seg_out (by simp; omega)]; simp

attribute [local irreducible] objF fewB ptrO inB wordsI farW encE
theorem word8Far (pa sg : Int) (w : World) (h1 : 0 ≤ pa) (h2 : pa < 536870912) (h3 : 0 ≤ sg) (h4 : sg < 4294967296) :
    Calls Tryd.prog 17 #[.agg #[.int .i64 2, .int .i64 0, .int .i64 0, .int .i64 0, .int .i64 0, .int .i64 0, .bool false, .int .i64 pa, .int .u32 sg, .int .u32 0]] w fun e w' => e = .returned (.int .u64 (farW false pa sg)) ∧ Below w.heap.size w w' := by
  rw [← encE_far false pa sg h1 h2 h3 h4]
  exact word8_any 2 0 0 0 0 0 pa sg 0 false w h3 h4 (by decide)
set_option maxHeartbeats 4000000 in
set_option maxRecDepth 100000 in
theorem Thr8_walk (A : Option Addr) (c : Nat) (ls : List (List Int)) (sg a : Int) (w : World) (hT : TabOK w) (hA : Sg w A ls) (hw : Wd2 ls) (hnil : A = none → c = 0) (hlm : ls.length ≤ 9223372036854775807) (hlc : ls.length ≤ c) (hcm : c ≤ 9223372036854775807)
    (s0 : 0 ≤ sg) (s1 : sg < 256) (a0 : 0 ≤ a) (a1 : a < 65536) :
    Calls Tryd.prog 6 #[.slice A ls.length c, .int .u8 sg, .int .u16 a] w fun e w' => e = .returned (.bool true) ∧ Below w.heap.size w w' := by
  have HT := Lib.hid hT
  clear hT
  go_enter Tryd.func6, Tryd.ntmps6
  go_wp2_with fail
  refine (awake8_any _ HT.out).mono ?_
  rintro e w1 ⟨rfl, hw1⟩
  have HS1 := Lib.hid (hA.below hw1 (Nat.le_refl _))
  go_wp2_with fail
  refine (Few_any A c ls _ HS1.out hlm).mono ?_
  rintro e w' ⟨rfl, rfl⟩
  cases hf : fewB ls with
  | false =>
    have HF := Lib.hid hf
    clear hf
    go_wp2_with fail
    refine (awake8_any _ (HT.out.on hw1)).mono ?_
    rintro e w2 ⟨rfl, hw2⟩
    go_wp2
    go_ret
    exact ⟨rfl, bel_on hw1 hw2⟩
  | true =>
    have hfit := few_fits hf
    by_cases hl0 : ls.length = 0
    · have l0 : ((ls.length : Int) == 0) = true := by rw [beq_iff_eq]; omega
      clear hf hfit hl0
      go_wp2_with fail
      refine (awake8_any _ (HT.out.on hw1)).mono ?_
      rintro e w2 ⟨rfl, hw2⟩
      go_wp2
      go_ret
      exact ⟨rfl, bel_on hw1 hw2⟩
    have l0 : ((ls.length : Int) == 0) = false := by rw [beq_eq_false_iff_ne]; omega
    have hl20 := hfit.2
    have HFIT := Lib.hid hfit.1
    have HW := Lib.hid hw
    have HA := Lib.hid hA
    have HB1 := Lib.hid hw1
    clear hf hfit hw hA hw1
    have hs0 : 0 ≤ sg % ls.length := Int.emod_nonneg _ (by omega)
    have hs1 : sg % ls.length < ls.length := Int.emod_lt_of_pos _ (by omega)
    obtain ⟨S, hS⟩ := Int.eq_ofNat_of_zero_le hs0
    obtain ⟨K, hK⟩ := Int.eq_ofNat_of_zero_le a0
    have HK := Lib.hid hK
    clear hK
    have hSl : S < ls.length := by omega
    obtain ⟨b, off, A', c', rfl, hcell, hri, -, hc1, hc2⟩ := HS1.out.one hSl
    have HSS := Lib.hid hS
    have hS2 : (S : Int) < (ls.length : Int) := by omega
    have htm : sg.tmod ls.length = S := by rw [Int.tmod_eq_emod_of_nonneg s0]; exact hS
    have HRI := Lib.hid hri
    clear hs0 hs1 hc1 hc2 hnil hlm hcm hl0 hri hS
    by_cases hal : ((seg ls S).length : Int) ≤ a
    · go_wp2
      go_ret
      exact ⟨rfl, HB1.out⟩
    have hKl : K < (seg ls S).length := by have := HK.out; omega
    obtain ⟨b2, off2, rfl, hwd⟩ := HRI.out.at hKl
    have hword := hwd a.toNat (by have := HK.out; omega)
    have HZ : Hid (zat (seg ls S) a.toNat = zat (seg ls S) K) := Lib.hid (by rw [HK.out, Int.toNat_natCast])
    rw [HZ.out] at hword
    have hxb : 0 ≤ zat (seg ls S) K ∧ zat (seg ls S) K < 18446744073709551616 := (HW.out.at S).at K
    have HXB := Lib.hid hxb
    clear hwd hxb
    by_cases hx : zat (seg ls S) K % 4 = 2
    · have t1 : (zat (seg ls S) K % 4 == 2) = true := by simpa using hx
      obtain ⟨hx0, hx1⟩ := HXB.out
      generalize zat (seg ls S) K = x at *
      clear hx
      go_wp2
      go_ret
      exact ⟨rfl, HB1.out⟩
    have HXX := Lib.hid hx
    have t1 : (zat (seg ls S) K % 4 == 2) = false := by simpa using hx
    obtain ⟨x, hxe⟩ : ∃ x, zat (seg ls S) K = x := ⟨_, rfl⟩
    have HXE := Lib.hid hxe
    have hxb : 0 ≤ x ∧ x < 18446744073709551616 := by rw [← hxe]; exact HXB.out
    obtain ⟨hx0, hx1⟩ := hxb
    rw [hxe] at hword t1
    have hz1 := HB1.out.size
    have hlp : 0 < ls.length := by omega
    clear hx hxe
    go_wp2_with (first
      | (at_builtin; refine wpList_appM (W := w) rfl (.tmp 50) (.tmp 51) 22 rfl Tryd.underlying22 rfl (OwnS.made w1 hz1) rfl HA.out (Nat.le_refl _) (HB1.out.alloc hz1 _) hlp (by simp; omega) (by simp; omega) ?_; intro v4 w4 hg4 hb4 _; have HG4 := Lib.hid hg4; have HB4 := Lib.hid ((HB1.out.alloc hz1 _).trans hb4); have hz4 := HB4.out.size; clear hg4 hb4))
    refine (word8Far a (S : Int) _ (by omega) (by omega) (by omega) (by omega)).mono ?_
    rintro e w5 ⟨rfl, hb5⟩
    have HB5 := Lib.hid (HB4.out.trans (hb5.mono hz4))
    have HG5 := Lib.hid (HG4.out.below hb5 (Nat.le_refl _))
    have hz5 := HB5.out.size
    clear hb5 HB4 HG4
    have HR1 : Hid (SegOK (w5.alloc (.cells #[.int .u64 (farW false a S)] 39)) w.heap.size (.slice (some ⟨w5.heap.size, 0, none⟩) 1 1) [farW false a S]) :=
      Lib.hid (.inl (Got.lit w5 [farW false a S] hz5 1 rfl (by decide)))
    have HG5' := Lib.hid (HG5.out.below (((Below.refl w5.heap.size w5).alloc (Nat.le_refl _) (.cells #[.int .u64 (farW false a S)] 39))) (Nat.le_refl _))
    have HB5' := Lib.hid (HB5.out.alloc hz5 (.cells #[.int .u64 (farW false a S)] 39))
    go_wp2_with (first
      | (at_builtin; refine wpList_app1S rfl (.tmp 53) (.tmp 61) 22 rfl Tryd.underlying22 rfl HG5'.out HR1.out (w5.heap.size + 1) (by simp) rfl (by simp; omega) (by simp; omega) ?_; intro v6 w6 hg6 hb6 _; have HG6 := Lib.hid hg6; have HB6 := Lib.hid (HB5'.out.trans hb6); have hz6 := HB6.out.size; clear hg6 hb6))
    have hg6 := HG6.out
    rw [List.nil_append] at hg6
    obtain ⟨A6, c6, rfl, h61, h62, hs6⟩ := hg6.slice
    clear hg6
    have HS6 := Lib.hid hs6
    have HFB := farW_bd false a S (by omega) (by omega) (by omega) (by omega)
    have HWA : Hid (Wd2 (ls ++ [[farW false a S]])) := Lib.hid (wd_behind HW.out HFB.1 HFB.2)
    have HFA : Hid (∀ j, (seg (ls ++ [[farW false a S]]) j).length ≤ 140737488355328) := Lib.hid (seg_fits HFIT.out _)
    have HO : Hid (objF (ls ++ [[farW false a S]]) ls.length 0 = objF (ls ++ [[farW false a S]]) S a) := Lib.hid (by
      rw [HK.out]
      exact obj_over ls S K hSl hKl HXX.out (by omega) (by have := HK.out; omega))
    have HL : Hid (ls.length + 1 = (ls ++ [[farW false a S]]).length) := Lib.hid (by simp)
    have HLM : Hid ((ls ++ [[farW false a S]]).length ≤ 140737488355328) := Lib.hid (by simp; omega)
    rw [← HL.out]
    generalize ls ++ [[farW false a S]] = am at *
    obtain ⟨⟨⟨k, g, at', d, p, el, n, cost⟩, e0⟩, hq⟩ : ∃ q, objF am S a = q := ⟨_, rfl⟩
    have HQ := Lib.hid hq
    have HQ2 := Lib.hid (HO.out.trans hq)
    clear hq hs6 h61 h62 HFB HG6 HG5 HG5' HB5 HB5' HR1 hword hcell
    refine (RObject_at A6 c6 _ am S a k g at' d p el n cost e0 _ (HT.out.on HB6.out) HL.out HS6.out HWA.out HLM.out HFA.out (by omega) (by omega) (by omega) (by omega) HQ.out).mono ?_
    rintro e w7 ⟨rfl, hb7⟩
    have HB7 := Lib.hid (bel_on HB6.out hb7)
    have HS7 := Lib.hid (HS6.out.below hb7 (Nat.le_refl _))
    clear hb7 HB6 HS6
    go_wp2_with fail
    refine (RObject_at A6 c6 _ am ls.length 0 k g at' d p el n cost e0 _ ((HT.out.on HB7.out).alloc _) HL.out (HS7.out.alloc _) HWA.out HLM.out HFA.out (by omega) (by omega) (by omega) (by omega) HQ2.out).mono ?_
    rintro e w8 ⟨rfl, hb8⟩
    have HB8 := Lib.hid (bel_on (HB7.out.alloc HB7.out.size _) hb8)
    have B9 := (Blk.fresh w7 _ _).below hb8
    clear hb8 HB7 HS7
    obtain ⟨x9, y9, z9⟩ := B9
    go_wp2
    go_ret
    exact ⟨rfl, HB8.out.alloc HB8.out.size _⟩
end Go.Proofs.YtljkdhdkbolnjaaDoor
