/- A law of layer 8: ResolveElements. -/
import Derived.Test.YtljkdhdkbolnjaaDoorAwake08
namespace Go.Proofs.YtljkdhdkbolnjaaDoor
open Go.ChangeShapes Go.WideShapes Go.ChangeAt Go.RowKit
set_option linter.unusedVariables false
set_option linter.unusedSimpArgs false

theorem ptrO_e (sg at' d p el n cost : Int) (hp0 : 0 ≤ p) : ptrO ⟨1, sg, at', d, p, el, n, cost⟩ = (if 0 < p then at' + d else 0, p) := by
  unfold ptrO
  by_cases hp : 0 < p
  · simp [hp]
  · simp [hp]; omega

attribute [local irreducible] objF fewB ptrO inB wordsI

set_option maxHeartbeats 4000000 in
set_option maxRecDepth 100000 in
theorem Elem8_walk (A : Option Addr) (c : Nat) (ls : List (List Int)) (s a : Int) (w : World) (hT : TabOK w) (hA : Sg w A ls) (hw : Wd2 ls) (hnil : A = none → c = 0) (hlm : ls.length ≤ 9223372036854775807) (hlc : ls.length ≤ c) (hcm : c ≤ 9223372036854775807)
    (s0 : -9223372036854775808 ≤ s) (s1 : s ≤ 9223372036854775807) (a0 : -9223372036854775808 ≤ a) (a1 : a ≤ 9223372036854775807) :
    Calls Tryd.prog 7 #[.slice A ls.length c, .int .i64 s, .int .i64 a] w fun e w' => e = .returned (.bool true) ∧ Below w.heap.size w w' := by
  have HT := Lib.hid hT
  clear hT
  go_enter Tryd.func7, Tryd.ntmps7
  go_wp2_with fail
  refine (awake8_any _ HT.out).mono ?_
  rintro e w1 ⟨rfl, hw1⟩
  have HS1 := Lib.hid (hA.below hw1 (Nat.le_refl _))
  go_wp2_with fail
  refine (Few_any A c ls _ HS1.out hlm).mono ?_
  rintro e w' ⟨rfl, rfl⟩
  cases hf : fewB ls with
  | false =>
    have HF := Lib.hid hf
    clear hf
    go_wp2_with fail
    refine (awake8_any _ (HT.out.on hw1)).mono ?_
    rintro e w2 ⟨rfl, hw2⟩
    go_wp2
    go_ret
    exact ⟨rfl, bel_on hw1 hw2⟩
  | true =>
    have hfit := few_fits hf
    have hm : ls.length ≤ 140737488355328 := by omega
    have HFT : Hid (∀ j, (seg ls j).length ≤ 140737488355328) := Lib.hid (fun j => by have := hfit.1 j; omega)
    obtain ⟨⟨⟨k, sg, at', d, p, el, n, cost⟩, e0⟩, hq⟩ : ∃ q, objF ls s a = q := ⟨_, rfl⟩
    have hbd := objF_bd hw hfit.2 hfit.1 _ _ _ _ _ _ _ _ _ _ _ hq
    have hcs := objF_cases hw hm HFT.out s a
    rw [hq] at hcs
    simp only [ob0, Ob.mk.injEq] at hcs
    have HQ := Lib.hid hq
    have HW := Lib.hid hw
    have HB1 := Lib.hid hw1
    have HC := Lib.hid hcs
    have HA := Lib.hid hA
    clear hw1 hq hfit hf hw hA hcs
    go_wp2_with fail
    refine (RObject_is A c ls s a k sg at' d p el n cost e0 _ (HT.out.on HB1.out) HS1.out HW.out hm HFT.out s0 s1 a0 a1 HQ.out).mono ?_
    rintro e w2 ⟨rfl, hb2⟩
    have HS2 := Lib.hid (HS1.out.below hb2 (Nat.le_refl _))
    have HB2 := Lib.hid (bel_on HB1.out hb2)
    clear hb2 HS1 HB1 HQ
    have hek : e0 ≠ 0 ∨ (e0 = 0 ∧ el ≠ 7) ∨ (e0 = 0 ∧ el = 7 ∧ 2000 < n) ∨ (e0 = 0 ∧ k = 2 ∧ el = 7 ∧ n ≤ 2000) := by
      rcases HC.out with ⟨⟨rfl, rfl, rfl, rfl, rfl, rfl, rfl, rfl⟩, h2⟩ | ⟨rfl, rfl, rfl, rfl, h1, h2, h3, h4, rfl, h5⟩ | ⟨rfl, rfl, h1, h2, h3, h4, rfl, rfl, hcost, h5⟩ | ⟨rfl, rfl, rfl, h1, h2, h3, h4, h5, h6, cc, h7, h8, h9, h10, hcost⟩ <;> omega
    rcases hek with he | ⟨rfl, he⟩ | ⟨rfl, rfl, he⟩ | ⟨rfl, rfl, rfl, hn⟩
    · have t1 : (e0 != 0) = true := by simpa using he
      clear he HC
      go_wp2
      go_ret
      exact ⟨rfl, HB2.out.alloc HB2.out.size _⟩
    · have t1 : (el != 7) = true := by simpa using he
      clear he HC
      go_wp2
      go_ret
      exact ⟨rfl, HB2.out.alloc HB2.out.size _⟩
    · clear HC
      go_wp2
      go_ret
      exact ⟨rfl, HB2.out.alloc HB2.out.size _⟩
    have hc0 : ∃ cc, 0 ≤ cc ∧ cc ≤ 536870911 ∧ n * (d + p) ≤ cc ∧ inB ls sg (at' - 1) (cc + 1) = true ∧ n * (d + p) ≤ cost := by
      rcases HC.out with ⟨⟨h, _⟩, _⟩ | ⟨_, h, _⟩ | ⟨_, _, _, h, _⟩ | ⟨_, _, _, h1, h2, h3, h4, h5, h6, cc, h7, h8, h9, h10, hcost⟩
      · omega
      · omega
      · omega
      · refine ⟨cc, h7, h8, h9, h10, ?_⟩
        by_cases hz : d + p = 0
        · rw [if_pos hz] at hcost; omega
        · rw [if_neg hz] at hcost; omega
    obtain ⟨cc, h7, h8, h9, h10, hcst⟩ := hc0
    have h11 := inB_iff.1 h10
    have HLEN : Hid (0 ≤ sg ∧ sg < ls.length ∧ 0 ≤ at' ∧ at' + n * (d + p) ≤ (seg ls sg.toNat).length) := Lib.hid (by omega)
    obtain ⟨N, hN⟩ := Int.eq_ofNat_of_zero_le (by omega : 0 ≤ n)
    have HM : Hid (∀ q : Nat, q ≤ N → 0 ≤ (q : Int) * (d + p) ∧ (q : Int) * (d + p) ≤ 300 ∧ (q + 1 ≤ N → (q : Int) * (d + p) + (d + p) = ((q + 1 : Nat) : Int) * (d + p) ∧ ((q + 1 : Nat) : Int) * (d + p) ≤ n * (d + p))) := Lib.hid (by
      intro q hq
      have m0 : 0 ≤ (q : Int) * (d + p) := Int.mul_nonneg (by omega) (by omega)
      have m1 : (q : Int) * (d + p) ≤ n * (d + p) := Int.mul_le_mul_of_nonneg_right (by omega) (by omega)
      refine ⟨m0, by omega, fun h => ⟨?_, Int.mul_le_mul_of_nonneg_right (by omega) (by omega)⟩⟩
      have : ((q + 1 : Nat) : Int) = (q : Int) + 1 := by omega
      rw [this, Int.add_mul, Int.one_mul])
    have HCST : Hid (n * (d + p) ≤ cost) := Lib.hid hcst
    clear HC h9 h10 h11 hcst
    subst hN
    have hZ2 := HB2.out.size
    go_wp2
    go_loopw [9, 10] (fun nx i wr => ∃ q : Nat, q ≤ N ∧ i = .int .i64 q ∧ nx = .int .i64 (at' + q * (d + p)) ∧ Blk wr w2.heap.size #[.int .i64 2, .int .i64 sg, .int .i64 at', .int .i64 d, .int .i64 p, .int .i64 7, .int .i64 N, .int .i64 cost] ∧ Below w.heap.size w wr) (fun _ i _ => N - (intOf i).toNat)
    case atStart => exact ⟨0, by omega, rfl, by simp, Blk.fresh _ _ _, HB2.out.alloc HB2.out.size _⟩
    case round =>
      obtain ⟨q, hq, rfl, rfl, hB7, hbr⟩ := hrel
      have HR := Lib.hid hbr
      have H7 := Lib.hid hB7
      have hzr : w2.heap.size < wr.heap.size := hB7.lt
      obtain ⟨x7, y7, z7⟩ := hB7
      clear hbr
      obtain ⟨m0, m1, m2⟩ := HM.out q hq
      by_cases hlt : q < N
      · obtain ⟨m3, m4⟩ := m2 (by omega)
        have hq1 : (q : Int) < (N : Int) := by omega
        have HM3 : Hid (at' + (q : Int) * (d + p) + d + p = at' + ((q + 1 : Nat) : Int) * (d + p)) := Lib.hid (by omega)
        have HEL := Lib.hid (fun w => RElement_any 2 sg at' d p 7 N cost q w (by omega) (by omega) (by omega) (by omega) (by omega) (by omega) (by omega) (by omega))
        have ht : 0 ≤ at' + (q : Int) * (d + p) ∧ at' + (q : Int) * (d + p) ≤ 281474976710656 := by omega
        have HI1 : Hid (inB ls sg (at' + (q : Int) * (d + p)) (d + p) = true) := Lib.hid (inB_iff.2 (by have := HLEN.out; omega))
        clear m2 m3 m4 m0 m1
        generalize hgt : at' + (q : Int) * (d + p) = t at *
        have HGT := Lib.hid hgt
        clear hgt
        have HPT := Lib.hid (ptrO_e sg t d p 0 0 0 (by omega))
        go_wp2_with fail
        refine (HEL.out _).mono ?_
        rintro e w3 ⟨rfl, hb3⟩
        have HB3 : Hid (Below w.heap.size w w3) := Lib.hid (bel_on HR.out hb3)
        have B7 := H7.out.below hb3
        have HS3 := Lib.hid (HA.out.below HB3.out (Nat.le_refl _))
        clear hb3 x7 y7 z7 H7 HEL
        have H7 := Lib.hid B7
        obtain ⟨x7, y7, z7⟩ := B7
        go_wp2_with fail
        refine (RefInB_is _ _ _ _ _ _ true _ (HS3.out.alloc _) hm HI1.out).mono ?_
        rintro e w' ⟨rfl, rfl⟩
        go_wp2_with fail
        refine (RPointers_is 1 sg t d p 0 0 0 _ _ _ ht.1 ht.2 (by omega) (by omega) HPT.out).mono ?_
        rintro e w4 ⟨rfl, hb4⟩
        have HB4 : Hid (Below w.heap.size w w4) := Lib.hid (bel_on (HB3.out.alloc HB3.out.size _) hb4)
        have B7 := (H7.out.alloc _).below hb4
        have B11 := (Blk.fresh w3 _ _).below hb4
        clear hb4 x7 y7 z7 H7 HS3 HB3
        have H7 := Lib.hid B7
        obtain ⟨x7, y7, z7⟩ := B7
        obtain ⟨x11, y11, z11⟩ := B11
        by_cases hpp : 0 < p
        · rw [if_pos hpp]
          go_wp2
          go_roundw
          case rel => exact ⟨q + 1, by omega, by go_num, by rw [HM3.out], H7.out, HB4.out⟩
          case measure => simp [intOf]; omega
        · rw [if_neg hpp]
          go_wp2
          go_roundw
          case rel => exact ⟨q + 1, by omega, by go_num, by rw [HM3.out], H7.out, HB4.out⟩
          case measure => simp [intOf]; omega
      · obtain rfl : q = N := by omega
        have hcq := HCST.out
        have hsub : at' + (q : Int) * (d + p) - at' = (q : Int) * (d + p) := by omega
        go_wp2
        go_ret
        exact ⟨rfl, HR.out⟩
end Go.Proofs.YtljkdhdkbolnjaaDoor
