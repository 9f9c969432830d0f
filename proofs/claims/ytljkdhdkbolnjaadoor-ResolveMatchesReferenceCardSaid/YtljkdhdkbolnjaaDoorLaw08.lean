/- A law of layer 8: MatchesReference. -/
import Derived.Test.YtljkdhdkbolnjaaDoorAwake08
import Derived.Test.YtljkdhdkbolnjaaDoorRegion
namespace Go.Proofs.YtljkdhdkbolnjaaDoor
open Go.ChangeShapes Go.WideShapes Go.ChangeAt Go.RowKit
set_option linter.unusedVariables false
set_option linter.unusedSimpArgs false
attribute [local irreducible] objF fewB ptrO
attribute [local simp] AllK KnowsV look Is

set_option maxHeartbeats 4000000 in
set_option maxRecDepth 100000 in
theorem MR8_walk (A : Option Addr) (c : Nat) (ls : List (List Int)) (s a i : Int) (w : World) (hT : TabOK w) (hA : Sg w A ls) (hw : Wd2 ls) (hnil : A = none → c = 0) (hlm : ls.length ≤ 9223372036854775807) (hlc : ls.length ≤ c) (hcm : c ≤ 9223372036854775807)
    (s0 : -9223372036854775808 ≤ s) (s1 : s ≤ 9223372036854775807) (a0 : -9223372036854775808 ≤ a) (a1 : a ≤ 9223372036854775807) (i0 : 0 ≤ i) (i1 : i < 65536) :
    Calls Tryd.prog 3 #[.slice A ls.length c, .int .i64 s, .int .i64 a, .int .u16 i] w fun e w' => e = .returned (.bool true) ∧ Below w.heap.size w w' := by
  have HT := Lib.hid hT
  clear hT
  go_enter Tryd.func3, Tryd.ntmps3
  go_wp2_with fail
  refine (awake8_any _ HT.out).mono ?_
  rintro e w1 ⟨rfl, hw1⟩
  have HS1 := Lib.hid (hA.below hw1 (Nat.le_refl _))
  go_wp2_with fail
  refine (Few_any A c ls _ HS1.out hlm).mono ?_
  rintro e w' ⟨rfl, rfl⟩
  cases hf : fewB ls with
  | false =>
    have HF := Lib.hid hf
    clear hf
    go_wp2_with fail
    refine (awake8_any _ (HT.out.on hw1)).mono ?_
    rintro e w2 ⟨rfl, hw2⟩
    go_wp2
    go_ret
    exact ⟨rfl, bel_on hw1 hw2⟩
  | true =>
    have hfit := few_fits hf
    have hm : ls.length ≤ 140737488355328 := by omega
    have HFT : Hid (∀ j, (seg ls j).length ≤ 140737488355328) := Lib.hid (fun j => by have := hfit.1 j; omega)
    obtain ⟨⟨⟨k, sg, at', d, p, el, n, cost⟩, e0⟩, hq⟩ : ∃ q, objF ls s a = q := ⟨_, rfl⟩
    have hbd := objF_bd hw hfit.2 hfit.1 _ _ _ _ _ _ _ _ _ _ _ hq
    obtain ⟨⟨x, y⟩, hp⟩ : ∃ q, ptrO ⟨k, sg, at', d, p, el, n, cost⟩ = q := ⟨_, rfl⟩
    have HQ := Lib.hid hq
    have HP := Lib.hid hp
    have HW := Lib.hid hw
    have HB1 := Lib.hid hw1
    clear hw1 hq hp hfit hf hw hA
    go_wp2_with fail
    refine (RObject_is A c ls s a k sg at' d p el n cost e0 _ (HT.out.on HB1.out) HS1.out HW.out hm HFT.out s0 s1 a0 a1 HQ.out).mono ?_
    rintro e w2 ⟨rfl, hb2⟩
    have HS2 := Lib.hid (HS1.out.below hb2 (Nat.le_refl _))
    have HB2 := Lib.hid (bel_on HB1.out hb2)
    clear hb2 HS1 HB1
    go_wp2_with fail
    refine (RefObject_is A c ls s a k sg at' d p el n cost e0 _ (HS2.out.alloc _) HW.out hm HFT.out HQ.out).mono ?_
    rintro e w3 ⟨rfl, hb3⟩
    have B9 := (Blk.fresh w2 _ _).below hb3
    have HB3 : Hid (Below w.heap.size w w3) := Lib.hid (bel_on (HB2.out.alloc HB2.out.size _) hb3)
    clear hb3 HB2 HS2
    have H9 := Lib.hid B9
    obtain ⟨x9, y9, z9⟩ := B9
    go_wp2_with fail
    clear H9 x9 y9 z9
    refine (RPointers_is k sg at' d p el n cost x y _ (by omega) (by omega) (by omega) (by omega) HP.out).mono ?_
    rintro e w4 ⟨rfl, hb4⟩
    have B11 := (Blk.fresh w3 _ _).below hb4
    have HB4 : Hid (Below w.heap.size w w4) := Lib.hid (bel_on (HB3.out.alloc HB3.out.size _) hb4)
    clear hb4 HB3
    have H11 := Lib.hid B11
    obtain ⟨x11, y11, z11⟩ := B11
    go_wp2_with fail
    refine (RefPointers_is k sg at' d p el n cost x y _ (by omega) (by omega) (by omega) (by omega) HP.out).mono ?_
    rintro e w5 ⟨rfl, hb5⟩
    have B11 := H11.out.below hb5
    have HB5 : Hid (Below w.heap.size w w5) := Lib.hid (bel_on HB4.out hb5)
    clear hb5 HB4 H11 x11 y11 z11
    have H11 := Lib.hid B11
    obtain ⟨x11, y11, z11⟩ := B11
    by_cases hk : k = 2
    · by_cases he : el = 7
      · by_cases hn : n = 0
        · subst hk he hn
          go_wp2
          go_ret
          exact ⟨rfl, HB5.out⟩
        · have t1 : (n == 0) = false := by simpa using hn
          subst hk he
          go_wp2_with fail
          have hj0 : 0 ≤ i % n := Int.emod_nonneg _ (by omega)
          have hj1 : i % n < n := Int.emod_lt_of_pos _ (by omega)
          generalize i % n = j at *
          have m0 : 0 ≤ j * (d + p) := Int.mul_nonneg hj0 (by omega)
          have m1 : j * (d + p) ≤ n * (d + p) := Int.mul_le_mul_of_nonneg_right (by omega) (by omega)
          have HEL := Lib.hid (fun w => RElement_any 2 sg at' d p 7 n cost j w hj0 (by omega) (by omega) (by omega) (by omega) (by omega) (by omega) (by omega))
          have HRL := Lib.hid (fun w => RefElement_is 2 sg at' d p 7 n cost j w hj0 (by omega) (by omega) (by omega) (by omega) (by omega) (by omega) (by omega))
          have ht : 0 ≤ at' + j * (d + p) ∧ at' + j * (d + p) ≤ 281474976710656 := by omega
          generalize at' + j * (d + p) = t at *
          clear m0 m1
          obtain ⟨⟨u, v⟩, hu⟩ : ∃ q, ptrO ⟨1, sg, t, d, p, 0, 0, 0⟩ = q := ⟨_, rfl⟩
          have HPE := Lib.hid (fun w => RPointers_is 1 sg t d p 0 0 0 u v w ht.1 ht.2 (by omega) (by omega) hu)
          have HRE := Lib.hid (fun w => RefPointers_is 1 sg t d p 0 0 0 u v w ht.1 ht.2 (by omega) (by omega) hu)
          clear hu
          refine (HEL.out _).mono ?_
          rintro e w6 ⟨rfl, hb6⟩
          have B11 := H11.out.below hb6
          have HB6 : Hid (Below w.heap.size w w6) := Lib.hid (bel_on HB5.out hb6)
          clear hb6 HB5 H11 x11 y11 z11 HEL
          have H11 := Lib.hid B11
          obtain ⟨x11, y11, z11⟩ := B11
          go_wp2_with fail
          refine (HPE.out _).mono ?_
          rintro e w7 ⟨rfl, hb7⟩
          have B11 := (H11.out.alloc _).below hb7
          have B18 := (Blk.fresh w6 _ _).below hb7
          have HB7 : Hid (Below w.heap.size w w7) := Lib.hid (bel_on (HB6.out.alloc HB6.out.size _) hb7)
          clear hb7 HB6 H11 x11 y11 z11 HPE
          have H11 := Lib.hid B11
          have H18 := Lib.hid B18
          obtain ⟨x11, y11, z11⟩ := B11
          go_wp2_with fail
          refine (HRL.out _).mono ?_
          rintro e w8 ⟨rfl, hb8⟩
          have B11 := H11.out.below hb8
          have B18 := H18.out.below hb8
          have HB8 : Hid (Below w.heap.size w w8) := Lib.hid (bel_on HB7.out hb8)
          clear hb8 HB7 H11 H18 x11 y11 z11
          have H11 := Lib.hid B11
          have H18 := Lib.hid B18
          clear B11 B18
          go_wp2_with fail
          refine (HRE.out _).mono ?_
          rintro e w9 ⟨rfl, hb9⟩
          have B11 := H11.out.below hb9
          have B18 := H18.out.below hb9
          have HB9 : Hid (Below w.heap.size w w9) := Lib.hid (bel_on HB8.out hb9)
          clear hb9 HB8 H11 H18 HRE
          obtain ⟨x11, y11, z11⟩ := B11
          obtain ⟨x18, y18, z18⟩ := B18
          go_wp2_with fail
          rename_i KK hKK
          refine wp_region_chain (by kernel_rfl) (by kernel_rfl) ?_
          refine chain_val (u := ?_) [18] rfl (by kernel_rfl) trivial (fun ρ wc hbc hcn hk => ?_) ?_; rotate_left
          · obtain ⟨hcn, -⟩ := hcn
            simp at hk
            obtain ⟨hcc, -⟩ := bcell hbc
            simp at hcc
            go_simp
            rfl
          refine chain_val (u := ?_) [11] rfl (by kernel_rfl) trivial (fun ρ wc hbc hcn hk => ?_) ?_; rotate_left
          · obtain ⟨hcn, -⟩ := hcn
            simp at hk
            obtain ⟨hcc, -⟩ := bcell hbc
            simp at hcc
            go_simp
            rfl
          refine chain_val (u := ?_) [17] rfl (by kernel_rfl) trivial (fun ρ wc hbc hcn hk => ?_) ?_; rotate_left
          · obtain ⟨hcn, -⟩ := hcn
            simp at hk
            go_simp
            rfl
          refine chain_call (T := Is ?_) 15 [105, 106] rfl (by kernel_rfl) trivial (stable_is _) (fun ρ wc hbc hcn hk => ?_) ?_; rotate_left
          · obtain ⟨hcn, hfn⟩ := hcn
            simp at hk
            refine ⟨_, by go_simp; rfl, ?_⟩
            refine (HRL.out _).mono ?_
            rintro e w' ⟨rfl, hbq⟩
            refine ⟨_, rfl, ?_, hbq⟩
            unfold Is
            rfl
          refine chain_val (u := ?_) [104, 107] rfl (by kernel_rfl) trivial (fun ρ wc hbc hcn hk => ?_) ?_; rotate_left
          · obtain ⟨hcn, -⟩ := hcn
            simp at hk
            go_simp
            rfl
          refine chain_val (u := ?_) [108] rfl (by kernel_rfl) trivial (fun ρ wc hbc hcn hk => ?_) ?_; rotate_left
          · obtain ⟨hcn, -⟩ := hcn
            simp at hk
            go_simp
            rfl
          refine chain_val (u := ?_) [19] rfl (by kernel_rfl) ⟨109, by decide +kernel, rfl, fun w x hx => by simpa using hx⟩ (fun ρ wc hbc hcn hk => ?_) ?_; rotate_left
          · obtain ⟨hcn, -⟩ := hcn
            simp at hk
            go_simp
            rfl
          refine chain_val (u := ?_) [21] rfl (by kernel_rfl) ⟨109, by decide +kernel, rfl, fun w x hx => by simpa using hx⟩ (fun ρ wc hbc hcn hk => ?_) ?_; rotate_left
          · obtain ⟨hcn, -⟩ := hcn
            simp at hk
            go_simp
            rfl
          refine chain_val (u := ?_) [110, 111] rfl (by kernel_rfl) ⟨109, by decide +kernel, rfl, fun w x hx => by simpa using hx⟩ (fun ρ wc hbc hcn hk => ?_) ?_; rotate_left
          · obtain ⟨hcn, -⟩ := hcn
            simp at hk
            go_simp
            rfl
          refine chain_val (u := ?_) [109, 112] rfl (by kernel_rfl) trivial (fun ρ wc hbc hcn hk => ?_) ?_; rotate_left
          · obtain ⟨hcn, -⟩ := hcn
            simp at hk
            go_simp
            rfl
          refine chain_val (u := ?_) [113] rfl (by kernel_rfl) trivial (fun ρ wc hbc hcn hk => ?_) ?_; rotate_left
          · obtain ⟨hcn, -⟩ := hcn
            simp at hk
            go_simp
            rfl
          refine chain_val (u := ?_) [20] rfl (by kernel_rfl) ⟨114, by decide +kernel, rfl, fun w x hx => by simpa using hx⟩ (fun ρ wc hbc hcn hk => ?_) ?_; rotate_left
          · obtain ⟨hcn, -⟩ := hcn
            simp at hk
            go_simp
            rfl
          refine chain_val (u := ?_) [22] rfl (by kernel_rfl) ⟨114, by decide +kernel, rfl, fun w x hx => by simpa using hx⟩ (fun ρ wc hbc hcn hk => ?_) ?_; rotate_left
          · obtain ⟨hcn, -⟩ := hcn
            simp at hk
            go_simp
            rfl
          refine chain_val (u := ?_) [115, 116] rfl (by kernel_rfl) ⟨114, by decide +kernel, rfl, fun w x hx => by simpa using hx⟩ (fun ρ wc hbc hcn hk => ?_) ?_; rotate_left
          · obtain ⟨hcn, -⟩ := hcn
            simp at hk
            go_simp
            rfl
          refine chain_val (u := ?_) [114, 117] rfl (by kernel_rfl) trivial (fun ρ wc hbc hcn hk => ?_) ?_; rotate_left
          · obtain ⟨hcn, -⟩ := hcn
            simp at hk
            go_simp
            rfl
          refine chain_val (u := ?_) [118] rfl (by kernel_rfl) trivial (fun ρ wc hbc hcn hk => ?_) ?_; rotate_left
          · obtain ⟨hcn, -⟩ := hcn
            simp at hk
            go_simp
            rfl
          refine chain_end_lit 119 rfl (fun ff w7 hb7 hk => ?_)
          refine hKK _ _ ?_
          clear hKK KK
          simp [AllN] at hk
          simp only [frameL, hk]
          have HB7 : Hid (Below w.heap.size w w7) := Lib.hid (bel_on (bel_drew HB9.out) hb7)
          clear hb7 hk
          go_wp2
          go_ret
          exact ⟨rfl, HB7.out⟩
      · have t1 : (el != 7) = true := by simpa using he
        subst hk
        clear he
        go_wp2
        go_ret
        exact ⟨rfl, HB5.out⟩
    · have t1 : (k != 2) = true := by simpa using hk
      clear hk
      go_wp2
      go_ret
      exact ⟨rfl, HB5.out⟩
end Go.Proofs.YtljkdhdkbolnjaaDoor
