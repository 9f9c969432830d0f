/- A law of layer 10: NodeValidity. -/
import Derived.Test.YtedofcagfopoeaaDoorAwake10
namespace Go.Proofs.YtedofcagfopoeaaDoor
open Go.ChangeShapes Go.WideShapes Go.ChangeAt Go.RowKit
set_option linter.unusedVariables false
set_option linter.unusedSimpArgs false

theorem validK_at {k e : Int} {ks : List Nd} (h : validK k e ks = true) {j : Nat} (hj : j < ks.length) : validN ks[j] = true := by
  rcases Bool.eq_false_or_eq_true (validN ks[j]) with h1 | h1
  · exact h1
  · have := validK_no k e ks j hj (by rw [h1]; rfl)
    rw [h] at this
    cases this
theorem valid_kids {k e n : Int} {d : List Int} {ks : List Nd} (h : validN (.mk k e n d ks) = true) : validK k e ks = true := by
  simp only [validN, Bool.and_eq_true] at h
  exact h.1
/-- the number of elements of a well-formed list follows from the rest of it -/
theorem valid_count {e n m : Int} {d : List Int} {ks : List Nd} (he : 2 ≤ e) (h : validN (.mk 2 e n d ks) = true) : validN (.mk 2 e m d ks) = (m == n) := by
  by_cases hmn : m = n
  · subst hmn; rw [h]; simp
  · have hb : (m == n) = false := by simpa using hmn
    rw [hb]
    simp only [validN, Bool.and_eq_true] at h
    obtain ⟨h1, h2⟩ := h
    unfold headB at h2
    rw [if_neg (by decide), if_neg (by decide), if_pos rfl, decide_eq_true_iff] at h2
    obtain ⟨n0, n1, e0, e1, h6, h5⟩ := h2
    simp only [validN, h1, Bool.true_and]
    unfold headB
    rw [if_neg (by decide), if_neg (by decide), if_pos rfl, decide_eq_false_iff_not]
    rintro ⟨m0, m1, _, _, g6, g5⟩
    by_cases h : 6 ≤ e
    · have a := (h6 h).2
      have b := (g6 h).2
      omega
    · have a := (h5 (by omega)).2.1
      have b := (g5 (by omega)).2.1
      have hc : e = 2 ∨ e = 3 ∨ e = 4 ∨ e = 5 := by omega
      unfold bytesI bitsI at a b
      rcases hc with rfl | rfl | rfl | rfl <;> simp at a b <;> omega

theorem NdR.setN {w : World} {A : Option Addr} {c : Nat} {B : Option Addr} {c2 : Nat} {k e n m : Int} {d : List Int} {ks : List Nd} (h : NdR w A c B c2 (.mk k e n d ks)) (h0 : -9223372036854775808 ≤ m) (h1 : m ≤ 9223372036854775807) : NdR w A c B c2 (.mk k e m d ks) := by
  cases h with
  | mk _ _ _ _ _ _ _ _ _ FA Fc FB Fc2 hk he hn hd hby hdl hc hA hkl hc2 hB hcell hsub =>
    exact .mk k e m d ks A c B c2 FA Fc FB Fc2 hk he ⟨h0, h1⟩ hd hby hdl hc hA hkl hc2 hB hcell hsub
theorem abs_code {P : Program} {C : Code} {Q : Exit → Act → World → Prop} {a : Act} {V : World} (F : World → Prop) (hF : F V) (h : ∀ W, F W → C.wp P Q a W) : C.wp P Q a V := h V hF
attribute [local simp] AllK KnowsV look Is
attribute [local irreducible] validN fewN

set_option maxHeartbeats 2000000 in
set_option maxRecDepth 100000 in
theorem Valid10_walk (x : Nd) (A : Option Addr) (c : Nat) (B : Option Addr) (c2 : Nat) (m : Int) (w : World) (hT : TabOK w) (hx : NdR w A c B c2 x) (hs : sizeN x ≤ 1048576) (n0 : -9223372036854775808 ≤ m) (n1 : m ≤ 9223372036854775807) :
    Calls Tryd.prog 6 #[.agg #[.int .i64 x.k, .int .i64 x.e, .int .i64 x.n, .slice A x.d.length c, .slice B x.ks.length c2], .int .i64 m] w fun r w' => r = .returned (.bool true) ∧ Below w.heap.size w w' := by
  have HX := Lib.hid hx
  have HT := Lib.hid hT
  have HSZ : Hid (sizeN x ≤ 1099511627776) := Lib.hid (by omega)
  clear hx hT
  go_enter Tryd.func6, Tryd.ntmps6
  go_wp2_with fail
  refine (awake10_any _ (HT.out.alloc _)).mono ?_
  rintro r w1 ⟨rfl, hb1⟩
  have B2 := (Blk.fresh w _ _).below hb1
  have HB1 : Hid (Below w.heap.size w w1) := Lib.hid (((Below.refl w.heap.size w).alloc (Nat.le_refl _) _).trans (hb1.mono (by simp)))
  clear hb1
  have H2 := Lib.hid B2
  obtain ⟨x2, y2, z2⟩ := B2
  go_wp2_with fail
  refine (RefFew_node x A c B c2 _ (HX.out.on HB1.out (Nat.le_refl _)) HSZ.out).mono ?_
  rintro r w2 ⟨rfl, hb2⟩
  have B2 := H2.out.below hb2
  have HB2 : Hid (Below w.heap.size w w2) := Lib.hid (bel_on HB1.out hb2)
  clear hb2 HB1 H2 x2 y2 z2
  have H2 := Lib.hid B2
  obtain ⟨x2, y2, z2⟩ := B2
  cases hf : fewN x with
  | false =>
    clear hf
    go_wp2_with fail
    refine (awake10_any _ (HT.out.on HB2.out)).mono ?_
    rintro r w3 ⟨rfl, hb3⟩
    have HB3 : Hid (Below w.heap.size w w3) := Lib.hid (bel_on HB2.out hb3)
    clear hb3
    go_wp2
    go_ret
    exact ⟨rfl, HB3.out⟩
  | true =>
    clear hf
    go_wp2_with fail
    refine (RefValid_node x A c B c2 _ (HX.out.on HB2.out (Nat.le_refl _)) HSZ.out).mono ?_
    rintro r w3 ⟨rfl, hb3⟩
    have B2 := H2.out.below hb3
    have HB3 : Hid (Below w.heap.size w w3) := Lib.hid (bel_on HB2.out hb3)
    clear hb3 HB2 H2 x2 y2 z2
    have H2 := Lib.hid B2
    obtain ⟨x2, y2, z2⟩ := B2
    cases hv : validN x with
    | false =>
      clear hv
      go_wp2_with fail
      refine (awake10_any _ (HT.out.on HB3.out)).mono ?_
      rintro r w4 ⟨rfl, hb4⟩
      have HB4 : Hid (Below w.heap.size w w4) := Lib.hid (bel_on HB3.out hb4)
      clear hb4
      go_wp2
      go_ret
      exact ⟨rfl, HB4.out⟩
    | true =>
      obtain ⟨k, e, n, d, ks⟩ := x
      simp only [Nd.k, Nd.e, Nd.n, Nd.d, Nd.ks] at *
      have HV := Lib.hid hv
      have HVK := Lib.hid (valid_kids hv)
      have hso : sizeN (.mk k e n d ks) = 1 + d.length + sizeK ks := by simp only [sizeN]
      have hkl := sizeK_length ks
      rw [hso] at hs
      clear hv hso
      go_wp2
      go_loopw [5] (fun i wr => ∃ j : Nat, j ≤ ks.length ∧ i = .int .i64 j ∧ Blk wr w.heap.size #[.int .i64 k, .int .i64 e, .int .i64 n, .slice A d.length c, .slice B ks.length c2] ∧ Below w.heap.size w wr) (fun i _ => ks.length - (intOf i).toNat)
      case atStart => exact ⟨0, by omega, rfl, H2.out, HB3.out⟩
      case round =>
        obtain ⟨j, hj, rfl, hB, hbr⟩ := hrel
        have HB := Lib.hid hB
        have HR := Lib.hid hbr
        clear hbr x2 y2 z2 H2
        obtain ⟨x2, y2, z2⟩ := hB
        by_cases hlt : j < ks.length
        · obtain ⟨b, off, A', c', B', c2', rfl, k0, k1, k2, k3, k4, hsub⟩ := HX.out.kids.atIn HR.out (Nat.le_refl _) hlt
          have hz := sizeN_kid (List.getElem_mem hlt)
          have HC := Lib.hid (NValid_any ks[j] A' c' B' c2' wr (HT.out.on HR.out) (hsub.on HR.out (Nat.le_refl _)) (by omega))
          have HVJ := Lib.hid (validK_at HVK.out hlt)
          clear hsub
          generalize ks[j] = kx at *
          go_wp2_with fail
          refine HC.out.mono ?_
          rintro r w5 ⟨rfl, hb5⟩
          rw [HVJ.out]
          have HB5 := Lib.hid (bel_on HR.out hb5)
          have B5 := Lib.hid (HB.out.below hb5)
          clear hb5 x2 y2 z2 k0 k1 k2 k3 k4
          go_wp2
          go_roundw
          case rel => exact ⟨j + 1, by omega, by go_num, B5.out, HB5.out⟩
          case measure => simp [intOf]; omega
        · obtain rfl : j = ks.length := by omega
          by_cases hke : k = 2 ∧ 2 ≤ e
          case neg =>
            have hor : (k != 2) = true ∨ ((k != 2) = false ∧ decide (e < 2) = true) := by
              by_cases h1 : k = 2
              · right; exact ⟨by simpa using h1, decide_eq_true (by omega)⟩
              · left; simpa using h1
            clear hke
            rcases hor with t1 | ⟨t1, t2⟩ <;>
            ( go_wp2_with fail
              refine (NValid_any (.mk k e n d ks) A c B c2 _ (HT.out.on HR.out) (HX.out.on HR.out (Nat.le_refl _)) HSZ.out).mono ?_
              rintro r w5 ⟨rfl, hb5⟩
              rw [HV.out]
              have HB5 := Lib.hid (bel_on HR.out hb5)
              clear hb5
              go_wp2
              go_ret
              exact ⟨rfl, HB5.out⟩)
          obtain ⟨rfl, he⟩ := hke
          have HXM := Lib.hid (HX.out.setN (m := m) n0 n1)
          have HNV := Lib.hid (fun w' (hb : Below w.heap.size w w') => NValid_any (.mk 2 e m d ks) A c B c2 w' (HT.out.on hb) (HXM.out.on hb (Nat.le_refl _)) (by simp only [sizeN]; omega))
          rw [valid_count he HV.out] at HNV
          simp only [Nd.k, Nd.e, Nd.n, Nd.d, Nd.ks] at HNV
          go_wp2_with fail
          refine abs_code (F := fun W => Blk W w.heap.size #[.int .i64 2, .int .i64 e, .int .i64 n, .slice A d.length c, .slice B ks.length c2] ∧ Blk W wr.heap.size #[.int .i64 2, .int .i64 e, .int .i64 m, .slice A d.length c, .slice B ks.length c2] ∧ Below w.heap.size w W) ⟨?_, ?_, ?_⟩ ?_
          · exact HB.out.alloc _
          · exact Blk.fresh _ _ _
          · exact HR.out.alloc HR.out.size _
          rintro W ⟨B2, B6, hbw⟩
          have HR : Hid (Below w.heap.size w W) := Lib.hid hbw
          clear hbw x2 y2 z2
          obtain ⟨x2, y2, z2⟩ := B2
          obtain ⟨x6, y6, z6⟩ := B6
          rename_i KK hKK
          refine wp_region_chain (by kernel_rfl) (by kernel_rfl) ?_
          refine chain_val (u := ?_) [6] rfl (by kernel_rfl) trivial (fun ρ wc hbc hcn hk => ?_) ?_; rotate_left
          · obtain ⟨hcn, -⟩ := hcn
            simp at hk
            obtain ⟨hcc, -⟩ := bcell hbc
            simp at hcc
            go_simp
            rfl
          refine chain_call (T := Is ?_) 10 [47] rfl (by kernel_rfl) trivial (stable_is _) (fun ρ wc hbc hcn hk => ?_) ?_; rotate_left
          · obtain ⟨hcn, hfn⟩ := hcn
            simp at hk
            refine ⟨_, by go_simp; rfl, ?_⟩
            refine (HNV.out _ (bel_on (bel_drew HR.out) hbc)).mono ?_
            rintro e w' ⟨rfl, hbq⟩
            refine ⟨_, rfl, ?_, hbq⟩
            unfold Is
            rfl
          refine chain_val (u := ?_) [1] rfl (by kernel_rfl) trivial (fun ρ wc hbc hcn hk => ?_) ?_; rotate_left
          · obtain ⟨hcn, -⟩ := hcn
            simp at hk
            go_simp
            rfl
          refine chain_val (u := ?_) [2] rfl (by kernel_rfl) trivial (fun ρ wc hbc hcn hk => ?_) ?_; rotate_left
          · obtain ⟨hcn, -⟩ := hcn
            simp at hk
            go_simp
            rfl
          refine chain_val (u := ?_) [50] rfl (by kernel_rfl) trivial (fun ρ wc hbc hcn hk => ?_) ?_; rotate_left
          · obtain ⟨hcn, -⟩ := hcn
            simp at hk
            obtain ⟨hcc, -⟩ := bcell hbc
            simp at hcc
            go_simp
            rfl
          refine chain_val (u := ?_) [49, 51] rfl (by kernel_rfl) trivial (fun ρ wc hbc hcn hk => ?_) ?_; rotate_left
          · obtain ⟨hcn, -⟩ := hcn
            simp at hk
            go_simp
            rfl
          refine chain_val (u := ?_) [48, 52] rfl (by kernel_rfl) trivial (fun ρ wc hbc hcn hk => ?_) ?_; rotate_left
          · obtain ⟨hcn, -⟩ := hcn
            simp at hk
            go_simp
            rfl
          refine chain_val (u := ?_) [53] rfl (by kernel_rfl) trivial (fun ρ wc hbc hcn hk => ?_) ?_; rotate_left
          · obtain ⟨hcn, -⟩ := hcn
            simp at hk
            go_simp
            rfl
          refine chain_end_lit 54 rfl (fun ff w7 hb7 hk => ?_)
          refine hKK _ _ ?_
          clear hKK KK
          simp [AllN] at hk
          simp only [frameL, hk]
          have HB7 : Hid (Below w.heap.size w w7) := Lib.hid (bel_on (bel_drew HR.out) hb7)
          clear hb7 hk
          go_wp2
          go_ret
          exact ⟨by simp, HB7.out⟩
end Go.Proofs.YtedofcagfopoeaaDoor
