/- The reference's Object, Node and Right of layer 13. -/
import Derived.Test.YtcmljjhnfpfcfaaDoorCan3
import Derived.Test.YtcmljjhnfpfcfaaDoorRef10c
import Derived.Test.YtcmljjhnfpfcfaaDoorRef11c
import Derived.Test.YtcmljjhnfpfcfaaDoorBlk
namespace Go.Proofs.YtcmljjhnfpfcfaaDoor
open Go.ChangeShapes Go.WideShapes Go.ChangeAt Go.RowKit
set_option linter.unusedVariables false
set_option linter.unusedSimpArgs false
set_option maxRecDepth 100000

set_option maxRecDepth 100000 in
theorem RefObject13 (x : Nd) (A : Option Addr) (c : Nat) (B : Option Addr) (c2 : Nat) (w : World) (hx : NdR w A c B c2 x) (hs : sizeN x ≤ 1099511627776) (hv : validN x = true) :
    Calls Tryd.prog 11 #[.agg #[.int .i64 x.k, .int .i64 x.e, .int .i64 x.n, .slice A x.d.length c, .slice B x.ks.length c2]] w fun r w' => r = .returned (.int .i64 (canO x)) ∧ Below w.heap.size w w' := by
  obtain ⟨k, e, n, d, ks⟩ := x
  have HR : Hid (canO (.mk k e n d ks) = canOf k e n d ks) := Lib.hid rfl
  have hsz : sizeN (.mk k e n d ks) = 1 + d.length + sizeK ks := by simp [sizeN]
  have hkl := sizeK_length ks
  have HX := Lib.hid hx
  have HS := Lib.hid hs
  have hh := valid_head hv
  simp only [Nd.k, Nd.e, Nd.n, Nd.d, Nd.ks]
  by_cases h0 : k = 0
  · have HC : Hid (canOf k e n d ks = 0) := Lib.hid (by unfold canOf; rw [if_pos h0])
    have t0 : (k == 0) = true := by simpa using h0
    clear h0 hh hx
    go_enter Tryd.func11, Tryd.ntmps11
    go_wp2
    go_ret
    exact ⟨by rw [HR.out, HC.out]; rfl, (Below.refl _ _).alloc (Nat.le_refl _) _⟩
  have t0 : (k == 0) = false := by simpa using h0
  by_cases h1 : k = 1
  · have HC : Hid (canOf k e n d ks = ((d.length / 8 + ks.length : Nat) : Int)) := Lib.hid (by unfold canOf; rw [if_neg h0, if_pos h1])
    have t1 : (k == 1) = true := by simpa using h1
    have hq : ((d.length : Int)).tdiv 8 = ((d.length / 8 : Nat) : Int) := by rw [Int.tdiv_eq_ediv_of_nonneg (by omega)]; omega
    clear h0 h1 hh hx
    go_enter Tryd.func11, Tryd.ntmps11
    go_wp2
    go_ret
    exact ⟨by rw [HR.out, HC.out]; simp; try omega, (Below.refl _ _).alloc (Nat.le_refl _) _⟩
  have t1 : (k == 1) = false := by simpa using h1
  have hk2 : k = 2 := by rcases hh with h | h | h <;> omega
  obtain ⟨-, hn0, hn1, he0, he7, -, -⟩ : k = 2 ∧ 0 ≤ n ∧ n ≤ 536870911 ∧ 0 ≤ e ∧ e ≤ 7 ∧ True ∧ True := by
    rcases hh with h | h | h
    · omega
    · omega
    · exact ⟨h.1, h.2.1, h.2.2.1, h.2.2.2.1, h.2.2.2.2.1, trivial, trivial⟩
  by_cases h7 : e = 7
  · obtain ⟨u, hu⟩ : ∃ u, uniD ks ks.length = u := ⟨_, rfl⟩
    obtain ⟨v, hv2⟩ : ∃ v, uniP ks ks.length = v := ⟨_, rfl⟩
    have HC : Hid (canOf k e n d ks = 1 + n * ((u : Int) + v)) := Lib.hid (by unfold canOf; rw [if_neg h0, if_neg h1, if_pos h7, hu, hv2]; simp)
    have hub := (by subst hk2 h7; exact uni_bd hv : uniD ks ks.length ≤ 65535 ∧ uniP ks ks.length ≤ 65535)
    rw [hu, hv2] at hub
    have m0 : 0 ≤ n * ((u : Int) + v) := Int.mul_nonneg hn0 (by omega)
    have m1 : n * ((u : Int) + v) ≤ 536870911 * 131070 := Int.mul_le_mul (by omega) (by omega) (by omega) (by omega)
    have HU := Lib.hid (fun w2 (h2 : NdR w2 A c B c2 (.mk k e n d ks)) => RefUniform11_any (.mk k e n d ks) A c B c2 w2 h2 HS.out)
    simp only [Nd.k, Nd.e, Nd.n, Nd.d, Nd.ks] at HU
    rw [hu, hv2] at HU
    have t7 : (e == 7) = true := by simpa using h7
    clear h0 h1 h7 hk2 hh hx hu hv2 hv hs
    go_enter Tryd.func11, Tryd.ntmps11
    go_wp2_with fail
    refine (HU.out _ (HX.out.on ((Below.refl _ _).alloc (Nat.le_refl _) _) (Nat.le_refl _))).mono ?_
    rintro r w1 ⟨rfl, hb1⟩
    have B1 := (Blk.fresh w #[.int .i64 k, .int .i64 e, .int .i64 n, .slice A d.length c, .slice B ks.length c2] 25).below hb1
    have HB : Hid (Below w.heap.size w w1) := Lib.hid (((Below.refl _ _).alloc (Nat.le_refl _) _).trans (hb1.mono (by simp)))
    clear hb1 HU
    obtain ⟨x1, y1, z1⟩ := B1
    go_wp2
    go_ret
    exact ⟨by rw [HR.out, HC.out]; rfl, HB.out⟩
  · have t7 : (e == 7) = false := by simpa using h7
    have HC : Hid (canOf k e n d ks = wordsI e n) := Lib.hid (by unfold canOf; rw [if_neg h0, if_neg h1, if_neg h7])
    clear h0 h1 h7 hk2 hh hx hv
    go_enter Tryd.func11, Tryd.ntmps11
    go_wp2_with fail
    refine (RefWords6_any e n _ hn0 hn1).mono ?_
    rintro r w1 ⟨rfl, rfl⟩
    go_wp2
    go_ret
    exact ⟨by rw [HR.out, HC.out]; rfl, (Below.refl _ _).alloc (Nat.le_refl _) _⟩

set_option maxRecDepth 100000 in
theorem RefNode13 : ∀ (x : Nd) (A : Option Addr) (c : Nat) (B : Option Addr) (c2 : Nat) (w : World), NdR w A c B c2 x → sizeN x ≤ 1099511627776 → validN x = true →
    Calls Tryd.prog 13 #[.agg #[.int .i64 x.k, .int .i64 x.e, .int .i64 x.n, .slice A x.d.length c, .slice B x.ks.length c2]] w fun r w' => r = .returned (.int .i64 (canN x)) ∧ Below w.heap.size w w' := by
  refine size_ind ?_
  intro x ih A c B c2 w hx hs hv
  have HX := Lib.hid hx
  have HI := Lib.hid ih
  have HE := Lib.hid (canN_eq x)
  have HVT := Lib.hid (valid_targ hv)
  have HO := Lib.hid (fun w2 (h2 : NdR w2 A c B c2 x) => RefObject13 x A c B c2 w2 h2 hs hv)
  have hsz := sizeK_targ x
  have hlz := sizeK_length (targN x)
  have hcs := (can_size x hv)
  have hco := (canO_size hv).1
  have HT : Hid (canK ((targN x).take (targN x).length) = canK (targN x)) := Lib.hid (by rw [List.take_length])
  have HTL : Hid (∀ j, 0 ≤ canK ((targN x).take j) ∧ canK ((targN x).take j) ≤ canK (targN x)) := Lib.hid (by
    intro j
    have h1 : canK (targN x) = canK ((targN x).take j) + canK ((targN x).drop j) := by rw [← canK_append, List.take_append_drop]
    have h2 : ∀ l : List Nd, (∀ y ∈ l, validN y = true) → 0 ≤ canK l := by
      intro l hl
      induction l with
      | nil => simp [canK]
      | cons y ys ih2 =>
        have h3 := (can_size y (hl y (List.mem_cons_self ..))).1
        have h4 := ih2 (fun z hz => hl z (List.mem_cons_of_mem _ hz))
        simp only [canK]
        omega
    have h5 := h2 _ (fun y hy => HVT.out y (List.mem_of_mem_take hy : y ∈ targN x) : ∀ y ∈ (targN x).take j, validN y = true)
    have h6 := h2 _ (fun y hy => HVT.out y (List.mem_of_mem_drop hy : y ∈ targN x) : ∀ y ∈ (targN x).drop j, validN y = true)
    omega)
  rw [HE.out] at hcs
  clear hx ih hv
  generalize canO x = o at *
  go_enter Tryd.func13, Tryd.ntmps13
  go_wp2_with fail
  refine (HO.out _ (HX.out.on ((Below.refl _ _).alloc (Nat.le_refl _) _) (Nat.le_refl _))).mono ?_
  rintro r w0 ⟨rfl, hb0⟩
  have B0 := (Blk.fresh w #[.int .i64 x.k, .int .i64 x.e, .int .i64 x.n, .slice A x.d.length c, .slice B x.ks.length c2] 25).below hb0
  have HB0 : Hid (Below w.heap.size w w0) := Lib.hid (((Below.refl _ _).alloc (Nat.le_refl _) _).trans (hb0.mono (by simp)))
  clear hb0 HO
  obtain ⟨x0, y0, z0⟩ := B0
  go_wp2_with fail
  refine (RefTargets_node x A c B c2 _ (HX.out.on HB0.out (Nat.le_refl _)) hs).mono ?_
  rintro r w1 ⟨B1, c1, rfl, hks, hl1, hc1, hb1⟩
  have HB1 : Hid (Below w.heap.size w w1) := Lib.hid (bel_on HB0.out hb1)
  have HK := Lib.hid hks
  have HM : Hid (∀ t ∈ targN x, sizeN t < sizeN x ∧ sizeN t ≤ sizeK (targN x)) := Lib.hid (fun t ht => ⟨targ_lt ht, sizeN_kid ht⟩)
  clear hb1 hks x0 y0 z0 HB0
  generalize hts : targN x = ts at *
  clear hts
  go_wp2
  go_loopw [3, 5] (fun s i wr => ∃ j : Nat, j ≤ ts.length ∧ i = .int .i64 j ∧ s = .int .i64 (o + canK (ts.take j)) ∧ Below w1.heap.size w1 wr) (fun _ i _ => ts.length - (intOf i).toNat)
  case atStart => exact ⟨0, by omega, rfl, by simp [canK], Below.refl _ _⟩
  case round =>
    obtain ⟨j, hj, rfl, rfl, hbr⟩ := hrel
    have hle := HTL.out j
    by_cases hlt : j < ts.length
    · obtain ⟨b, off, A', c', B', c2', rfl, k0, k1, k2, k3, k4, hsub⟩ := (HK.out.on hbr (Nat.le_refl _)).at hlt
      have HBR := Lib.hid hbr
      obtain ⟨hz1, hz2⟩ := HM.out ts[j] (List.getElem_mem hlt)
      have hvj := HVT.out ts[j] (List.getElem_mem hlt)
      have HST := Lib.hid (canK_take ts j hlt)
      have hle2 := HTL.out (j + 1)
      have HC := Lib.hid (HI.out ts[j] hz1 A' c' B' c2' wr hsub (by omega) hvj)
      have hnz := can_size ts[j] hvj
      have hsum : o + canK (ts.take j) + canN ts[j] = o + canK (ts.take (j + 1)) := by rw [HST.out]; omega
      have HSUM := Lib.hid hsum
      have hrange : -9223372036854775808 ≤ o + canK (ts.take j) + canN ts[j] ∧ o + canK (ts.take j) + canN ts[j] ≤ 9223372036854775807 := by omega
      clear hsub hbr hsum hvj
      go_wp2_with fail
      refine HC.out.mono ?_
      rintro r w' ⟨rfl, hb2⟩
      have HB2 := Lib.hid (bel_on HBR.out hb2)
      clear hb2 k0 k1 k2 k3 k4
      go_wp2
      go_roundw
      case rel => exact ⟨j + 1, by omega, by go_num, by rw [HSUM.out], HB2.out⟩
      case measure => simp [intOf]; omega
    · obtain rfl : j = ts.length := by omega
      go_wp2
      go_ret
      exact ⟨by rw [HE.out, ← HT.out]; rfl, HB1.out.trans (hbr.mono HB1.out.size)⟩

/-- in the domain and small -/
noncomputable def rightN (x : Nd) : Bool := fewN x && (validN x && trimmedN x)
set_option maxRecDepth 100000 in
theorem RefRight13 (x : Nd) (A : Option Addr) (c : Nat) (B : Option Addr) (c2 : Nat) (w : World) (hx : NdR w A c B c2 x) (hs : sizeN x ≤ 1099511627776) :
    Calls Tryd.prog 9 #[.agg #[.int .i64 x.k, .int .i64 x.e, .int .i64 x.n, .slice A x.d.length c, .slice B x.ks.length c2]] w fun r w' => r = .returned (.bool (rightN x)) ∧ Below w.heap.size w w' := by
  have HX := Lib.hid hx
  have HF := Lib.hid (fun w2 (h2 : NdR w2 A c B c2 x) => RefFew_node x A c B c2 w2 h2 hs)
  have HV := Lib.hid (fun w2 (h2 : NdR w2 A c B c2 x) => RefValid_node x A c B c2 w2 h2 hs)
  have HM := Lib.hid (fun w2 (h2 : NdR w2 A c B c2 x) => RefTrimmed11_node x A c B c2 w2 h2 hs)
  have HR : Hid (rightN x = (fewN x && (validN x && trimmedN x))) := Lib.hid rfl
  generalize rightN x = v at *
  generalize fewN x = f at *
  generalize validN x = g at *
  generalize trimmedN x = t at *
  clear hx
  go_enter Tryd.func9, Tryd.ntmps9
  go_wp2_with fail
  refine (HF.out _ (HX.out.on ((Below.refl _ _).alloc (Nat.le_refl _) _) (Nat.le_refl _))).mono ?_
  rintro r w1 ⟨rfl, hb⟩
  have Bw1 := (Blk.fresh w #[.int .i64 x.k, .int .i64 x.e, .int .i64 x.n, .slice A x.d.length c, .slice B x.ks.length c2] 25).below hb
  have HBw1 : Hid (Below w.heap.size w w1) := Lib.hid (((Below.refl _ _).alloc (Nat.le_refl _) _).trans (hb.mono (by simp)))
  clear hb
  have Hw1 := Lib.hid Bw1
  obtain ⟨xw1, yw1, zw1⟩ := Bw1
  cases f with
  | false =>
    go_wp2
    go_ret
    exact ⟨by rw [HR.out]; rfl, HBw1.out⟩
  | true =>
  go_wp2_with fail
  clear xw1 yw1 zw1
  refine (HV.out _ (HX.out.on HBw1.out (Nat.le_refl _))).mono ?_
  rintro r w2 ⟨rfl, hb⟩
  have Bw2 := Hw1.out.below hb
  have HBw2 : Hid (Below w.heap.size w w2) := Lib.hid (bel_on HBw1.out hb)
  clear hb
  have Hw2 := Lib.hid Bw2
  obtain ⟨xw2, yw2, zw2⟩ := Bw2
  cases g with
  | false =>
    go_wp2
    go_ret
    exact ⟨by rw [HR.out]; rfl, HBw2.out⟩
  | true =>
  go_wp2_with fail
  clear xw2 yw2 zw2
  refine (HM.out _ (HX.out.on HBw2.out (Nat.le_refl _))).mono ?_
  rintro r w3 ⟨rfl, hb⟩
  have HB3 := Lib.hid (bel_on HBw2.out hb)
  clear hb
  cases t <;>
  ( go_wp2
    go_ret
    exact ⟨by rw [HR.out]; rfl, HB3.out⟩)
end Go.Proofs.YtcmljjhnfpfcfaaDoor
