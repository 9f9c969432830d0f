/- The texts Ref13, TrimA, NodeF (what is wanted of them), one after the other. -/
import Derived.Test.YtcmljjhnfpfcfaaDoorMg1
import Derived.Test.YtcmljjhnfpfcfaaDoorMg2
import Derived.Test.YtcmljjhnfpfcfaaDoorMg3
import Derived.Test.YtcmljjhnfpfcfaaDoorMg4
import Derived.Test.YtcmljjhnfpfcfaaDoorMg5
import Derived.Test.YtcmljjhnfpfcfaaDoorMg6
import Derived.Test.YtcmljjhnfpfcfaaDoorMg7
import Derived.Test.YtcmljjhnfpfcfaaDoorMg8
import Derived.Test.YtcmljjhnfpfcfaaDoorMg9
import Derived.Test.YtcmljjhnfpfcfaaDoorMg10
import Derived.Test.YtcmljjhnfpfcfaaDoorMg11
import Derived.Test.YtcmljjhnfpfcfaaDoorMg12
import Derived.Lib.SliceRun
/- The reference's Object, Node and Right of layer 13. -/
namespace Go.Proofs.YtcmljjhnfpfcfaaDoor
open Go.ChangeShapes Go.WideShapes Go.ChangeAt Go.RowKit
set_option linter.unusedVariables false
set_option linter.unusedSimpArgs false
set_option maxRecDepth 100000

set_option maxRecDepth 100000 in
theorem RefObject13 (x : Nd) (A : Option Addr) (c : Nat) (B : Option Addr) (c2 : Nat) (w : World) (hx : NdR w A c B c2 x) (hs : sizeN x ≤ 1099511627776) (hv : validN x = true) :
    Calls Tryd.prog 11 #[.agg #[.int .i64 x.k, .int .i64 x.e, .int .i64 x.n, .slice A x.d.length c, .slice B x.ks.length c2]] w fun r w' => r = .returned (.int .i64 (canO x)) ∧ Below w.heap.size w w' := by
  obtain ⟨k, e, n, d, ks⟩ := x
  have HR : Hid (canO (.mk k e n d ks) = canOf k e n d ks) := Lib.hid rfl
  have hsz : sizeN (.mk k e n d ks) = 1 + d.length + sizeK ks := by simp [sizeN]
  have hkl := sizeK_length ks
  have HX := Lib.hid hx
  have HS := Lib.hid hs
  have hh := valid_head hv
  simp only [Nd.k, Nd.e, Nd.n, Nd.d, Nd.ks]
  by_cases h0 : k = 0
  · have HC : Hid (canOf k e n d ks = 0) := Lib.hid (by unfold canOf; rw [if_pos h0])
    have t0 : (k == 0) = true := by simpa using h0
    clear h0 hh hx
    go_enter Tryd.func11, Tryd.ntmps11
    go_wp2
    go_ret
    exact ⟨by rw [HR.out, HC.out]; rfl, (Below.refl _ _).alloc (Nat.le_refl _) _⟩
  have t0 : (k == 0) = false := by simpa using h0
  by_cases h1 : k = 1
  · have HC : Hid (canOf k e n d ks = ((d.length / 8 + ks.length : Nat) : Int)) := Lib.hid (by unfold canOf; rw [if_neg h0, if_pos h1])
    have t1 : (k == 1) = true := by simpa using h1
    have hq : ((d.length : Int)).tdiv 8 = ((d.length / 8 : Nat) : Int) := by rw [Int.tdiv_eq_ediv_of_nonneg (by omega)]; omega
    clear h0 h1 hh hx
    go_enter Tryd.func11, Tryd.ntmps11
    go_wp2
    go_ret
    exact ⟨by rw [HR.out, HC.out]; simp; try omega, (Below.refl _ _).alloc (Nat.le_refl _) _⟩
  have t1 : (k == 1) = false := by simpa using h1
  have hk2 : k = 2 := by rcases hh with h | h | h <;> omega
  obtain ⟨-, hn0, hn1, he0, he7, -, -⟩ : k = 2 ∧ 0 ≤ n ∧ n ≤ 536870911 ∧ 0 ≤ e ∧ e ≤ 7 ∧ True ∧ True := by
    rcases hh with h | h | h
    · omega
    · omega
    · exact ⟨h.1, h.2.1, h.2.2.1, h.2.2.2.1, h.2.2.2.2.1, trivial, trivial⟩
  by_cases h7 : e = 7
  · obtain ⟨u, hu⟩ : ∃ u, uniD ks ks.length = u := ⟨_, rfl⟩
    obtain ⟨v, hv2⟩ : ∃ v, uniP ks ks.length = v := ⟨_, rfl⟩
    have HC : Hid (canOf k e n d ks = 1 + n * ((u : Int) + v)) := Lib.hid (by unfold canOf; rw [if_neg h0, if_neg h1, if_pos h7, hu, hv2]; simp)
    have hub := (by subst hk2 h7; exact uni_bd hv : uniD ks ks.length ≤ 65535 ∧ uniP ks ks.length ≤ 65535)
    rw [hu, hv2] at hub
    have m0 : 0 ≤ n * ((u : Int) + v) := Int.mul_nonneg hn0 (by omega)
    have m1 : n * ((u : Int) + v) ≤ 536870911 * 131070 := Int.mul_le_mul (by omega) (by omega) (by omega) (by omega)
    have HU := Lib.hid (fun w2 (h2 : NdR w2 A c B c2 (.mk k e n d ks)) => RefUniform11_any (.mk k e n d ks) A c B c2 w2 h2 HS.out)
    simp only [Nd.k, Nd.e, Nd.n, Nd.d, Nd.ks] at HU
    rw [hu, hv2] at HU
    have t7 : (e == 7) = true := by simpa using h7
    clear h0 h1 h7 hk2 hh hx hu hv2 hv hs
    go_enter Tryd.func11, Tryd.ntmps11
    go_wp2_with fail
    refine (HU.out _ (HX.out.on ((Below.refl _ _).alloc (Nat.le_refl _) _) (Nat.le_refl _))).mono ?_
    rintro r w1 ⟨rfl, hb1⟩
    have B1 := (Blk.fresh w #[.int .i64 k, .int .i64 e, .int .i64 n, .slice A d.length c, .slice B ks.length c2] 25).below hb1
    have HB : Hid (Below w.heap.size w w1) := Lib.hid (((Below.refl _ _).alloc (Nat.le_refl _) _).trans (hb1.mono (by simp)))
    clear hb1 HU
    obtain ⟨x1, y1, z1⟩ := B1
    go_wp2
    go_ret
    exact ⟨by rw [HR.out, HC.out]; rfl, HB.out⟩
  · have t7 : (e == 7) = false := by simpa using h7
    have HC : Hid (canOf k e n d ks = wordsI e n) := Lib.hid (by unfold canOf; rw [if_neg h0, if_neg h1, if_neg h7])
    clear h0 h1 h7 hk2 hh hx hv
    go_enter Tryd.func11, Tryd.ntmps11
    go_wp2_with fail
    refine (RefWords6_any e n _ hn0 hn1).mono ?_
    rintro r w1 ⟨rfl, rfl⟩
    go_wp2
    go_ret
    exact ⟨by rw [HR.out, HC.out]; rfl, (Below.refl _ _).alloc (Nat.le_refl _) _⟩

set_option maxRecDepth 100000 in
theorem RefNode13 : ∀ (x : Nd) (A : Option Addr) (c : Nat) (B : Option Addr) (c2 : Nat) (w : World), NdR w A c B c2 x → sizeN x ≤ 1099511627776 → validN x = true →
    Calls Tryd.prog 13 #[.agg #[.int .i64 x.k, .int .i64 x.e, .int .i64 x.n, .slice A x.d.length c, .slice B x.ks.length c2]] w fun r w' => r = .returned (.int .i64 (canN x)) ∧ Below w.heap.size w w' := by
  refine size_ind ?_
  intro x ih A c B c2 w hx hs hv
  have HX := Lib.hid hx
  have HI := Lib.hid ih
  have HE := Lib.hid (canN_eq x)
  have HVT := Lib.hid (valid_targ hv)
  have HO := Lib.hid (fun w2 (h2 : NdR w2 A c B c2 x) => RefObject13 x A c B c2 w2 h2 hs hv)
  have hsz := sizeK_targ x
  have hlz := sizeK_length (targN x)
  have hcs := (can_size x hv)
  have hco := (canO_size hv).1
  have HT : Hid (canK ((targN x).take (targN x).length) = canK (targN x)) := Lib.hid (by rw [List.take_length])
  have HTL : Hid (∀ j, 0 ≤ canK ((targN x).take j) ∧ canK ((targN x).take j) ≤ canK (targN x)) := Lib.hid (by
    intro j
    have h1 : canK (targN x) = canK ((targN x).take j) + canK ((targN x).drop j) := by rw [← canK_append, List.take_append_drop]
    have h2 : ∀ l : List Nd, (∀ y ∈ l, validN y = true) → 0 ≤ canK l := by
      intro l hl
      induction l with
      | nil => simp [canK]
      | cons y ys ih2 =>
        have h3 := (can_size y (hl y (List.mem_cons_self ..))).1
        have h4 := ih2 (fun z hz => hl z (List.mem_cons_of_mem _ hz))
        simp only [canK]
        omega
    have h5 := h2 _ (fun y hy => HVT.out y (List.mem_of_mem_take hy : y ∈ targN x) : ∀ y ∈ (targN x).take j, validN y = true)
    have h6 := h2 _ (fun y hy => HVT.out y (List.mem_of_mem_drop hy : y ∈ targN x) : ∀ y ∈ (targN x).drop j, validN y = true)
    omega)
  rw [HE.out] at hcs
  clear hx ih hv
  generalize canO x = o at *
  go_enter Tryd.func13, Tryd.ntmps13
  go_wp2_with fail
  refine (HO.out _ (HX.out.on ((Below.refl _ _).alloc (Nat.le_refl _) _) (Nat.le_refl _))).mono ?_
  rintro r w0 ⟨rfl, hb0⟩
  have B0 := (Blk.fresh w #[.int .i64 x.k, .int .i64 x.e, .int .i64 x.n, .slice A x.d.length c, .slice B x.ks.length c2] 25).below hb0
  have HB0 : Hid (Below w.heap.size w w0) := Lib.hid (((Below.refl _ _).alloc (Nat.le_refl _) _).trans (hb0.mono (by simp)))
  clear hb0 HO
  obtain ⟨x0, y0, z0⟩ := B0
  go_wp2_with fail
  refine (RefTargets_node x A c B c2 _ (HX.out.on HB0.out (Nat.le_refl _)) hs).mono ?_
  rintro r w1 ⟨B1, c1, rfl, hks, hl1, hc1, hb1⟩
  have HB1 : Hid (Below w.heap.size w w1) := Lib.hid (bel_on HB0.out hb1)
  have HK := Lib.hid hks
  have HM : Hid (∀ t ∈ targN x, sizeN t < sizeN x ∧ sizeN t ≤ sizeK (targN x)) := Lib.hid (fun t ht => ⟨targ_lt ht, sizeN_kid ht⟩)
  clear hb1 hks x0 y0 z0 HB0
  generalize hts : targN x = ts at *
  clear hts
  go_wp2
  go_loopw [3, 5] (fun s i wr => ∃ j : Nat, j ≤ ts.length ∧ i = .int .i64 j ∧ s = .int .i64 (o + canK (ts.take j)) ∧ Below w1.heap.size w1 wr) (fun _ i _ => ts.length - (intOf i).toNat)
  case atStart => exact ⟨0, by omega, rfl, by simp [canK], Below.refl _ _⟩
  case round =>
    obtain ⟨j, hj, rfl, rfl, hbr⟩ := hrel
    have hle := HTL.out j
    by_cases hlt : j < ts.length
    · obtain ⟨b, off, A', c', B', c2', rfl, k0, k1, k2, k3, k4, hsub⟩ := (HK.out.on hbr (Nat.le_refl _)).at hlt
      have HBR := Lib.hid hbr
      obtain ⟨hz1, hz2⟩ := HM.out ts[j] (List.getElem_mem hlt)
      have hvj := HVT.out ts[j] (List.getElem_mem hlt)
      have HST := Lib.hid (canK_take ts j hlt)
      have hle2 := HTL.out (j + 1)
      have HC := Lib.hid (HI.out ts[j] hz1 A' c' B' c2' wr hsub (by omega) hvj)
      have hnz := can_size ts[j] hvj
      have hsum : o + canK (ts.take j) + canN ts[j] = o + canK (ts.take (j + 1)) := by rw [HST.out]; omega
      have HSUM := Lib.hid hsum
      have hrange : -9223372036854775808 ≤ o + canK (ts.take j) + canN ts[j] ∧ o + canK (ts.take j) + canN ts[j] ≤ 9223372036854775807 := by omega
      clear hsub hbr hsum hvj
      go_wp2_with fail
      refine HC.out.mono ?_
      rintro r w' ⟨rfl, hb2⟩
      have HB2 := Lib.hid (bel_on HBR.out hb2)
      clear hb2 k0 k1 k2 k3 k4
      go_wp2
      go_roundw
      case rel => exact ⟨j + 1, by omega, by go_num, by rw [HSUM.out], HB2.out⟩
      case measure => simp [intOf]; omega
    · obtain rfl : j = ts.length := by omega
      go_wp2
      go_ret
      exact ⟨by rw [HE.out, ← HT.out]; rfl, HB1.out.trans (hbr.mono HB1.out.size)⟩

/-- in the domain and small -/
noncomputable def rightN (x : Nd) : Bool := fewN x && (validN x && trimmedN x)
set_option maxRecDepth 100000 in
theorem RefRight13 (x : Nd) (A : Option Addr) (c : Nat) (B : Option Addr) (c2 : Nat) (w : World) (hx : NdR w A c B c2 x) (hs : sizeN x ≤ 1099511627776) :
    Calls Tryd.prog 9 #[.agg #[.int .i64 x.k, .int .i64 x.e, .int .i64 x.n, .slice A x.d.length c, .slice B x.ks.length c2]] w fun r w' => r = .returned (.bool (rightN x)) ∧ Below w.heap.size w w' := by
  have HX := Lib.hid hx
  have HF := Lib.hid (fun w2 (h2 : NdR w2 A c B c2 x) => RefFew_node x A c B c2 w2 h2 hs)
  have HV := Lib.hid (fun w2 (h2 : NdR w2 A c B c2 x) => RefValid_node x A c B c2 w2 h2 hs)
  have HM := Lib.hid (fun w2 (h2 : NdR w2 A c B c2 x) => RefTrimmed11_node x A c B c2 w2 h2 hs)
  have HR : Hid (rightN x = (fewN x && (validN x && trimmedN x))) := Lib.hid rfl
  generalize rightN x = v at *
  generalize fewN x = f at *
  generalize validN x = g at *
  generalize trimmedN x = t at *
  clear hx
  go_enter Tryd.func9, Tryd.ntmps9
  go_wp2_with fail
  refine (HF.out _ (HX.out.on ((Below.refl _ _).alloc (Nat.le_refl _) _) (Nat.le_refl _))).mono ?_
  rintro r w1 ⟨rfl, hb⟩
  have Bw1 := (Blk.fresh w #[.int .i64 x.k, .int .i64 x.e, .int .i64 x.n, .slice A x.d.length c, .slice B x.ks.length c2] 25).below hb
  have HBw1 : Hid (Below w.heap.size w w1) := Lib.hid (((Below.refl _ _).alloc (Nat.le_refl _) _).trans (hb.mono (by simp)))
  clear hb
  have Hw1 := Lib.hid Bw1
  obtain ⟨xw1, yw1, zw1⟩ := Bw1
  cases f with
  | false =>
    go_wp2
    go_ret
    exact ⟨by rw [HR.out]; rfl, HBw1.out⟩
  | true =>
  go_wp2_with fail
  clear xw1 yw1 zw1
  refine (HV.out _ (HX.out.on HBw1.out (Nat.le_refl _))).mono ?_
  rintro r w2 ⟨rfl, hb⟩
  have Bw2 := Hw1.out.below hb
  have HBw2 : Hid (Below w.heap.size w w2) := Lib.hid (bel_on HBw1.out hb)
  clear hb
  have Hw2 := Lib.hid Bw2
  obtain ⟨xw2, yw2, zw2⟩ := Bw2
  cases g with
  | false =>
    go_wp2
    go_ret
    exact ⟨by rw [HR.out]; rfl, HBw2.out⟩
  | true =>
  go_wp2_with fail
  clear xw2 yw2 zw2
  refine (HM.out _ (HX.out.on HBw2.out (Nat.le_refl _))).mono ?_
  rintro r w3 ⟨rfl, hb⟩
  have HB3 := Lib.hid (bel_on HBw2.out hb)
  clear hb
  cases t <;>
  ( go_wp2
    go_ret
    exact ⟨by rw [HR.out]; rfl, HB3.out⟩)
end Go.Proofs.YtcmljjhnfpfcfaaDoor

/- Package trim: cut at its two predicates, and with it Words, Pointers and Uniform. -/
namespace Go.Proofs.YtcmljjhnfpfcfaaDoor
open Go.ChangeShapes Go.WideShapes Go.ChangeAt Go.RowKit
set_option linter.unusedVariables false
set_option linter.unusedSimpArgs false
set_option maxRecDepth 100000

set_option maxRecDepth 100000 in
theorem trimUniform_any (x : Nd) (A : Option Addr) (c : Nat) (B : Option Addr) (c2 : Nat) (w : World) (hx : NdR w A c B c2 x) (hs : sizeN x ≤ 1099511627776) :
    Calls Tryd.prog 25 #[.agg #[.int .i64 x.k, .int .i64 x.e, .int .i64 x.n, .slice A x.d.length c, .slice B x.ks.length c2]] w fun r w' => r = .returned (.tuple #[.int .i64 (uniD x.ks x.ks.length), .int .i64 (uniP x.ks x.ks.length)]) ∧ Below w.heap.size w w' := by
  obtain ⟨k, e, n, d, ks⟩ := x
  simp only [Nd.k, Nd.e, Nd.n, Nd.d, Nd.ks]
  have HK := Lib.hid hx.kids
  have hso : sizeN (.mk k e n d ks) = 1 + d.length + sizeK ks := by simp only [sizeN]
  rw [hso] at hs
  have hkl := sizeK_length ks
  have hlen : ks.length ≤ 1099511627776 := by omega
  have HSZ : Hid (∀ (j : Nat) (hj : j < ks.length), (ks[j]).d.length ≤ 1099511627776 ∧ (ks[j]).ks.length ≤ 1099511627776) := Lib.hid (fun j hj => by
    have h1 := sizeN_kid (List.getElem_mem hj)
    generalize ks[j] = y at *
    obtain ⟨k', e', n', d', ks'⟩ := y
    simp only [sizeN] at h1
    have := sizeK_length ks'
    simp only [Nd.d, Nd.ks]
    omega)
  have HB0 := Lib.hid (fun o => (Below.refl w.heap.size w).alloc (Nat.le_refl _) o)
  clear hx hso hs hkl
  go_enter Tryd.func25, Tryd.ntmps25
  go_wp2
  go_loopw [4, 5, 11] (fun p q i wr => ∃ j : Nat, j ≤ ks.length ∧ i = .int .i64 j ∧ p = .int .i64 (uniD ks j) ∧ q = .int .i64 (uniP ks j) ∧ uniD ks j ≤ 1099511627776 ∧ uniP ks j ≤ 1099511627776 ∧ Below w.heap.size w wr) (fun _ _ i _ => ks.length - (intOf i).toNat)
  case atStart => exact ⟨0, by omega, rfl, rfl, rfl, by simp [uniD], by simp [uniP], HB0.out _⟩
  case round =>
    obtain ⟨j, hj, rfl, rfl, rfl, hd1, hp1, hbr⟩ := hrel
    have HR := Lib.hid hbr
    clear hbr
    by_cases hlt : j < ks.length
    · have hj1 : (j : Int) < (ks.length : Int) := by omega
      obtain ⟨b, off, A', c', B', c2', rfl, k0, k1, k2, k3, k4, hsub⟩ := HK.out.atIn HR.out (Nat.le_refl _) hlt
      have HD := Lib.hid (uniD_succ hlt)
      have HP := Lib.hid (uniP_succ hlt)
      obtain ⟨hz1, hz2⟩ := HSZ.out j hlt
      clear hsub
      generalize ks[j] = kx at *
      obtain ⟨kk, ke, kn, kd, kks⟩ := kx
      simp only [Nd.k, Nd.e, Nd.n, Nd.d, Nd.ks] at k0 k1 k2 k3 k4 HD HP hz1 hz2
      have HB1 := Lib.hid (fun o => HR.out.alloc HR.out.size o)
      generalize uniD ks j = u at *
      generalize uniP ks j = v at *
      go_wp2
      go_roundw
      case rel => exact ⟨j + 1, by omega, by go_num, by rw [HD.out]; go_num, by rw [HP.out]; go_num, by rw [HD.out]; omega, by rw [HP.out]; omega, HB1.out _⟩
      case measure => simp [intOf]; omega
    · obtain rfl : j = ks.length := by omega
      go_wp2
      go_ret2
      exact ⟨rfl, HR.out⟩
end Go.Proofs.YtcmljjhnfpfcfaaDoor

/- Nodes that a function builds: a node of its data and its row of kids, and what lasts of such values. -/
namespace Go.Proofs.YtcmljjhnfpfcfaaDoor
open Go.ChangeShapes Go.WideShapes Go.ChangeAt Go.RowKit
set_option linter.unusedVariables false
set_option linter.unusedSimpArgs false
set_option maxRecDepth 100000

/-- a node out of its parts -/
theorem KsR.node {w : World} {B : Option Addr} {ks : List Nd} (h : KsR w B ks) {k e n : Int} {d : List Int} {A : Option Addr} {c c2 : Nat}
    (hk : -9223372036854775808 ≤ k ∧ k ≤ 9223372036854775807) (he : -9223372036854775808 ≤ e ∧ e ≤ 9223372036854775807) (hn : -9223372036854775808 ≤ n ∧ n ≤ 9223372036854775807)
    (hd : Ri w .u8 A d) (hby : Bts d) (hdl : d.length ≤ c) (hc : c ≤ maxLen) (hA : A = none → c = 0) (hkl : ks.length ≤ c2) (hc2 : c2 ≤ maxLen) (hB : B = none → c2 = 0) : NdR w A c B c2 (.mk k e n d ks) := by
  rcases h with rfl | ⟨b, off, hBe, h⟩
  · exact .mk k e n d [] A c B c2 (fun _ => none) (fun _ => 0) (fun _ => none) (fun _ => 0) hk he hn hd hby hdl hc hA hkl hc2 hB (.inl rfl) (fun j x hx => by simp at hx)
  · refine .mk k e n d ks A c B c2 (fun j => if h0 : j < ks.length then Classical.choose (h j h0) else none) (fun j => if h0 : j < ks.length then Classical.choose (Classical.choose_spec (h j h0)) else 0)
      (fun j => if h0 : j < ks.length then Classical.choose (Classical.choose_spec (Classical.choose_spec (h j h0))) else none) (fun j => if h0 : j < ks.length then Classical.choose (Classical.choose_spec (Classical.choose_spec (Classical.choose_spec (h j h0)))) else 0)
      hk he hn hd hby hdl hc hA hkl hc2 hB (.inr ⟨b, off, hBe, fun j x hj => ?_⟩) (fun j x hj => ?_)
    · have hjl : j < ks.length := (List.getElem?_eq_some_iff.1 hj).1
      obtain rfl : ks[j] = x := (List.getElem?_eq_some_iff.1 hj).2
      have hs := Classical.choose_spec (Classical.choose_spec (Classical.choose_spec (Classical.choose_spec (h j hjl))))
      simp only [dif_pos hjl]
      exact ⟨hs.1, hs.2.1, hs.2.2.1, hs.2.2.2.1, hs.2.2.2.2.1⟩
    · have hjl : j < ks.length := (List.getElem?_eq_some_iff.1 hj).1
      obtain rfl : ks[j] = x := (List.getElem?_eq_some_iff.1 hj).2
      have hs := Classical.choose_spec (Classical.choose_spec (Classical.choose_spec (Classical.choose_spec (h j hjl))))
      simp only [dif_pos hjl]
      exact hs.2.2.2.2.2

/-- v is a row of the bytes d -/
def DatF (d : List Int) : Fact := fun v w => ∃ A c, v = .slice A d.length c ∧ Ri w .u8 A d ∧ d.length ≤ c ∧ c ≤ maxLen ∧ (A = none → c = 0)
theorem stable_datf (d : List Int) : stable (DatF d) := by
  rintro v w w' ⟨A, c, e, h, r⟩ hb
  exact ⟨A, c, e, h.below hb (Nat.le_refl _), r⟩

/-- a row of one or two nodes in a new block -/
theorem row1_new {w : World} {x : Nd} {A : Option Addr} {c : Nat} {B : Option Addr} {c2 : Nat} (h : NdR w A c B c2 x) (T : TypeId) :
    KsR (w.alloc (.cells #[.int .i64 x.k, .int .i64 x.e, .int .i64 x.n, .slice A x.d.length c, .slice B x.ks.length c2] T)) (some ⟨w.heap.size, 0, none⟩) [x] := by
  refine .inr ⟨_, 0, rfl, fun j hj => ?_⟩
  obtain rfl : j = 0 := by simp at hj; omega
  have hc := blk_new w #[.int .i64 x.k, .int .i64 x.e, .int .i64 x.n, .slice A x.d.length c, .slice B x.ks.length c2] T
  exact ⟨A, c, B, c2, hc _, hc _, hc _, hc _, hc _, h.on ((Below.refl _ _).alloc (Nat.le_refl _) _) (Nat.le_refl _)⟩
theorem row2_new {w : World} {x y : Nd} {A : Option Addr} {c : Nat} {B : Option Addr} {c2 : Nat} {A1 : Option Addr} {c3 : Nat} {B1 : Option Addr} {c4 : Nat} (h : NdR w A c B c2 x) (h2 : NdR w A1 c3 B1 c4 y) (T : TypeId) :
    KsR (w.alloc (.cells #[.int .i64 x.k, .int .i64 x.e, .int .i64 x.n, .slice A x.d.length c, .slice B x.ks.length c2, .int .i64 y.k, .int .i64 y.e, .int .i64 y.n, .slice A1 y.d.length c3, .slice B1 y.ks.length c4] T)) (some ⟨w.heap.size, 0, none⟩) [x, y] := by
  refine .inr ⟨_, 0, rfl, fun j hj => ?_⟩
  have hc := blk_new w #[.int .i64 x.k, .int .i64 x.e, .int .i64 x.n, .slice A x.d.length c, .slice B x.ks.length c2, .int .i64 y.k, .int .i64 y.e, .int .i64 y.n, .slice A1 y.d.length c3, .slice B1 y.ks.length c4] T
  have hb := (Below.refl w.heap.size w).alloc (Nat.le_refl _) (.cells #[.int .i64 x.k, .int .i64 x.e, .int .i64 x.n, .slice A x.d.length c, .slice B x.ks.length c2, .int .i64 y.k, .int .i64 y.e, .int .i64 y.n, .slice A1 y.d.length c3, .slice B1 y.ks.length c4] T)
  match j, hj with
  | 0, _ => exact ⟨A, c, B, c2, hc _, hc _, hc _, hc _, hc _, h.on hb (Nat.le_refl _)⟩
  | 1, _ => exact ⟨A1, c3, B1, c4, hc _, hc _, hc _, hc _, hc _, h2.on hb (Nat.le_refl _)⟩
  | n + 2, h => simp at h; omega
theorem nd0_here (w : World) (k : Int) (hk : -9223372036854775808 ≤ k ∧ k ≤ 9223372036854775807) : NdR w none 0 none 0 (.mk k 0 0 [] []) :=
  (show KsR w none [] from .inl rfl).node hk ⟨by decide, by decide⟩ ⟨by decide, by decide⟩ (Ri.nil _ _ _) (by intro z hz; cases hz) (by simp) (by unfold maxLen; omega) (fun _ => rfl) (by simp) (by unfold maxLen; omega) (fun _ => rfl)
theorem allN_atF {P : Nat → Prop} : ∀ {n s : Nat}, AllN P n s → ∀ j, s ≤ j → j < s + n → P j
  | 0, _, _, _, _, h => by omega
  | n + 1, s, h, j, h1, h2 => by
    by_cases e : s = j
    · subst e; exact h.1
    · exact allN_atF h.2 j (by omega) (by omega)
end Go.Proofs.YtcmljjhnfpfcfaaDoor
