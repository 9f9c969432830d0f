/- The texts Ref13 (what is wanted of them), one after the other. -/
import Derived.Test.YtfigoblpkbpenaaDoorMg1
import Derived.Test.YtfigoblpkbpenaaDoorMg2
import Derived.Test.YtfigoblpkbpenaaDoorMg3
import Derived.Test.YtfigoblpkbpenaaDoorMg4
import Derived.Test.YtfigoblpkbpenaaDoorMg5
import Derived.Test.YtfigoblpkbpenaaDoorMg6
import Derived.Test.YtfigoblpkbpenaaDoorMg7
import Derived.Test.YtfigoblpkbpenaaDoorMg9
import Derived.Test.YtfigoblpkbpenaaDoorMg10
import Derived.Test.YtfigoblpkbpenaaDoorMg11
import Derived.Test.YtfigoblpkbpenaaDoorMg12
import Derived.Test.YtfigoblpkbpenaaDoorMg13
import Derived.Test.YtfigoblpkbpenaaDoorMg14
import Derived.Test.YtfigoblpkbpenaaDoorMg15
/- The reference's Object, Node and Right of layer 13. -/
namespace Go.Proofs.YtfigoblpkbpenaaDoor
open Go.ChangeShapes Go.WideShapes Go.ChangeAt Go.RowKit
set_option linter.unusedVariables false
set_option linter.unusedSimpArgs false
set_option maxRecDepth 100000

set_option maxRecDepth 100000 in
theorem RefObject13 (x : Nd) (A : Option Addr) (c : Nat) (B : Option Addr) (c2 : Nat) (w : World) (hx : NdR w A c B c2 x) (hs : sizeN x ≤ 1099511627776) (hv : validN x = true) :
    Calls Tryd.prog 42 #[.agg #[.int .i64 x.k, .int .i64 x.e, .int .i64 x.n, .slice A x.d.length c, .slice B x.ks.length c2]] w fun r w' => r = .returned (.int .i64 (canO x)) ∧ Below w.heap.size w w' := by
  obtain ⟨k, e, n, d, ks⟩ := x
  have HR : Hid (canO (.mk k e n d ks) = canOf k e n d ks) := Lib.hid rfl
  have hsz : sizeN (.mk k e n d ks) = 1 + d.length + sizeK ks := by simp [sizeN]
  have hkl := sizeK_length ks
  have HX := Lib.hid hx
  have HS := Lib.hid hs
  have hh := valid_head hv
  simp only [Nd.k, Nd.e, Nd.n, Nd.d, Nd.ks]
  by_cases h0 : k = 0
  · have HC : Hid (canOf k e n d ks = 0) := Lib.hid (by unfold canOf; rw [if_pos h0])
    have t0 : (k == 0) = true := by simpa using h0
    clear h0 hh hx
    go_enter Tryd.func42, Tryd.ntmps42
    go_wp2
    go_ret
    exact ⟨by rw [HR.out, HC.out]; rfl, (Below.refl _ _).alloc (Nat.le_refl _) _⟩
  have t0 : (k == 0) = false := by simpa using h0
  by_cases h1 : k = 1
  · have HC : Hid (canOf k e n d ks = ((d.length / 8 + ks.length : Nat) : Int)) := Lib.hid (by unfold canOf; rw [if_neg h0, if_pos h1])
    have t1 : (k == 1) = true := by simpa using h1
    have hq : ((d.length : Int)).tdiv 8 = ((d.length / 8 : Nat) : Int) := by rw [Int.tdiv_eq_ediv_of_nonneg (by omega)]; omega
    clear h0 h1 hh hx
    go_enter Tryd.func42, Tryd.ntmps42
    go_wp2
    go_ret
    exact ⟨by rw [HR.out, HC.out]; simp; try omega, (Below.refl _ _).alloc (Nat.le_refl _) _⟩
  have t1 : (k == 1) = false := by simpa using h1
  have hk2 : k = 2 := by rcases hh with h | h | h <;> omega
  obtain ⟨-, hn0, hn1, he0, he7, -, -⟩ : k = 2 ∧ 0 ≤ n ∧ n ≤ 536870911 ∧ 0 ≤ e ∧ e ≤ 7 ∧ True ∧ True := by
    rcases hh with h | h | h
    · omega
    · omega
    · exact ⟨h.1, h.2.1, h.2.2.1, h.2.2.2.1, h.2.2.2.2.1, trivial, trivial⟩
  by_cases h7 : e = 7
  · obtain ⟨u, hu⟩ : ∃ u, uniD ks ks.length = u := ⟨_, rfl⟩
    obtain ⟨v, hv2⟩ : ∃ v, uniP ks ks.length = v := ⟨_, rfl⟩
    have HC : Hid (canOf k e n d ks = 1 + n * ((u : Int) + v)) := Lib.hid (by unfold canOf; rw [if_neg h0, if_neg h1, if_pos h7, hu, hv2]; simp)
    have hub := (by subst hk2 h7; exact uni_bd hv : uniD ks ks.length ≤ 65535 ∧ uniP ks ks.length ≤ 65535)
    rw [hu, hv2] at hub
    have m0 : 0 ≤ n * ((u : Int) + v) := Int.mul_nonneg hn0 (by omega)
    have m1 : n * ((u : Int) + v) ≤ 536870911 * 131070 := Int.mul_le_mul (by omega) (by omega) (by omega) (by omega)
    have HU := Lib.hid (fun w2 (h2 : NdR w2 A c B c2 (.mk k e n d ks)) => RefUniform11_any (.mk k e n d ks) A c B c2 w2 h2 HS.out)
    simp only [Nd.k, Nd.e, Nd.n, Nd.d, Nd.ks] at HU
    rw [hu, hv2] at HU
    have t7 : (e == 7) = true := by simpa using h7
    clear h0 h1 h7 hk2 hh hx hu hv2 hv hs
    go_enter Tryd.func42, Tryd.ntmps42
    go_wp2_with fail
    refine (HU.out _ (HX.out.on ((Below.refl _ _).alloc (Nat.le_refl _) _) (Nat.le_refl _))).mono ?_
    rintro r w1 ⟨rfl, hb1⟩
    have B1 := (Blk.fresh w #[.int .i64 k, .int .i64 e, .int .i64 n, .slice A d.length c, .slice B ks.length c2] 25).below hb1
    have HB : Hid (Below w.heap.size w w1) := Lib.hid (((Below.refl _ _).alloc (Nat.le_refl _) _).trans (hb1.mono (by simp)))
    clear hb1 HU
    obtain ⟨x1, y1, z1⟩ := B1
    go_wp2
    go_ret
    exact ⟨by rw [HR.out, HC.out]; rfl, HB.out⟩
  · have t7 : (e == 7) = false := by simpa using h7
    have HC : Hid (canOf k e n d ks = wordsI e n) := Lib.hid (by unfold canOf; rw [if_neg h0, if_neg h1, if_neg h7])
    clear h0 h1 h7 hk2 hh hx hv
    go_enter Tryd.func42, Tryd.ntmps42
    go_wp2_with fail
    refine (RefWords6_any e n _ hn0 hn1).mono ?_
    rintro r w1 ⟨rfl, rfl⟩
    go_wp2
    go_ret
    exact ⟨by rw [HR.out, HC.out]; rfl, (Below.refl _ _).alloc (Nat.le_refl _) _⟩

/-- in the domain and small -/
noncomputable def rightN (x : Nd) : Bool := fewN x && (validN x && trimmedN x)
set_option maxRecDepth 100000 in
theorem RefRight13 (x : Nd) (A : Option Addr) (c : Nat) (B : Option Addr) (c2 : Nat) (w : World) (hx : NdR w A c B c2 x) (hs : sizeN x ≤ 1099511627776) :
    Calls Tryd.prog 8 #[.agg #[.int .i64 x.k, .int .i64 x.e, .int .i64 x.n, .slice A x.d.length c, .slice B x.ks.length c2]] w fun r w' => r = .returned (.bool (rightN x)) ∧ Below w.heap.size w w' := by
  have HX := Lib.hid hx
  have HF := Lib.hid (fun w2 (h2 : NdR w2 A c B c2 x) => RefFew_node x A c B c2 w2 h2 hs)
  have HV := Lib.hid (fun w2 (h2 : NdR w2 A c B c2 x) => RefValid_node x A c B c2 w2 h2 hs)
  have HM := Lib.hid (fun w2 (h2 : NdR w2 A c B c2 x) => RefTrimmed11_node x A c B c2 w2 h2 hs)
  have HR : Hid (rightN x = (fewN x && (validN x && trimmedN x))) := Lib.hid rfl
  generalize rightN x = v at *
  generalize fewN x = f at *
  generalize validN x = g at *
  generalize trimmedN x = t at *
  clear hx
  go_enter Tryd.func8, Tryd.ntmps8
  go_wp2_with fail
  refine (HF.out _ (HX.out.on ((Below.refl _ _).alloc (Nat.le_refl _) _) (Nat.le_refl _))).mono ?_
  rintro r w1 ⟨rfl, hb⟩
  have Bw1 := (Blk.fresh w #[.int .i64 x.k, .int .i64 x.e, .int .i64 x.n, .slice A x.d.length c, .slice B x.ks.length c2] 25).below hb
  have HBw1 : Hid (Below w.heap.size w w1) := Lib.hid (((Below.refl _ _).alloc (Nat.le_refl _) _).trans (hb.mono (by simp)))
  clear hb
  have Hw1 := Lib.hid Bw1
  obtain ⟨xw1, yw1, zw1⟩ := Bw1
  cases f with
  | false =>
    go_wp2
    go_ret
    exact ⟨by rw [HR.out]; rfl, HBw1.out⟩
  | true =>
  go_wp2_with fail
  clear xw1 yw1 zw1
  refine (HV.out _ (HX.out.on HBw1.out (Nat.le_refl _))).mono ?_
  rintro r w2 ⟨rfl, hb⟩
  have Bw2 := Hw1.out.below hb
  have HBw2 : Hid (Below w.heap.size w w2) := Lib.hid (bel_on HBw1.out hb)
  clear hb
  have Hw2 := Lib.hid Bw2
  obtain ⟨xw2, yw2, zw2⟩ := Bw2
  cases g with
  | false =>
    go_wp2
    go_ret
    exact ⟨by rw [HR.out]; rfl, HBw2.out⟩
  | true =>
  go_wp2_with fail
  clear xw2 yw2 zw2
  refine (HM.out _ (HX.out.on HBw2.out (Nat.le_refl _))).mono ?_
  rintro r w3 ⟨rfl, hb⟩
  have HB3 := Lib.hid (bel_on HBw2.out hb)
  clear hb
  cases t <;>
  ( go_wp2
    go_ret
    exact ⟨by rw [HR.out]; rfl, HB3.out⟩)
end Go.Proofs.YtfigoblpkbpenaaDoor
