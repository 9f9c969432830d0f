/- A law of layer 11: TrimMatchesReference. -/
import Derived.Test.YtgleanjfaecceaaAwake11
import Derived.Test.YtgleanjfaecceaaTrimN2
import Derived.Test.YtgleanjfaecceaaRef11c
import Derived.Test.YtgleanjfaecceaaRef10b
import Derived.Test.YtgleanjfaecceaaRef10c
namespace Go.Proofs.Ytgleanjfaecceaa
open Go.ChangeShapes Go.WideShapes Go.ChangeAt Go.RowKit
set_option linter.unusedVariables false
set_option linter.unusedSimpArgs false
attribute [local simp] AllK KnowsV look Is

theorem TWords_c (A : Option Addr) (c : Nat) (d : List Int) (n : Nat) (w : World) (hT : TabOK w) (hr : Ri w .u8 A d) (hb : Bts d) (hn : d.length = n) (hm : n ≤ 1099511627776) (h8 : n % 8 = 0) (hc : n ≤ c) :
    Calls Try.prog 11 #[.slice A n c] w fun r w' => r = .returned (.int .i64 (wordsT d)) ∧ Below w.heap.size w w' := by
  subst hn; exact TWords_any A c d w hT hr hb hm h8 hc
theorem RefWords11_c (A : Option Addr) (c : Nat) (d : List Int) (n : Nat) (w : World) (hr : Ri w .u8 A d) (hb : Bts d) (hn : d.length = n) (hm : n ≤ 1099511627776) :
    Calls Try.prog 12 #[.slice A n c] w fun r w' => r = .returned (.int .i64 (wordsT d)) ∧ w = w' := by
  subst hn; exact RefWords11_any A c d w hr hb hm
theorem RefEqual_c (x y : Nd) (A : Option Addr) (c : Nat) (B : Option Addr) (c2 : Nat) (A1 : Option Addr) (c3 : Nat) (B1 : Option Addr) (c4 : Nat) (v : Bool) (w : World) (hx : NdR w A c B c2 x) (hy : NdR w A1 c3 B1 c4 y) (hv : eqN x y = v) :
    Calls Try.prog 15 #[.agg #[.int .i64 x.k, .int .i64 x.e, .int .i64 x.n, .slice A x.d.length c, .slice B x.ks.length c2], .agg #[.int .i64 y.k, .int .i64 y.e, .int .i64 y.n, .slice A1 y.d.length c3, .slice B1 y.ks.length c4]] w fun r w' => r = .returned (.bool v) ∧ Below w.heap.size w w' := hv ▸ RefEqual_node x y A c B c2 A1 c3 B1 c4 w hx hy
theorem ks_lt_size (x : Nd) : x.ks.length < sizeN x := by
  obtain ⟨k, e, n, d, ks⟩ := x
  have := sizeK_length ks
  simp only [sizeN, Nd.ks]
  omega
attribute [local irreducible] validN fewN eqN trimN wordsT ptrsT uniD uniP

set_option maxHeartbeats 4000000 in
set_option maxRecDepth 100000 in
theorem MatchesReference11_walk (x : Nd) (zs : List Int) (A1 : Option Addr) (c1 : Nat) (B1 : Option Addr) (e1 : Nat) (A2 : Option Addr) (c2 : Nat) (w : World) (hT : TabOK w) (hx : NdR w A1 c1 B1 e1 x) (hsx : sizeN x ≤ 1048576) (hr : Ri w .u8 A2 zs) (hb : Bts zs) (hc : zs.length ≤ c2) :
    Calls Try.prog 3 #[.agg #[.int .i64 x.k, .int .i64 x.e, .int .i64 x.n, .slice A1 x.d.length c1, .slice B1 x.ks.length e1], .slice A2 zs.length c2] w fun r w' => r = .returned (.bool true) ∧ Below w.heap.size w w' := by
  have HX := Lib.hid hx
  have HT := Lib.hid hT
  have HR0 := Lib.hid hr
  have HB0 := Lib.hid hb
  have HC0 := Lib.hid hc
  have HSX : Hid (sizeN x ≤ 1099511627776) := Lib.hid (by omega)
  clear hx hT hr hb hc
  go_enter Try.func3, Try.ntmps3
  go_wp2_with fail
  refine abs_world (F := fun W => Blk W w.heap.size #[.int .i64 x.k, .int .i64 x.e, .int .i64 x.n, .slice A1 x.d.length c1, .slice B1 x.ks.length e1] ∧ Below w.heap.size w W) ⟨?_, ?_⟩ ?_
  · exact Blk.fresh _ _ _
  · exact (Below.refl _ _).alloc (Nat.le_refl _) _
  rintro w0 ⟨h2, hb0⟩
  have H2 := Lib.hid h2
  have HB := Lib.hid hb0
  clear h2 hb0
  refine (awake11_any _ (HT.out.on HB.out)).mono ?_
  rintro r w1 ⟨rfl, hb1⟩
  have H2n := Lib.hid (H2.out.below hb1)
  have HBn := Lib.hid (bel_on HB.out hb1)
  clear hb1 H2 HB
  have H2 := H2n
  have HB := HBn
  clear H2n HBn
  obtain ⟨x2, y2, z2⟩ := H2.out
  go_wp2_with fail
  refine (RefFew_node x A1 c1 B1 e1 _ (HX.out.on HB.out (Nat.le_refl _)) HSX.out).mono ?_
  rintro r w2 ⟨rfl, hb2⟩
  clear x2 y2 z2
  have H2n := Lib.hid (H2.out.below hb2)
  have HBn := Lib.hid (bel_on HB.out hb2)
  clear hb2 H2 HB
  have H2 := H2n
  have HB := HBn
  clear H2n HBn
  obtain ⟨x2, y2, z2⟩ := H2.out
  cases hf : fewN x with
  | false =>
    clear hf
    go_wp2_with fail
    refine (awake11_any _ (HT.out.on HB.out)).mono ?_
    rintro r w9 ⟨rfl, hb9⟩
    have HB9 := Lib.hid (bel_on HB.out hb9)
    clear hb9
    go_wp2
    go_ret
    exact ⟨rfl, HB9.out⟩
  | true =>
  clear hf
  go_wp2_with fail
  refine (RefValid_node x A1 c1 B1 e1 _ (HX.out.on HB.out (Nat.le_refl _)) HSX.out).mono ?_
  rintro r w3 ⟨rfl, hb3⟩
  clear x2 y2 z2
  have H2n := Lib.hid (H2.out.below hb3)
  have HBn := Lib.hid (bel_on HB.out hb3)
  clear hb3 H2 HB
  have H2 := H2n
  have HB := HBn
  clear H2n HBn
  obtain ⟨x2, y2, z2⟩ := H2.out
  cases hv : validN x with
  | false =>
    clear hv
    go_wp2_with fail
    refine (awake11_any _ (HT.out.on HB.out)).mono ?_
    rintro r w9 ⟨rfl, hb9⟩
    have HB9 := Lib.hid (bel_on HB.out hb9)
    clear hb9
    go_wp2
    go_ret
    exact ⟨rfl, HB9.out⟩
  | true =>
  have HV := Lib.hid hv
  clear hv
  by_cases hlen : 1000 < zs.length
  · have t1 : decide ((zs.length : Int) > 1000) = true := decide_eq_true (by omega)
    have t2 : decide ((1000 : Int) < zs.length) = true := decide_eq_true (by omega)
    go_wp2_with fail
    refine (awake11_any _ (HT.out.on HB.out)).mono ?_
    rintro r w9 ⟨rfl, hb9⟩
    have HB9 := Lib.hid (bel_on HB.out hb9)
    clear hb9
    go_wp2
    go_ret
    exact ⟨rfl, HB9.out⟩
  have t1 : decide ((zs.length : Int) > 1000) = false := decide_eq_false (by omega)
  have t2 : decide ((1000 : Int) < zs.length) = false := decide_eq_false (by omega)
  have HLE : Hid (zs.length ≤ 1000) := Lib.hid (by omega)
  obtain ⟨L, hL, hL8, hw, hwc⟩ : ∃ L : Nat, L ≤ zs.length ∧ L % 8 = 0 ∧ wrap64 (wrap64 ((zs.length : Int) / 8) * 8) = (L : Int) ∧ (0 ≤ (L : Int) ∧ (L : Int) ≤ (c2 : Int)) :=
    ⟨zs.length / 8 * 8, by omega, by omega, by unfold wrap64; omega, by have := HC0.out; omega⟩
  have HL := Lib.hid hL
  have HL8 := Lib.hid hL8
  clear hlen hL hL8
  have HKL : Hid (x.ks.length ≤ 1099511627776) := Lib.hid (by have := ks_lt_size x; omega)
  go_wp2_with fail
  clear t1 t2 hw hwc x2 y2 z2
  have HR : Hid (Ri w .u8 A2 (zs.take L)) := Lib.hid (HR0.out.take L)
  have HBT : Hid (Bts (zs.take L)) := Lib.hid (fun z hz => HB0.out z (List.mem_of_mem_take hz))
  have HCL : Hid ((zs.take L).length = L) := Lib.hid (by rw [List.length_take]; have := HL.out; omega)
  have HLC : Hid (L ≤ c2) := Lib.hid (by have := HL.out; have := HC0.out; omega)
  have HLM : Hid (L ≤ 1099511627776) := Lib.hid (by have := HL.out; have := HLE.out; omega)
  generalize zs.take L = cut at *
  rename_i KK hKK
  refine wp_region_chain (by kernel_rfl) (by kernel_rfl) ?_
  refine chain_val (u := ?_) [5] rfl (by kernel_rfl) trivial (fun ρ wc hbc hcn hk => ?_) ?_; rotate_left
  · obtain ⟨hcn, -⟩ := hcn
    simp at hk
    go_simp
    rfl
  refine chain_call (T := Is ?_) 11 [34] rfl (by kernel_rfl) trivial (stable_is _) (fun ρ wc hbc hcn hk => ?_) ?_; rotate_left
  · obtain ⟨hcn, hfn⟩ := hcn
    simp at hk
    refine ⟨_, by go_simp; rfl, ?_⟩
    refine (TWords_c A2 c2 cut L wc (HT.out.on (bel_on (bel_drew HB.out) hbc)) (HR.out.below (bel_on (bel_drew HB.out) hbc) (Nat.le_refl _)) HBT.out HCL.out HLM.out HL8.out HLC.out).mono ?_
    rintro e w' ⟨rfl, hbq⟩
    refine ⟨_, rfl, ?_, hbq⟩
    unfold Is
    rfl
  refine chain_val (u := ?_) [5] rfl (by kernel_rfl) trivial (fun ρ wc hbc hcn hk => ?_) ?_; rotate_left
  · obtain ⟨hcn, -⟩ := hcn
    simp at hk
    go_simp
    rfl
  refine chain_call (T := Is ?_) 12 [36] rfl (by kernel_rfl) trivial (stable_is _) (fun ρ wc hbc hcn hk => ?_) ?_; rotate_left
  · obtain ⟨hcn, hfn⟩ := hcn
    simp at hk
    refine ⟨_, by go_simp; rfl, ?_⟩
    refine (RefWords11_c A2 c2 cut L wc (HR.out.below (bel_on (bel_drew HB.out) hbc) (Nat.le_refl _)) HBT.out HCL.out HLM.out).mono ?_
    rintro e w' ⟨rfl, rfl⟩
    refine ⟨_, rfl, ?_, Below.refl _ _⟩
    unfold Is
    rfl
  refine chain_val (u := ?_) [35, 37] rfl (by kernel_rfl) trivial (fun ρ wc hbc hcn hk => ?_) ?_; rotate_left
  · obtain ⟨hcn, -⟩ := hcn
    simp at hk
    go_simp
    rfl
  refine chain_val (u := ?_) [38] rfl (by kernel_rfl) trivial (fun ρ wc hbc hcn hk => ?_) ?_; rotate_left
  · obtain ⟨hcn, -⟩ := hcn
    simp at hk
    go_simp
    rfl
  refine chain_val (u := ?_) [2] rfl (by kernel_rfl) ⟨39, by decide +kernel, rfl, fun w x hx => by simpa using hx⟩ (fun ρ wc hbc hcn hk => ?_) ?_; rotate_left
  · obtain ⟨hcn, -⟩ := hcn
    simp at hk
    go_simp
    rfl
  refine chain_val (u := ?_) [40] rfl (by kernel_rfl) ⟨39, by decide +kernel, rfl, fun w x hx => by simpa using hx⟩ (fun ρ wc hbc hcn hk => ?_) ?_; rotate_left
  · obtain ⟨hcn, -⟩ := hcn
    simp at hk
    obtain ⟨x2, y2, z2⟩ := H2.out.drew.below hbc
    go_simp
    rfl
  refine chain_call (T := Is ?_) 13 [41] rfl (by kernel_rfl) ⟨39, by decide +kernel, rfl, fun w x hx => by simpa using hx⟩ (stable_is _) (fun ρ wc hbc hcn hk => ?_) ?_; rotate_left
  · obtain ⟨hcn, hfn⟩ := hcn
    simp at hk
    refine ⟨_, by go_simp; rfl, ?_⟩
    refine (TPointers_any B1 e1 x.ks wc (HT.out.on (bel_on (bel_drew HB.out) hbc)) (HX.out.on (bel_on (bel_drew HB.out) hbc) (Nat.le_refl _)).kidsX.1 HKL.out HX.out.kidsX.2.2).mono ?_
    rintro e w' ⟨rfl, hbq⟩
    refine ⟨_, rfl, ?_, hbq⟩
    unfold Is
    rfl
  refine chain_val (u := ?_) [2] rfl (by kernel_rfl) ⟨39, by decide +kernel, rfl, fun w x hx => by simpa using hx⟩ (fun ρ wc hbc hcn hk => ?_) ?_; rotate_left
  · obtain ⟨hcn, -⟩ := hcn
    simp at hk
    go_simp
    rfl
  refine chain_val (u := ?_) [43] rfl (by kernel_rfl) ⟨39, by decide +kernel, rfl, fun w x hx => by simpa using hx⟩ (fun ρ wc hbc hcn hk => ?_) ?_; rotate_left
  · obtain ⟨hcn, -⟩ := hcn
    simp at hk
    obtain ⟨x2, y2, z2⟩ := H2.out.drew.below hbc
    go_simp
    rfl
  refine chain_call (T := Is ?_) 14 [44] rfl (by kernel_rfl) ⟨39, by decide +kernel, rfl, fun w x hx => by simpa using hx⟩ (stable_is _) (fun ρ wc hbc hcn hk => ?_) ?_; rotate_left
  · obtain ⟨hcn, hfn⟩ := hcn
    simp at hk
    refine ⟨_, by go_simp; rfl, ?_⟩
    refine (RefPointers11_any B1 e1 x.ks wc (HX.out.on (bel_on (bel_drew HB.out) hbc) (Nat.le_refl _)).kidsX.1 HKL.out).mono ?_
    rintro e w' ⟨rfl, rfl⟩
    refine ⟨_, rfl, ?_, Below.refl _ _⟩
    unfold Is
    rfl
  refine chain_val (u := ?_) [42, 45] rfl (by kernel_rfl) ⟨39, by decide +kernel, rfl, fun w x hx => by simpa using hx⟩ (fun ρ wc hbc hcn hk => ?_) ?_; rotate_left
  · obtain ⟨hcn, -⟩ := hcn
    simp at hk
    go_simp
    rfl
  refine chain_val (u := ?_) [39, 46] rfl (by kernel_rfl) trivial (fun ρ wc hbc hcn hk => ?_) ?_; rotate_left
  · obtain ⟨hcn, -⟩ := hcn
    simp at hk
    go_simp
    rfl
  refine chain_val (u := ?_) [47] rfl (by kernel_rfl) trivial (fun ρ wc hbc hcn hk => ?_) ?_; rotate_left
  · obtain ⟨hcn, -⟩ := hcn
    simp at hk
    go_simp
    rfl
  refine chain_val (u := ?_) [2] rfl (by kernel_rfl) ⟨48, by decide +kernel, rfl, fun w x hx => by simpa using hx⟩ (fun ρ wc hbc hcn hk => ?_) ?_; rotate_left
  · obtain ⟨hcn, -⟩ := hcn
    simp at hk
    obtain ⟨x2, y2, z2⟩ := H2.out.drew.below hbc
    go_simp
    rfl
  refine chain_call (T := NodF w.heap.size (trimN x)) 16 [49] rfl (by kernel_rfl) ⟨48, by decide +kernel, rfl, fun w x hx => by simpa using hx⟩ (stable_nod _ _) (fun ρ wc hbc hcn hk => ?_) ?_
  · obtain ⟨hcn, hfn⟩ := hcn
    simp at hk
    refine ⟨_, by go_simp; rfl, ?_⟩
    refine (TTrim_any x A1 c1 B1 e1 wc (HT.out.on (bel_on (bel_drew HB.out) hbc)) (HX.out.on (bel_on (bel_drew HB.out) hbc) (Nat.le_refl _)) HSX.out HV.out).mono ?_
    rintro r w' ⟨v5, rfl, ⟨A5, c5, B5, c6, hi5, rfl, h5, h6⟩, hb5⟩
    exact ⟨_, rfl, ⟨A5, c5, B5, c6, hi5, rfl, h5, h6.wide (bel_on (bel_drew HB.out) hbc).size (Nat.le_refl _)⟩, hb5⟩
  refine chain_val (u := ?_) [2] rfl (by kernel_rfl) ⟨48, by decide +kernel, rfl, fun w x hx => by simpa using hx⟩ (fun ρ wc hbc hcn hk => ?_) ?_; rotate_left
  · obtain ⟨hcn, -⟩ := hcn
    simp at hk
    obtain ⟨x2, y2, z2⟩ := H2.out.drew.below hbc
    go_simp
    rfl
  refine chain_call (T := NodF w.heap.size (trimN x)) 17 [51] rfl (by kernel_rfl) ⟨48, by decide +kernel, rfl, fun w x hx => by simpa using hx⟩ (stable_nod _ _) (fun ρ wc hbc hcn hk => ?_) ?_
  · obtain ⟨hcn, hfn⟩ := hcn
    simp at hk
    refine ⟨_, by go_simp; rfl, ?_⟩
    refine (RefTrim11_node x A1 c1 B1 e1 wc (HX.out.on (bel_on (bel_drew HB.out) hbc) (Nat.le_refl _)) HSX.out HV.out).mono ?_
    rintro r w' ⟨v5, rfl, ⟨A5, c5, B5, c6, hi5, rfl, h5, h6⟩, hb5⟩
    exact ⟨_, rfl, ⟨A5, c5, B5, c6, hi5, rfl, h5, h6.wide (bel_on (bel_drew HB.out) hbc).size (Nat.le_refl _)⟩, hb5⟩
  refine chain_call (T := Is (.bool true)) 15 [50, 52] rfl (by kernel_rfl) ⟨48, by decide +kernel, rfl, fun w x hx => by simpa using hx⟩ (stable_is _) (fun ρ wc hbc hcn hk => ?_) ?_
  · obtain ⟨hcn, hfn⟩ := hcn
    simp at hk
    obtain ⟨⟨A6, c6, B6, d6, hi6, e6, h6, n6⟩, ⟨A7, c7, B7, d7, hi7, e7, h7, n7⟩⟩ := hk
    refine ⟨_, by go_simp; rfl, ?_⟩
    refine (RefEqual_c (trimN x) (trimN x) A6 c6 B6 d6 A7 c7 B7 d7 true wc n6.nd n7.nd (eqN_yes rfl)).mono ?_
    rintro e w' ⟨rfl, hbq⟩
    refine ⟨_, rfl, ?_, hbq⟩
    unfold Is
    rfl
  refine chain_val (u := ?_) [53] rfl (by kernel_rfl) ⟨48, by decide +kernel, rfl, fun w x hx => by simpa using hx⟩ (fun ρ wc hbc hcn hk => ?_) ?_; rotate_left
  · obtain ⟨hcn, -⟩ := hcn
    simp at hk
    go_simp
    rfl
  refine chain_val (u := ?_) [48, 54] rfl (by kernel_rfl) trivial (fun ρ wc hbc hcn hk => ?_) ?_; rotate_left
  · obtain ⟨hcn, -⟩ := hcn
    simp at hk
    go_simp
    rfl

  refine chain_end_lit 82 rfl (fun ff w7 hb7 hk => ?_)
  refine hKK _ _ ?_
  simp [AllN] at hk
  have hb7' : Below w3.heap.size w3 w7 := ⟨hb7.os, hb7.tape, hb7.output, hb7.size, hb7.block⟩
  simp only [frameL, hk, Nat.zero_add, Nat.reduceAdd]
  clear hb7 hk
  generalize ff 50 = u50
  generalize ff 52 = u52
  have H2n := Lib.hid (H2.out.below hb7')
  have HBn := Lib.hid (bel_on HB.out hb7')
  clear hb7' H2 HB
  have H2 := H2n
  have HB := HBn
  clear H2n HBn
  obtain ⟨x2, y2, z2⟩ := H2.out
  by_cases hke : x.k = 2 ∧ x.e = 7
  case neg =>
    have hor : (x.k != 2) = true ∨ ((x.k != 2) = false ∧ (x.e != 7) = true) := by
      by_cases h1 : x.k = 2
      · right; exact ⟨by simpa using h1, by simpa using fun h => hke ⟨h1, h⟩⟩
      · left; simpa using h1
    clear hke
    rcases hor with t1 | ⟨t1, t2⟩ <;>
    ( go_wp2
      go_ret
      exact ⟨rfl, HB.out⟩)
  obtain ⟨h1, h2⟩ := hke
  have t1 : (x.k != 2) = false := by simpa using h1
  have t2 : (x.e != 7) = false := by simpa using h2
  have HK1 := Lib.hid h1
  have HK2 := Lib.hid h2
  clear h1 h2
  go_wp2_with fail
  refine (TUniform_any x A1 c1 B1 e1 _ (HT.out.on HB.out) (HX.out.on HB.out (Nat.le_refl _)) HSX.out HV.out HK1.out HK2.out).mono ?_
  rintro r w8 ⟨rfl, hb8⟩
  clear x2 y2 z2
  have H2n := Lib.hid (H2.out.below hb8)
  have HBn := Lib.hid (bel_on HB.out hb8)
  clear hb8 H2 HB
  have H2 := H2n
  have HB := HBn
  clear H2n HBn
  obtain ⟨x2, y2, z2⟩ := H2.out
  go_wp2_with fail
  refine (RefUniform11_any x A1 c1 B1 e1 _ (HX.out.on HB.out (Nat.le_refl _)) HSX.out).mono ?_
  rintro r w9 ⟨rfl, hb9⟩
  clear x2 y2 z2
  have H2n := Lib.hid (H2.out.below hb9)
  have HBn := Lib.hid (bel_on HB.out hb9)
  clear hb9 H2 HB
  have H2 := H2n
  have HB := HBn
  clear H2n HBn
  obtain ⟨x2, y2, z2⟩ := H2.out
  go_wp2
  go_ret
  exact ⟨rfl, HB.out⟩
end Go.Proofs.Ytgleanjfaecceaa
