/- A law of layer 11: TrimIsCanonical. -/
import Derived.Test.YtgleanjfaecceaaLaw11b
namespace Go.Proofs.Ytgleanjfaecceaa
open Go.ChangeShapes Go.WideShapes Go.ChangeAt Go.RowKit
set_option linter.unusedVariables false
set_option linter.unusedSimpArgs false
attribute [local simp] AllK KnowsV look Is

theorem RefValid_c (x : Nd) (A : Option Addr) (c : Nat) (B : Option Addr) (c2 : Nat) (v : Bool) (w : World) (hx : NdR w A c B c2 x) (hs : sizeN x ≤ 1099511627776) (hv : validN x = v) :
    Calls Try.prog 10 #[.agg #[.int .i64 x.k, .int .i64 x.e, .int .i64 x.n, .slice A x.d.length c, .slice B x.ks.length c2]] w fun r w' => r = .returned (.bool v) ∧ Below w.heap.size w w' := hv ▸ RefValid_node x A c B c2 w hx hs
theorem RefTrimmed_c (x : Nd) (A : Option Addr) (c : Nat) (B : Option Addr) (c2 : Nat) (v : Bool) (w : World) (hx : NdR w A c B c2 x) (hs : sizeN x ≤ 1099511627776) (hv : trimmedN x = v) :
    Calls Try.prog 20 #[.agg #[.int .i64 x.k, .int .i64 x.e, .int .i64 x.n, .slice A x.d.length c, .slice B x.ks.length c2]] w fun r w' => r = .returned (.bool v) ∧ Below w.heap.size w w' := hv ▸ RefTrimmed11_node x A c B c2 w hx hs
theorem RefDepth_c (x : Nd) (A : Option Addr) (c : Nat) (B : Option Addr) (c2 : Nat) (D : Nat) (w : World) (hx : NdR w A c B c2 x) (hs : sizeN x ≤ 1099511627776) (hv : depthN x = D) :
    Calls Try.prog 21 #[.agg #[.int .i64 x.k, .int .i64 x.e, .int .i64 x.n, .slice A x.d.length c, .slice B x.ks.length c2]] w fun r w' => r = .returned (.int .i64 D) ∧ Below w.heap.size w w' := hv ▸ RefDepth_node x A c B c2 w hx hs
theorem RefObjects_c (x : Nd) (A : Option Addr) (c : Nat) (B : Option Addr) (c2 : Nat) (D : Nat) (w : World) (hx : NdR w A c B c2 x) (hs : sizeN x ≤ 1099511627776) (hv : objsN x = D) :
    Calls Try.prog 22 #[.agg #[.int .i64 x.k, .int .i64 x.e, .int .i64 x.n, .slice A x.d.length c, .slice B x.ks.length c2]] w fun r w' => r = .returned (.int .i64 D) ∧ Below w.heap.size w w' := hv ▸ RefObjects_node x A c B c2 w hx hs
theorem TTrim_c (x y : Nd) (A : Option Addr) (c : Nat) (B : Option Addr) (c2 : Nat) (w : World) (hT : TabOK w) (hx : NdR w A c B c2 x) (hs : sizeN x ≤ 1099511627776) (hv : validN x = true) (hy : trimN x = y) :
    Calls Try.prog 16 #[.agg #[.int .i64 x.k, .int .i64 x.e, .int .i64 x.n, .slice A x.d.length c, .slice B x.ks.length c2]] w fun r w' => ∃ v, r = .returned v ∧ NodF w.heap.size y v w' ∧ Below w.heap.size w w' := hy ▸ TTrim_any x A c B c2 w hT hx hs hv
attribute [local irreducible] validN fewN eqN trimN trimmedN depthN objsN wordsT ptrsT uniD uniP

set_option maxHeartbeats 4000000 in
set_option maxRecDepth 100000 in
theorem Canonical11_walk (x : Nd) (A1 : Option Addr) (c1 : Nat) (B1 : Option Addr) (e1 : Nat) (w : World) (hT : TabOK w) (hx : NdR w A1 c1 B1 e1 x) (hsx : sizeN x ≤ 1048576) :
    Calls Try.prog 4 #[.agg #[.int .i64 x.k, .int .i64 x.e, .int .i64 x.n, .slice A1 x.d.length c1, .slice B1 x.ks.length e1]] w fun r w' => r = .returned (.bool true) ∧ Below w.heap.size w w' := by
  have HX := Lib.hid hx
  have HT := Lib.hid hT
  have HSX : Hid (sizeN x ≤ 1099511627776) := Lib.hid (by omega)
  clear hx hT
  go_enter Try.func4, Try.ntmps4
  go_wp2_with fail
  refine abs_world (F := fun W => Blk W w.heap.size #[.int .i64 x.k, .int .i64 x.e, .int .i64 x.n, .slice A1 x.d.length c1, .slice B1 x.ks.length e1] ∧ Below w.heap.size w W) ⟨?_, ?_⟩ ?_
  · exact Blk.fresh _ _ _
  · exact (Below.refl _ _).alloc (Nat.le_refl _) _
  rintro w0 ⟨h2, hb0⟩
  have H2 := Lib.hid h2
  have HB := Lib.hid hb0
  clear h2 hb0
  refine (awake11_any _ (HT.out.on HB.out)).mono ?_
  rintro r w1 ⟨rfl, hb1⟩
  have H2n := Lib.hid (H2.out.below hb1)
  have HBn := Lib.hid (bel_on HB.out hb1)
  clear hb1 H2 HB
  have H2 := H2n
  have HB := HBn
  clear H2n HBn
  obtain ⟨x2, y2, z2⟩ := H2.out
  go_wp2_with fail
  refine (RefFew_node x A1 c1 B1 e1 _ (HX.out.on HB.out (Nat.le_refl _)) HSX.out).mono ?_
  rintro r w2 ⟨rfl, hb2⟩
  clear x2 y2 z2
  have H2n := Lib.hid (H2.out.below hb2)
  have HBn := Lib.hid (bel_on HB.out hb2)
  clear hb2 H2 HB
  have H2 := H2n
  have HB := HBn
  clear H2n HBn
  obtain ⟨x2, y2, z2⟩ := H2.out
  cases hf : fewN x with
  | false =>
    clear hf
    go_wp2_with fail
    refine (awake11_any _ (HT.out.on HB.out)).mono ?_
    rintro r w9 ⟨rfl, hb9⟩
    have HB9 := Lib.hid (bel_on HB.out hb9)
    clear hb9
    go_wp2
    go_ret
    exact ⟨rfl, HB9.out⟩
  | true =>
  clear hf
  go_wp2_with fail
  refine (RefValid_node x A1 c1 B1 e1 _ (HX.out.on HB.out (Nat.le_refl _)) HSX.out).mono ?_
  rintro r w3 ⟨rfl, hb3⟩
  clear x2 y2 z2
  have H2n := Lib.hid (H2.out.below hb3)
  have HBn := Lib.hid (bel_on HB.out hb3)
  clear hb3 H2 HB
  have H2 := H2n
  have HB := HBn
  clear H2n HBn
  obtain ⟨x2, y2, z2⟩ := H2.out
  cases hv : validN x with
  | false =>
    clear hv
    go_wp2_with fail
    refine (awake11_any _ (HT.out.on HB.out)).mono ?_
    rintro r w9 ⟨rfl, hb9⟩
    have HB9 := Lib.hid (bel_on HB.out hb9)
    clear hb9
    go_wp2
    go_ret
    exact ⟨rfl, HB9.out⟩
  | true =>
  have HV := Lib.hid hv
  obtain ⟨y, hy⟩ : ∃ y, trimN x = y := ⟨_, rfl⟩
  have HY := Lib.hid hy
  have HVY : Hid (validN y = true) := Lib.hid (by rw [← hy]; exact valid_trim x hv)
  have HTT : Hid (trimN y = y) := Lib.hid (by rw [← hy]; exact trim_trim x hv)
  have HTM : Hid (trimmedN y = true) := Lib.hid (by rw [← hy]; exact trimmed_trim x hv)
  have HSY : Hid (sizeN y ≤ 1099511627776) := Lib.hid (by have := size_trim x; have := HSX.out; rw [hy] at *; omega)
  obtain ⟨D, hD⟩ : ∃ D, depthN x = D := ⟨_, rfl⟩
  obtain ⟨Q, hQ⟩ : ∃ D, objsN x = D := ⟨_, rfl⟩
  have HDX := Lib.hid hD
  have HOX := Lib.hid hQ
  have HDY : Hid (depthN y = D) := Lib.hid (by rw [← hy, depth_trim, hD])
  have HOY : Hid (objsN y = Q) := Lib.hid (by rw [← hy, objs_trim, hQ])
  clear hv hy hD hQ
  go_wp2_with fail
  refine (TTrim_c x y A1 c1 B1 e1 _ (HT.out.on HB.out) (HX.out.on HB.out (Nat.le_refl _)) HSX.out HV.out HY.out).mono ?_
  rintro r w4 ⟨v3, rfl, ⟨A5, c5, B5, e5, hi5, rfl, hh5, ho5⟩, hb4⟩
  have HO := Lib.hid ho5.nd
  clear ho5 hh5 x2 y2 z2
  have H2n := Lib.hid (H2.out.below hb4)
  have HBn := Lib.hid (bel_on HB.out hb4)
  clear hb4 H2 HB
  have H2 := H2n
  have HB := HBn
  clear H2n HBn
  obtain ⟨x2, y2, z2⟩ := H2.out
  go_wp2_with fail
  refine abs_code10 (F := fun W => Blk W w.heap.size #[.int .i64 x.k, .int .i64 x.e, .int .i64 x.n, .slice A1 x.d.length c1, .slice B1 x.ks.length e1] ∧ Blk W w4.heap.size #[.int .i64 y.k, .int .i64 y.e, .int .i64 y.n, .slice A5 y.d.length c5, .slice B5 y.ks.length e5] ∧ NdR W A5 c5 B5 e5 y ∧ Below w.heap.size w W ∧ w.heap.size < w4.heap.size) ⟨?_, ?_, ?_, ?_, ?_⟩ ?_
  · exact H2.out.alloc _
  · exact Blk.fresh _ _ _
  · exact HO.out.on ((Below.refl _ _).alloc (Nat.le_refl _) _) (Nat.le_refl _)
  · exact HB.out.alloc HB.out.size _
  · exact H2.out.lt
  generalize w4.heap.size = bo
  clear H2 HO HB x2 y2 z2
  rintro w3 ⟨h2, h3, ho, hb, hlo⟩
  have H2 := Lib.hid h2
  have H3 := Lib.hid h3
  have HO := Lib.hid ho
  have HB := Lib.hid hb
  clear h2 h3 ho hb
  rename_i KK hKK
  cases htx : trimmedN x with
  | true =>
    have HTX := Lib.hid htx
    have HEQ : Hid (eqN y x = true) := Lib.hid (eqN_yes (by rw [← HY.out]; exact trimmed_fix x htx))
    clear htx
    refine wp_region_chain (by kernel_rfl) (by kernel_rfl) ?_
    refine chain_val (u := ?_) [3] rfl (by kernel_rfl) trivial (fun ρ wc hbc hcn hk => ?_) ?_; rotate_left
    · obtain ⟨hcn, -⟩ := hcn
      simp at hk
      obtain ⟨x2, y2, z2⟩ := H2.out.drew.below hbc
      obtain ⟨x3, y3, z3⟩ := H3.out.drew.below hbc
      go_simp
      rfl
    refine chain_call (T := NodF w.heap.size y) 16 [19] rfl (by kernel_rfl) trivial (stable_nod _ _) (fun ρ wc hbc hcn hk => ?_) ?_
    · obtain ⟨hcn, hfn⟩ := hcn
      simp at hk
      refine ⟨_, by go_simp; rfl, ?_⟩
      refine (TTrim_c y y A5 c5 B5 e5 wc (HT.out.on (bel_on (bel_drew HB.out) hbc)) (HO.out.on (w' := wc) (N := w3.heap.size) ⟨hbc.os, hbc.tape, hbc.output, hbc.size, hbc.block⟩ (Nat.le_refl _)) HSY.out HVY.out HTT.out).mono ?_
      rintro r w' ⟨v5, rfl, ⟨A6, c6, B6, d6, hi5, rfl, h5, h6⟩, hb5⟩
      exact ⟨_, rfl, ⟨A6, c6, B6, d6, hi5, rfl, h5, h6.wide (bel_on (bel_drew HB.out) hbc).size (Nat.le_refl _)⟩, hb5⟩
    refine chain_val (u := ?_) [3] rfl (by kernel_rfl) trivial (fun ρ wc hbc hcn hk => ?_) ?_; rotate_left
    · obtain ⟨hcn, -⟩ := hcn
      simp at hk
      obtain ⟨x2, y2, z2⟩ := H2.out.drew.below hbc
      obtain ⟨x3, y3, z3⟩ := H3.out.drew.below hbc
      go_simp
      rfl
    refine chain_call (T := Is (.bool true)) 15 [20, 21] rfl (by kernel_rfl) trivial (stable_is _) (fun ρ wc hbc hcn hk => ?_) ?_
    · obtain ⟨hcn, hfn⟩ := hcn
      simp at hk
      obtain ⟨⟨A6, c6, B6, d6, hi6, e6, h6, n6⟩, hk2⟩ := hk
      refine ⟨_, by go_simp; rfl, ?_⟩
      refine (RefEqual_c y y A6 c6 B6 d6 A5 c5 B5 e5 true wc n6.nd (HO.out.on (w' := wc) (N := w3.heap.size) ⟨hbc.os, hbc.tape, hbc.output, hbc.size, hbc.block⟩ (Nat.le_refl _)) (eqN_yes rfl)).mono ?_
      rintro e w' ⟨rfl, hbq⟩
      refine ⟨_, rfl, ?_, hbq⟩
      unfold Is
      rfl
    refine chain_val (u := ?_) [22] rfl (by kernel_rfl) trivial (fun ρ wc hbc hcn hk => ?_) ?_; rotate_left
    · obtain ⟨hcn, -⟩ := hcn
      simp at hk
      go_simp
      rfl
    refine chain_val (u := ?_) [3] rfl (by kernel_rfl) ⟨23, by decide +kernel, rfl, fun w x hx => by simpa using hx⟩ (fun ρ wc hbc hcn hk => ?_) ?_; rotate_left
    · obtain ⟨hcn, -⟩ := hcn
      simp at hk
      obtain ⟨x2, y2, z2⟩ := H2.out.drew.below hbc
      obtain ⟨x3, y3, z3⟩ := H3.out.drew.below hbc
      go_simp
      rfl
    refine chain_call (T := Is ?_) 10 [24] rfl (by kernel_rfl) ⟨23, by decide +kernel, rfl, fun w x hx => by simpa using hx⟩ (stable_is _) (fun ρ wc hbc hcn hk => ?_) ?_; rotate_left
    · obtain ⟨hcn, hfn⟩ := hcn
      simp at hk
      refine ⟨_, by go_simp; rfl, ?_⟩
      refine (RefValid_c y A5 c5 B5 e5 true wc (HO.out.on (w' := wc) (N := w3.heap.size) ⟨hbc.os, hbc.tape, hbc.output, hbc.size, hbc.block⟩ (Nat.le_refl _)) HSY.out HVY.out).mono ?_
      rintro e w' ⟨rfl, hbq⟩
      refine ⟨_, rfl, ?_, hbq⟩
      unfold Is
      rfl
    refine chain_val (u := ?_) [23, 25] rfl (by kernel_rfl) trivial (fun ρ wc hbc hcn hk => ?_) ?_; rotate_left
    · obtain ⟨hcn, -⟩ := hcn
      simp at hk
      go_simp
      rfl
    refine chain_val (u := ?_) [26] rfl (by kernel_rfl) trivial (fun ρ wc hbc hcn hk => ?_) ?_; rotate_left
    · obtain ⟨hcn, -⟩ := hcn
      simp at hk
      go_simp
      rfl
    refine chain_val (u := ?_) [3] rfl (by kernel_rfl) ⟨27, by decide +kernel, rfl, fun w x hx => by simpa using hx⟩ (fun ρ wc hbc hcn hk => ?_) ?_; rotate_left
    · obtain ⟨hcn, -⟩ := hcn
      simp at hk
      obtain ⟨x2, y2, z2⟩ := H2.out.drew.below hbc
      obtain ⟨x3, y3, z3⟩ := H3.out.drew.below hbc
      go_simp
      rfl
    refine chain_call (T := Is ?_) 20 [28] rfl (by kernel_rfl) ⟨27, by decide +kernel, rfl, fun w x hx => by simpa using hx⟩ (stable_is _) (fun ρ wc hbc hcn hk => ?_) ?_; rotate_left
    · obtain ⟨hcn, hfn⟩ := hcn
      simp at hk
      refine ⟨_, by go_simp; rfl, ?_⟩
      refine (RefTrimmed_c y A5 c5 B5 e5 true wc (HO.out.on (w' := wc) (N := w3.heap.size) ⟨hbc.os, hbc.tape, hbc.output, hbc.size, hbc.block⟩ (Nat.le_refl _)) HSY.out HTM.out).mono ?_
      rintro e w' ⟨rfl, hbq⟩
      refine ⟨_, rfl, ?_, hbq⟩
      unfold Is
      rfl
    refine chain_val (u := ?_) [27, 29] rfl (by kernel_rfl) trivial (fun ρ wc hbc hcn hk => ?_) ?_; rotate_left
    · obtain ⟨hcn, -⟩ := hcn
      simp at hk
      go_simp
      rfl
    refine chain_val (u := ?_) [30] rfl (by kernel_rfl) trivial (fun ρ wc hbc hcn hk => ?_) ?_; rotate_left
    · obtain ⟨hcn, -⟩ := hcn
      simp at hk
      go_simp
      rfl
    refine chain_val (u := ?_) [3] rfl (by kernel_rfl) ⟨31, by decide +kernel, rfl, fun w x hx => by simpa using hx⟩ (fun ρ wc hbc hcn hk => ?_) ?_; rotate_left
    · obtain ⟨hcn, -⟩ := hcn
      simp at hk
      obtain ⟨x2, y2, z2⟩ := H2.out.drew.below hbc
      obtain ⟨x3, y3, z3⟩ := H3.out.drew.below hbc
      go_simp
      rfl
    refine chain_call (T := Is ?_) 21 [32] rfl (by kernel_rfl) ⟨31, by decide +kernel, rfl, fun w x hx => by simpa using hx⟩ (stable_is _) (fun ρ wc hbc hcn hk => ?_) ?_; rotate_left
    · obtain ⟨hcn, hfn⟩ := hcn
      simp at hk
      refine ⟨_, by go_simp; rfl, ?_⟩
      refine (RefDepth_c y A5 c5 B5 e5 D wc (HO.out.on (w' := wc) (N := w3.heap.size) ⟨hbc.os, hbc.tape, hbc.output, hbc.size, hbc.block⟩ (Nat.le_refl _)) HSY.out HDY.out).mono ?_
      rintro e w' ⟨rfl, hbq⟩
      refine ⟨_, rfl, ?_, hbq⟩
      unfold Is
      rfl
    refine chain_val (u := ?_) [1] rfl (by kernel_rfl) ⟨31, by decide +kernel, rfl, fun w x hx => by simpa using hx⟩ (fun ρ wc hbc hcn hk => ?_) ?_; rotate_left
    · obtain ⟨hcn, -⟩ := hcn
      simp at hk
      obtain ⟨x2, y2, z2⟩ := H2.out.drew.below hbc
      obtain ⟨x3, y3, z3⟩ := H3.out.drew.below hbc
      go_simp
      rfl
    refine chain_call (T := Is ?_) 21 [34] rfl (by kernel_rfl) ⟨31, by decide +kernel, rfl, fun w x hx => by simpa using hx⟩ (stable_is _) (fun ρ wc hbc hcn hk => ?_) ?_; rotate_left
    · obtain ⟨hcn, hfn⟩ := hcn
      simp at hk
      refine ⟨_, by go_simp; rfl, ?_⟩
      refine (RefDepth_c x A1 c1 B1 e1 D wc (HX.out.on (bel_on (bel_drew HB.out) hbc) (Nat.le_refl _)) HSX.out HDX.out).mono ?_
      rintro e w' ⟨rfl, hbq⟩
      refine ⟨_, rfl, ?_, hbq⟩
      unfold Is
      rfl
    refine chain_val (u := ?_) [33, 35] rfl (by kernel_rfl) ⟨31, by decide +kernel, rfl, fun w x hx => by simpa using hx⟩ (fun ρ wc hbc hcn hk => ?_) ?_; rotate_left
    · obtain ⟨hcn, -⟩ := hcn
      simp at hk
      go_simp
      rfl
    refine chain_val (u := ?_) [31, 36] rfl (by kernel_rfl) trivial (fun ρ wc hbc hcn hk => ?_) ?_; rotate_left
    · obtain ⟨hcn, -⟩ := hcn
      simp at hk
      go_simp
      rfl
    refine chain_val (u := ?_) [37] rfl (by kernel_rfl) trivial (fun ρ wc hbc hcn hk => ?_) ?_; rotate_left
    · obtain ⟨hcn, -⟩ := hcn
      simp at hk
      go_simp
      rfl
    refine chain_val (u := ?_) [3] rfl (by kernel_rfl) ⟨38, by decide +kernel, rfl, fun w x hx => by simpa using hx⟩ (fun ρ wc hbc hcn hk => ?_) ?_; rotate_left
    · obtain ⟨hcn, -⟩ := hcn
      simp at hk
      obtain ⟨x2, y2, z2⟩ := H2.out.drew.below hbc
      obtain ⟨x3, y3, z3⟩ := H3.out.drew.below hbc
      go_simp
      rfl
    refine chain_call (T := Is ?_) 22 [39] rfl (by kernel_rfl) ⟨38, by decide +kernel, rfl, fun w x hx => by simpa using hx⟩ (stable_is _) (fun ρ wc hbc hcn hk => ?_) ?_; rotate_left
    · obtain ⟨hcn, hfn⟩ := hcn
      simp at hk
      refine ⟨_, by go_simp; rfl, ?_⟩
      refine (RefObjects_c y A5 c5 B5 e5 Q wc (HO.out.on (w' := wc) (N := w3.heap.size) ⟨hbc.os, hbc.tape, hbc.output, hbc.size, hbc.block⟩ (Nat.le_refl _)) HSY.out HOY.out).mono ?_
      rintro e w' ⟨rfl, hbq⟩
      refine ⟨_, rfl, ?_, hbq⟩
      unfold Is
      rfl
    refine chain_val (u := ?_) [1] rfl (by kernel_rfl) ⟨38, by decide +kernel, rfl, fun w x hx => by simpa using hx⟩ (fun ρ wc hbc hcn hk => ?_) ?_; rotate_left
    · obtain ⟨hcn, -⟩ := hcn
      simp at hk
      obtain ⟨x2, y2, z2⟩ := H2.out.drew.below hbc
      obtain ⟨x3, y3, z3⟩ := H3.out.drew.below hbc
      go_simp
      rfl
    refine chain_call (T := Is ?_) 22 [41] rfl (by kernel_rfl) ⟨38, by decide +kernel, rfl, fun w x hx => by simpa using hx⟩ (stable_is _) (fun ρ wc hbc hcn hk => ?_) ?_; rotate_left
    · obtain ⟨hcn, hfn⟩ := hcn
      simp at hk
      refine ⟨_, by go_simp; rfl, ?_⟩
      refine (RefObjects_c x A1 c1 B1 e1 Q wc (HX.out.on (bel_on (bel_drew HB.out) hbc) (Nat.le_refl _)) HSX.out HOX.out).mono ?_
      rintro e w' ⟨rfl, hbq⟩
      refine ⟨_, rfl, ?_, hbq⟩
      unfold Is
      rfl
    refine chain_val (u := ?_) [40, 42] rfl (by kernel_rfl) ⟨38, by decide +kernel, rfl, fun w x hx => by simpa using hx⟩ (fun ρ wc hbc hcn hk => ?_) ?_; rotate_left
    · obtain ⟨hcn, -⟩ := hcn
      simp at hk
      go_simp
      rfl
    refine chain_val (u := ?_) [38, 43] rfl (by kernel_rfl) trivial (fun ρ wc hbc hcn hk => ?_) ?_; rotate_left
    · obtain ⟨hcn, -⟩ := hcn
      simp at hk
      go_simp
      rfl
    refine chain_val (u := ?_) [44] rfl (by kernel_rfl) trivial (fun ρ wc hbc hcn hk => ?_) ?_; rotate_left
    · obtain ⟨hcn, -⟩ := hcn
      simp at hk
      go_simp
      rfl
    refine chain_val (u := ?_) [1] rfl (by kernel_rfl) ⟨45, by decide +kernel, rfl, fun w x hx => by simpa using hx⟩ (fun ρ wc hbc hcn hk => ?_) ?_; rotate_left
    · obtain ⟨hcn, -⟩ := hcn
      simp at hk
      obtain ⟨x2, y2, z2⟩ := H2.out.drew.below hbc
      obtain ⟨x3, y3, z3⟩ := H3.out.drew.below hbc
      go_simp
      rfl
    refine chain_call (T := Is ?_) 20 [46] rfl (by kernel_rfl) ⟨45, by decide +kernel, rfl, fun w x hx => by simpa using hx⟩ (stable_is _) (fun ρ wc hbc hcn hk => ?_) ?_; rotate_left
    · obtain ⟨hcn, hfn⟩ := hcn
      simp at hk
      refine ⟨_, by go_simp; rfl, ?_⟩
      refine (RefTrimmed_c x A1 c1 B1 e1 true wc (HX.out.on (bel_on (bel_drew HB.out) hbc) (Nat.le_refl _)) HSX.out HTX.out).mono ?_
      rintro e w' ⟨rfl, hbq⟩
      refine ⟨_, rfl, ?_, hbq⟩
      unfold Is
      rfl
    refine chain_val (u := ?_) [47] rfl (by kernel_rfl) ⟨45, by decide +kernel, rfl, fun w x hx => by simpa using hx⟩ (fun ρ wc hbc hcn hk => ?_) ?_; rotate_left
    · obtain ⟨hcn, -⟩ := hcn
      simp at hk
      go_simp
      rfl
    refine chain_val (u := ?_) [48] rfl (by kernel_rfl) ⟨45, by decide +kernel, rfl, fun w x hx => by simpa using hx⟩ (fun ρ wc hbc hcn hk => ?_) ?_; rotate_left
    · obtain ⟨hcn, -⟩ := hcn
      simp at hk
      go_simp
      rfl
    refine chain_val (u := ?_) [3] rfl (by kernel_rfl) ⟨49, by decide +kernel, rfl, fun w x hx => by simpa using hx⟩ (fun ρ wc hbc hcn hk => ?_) ?_; rotate_left
    · obtain ⟨hcn, -⟩ := hcn
      simp at hk
      obtain ⟨x2, y2, z2⟩ := H2.out.drew.below hbc
      obtain ⟨x3, y3, z3⟩ := H3.out.drew.below hbc
      go_simp
      rfl
    refine chain_val (u := ?_) [1] rfl (by kernel_rfl) ⟨49, by decide +kernel, rfl, fun w x hx => by simpa using hx⟩ (fun ρ wc hbc hcn hk => ?_) ?_; rotate_left
    · obtain ⟨hcn, -⟩ := hcn
      simp at hk
      obtain ⟨x2, y2, z2⟩ := H2.out.drew.below hbc
      obtain ⟨x3, y3, z3⟩ := H3.out.drew.below hbc
      go_simp
      rfl
    refine chain_call (T := Is ?_) 15 [50, 51] rfl (by kernel_rfl) ⟨49, by decide +kernel, rfl, fun w x hx => by simpa using hx⟩ (stable_is _) (fun ρ wc hbc hcn hk => ?_) ?_; rotate_left
    · obtain ⟨hcn, hfn⟩ := hcn
      simp at hk
      refine ⟨_, by go_simp; rfl, ?_⟩
      refine (RefEqual_c y x A5 c5 B5 e5 A1 c1 B1 e1 true wc (HO.out.on (w' := wc) (N := w3.heap.size) ⟨hbc.os, hbc.tape, hbc.output, hbc.size, hbc.block⟩ (Nat.le_refl _)) (HX.out.on (bel_on (bel_drew HB.out) hbc) (Nat.le_refl _)) HEQ.out).mono ?_
      rintro e w' ⟨rfl, hbq⟩
      refine ⟨_, rfl, ?_, hbq⟩
      unfold Is
      rfl
    refine chain_val (u := ?_) [49, 52] rfl (by kernel_rfl) ⟨45, by decide +kernel, rfl, fun w x hx => by simpa using hx⟩ (fun ρ wc hbc hcn hk => ?_) ?_; rotate_left
    · obtain ⟨hcn, -⟩ := hcn
      simp at hk
      go_simp
      rfl
    refine chain_val (u := ?_) [45, 53] rfl (by kernel_rfl) trivial (fun ρ wc hbc hcn hk => ?_) ?_; rotate_left
    · obtain ⟨hcn, -⟩ := hcn
      simp at hk
      go_simp
      rfl
    refine chain_val (u := ?_) [54] rfl (by kernel_rfl) trivial (fun ρ wc hbc hcn hk => ?_) ?_; rotate_left
    · obtain ⟨hcn, -⟩ := hcn
      simp at hk
      go_simp
      rfl
    refine chain_end_lit 55 rfl (fun ff w7 hb7 hk => ?_)
    refine hKK _ _ ?_
    simp [AllN] at hk
    simp only [frameL, hk, Nat.zero_add, Nat.reduceAdd]
    have hb7' : Below w3.heap.size w3 w7 := ⟨hb7.os, hb7.tape, hb7.output, hb7.size, hb7.block⟩
    have HB7 := Lib.hid (bel_on HB.out hb7')
    clear hb7 hk hb7'
    go_wp2
    go_ret
    exact ⟨rfl, HB7.out⟩
  | false =>
    have HTX := Lib.hid htx
    clear htx
    refine wp_region_chain (by kernel_rfl) (by kernel_rfl) ?_
    refine chain_val (u := ?_) [3] rfl (by kernel_rfl) trivial (fun ρ wc hbc hcn hk => ?_) ?_; rotate_left
    · obtain ⟨hcn, -⟩ := hcn
      simp at hk
      obtain ⟨x2, y2, z2⟩ := H2.out.drew.below hbc
      obtain ⟨x3, y3, z3⟩ := H3.out.drew.below hbc
      go_simp
      rfl
    refine chain_call (T := NodF w.heap.size y) 16 [19] rfl (by kernel_rfl) trivial (stable_nod _ _) (fun ρ wc hbc hcn hk => ?_) ?_
    · obtain ⟨hcn, hfn⟩ := hcn
      simp at hk
      refine ⟨_, by go_simp; rfl, ?_⟩
      refine (TTrim_c y y A5 c5 B5 e5 wc (HT.out.on (bel_on (bel_drew HB.out) hbc)) (HO.out.on (w' := wc) (N := w3.heap.size) ⟨hbc.os, hbc.tape, hbc.output, hbc.size, hbc.block⟩ (Nat.le_refl _)) HSY.out HVY.out HTT.out).mono ?_
      rintro r w' ⟨v5, rfl, ⟨A6, c6, B6, d6, hi5, rfl, h5, h6⟩, hb5⟩
      exact ⟨_, rfl, ⟨A6, c6, B6, d6, hi5, rfl, h5, h6.wide (bel_on (bel_drew HB.out) hbc).size (Nat.le_refl _)⟩, hb5⟩
    refine chain_val (u := ?_) [3] rfl (by kernel_rfl) trivial (fun ρ wc hbc hcn hk => ?_) ?_; rotate_left
    · obtain ⟨hcn, -⟩ := hcn
      simp at hk
      obtain ⟨x2, y2, z2⟩ := H2.out.drew.below hbc
      obtain ⟨x3, y3, z3⟩ := H3.out.drew.below hbc
      go_simp
      rfl
    refine chain_call (T := Is (.bool true)) 15 [20, 21] rfl (by kernel_rfl) trivial (stable_is _) (fun ρ wc hbc hcn hk => ?_) ?_
    · obtain ⟨hcn, hfn⟩ := hcn
      simp at hk
      obtain ⟨⟨A6, c6, B6, d6, hi6, e6, h6, n6⟩, hk2⟩ := hk
      refine ⟨_, by go_simp; rfl, ?_⟩
      refine (RefEqual_c y y A6 c6 B6 d6 A5 c5 B5 e5 true wc n6.nd (HO.out.on (w' := wc) (N := w3.heap.size) ⟨hbc.os, hbc.tape, hbc.output, hbc.size, hbc.block⟩ (Nat.le_refl _)) (eqN_yes rfl)).mono ?_
      rintro e w' ⟨rfl, hbq⟩
      refine ⟨_, rfl, ?_, hbq⟩
      unfold Is
      rfl
    refine chain_val (u := ?_) [22] rfl (by kernel_rfl) trivial (fun ρ wc hbc hcn hk => ?_) ?_; rotate_left
    · obtain ⟨hcn, -⟩ := hcn
      simp at hk
      go_simp
      rfl
    refine chain_val (u := ?_) [3] rfl (by kernel_rfl) ⟨23, by decide +kernel, rfl, fun w x hx => by simpa using hx⟩ (fun ρ wc hbc hcn hk => ?_) ?_; rotate_left
    · obtain ⟨hcn, -⟩ := hcn
      simp at hk
      obtain ⟨x2, y2, z2⟩ := H2.out.drew.below hbc
      obtain ⟨x3, y3, z3⟩ := H3.out.drew.below hbc
      go_simp
      rfl
    refine chain_call (T := Is ?_) 10 [24] rfl (by kernel_rfl) ⟨23, by decide +kernel, rfl, fun w x hx => by simpa using hx⟩ (stable_is _) (fun ρ wc hbc hcn hk => ?_) ?_; rotate_left
    · obtain ⟨hcn, hfn⟩ := hcn
      simp at hk
      refine ⟨_, by go_simp; rfl, ?_⟩
      refine (RefValid_c y A5 c5 B5 e5 true wc (HO.out.on (w' := wc) (N := w3.heap.size) ⟨hbc.os, hbc.tape, hbc.output, hbc.size, hbc.block⟩ (Nat.le_refl _)) HSY.out HVY.out).mono ?_
      rintro e w' ⟨rfl, hbq⟩
      refine ⟨_, rfl, ?_, hbq⟩
      unfold Is
      rfl
    refine chain_val (u := ?_) [23, 25] rfl (by kernel_rfl) trivial (fun ρ wc hbc hcn hk => ?_) ?_; rotate_left
    · obtain ⟨hcn, -⟩ := hcn
      simp at hk
      go_simp
      rfl
    refine chain_val (u := ?_) [26] rfl (by kernel_rfl) trivial (fun ρ wc hbc hcn hk => ?_) ?_; rotate_left
    · obtain ⟨hcn, -⟩ := hcn
      simp at hk
      go_simp
      rfl
    refine chain_val (u := ?_) [3] rfl (by kernel_rfl) ⟨27, by decide +kernel, rfl, fun w x hx => by simpa using hx⟩ (fun ρ wc hbc hcn hk => ?_) ?_; rotate_left
    · obtain ⟨hcn, -⟩ := hcn
      simp at hk
      obtain ⟨x2, y2, z2⟩ := H2.out.drew.below hbc
      obtain ⟨x3, y3, z3⟩ := H3.out.drew.below hbc
      go_simp
      rfl
    refine chain_call (T := Is ?_) 20 [28] rfl (by kernel_rfl) ⟨27, by decide +kernel, rfl, fun w x hx => by simpa using hx⟩ (stable_is _) (fun ρ wc hbc hcn hk => ?_) ?_; rotate_left
    · obtain ⟨hcn, hfn⟩ := hcn
      simp at hk
      refine ⟨_, by go_simp; rfl, ?_⟩
      refine (RefTrimmed_c y A5 c5 B5 e5 true wc (HO.out.on (w' := wc) (N := w3.heap.size) ⟨hbc.os, hbc.tape, hbc.output, hbc.size, hbc.block⟩ (Nat.le_refl _)) HSY.out HTM.out).mono ?_
      rintro e w' ⟨rfl, hbq⟩
      refine ⟨_, rfl, ?_, hbq⟩
      unfold Is
      rfl
    refine chain_val (u := ?_) [27, 29] rfl (by kernel_rfl) trivial (fun ρ wc hbc hcn hk => ?_) ?_; rotate_left
    · obtain ⟨hcn, -⟩ := hcn
      simp at hk
      go_simp
      rfl
    refine chain_val (u := ?_) [30] rfl (by kernel_rfl) trivial (fun ρ wc hbc hcn hk => ?_) ?_; rotate_left
    · obtain ⟨hcn, -⟩ := hcn
      simp at hk
      go_simp
      rfl
    refine chain_val (u := ?_) [3] rfl (by kernel_rfl) ⟨31, by decide +kernel, rfl, fun w x hx => by simpa using hx⟩ (fun ρ wc hbc hcn hk => ?_) ?_; rotate_left
    · obtain ⟨hcn, -⟩ := hcn
      simp at hk
      obtain ⟨x2, y2, z2⟩ := H2.out.drew.below hbc
      obtain ⟨x3, y3, z3⟩ := H3.out.drew.below hbc
      go_simp
      rfl
    refine chain_call (T := Is ?_) 21 [32] rfl (by kernel_rfl) ⟨31, by decide +kernel, rfl, fun w x hx => by simpa using hx⟩ (stable_is _) (fun ρ wc hbc hcn hk => ?_) ?_; rotate_left
    · obtain ⟨hcn, hfn⟩ := hcn
      simp at hk
      refine ⟨_, by go_simp; rfl, ?_⟩
      refine (RefDepth_c y A5 c5 B5 e5 D wc (HO.out.on (w' := wc) (N := w3.heap.size) ⟨hbc.os, hbc.tape, hbc.output, hbc.size, hbc.block⟩ (Nat.le_refl _)) HSY.out HDY.out).mono ?_
      rintro e w' ⟨rfl, hbq⟩
      refine ⟨_, rfl, ?_, hbq⟩
      unfold Is
      rfl
    refine chain_val (u := ?_) [1] rfl (by kernel_rfl) ⟨31, by decide +kernel, rfl, fun w x hx => by simpa using hx⟩ (fun ρ wc hbc hcn hk => ?_) ?_; rotate_left
    · obtain ⟨hcn, -⟩ := hcn
      simp at hk
      obtain ⟨x2, y2, z2⟩ := H2.out.drew.below hbc
      obtain ⟨x3, y3, z3⟩ := H3.out.drew.below hbc
      go_simp
      rfl
    refine chain_call (T := Is ?_) 21 [34] rfl (by kernel_rfl) ⟨31, by decide +kernel, rfl, fun w x hx => by simpa using hx⟩ (stable_is _) (fun ρ wc hbc hcn hk => ?_) ?_; rotate_left
    · obtain ⟨hcn, hfn⟩ := hcn
      simp at hk
      refine ⟨_, by go_simp; rfl, ?_⟩
      refine (RefDepth_c x A1 c1 B1 e1 D wc (HX.out.on (bel_on (bel_drew HB.out) hbc) (Nat.le_refl _)) HSX.out HDX.out).mono ?_
      rintro e w' ⟨rfl, hbq⟩
      refine ⟨_, rfl, ?_, hbq⟩
      unfold Is
      rfl
    refine chain_val (u := ?_) [33, 35] rfl (by kernel_rfl) ⟨31, by decide +kernel, rfl, fun w x hx => by simpa using hx⟩ (fun ρ wc hbc hcn hk => ?_) ?_; rotate_left
    · obtain ⟨hcn, -⟩ := hcn
      simp at hk
      go_simp
      rfl
    refine chain_val (u := ?_) [31, 36] rfl (by kernel_rfl) trivial (fun ρ wc hbc hcn hk => ?_) ?_; rotate_left
    · obtain ⟨hcn, -⟩ := hcn
      simp at hk
      go_simp
      rfl
    refine chain_val (u := ?_) [37] rfl (by kernel_rfl) trivial (fun ρ wc hbc hcn hk => ?_) ?_; rotate_left
    · obtain ⟨hcn, -⟩ := hcn
      simp at hk
      go_simp
      rfl
    refine chain_val (u := ?_) [3] rfl (by kernel_rfl) ⟨38, by decide +kernel, rfl, fun w x hx => by simpa using hx⟩ (fun ρ wc hbc hcn hk => ?_) ?_; rotate_left
    · obtain ⟨hcn, -⟩ := hcn
      simp at hk
      obtain ⟨x2, y2, z2⟩ := H2.out.drew.below hbc
      obtain ⟨x3, y3, z3⟩ := H3.out.drew.below hbc
      go_simp
      rfl
    refine chain_call (T := Is ?_) 22 [39] rfl (by kernel_rfl) ⟨38, by decide +kernel, rfl, fun w x hx => by simpa using hx⟩ (stable_is _) (fun ρ wc hbc hcn hk => ?_) ?_; rotate_left
    · obtain ⟨hcn, hfn⟩ := hcn
      simp at hk
      refine ⟨_, by go_simp; rfl, ?_⟩
      refine (RefObjects_c y A5 c5 B5 e5 Q wc (HO.out.on (w' := wc) (N := w3.heap.size) ⟨hbc.os, hbc.tape, hbc.output, hbc.size, hbc.block⟩ (Nat.le_refl _)) HSY.out HOY.out).mono ?_
      rintro e w' ⟨rfl, hbq⟩
      refine ⟨_, rfl, ?_, hbq⟩
      unfold Is
      rfl
    refine chain_val (u := ?_) [1] rfl (by kernel_rfl) ⟨38, by decide +kernel, rfl, fun w x hx => by simpa using hx⟩ (fun ρ wc hbc hcn hk => ?_) ?_; rotate_left
    · obtain ⟨hcn, -⟩ := hcn
      simp at hk
      obtain ⟨x2, y2, z2⟩ := H2.out.drew.below hbc
      obtain ⟨x3, y3, z3⟩ := H3.out.drew.below hbc
      go_simp
      rfl
    refine chain_call (T := Is ?_) 22 [41] rfl (by kernel_rfl) ⟨38, by decide +kernel, rfl, fun w x hx => by simpa using hx⟩ (stable_is _) (fun ρ wc hbc hcn hk => ?_) ?_; rotate_left
    · obtain ⟨hcn, hfn⟩ := hcn
      simp at hk
      refine ⟨_, by go_simp; rfl, ?_⟩
      refine (RefObjects_c x A1 c1 B1 e1 Q wc (HX.out.on (bel_on (bel_drew HB.out) hbc) (Nat.le_refl _)) HSX.out HOX.out).mono ?_
      rintro e w' ⟨rfl, hbq⟩
      refine ⟨_, rfl, ?_, hbq⟩
      unfold Is
      rfl
    refine chain_val (u := ?_) [40, 42] rfl (by kernel_rfl) ⟨38, by decide +kernel, rfl, fun w x hx => by simpa using hx⟩ (fun ρ wc hbc hcn hk => ?_) ?_; rotate_left
    · obtain ⟨hcn, -⟩ := hcn
      simp at hk
      go_simp
      rfl
    refine chain_val (u := ?_) [38, 43] rfl (by kernel_rfl) trivial (fun ρ wc hbc hcn hk => ?_) ?_; rotate_left
    · obtain ⟨hcn, -⟩ := hcn
      simp at hk
      go_simp
      rfl
    refine chain_val (u := ?_) [44] rfl (by kernel_rfl) trivial (fun ρ wc hbc hcn hk => ?_) ?_; rotate_left
    · obtain ⟨hcn, -⟩ := hcn
      simp at hk
      go_simp
      rfl
    refine chain_val (u := ?_) [1] rfl (by kernel_rfl) ⟨45, by decide +kernel, rfl, fun w x hx => by simpa using hx⟩ (fun ρ wc hbc hcn hk => ?_) ?_; rotate_left
    · obtain ⟨hcn, -⟩ := hcn
      simp at hk
      obtain ⟨x2, y2, z2⟩ := H2.out.drew.below hbc
      obtain ⟨x3, y3, z3⟩ := H3.out.drew.below hbc
      go_simp
      rfl
    refine chain_call (T := Is ?_) 20 [46] rfl (by kernel_rfl) ⟨45, by decide +kernel, rfl, fun w x hx => by simpa using hx⟩ (stable_is _) (fun ρ wc hbc hcn hk => ?_) ?_; rotate_left
    · obtain ⟨hcn, hfn⟩ := hcn
      simp at hk
      refine ⟨_, by go_simp; rfl, ?_⟩
      refine (RefTrimmed_c x A1 c1 B1 e1 false wc (HX.out.on (bel_on (bel_drew HB.out) hbc) (Nat.le_refl _)) HSX.out HTX.out).mono ?_
      rintro e w' ⟨rfl, hbq⟩
      refine ⟨_, rfl, ?_, hbq⟩
      unfold Is
      rfl
    refine chain_val (u := ?_) [47] rfl (by kernel_rfl) ⟨45, by decide +kernel, rfl, fun w x hx => by simpa using hx⟩ (fun ρ wc hbc hcn hk => ?_) ?_; rotate_left
    · obtain ⟨hcn, -⟩ := hcn
      simp at hk
      go_simp
      rfl
    refine chain_val (u := ?_) [48] rfl (by kernel_rfl) ⟨45, by decide +kernel, rfl, fun w x hx => by simpa using hx⟩ (fun ρ wc hbc hcn hk => ?_) ?_; rotate_left
    · obtain ⟨hcn, -⟩ := hcn
      simp at hk
      go_simp
      rfl
    refine chain_skip (s := 49) (c := true) rfl rfl (by decide +kernel) rfl rfl (fun w x hx => by simpa using hx) ?_
    refine chain_skip (s := 49) (c := true) rfl rfl (by decide +kernel) rfl rfl (fun w x hx => by simpa using hx) ?_
    refine chain_skip (s := 49) (c := true) rfl rfl (by decide +kernel) rfl rfl (fun w x hx => by simpa using hx) ?_
    refine chain_val (u := ?_) [49, 52] rfl (by kernel_rfl) ⟨45, by decide +kernel, rfl, fun w x hx => by simpa using hx⟩ (fun ρ wc hbc hcn hk => ?_) ?_; rotate_left
    · obtain ⟨hcn, -⟩ := hcn
      simp at hk
      go_simp
      rfl
    refine chain_val (u := ?_) [45, 53] rfl (by kernel_rfl) trivial (fun ρ wc hbc hcn hk => ?_) ?_; rotate_left
    · obtain ⟨hcn, -⟩ := hcn
      simp at hk
      go_simp
      rfl
    refine chain_val (u := ?_) [54] rfl (by kernel_rfl) trivial (fun ρ wc hbc hcn hk => ?_) ?_; rotate_left
    · obtain ⟨hcn, -⟩ := hcn
      simp at hk
      go_simp
      rfl
    refine chain_end_lit 55 rfl (fun ff w7 hb7 hk => ?_)
    refine hKK _ _ ?_
    simp [AllN] at hk
    simp only [frameL, hk, Nat.zero_add, Nat.reduceAdd]
    have hb7' : Below w3.heap.size w3 w7 := ⟨hb7.os, hb7.tape, hb7.output, hb7.size, hb7.block⟩
    have HB7 := Lib.hid (bel_on HB.out hb7')
    clear hb7 hk hb7'
    go_wp2
    go_ret
    exact ⟨rfl, HB7.out⟩
end Go.Proofs.Ytgleanjfaecceaa
