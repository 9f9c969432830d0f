/- A law of layer 10: NodeMatchesReference. -/
import Derived.Test.YtedofcagfopoeaaDoorLaw10
import Derived.Test.YtedofcagfopoeaaDoorRegionA
namespace Go.Proofs.YtedofcagfopoeaaDoor
open Go.ChangeShapes Go.WideShapes Go.ChangeAt Go.RowKit
set_option linter.unusedVariables false
set_option linter.unusedSimpArgs false
attribute [local simp] AllK KnowsV look Is
attribute [local irreducible] validN fewN eqN depthN objsN

theorem RefValid_c (x : Nd) (A : Option Addr) (c : Nat) (B : Option Addr) (c2 : Nat) (v : Bool) (w : World) (hx : NdR w A c B c2 x) (hs : sizeN x ≤ 1099511627776) (hv : validN x = v) :
    Calls Tryd.prog 11 #[.agg #[.int .i64 x.k, .int .i64 x.e, .int .i64 x.n, .slice A x.d.length c, .slice B x.ks.length c2]] w fun r w' => r = .returned (.bool v) ∧ Below w.heap.size w w' := hv ▸ RefValid_node x A c B c2 w hx hs

set_option maxHeartbeats 4000000 in
set_option maxRecDepth 100000 in
theorem MatchesReference10_walk (x y : Nd) (A1 : Option Addr) (c1 : Nat) (B1 : Option Addr) (e1 : Nat) (A2 : Option Addr) (c2 : Nat) (B2 : Option Addr) (e2 : Nat) (w : World) (hT : TabOK w) (hx : NdR w A1 c1 B1 e1 x) (hy : NdR w A2 c2 B2 e2 y) (hsx : sizeN x ≤ 1048576) (hsy : sizeN y ≤ 1048576) :
    Calls Tryd.prog 3 #[.agg #[.int .i64 x.k, .int .i64 x.e, .int .i64 x.n, .slice A1 x.d.length c1, .slice B1 x.ks.length e1], .agg #[.int .i64 y.k, .int .i64 y.e, .int .i64 y.n, .slice A2 y.d.length c2, .slice B2 y.ks.length e2]] w fun r w' => r = .returned (.bool true) ∧ Below w.heap.size w w' := by
  have HX := Lib.hid hx
  have HY := Lib.hid hy
  have HT := Lib.hid hT
  have HSX : Hid (sizeN x ≤ 1099511627776) := Lib.hid (by omega)
  have HSY : Hid (sizeN y ≤ 1099511627776) := Lib.hid (by omega)
  clear hx hy hT
  go_enter Tryd.func3, Tryd.ntmps3
  go_wp2_with fail
  refine abs_world (F := fun W => Blk W w.heap.size #[.int .i64 x.k, .int .i64 x.e, .int .i64 x.n, .slice A1 x.d.length c1, .slice B1 x.ks.length e1] ∧ Blk W (w.heap.size + 1) #[.int .i64 y.k, .int .i64 y.e, .int .i64 y.n, .slice A2 y.d.length c2, .slice B2 y.ks.length e2] ∧ Below w.heap.size w W) ⟨?_, ?_, ?_⟩ ?_
  · exact (Blk.fresh _ _ _).alloc _
  · exact Blk.new (by simp)
  · exact ((Below.refl _ _).alloc (Nat.le_refl _) _).alloc (by simp) _
  rintro w0 ⟨h2, h3, hb0⟩
  have H2 := Lib.hid h2
  have H3 := Lib.hid h3
  have HB := Lib.hid hb0
  clear h2 h3 hb0
  refine (awake10_any _ (HT.out.on HB.out)).mono ?_
  rintro r w1 ⟨rfl, hb1⟩
  have H2n := Lib.hid (H2.out.below hb1)
  have H3n := Lib.hid (H3.out.below hb1)
  have HBn := Lib.hid (bel_on HB.out hb1)
  clear hb1 H2 H3 HB
  have H2 := H2n
  have H3 := H3n
  have HB := HBn
  clear H2n H3n HBn
  obtain ⟨x2, y2, z2⟩ := H2.out
  obtain ⟨x3, y3, z3⟩ := H3.out
  go_wp2_with fail
  refine (RefFew_node x A1 c1 B1 e1 _ (HX.out.on HB.out (Nat.le_refl _)) HSX.out).mono ?_
  rintro r w2 ⟨rfl, hb2⟩
  clear x2 y2 z2 x3 y3 z3
  have H2n := Lib.hid (H2.out.below hb2)
  have H3n := Lib.hid (H3.out.below hb2)
  have HBn := Lib.hid (bel_on HB.out hb2)
  clear hb2 H2 H3 HB
  have H2 := H2n
  have H3 := H3n
  have HB := HBn
  clear H2n H3n HBn
  obtain ⟨x2, y2, z2⟩ := H2.out
  obtain ⟨x3, y3, z3⟩ := H3.out
  cases hf : fewN x with
  | false =>
    clear hf
    go_wp2_with fail
    refine (awake10_any _ (HT.out.on HB.out)).mono ?_
    rintro r w9 ⟨rfl, hb9⟩
    have HB9 := Lib.hid (bel_on HB.out hb9)
    clear hb9
    go_wp2
    go_ret
    exact ⟨rfl, HB9.out⟩
  | true =>
    clear hf
    go_wp2_with fail
    refine (RefFew_node y A2 c2 B2 e2 _ (HY.out.on HB.out (Nat.le_refl _)) HSY.out).mono ?_
    rintro r w3 ⟨rfl, hb3⟩
    clear x2 y2 z2 x3 y3 z3
    have H2n := Lib.hid (H2.out.below hb3)
    have H3n := Lib.hid (H3.out.below hb3)
    have HBn := Lib.hid (bel_on HB.out hb3)
    clear hb3 H2 H3 HB
    have H2 := H2n
    have H3 := H3n
    have HB := HBn
    clear H2n H3n HBn
    obtain ⟨x2, y2, z2⟩ := H2.out
    obtain ⟨x3, y3, z3⟩ := H3.out
    cases hf2 : fewN y with
    | false =>
      clear hf2
      go_wp2_with fail
      refine (awake10_any _ (HT.out.on HB.out)).mono ?_
      rintro r w9 ⟨rfl, hb9⟩
      have HB9 := Lib.hid (bel_on HB.out hb9)
      clear hb9
      go_wp2
      go_ret
      exact ⟨rfl, HB9.out⟩
    | true =>
      clear hf2
      have HXX : Hid (eqN x x = true) := Lib.hid (eqN_yes rfl)
      go_wp2_with fail
      clear x2 y2 z2 x3 y3 z3
      rename_i KK hKK
      refine wp_region_chain (by kernel_rfl) (by kernel_rfl) ?_
      refine chain_val (u := ?_) [2] rfl (by kernel_rfl) trivial (fun ρ wc hbc hcn hk => ?_) ?_; rotate_left
      · obtain ⟨hcn, -⟩ := hcn
        simp at hk
        obtain ⟨x2, y2, z2⟩ := H2.out.drew.below hbc
        obtain ⟨x3, y3, z3⟩ := H3.out.drew.below hbc
        go_simp
        rfl
      refine chain_call (T := Is ?_) 10 [18] rfl (by kernel_rfl) trivial (stable_is _) (fun ρ wc hbc hcn hk => ?_) ?_; rotate_left
      · obtain ⟨hcn, hfn⟩ := hcn
        simp at hk
        refine ⟨_, by go_simp; rfl, ?_⟩
        refine (NValid_any x A1 c1 B1 e1 wc (HT.out.on (bel_on (bel_drew HB.out) hbc)) (HX.out.on (bel_on (bel_drew HB.out) hbc) (Nat.le_refl _)) HSX.out).mono ?_
        rintro e w' ⟨rfl, hbq⟩
        refine ⟨_, rfl, ?_, hbq⟩
        unfold Is
        rfl
      refine chain_val (u := ?_) [2] rfl (by kernel_rfl) trivial (fun ρ wc hbc hcn hk => ?_) ?_; rotate_left
      · obtain ⟨hcn, -⟩ := hcn
        simp at hk
        obtain ⟨x2, y2, z2⟩ := H2.out.drew.below hbc
        obtain ⟨x3, y3, z3⟩ := H3.out.drew.below hbc
        go_simp
        rfl
      refine chain_call (T := Is ?_) 11 [20] rfl (by kernel_rfl) trivial (stable_is _) (fun ρ wc hbc hcn hk => ?_) ?_; rotate_left
      · obtain ⟨hcn, hfn⟩ := hcn
        simp at hk
        refine ⟨_, by go_simp; rfl, ?_⟩
        refine (RefValid_node x A1 c1 B1 e1 wc (HX.out.on (bel_on (bel_drew HB.out) hbc) (Nat.le_refl _)) HSX.out).mono ?_
        rintro e w' ⟨rfl, hbq⟩
        refine ⟨_, rfl, ?_, hbq⟩
        unfold Is
        rfl
      refine chain_val (u := ?_) [19, 21] rfl (by kernel_rfl) trivial (fun ρ wc hbc hcn hk => ?_) ?_; rotate_left
      · obtain ⟨hcn, -⟩ := hcn
        simp at hk
        go_simp
        rfl
      refine chain_val (u := ?_) [22] rfl (by kernel_rfl) trivial (fun ρ wc hbc hcn hk => ?_) ?_; rotate_left
      · obtain ⟨hcn, -⟩ := hcn
        simp at hk
        go_simp
        rfl
      refine chain_val (u := ?_) [2] rfl (by kernel_rfl) ⟨23, by decide +kernel, rfl, fun w x hx => by simpa using hx⟩ (fun ρ wc hbc hcn hk => ?_) ?_; rotate_left
      · obtain ⟨hcn, -⟩ := hcn
        simp at hk
        obtain ⟨x2, y2, z2⟩ := H2.out.drew.below hbc
        obtain ⟨x3, y3, z3⟩ := H3.out.drew.below hbc
        go_simp
        rfl
      refine chain_val (u := ?_) [3] rfl (by kernel_rfl) ⟨23, by decide +kernel, rfl, fun w x hx => by simpa using hx⟩ (fun ρ wc hbc hcn hk => ?_) ?_; rotate_left
      · obtain ⟨hcn, -⟩ := hcn
        simp at hk
        obtain ⟨x2, y2, z2⟩ := H2.out.drew.below hbc
        obtain ⟨x3, y3, z3⟩ := H3.out.drew.below hbc
        go_simp
        rfl
      refine chain_call (T := Is ?_) 12 [24, 25] rfl (by kernel_rfl) ⟨23, by decide +kernel, rfl, fun w x hx => by simpa using hx⟩ (stable_is _) (fun ρ wc hbc hcn hk => ?_) ?_; rotate_left
      · obtain ⟨hcn, hfn⟩ := hcn
        simp at hk
        refine ⟨_, by go_simp; rfl, ?_⟩
        refine (NEqual_any x y A1 c1 B1 e1 A2 c2 B2 e2 wc (HT.out.on (bel_on (bel_drew HB.out) hbc)) (HX.out.on (bel_on (bel_drew HB.out) hbc) (Nat.le_refl _)) (HY.out.on (bel_on (bel_drew HB.out) hbc) (Nat.le_refl _)) HSX.out HSY.out).mono ?_
        rintro e w' ⟨rfl, hbq⟩
        refine ⟨_, rfl, ?_, hbq⟩
        unfold Is
        rfl
      refine chain_val (u := ?_) [2] rfl (by kernel_rfl) ⟨23, by decide +kernel, rfl, fun w x hx => by simpa using hx⟩ (fun ρ wc hbc hcn hk => ?_) ?_; rotate_left
      · obtain ⟨hcn, -⟩ := hcn
        simp at hk
        obtain ⟨x2, y2, z2⟩ := H2.out.drew.below hbc
        obtain ⟨x3, y3, z3⟩ := H3.out.drew.below hbc
        go_simp
        rfl
      refine chain_val (u := ?_) [3] rfl (by kernel_rfl) ⟨23, by decide +kernel, rfl, fun w x hx => by simpa using hx⟩ (fun ρ wc hbc hcn hk => ?_) ?_; rotate_left
      · obtain ⟨hcn, -⟩ := hcn
        simp at hk
        obtain ⟨x2, y2, z2⟩ := H2.out.drew.below hbc
        obtain ⟨x3, y3, z3⟩ := H3.out.drew.below hbc
        go_simp
        rfl
      refine chain_call (T := Is ?_) 13 [27, 28] rfl (by kernel_rfl) ⟨23, by decide +kernel, rfl, fun w x hx => by simpa using hx⟩ (stable_is _) (fun ρ wc hbc hcn hk => ?_) ?_; rotate_left
      · obtain ⟨hcn, hfn⟩ := hcn
        simp at hk
        refine ⟨_, by go_simp; rfl, ?_⟩
        refine (RefEqual_node x y A1 c1 B1 e1 A2 c2 B2 e2 wc (HX.out.on (bel_on (bel_drew HB.out) hbc) (Nat.le_refl _)) (HY.out.on (bel_on (bel_drew HB.out) hbc) (Nat.le_refl _))).mono ?_
        rintro e w' ⟨rfl, hbq⟩
        refine ⟨_, rfl, ?_, hbq⟩
        unfold Is
        rfl
      refine chain_val (u := ?_) [26, 29] rfl (by kernel_rfl) ⟨23, by decide +kernel, rfl, fun w x hx => by simpa using hx⟩ (fun ρ wc hbc hcn hk => ?_) ?_; rotate_left
      · obtain ⟨hcn, -⟩ := hcn
        simp at hk
        go_simp
        rfl
      refine chain_val (u := ?_) [23, 30] rfl (by kernel_rfl) trivial (fun ρ wc hbc hcn hk => ?_) ?_; rotate_left
      · obtain ⟨hcn, -⟩ := hcn
        simp at hk
        go_simp
        rfl
      refine chain_val (u := ?_) [31] rfl (by kernel_rfl) trivial (fun ρ wc hbc hcn hk => ?_) ?_; rotate_left
      · obtain ⟨hcn, -⟩ := hcn
        simp at hk
        go_simp
        rfl
      refine chain_val (u := ?_) [2] rfl (by kernel_rfl) ⟨32, by decide +kernel, rfl, fun w x hx => by simpa using hx⟩ (fun ρ wc hbc hcn hk => ?_) ?_; rotate_left
      · obtain ⟨hcn, -⟩ := hcn
        simp at hk
        obtain ⟨x2, y2, z2⟩ := H2.out.drew.below hbc
        obtain ⟨x3, y3, z3⟩ := H3.out.drew.below hbc
        go_simp
        rfl
      refine chain_val (u := ?_) [2] rfl (by kernel_rfl) ⟨32, by decide +kernel, rfl, fun w x hx => by simpa using hx⟩ (fun ρ wc hbc hcn hk => ?_) ?_; rotate_left
      · obtain ⟨hcn, -⟩ := hcn
        simp at hk
        obtain ⟨x2, y2, z2⟩ := H2.out.drew.below hbc
        obtain ⟨x3, y3, z3⟩ := H3.out.drew.below hbc
        go_simp
        rfl
      refine chain_call (T := Is ?_) 12 [33, 34] rfl (by kernel_rfl) ⟨32, by decide +kernel, rfl, fun w x hx => by simpa using hx⟩ (stable_is _) (fun ρ wc hbc hcn hk => ?_) ?_; rotate_left
      · obtain ⟨hcn, hfn⟩ := hcn
        simp at hk
        refine ⟨_, by go_simp; rfl, ?_⟩
        refine (NEqual_any x x A1 c1 B1 e1 A1 c1 B1 e1 wc (HT.out.on (bel_on (bel_drew HB.out) hbc)) (HX.out.on (bel_on (bel_drew HB.out) hbc) (Nat.le_refl _)) (HX.out.on (bel_on (bel_drew HB.out) hbc) (Nat.le_refl _)) HSX.out HSX.out).mono ?_
        rintro e w' ⟨rfl, hbq⟩
        refine ⟨_, rfl, ?_, hbq⟩
        unfold Is
        rfl
      refine chain_val (u := ?_) [35] rfl (by kernel_rfl) ⟨32, by decide +kernel, rfl, fun w x hx => by simpa using hx⟩ (fun ρ wc hbc hcn hk => ?_) ?_; rotate_left
      · obtain ⟨hcn, -⟩ := hcn
        simp at hk
        go_simp
        rfl
      refine chain_val (u := ?_) [32, 36] rfl (by kernel_rfl) trivial (fun ρ wc hbc hcn hk => ?_) ?_; rotate_left
      · obtain ⟨hcn, -⟩ := hcn
        simp at hk
        go_simp
        rfl
      refine chain_end_lit 55 rfl (fun ff w7 hb7 hk => ?_)
      refine hKK _ _ ?_
      simp [AllN, HXX.out] at hk
      simp only [frameL, hk]
      have hb7' : Below w3.heap.size w3 w7 := ⟨hb7.os, hb7.tape, hb7.output, hb7.size, hb7.block⟩
      clear hb7 hk
      have H2n := Lib.hid (H2.out.below hb7')
      have H3n := Lib.hid (H3.out.below hb7')
      have HBn := Lib.hid (bel_on HB.out hb7')
      clear hb7' H2 H3 HB
      have H2 := H2n
      have H3 := H3n
      have HB := HBn
      clear H2n H3n HBn
      obtain ⟨x2, y2, z2⟩ := H2.out
      obtain ⟨x3, y3, z3⟩ := H3.out
      cases hv : validN x with
      | false =>
        have HV := Lib.hid hv
        clear hv
        go_wp2_with fail
        clear x2 y2 z2 x3 y3 z3
        rename_i KK hKK
        refine wp_region_chain (by kernel_rfl) (by kernel_rfl) ?_
        refine chain_val (u := ?_) [2] rfl (by kernel_rfl) trivial (fun ρ wc hbc hcn hk => ?_) ?_; rotate_left
        · obtain ⟨hcn, -⟩ := hcn
          simp at hk
          obtain ⟨x2, y2, z2⟩ := H2.out.drew.below hbc
          obtain ⟨x3, y3, z3⟩ := H3.out.drew.below hbc
          go_simp
          rfl
        refine chain_call (T := Is ?_) 11 [38] rfl (by kernel_rfl) trivial (stable_is _) (fun ρ wc hbc hcn hk => ?_) ?_; rotate_left
        · obtain ⟨hcn, hfn⟩ := hcn
          simp at hk
          refine ⟨_, by go_simp; rfl, ?_⟩
          refine (RefValid_c x A1 c1 B1 e1 false wc (HX.out.on (bel_on (bel_drew HB.out) hbc) (Nat.le_refl _)) HSX.out HV.out).mono ?_
          rintro e w' ⟨rfl, hbq⟩
          refine ⟨_, rfl, ?_, hbq⟩
          unfold Is
          rfl
        refine chain_val (u := ?_) [39] rfl (by kernel_rfl) trivial (fun ρ wc hbc hcn hk => ?_) ?_; rotate_left
        · obtain ⟨hcn, -⟩ := hcn
          simp at hk
          go_simp
          rfl
        refine chain_val (u := ?_) [40] rfl (by kernel_rfl) trivial (fun ρ wc hbc hcn hk => ?_) ?_; rotate_left
        · obtain ⟨hcn, -⟩ := hcn
          simp at hk
          go_simp
          rfl
        refine chain_skip (s := 41) (c := true) rfl rfl (by decide +kernel) rfl rfl (fun w x hx => by simpa using hx) ?_
        refine chain_skip (s := 41) (c := true) rfl rfl (by decide +kernel) rfl rfl (fun w x hx => by simpa using hx) ?_
        refine chain_skip (s := 41) (c := true) rfl rfl (by decide +kernel) rfl rfl (fun w x hx => by simpa using hx) ?_
        refine chain_skip (s := 41) (c := true) rfl rfl (by decide +kernel) rfl rfl (fun w x hx => by simpa using hx) ?_
        refine chain_skip (s := 41) (c := true) rfl rfl (by decide +kernel) rfl rfl (fun w x hx => by simpa using hx) ?_
        refine chain_skip (s := 41) (c := true) rfl rfl (by decide +kernel) rfl rfl (fun w x hx => by simpa using hx) ?_
        refine chain_skipU (s := 47) rfl rfl (by decide +kernel) rfl (fun w x hx => by simpa using hx) ?_
        refine chain_skipU (s := 47) rfl rfl (by decide +kernel) rfl (fun w x hx => by simpa using hx) ?_
        refine chain_skipU (s := 47) rfl rfl (by decide +kernel) rfl (fun w x hx => by simpa using hx) ?_
        refine chain_skipU (s := 47) rfl rfl (by decide +kernel) rfl (fun w x hx => by simpa using hx) ?_
        refine chain_skipU (s := 47) rfl rfl (by decide +kernel) rfl (fun w x hx => by simpa using hx) ?_
        refine chain_skip (s := 41) (c := true) rfl rfl (by decide +kernel) rfl rfl (fun w x hx => by simpa using hx) ?_
        refine chain_val (u := ?_) [41, 53] rfl (by kernel_rfl) trivial (fun ρ wc hbc hcn hk => ?_) ?_; rotate_left
        · obtain ⟨hcn, -⟩ := hcn
          simp at hk
          go_simp
          rfl
        refine chain_val (u := ?_) [54] rfl (by kernel_rfl) trivial (fun ρ wc hbc hcn hk => ?_) ?_; rotate_left
        · obtain ⟨hcn, -⟩ := hcn
          simp at hk
          go_simp
          rfl
        refine chain_end_lit 55 rfl (fun ff w8 hb8 hk => ?_)
        refine hKK _ _ ?_
        simp [AllN] at hk
        simp only [frameL, hk]
        have HB8 : Hid (Below w.heap.size w w8) := Lib.hid (bel_on (bel_drew HB.out) hb8)
        clear hb8 hk
        go_wp2
        go_ret
        exact ⟨rfl, HB8.out⟩
      | true =>
        have HV := Lib.hid hv
        clear hv
        go_wp2_with fail
        clear x2 y2 z2 x3 y3 z3
        rename_i KK hKK
        refine wp_region_chain (by kernel_rfl) (by kernel_rfl) ?_
        refine chain_val (u := ?_) [2] rfl (by kernel_rfl) trivial (fun ρ wc hbc hcn hk => ?_) ?_; rotate_left
        · obtain ⟨hcn, -⟩ := hcn
          simp at hk
          obtain ⟨x2, y2, z2⟩ := H2.out.drew.below hbc
          obtain ⟨x3, y3, z3⟩ := H3.out.drew.below hbc
          go_simp
          rfl
        refine chain_call (T := Is ?_) 11 [38] rfl (by kernel_rfl) trivial (stable_is _) (fun ρ wc hbc hcn hk => ?_) ?_; rotate_left
        · obtain ⟨hcn, hfn⟩ := hcn
          simp at hk
          refine ⟨_, by go_simp; rfl, ?_⟩
          refine (RefValid_c x A1 c1 B1 e1 true wc (HX.out.on (bel_on (bel_drew HB.out) hbc) (Nat.le_refl _)) HSX.out HV.out).mono ?_
          rintro e w' ⟨rfl, hbq⟩
          refine ⟨_, rfl, ?_, hbq⟩
          unfold Is
          rfl
        refine chain_val (u := ?_) [39] rfl (by kernel_rfl) trivial (fun ρ wc hbc hcn hk => ?_) ?_; rotate_left
        · obtain ⟨hcn, -⟩ := hcn
          simp at hk
          go_simp
          rfl
        refine chain_val (u := ?_) [40] rfl (by kernel_rfl) trivial (fun ρ wc hbc hcn hk => ?_) ?_; rotate_left
        · obtain ⟨hcn, -⟩ := hcn
          simp at hk
          go_simp
          rfl
        refine chain_val (u := ?_) [2] rfl (by kernel_rfl) ⟨41, by decide +kernel, rfl, fun w x hx => by simpa using hx⟩ (fun ρ wc hbc hcn hk => ?_) ?_; rotate_left
        · obtain ⟨hcn, -⟩ := hcn
          simp at hk
          obtain ⟨x2, y2, z2⟩ := H2.out.drew.below hbc
          obtain ⟨x3, y3, z3⟩ := H3.out.drew.below hbc
          go_simp
          rfl
        refine chain_call (T := Is ?_) 14 [42] rfl (by kernel_rfl) ⟨41, by decide +kernel, rfl, fun w x hx => by simpa using hx⟩ (stable_is _) (fun ρ wc hbc hcn hk => ?_) ?_; rotate_left
        · obtain ⟨hcn, hfn⟩ := hcn
          simp at hk
          refine ⟨_, by go_simp; rfl, ?_⟩
          refine (NDepth_any x A1 c1 B1 e1 wc (HT.out.on (bel_on (bel_drew HB.out) hbc)) (HX.out.on (bel_on (bel_drew HB.out) hbc) (Nat.le_refl _)) HSX.out HV.out).mono ?_
          rintro e w' ⟨rfl, hbq⟩
          refine ⟨_, rfl, ?_, hbq⟩
          unfold Is
          rfl
        refine chain_val (u := ?_) [2] rfl (by kernel_rfl) ⟨41, by decide +kernel, rfl, fun w x hx => by simpa using hx⟩ (fun ρ wc hbc hcn hk => ?_) ?_; rotate_left
        · obtain ⟨hcn, -⟩ := hcn
          simp at hk
          obtain ⟨x2, y2, z2⟩ := H2.out.drew.below hbc
          obtain ⟨x3, y3, z3⟩ := H3.out.drew.below hbc
          go_simp
          rfl
        refine chain_call (T := Is ?_) 15 [44] rfl (by kernel_rfl) ⟨41, by decide +kernel, rfl, fun w x hx => by simpa using hx⟩ (stable_is _) (fun ρ wc hbc hcn hk => ?_) ?_; rotate_left
        · obtain ⟨hcn, hfn⟩ := hcn
          simp at hk
          refine ⟨_, by go_simp; rfl, ?_⟩
          refine (RefDepth_node x A1 c1 B1 e1 wc (HX.out.on (bel_on (bel_drew HB.out) hbc) (Nat.le_refl _)) HSX.out).mono ?_
          rintro e w' ⟨rfl, hbq⟩
          refine ⟨_, rfl, ?_, hbq⟩
          unfold Is
          rfl
        refine chain_val (u := ?_) [43, 45] rfl (by kernel_rfl) ⟨41, by decide +kernel, rfl, fun w x hx => by simpa using hx⟩ (fun ρ wc hbc hcn hk => ?_) ?_; rotate_left
        · obtain ⟨hcn, -⟩ := hcn
          simp at hk
          go_simp
          rfl
        refine chain_val (u := ?_) [46] rfl (by kernel_rfl) ⟨41, by decide +kernel, rfl, fun w x hx => by simpa using hx⟩ (fun ρ wc hbc hcn hk => ?_) ?_; rotate_left
        · obtain ⟨hcn, -⟩ := hcn
          simp at hk
          go_simp
          rfl
        refine chain_val (u := ?_) [2] rfl (by kernel_rfl) ⟨47, by decide +kernel, rfl, fun w x hx => by simpa using hx⟩ (fun ρ wc hbc hcn hk => ?_) ?_; rotate_left
        · obtain ⟨hcn, -⟩ := hcn
          simp at hk
          obtain ⟨x2, y2, z2⟩ := H2.out.drew.below hbc
          obtain ⟨x3, y3, z3⟩ := H3.out.drew.below hbc
          go_simp
          rfl
        refine chain_call (T := Is ?_) 16 [48] rfl (by kernel_rfl) ⟨47, by decide +kernel, rfl, fun w x hx => by simpa using hx⟩ (stable_is _) (fun ρ wc hbc hcn hk => ?_) ?_; rotate_left
        · obtain ⟨hcn, hfn⟩ := hcn
          simp at hk
          refine ⟨_, by go_simp; rfl, ?_⟩
          refine (NObjects_any x A1 c1 B1 e1 wc (HT.out.on (bel_on (bel_drew HB.out) hbc)) (HX.out.on (bel_on (bel_drew HB.out) hbc) (Nat.le_refl _)) HSX.out HV.out).mono ?_
          rintro e w' ⟨rfl, hbq⟩
          refine ⟨_, rfl, ?_, hbq⟩
          unfold Is
          rfl
        refine chain_val (u := ?_) [2] rfl (by kernel_rfl) ⟨47, by decide +kernel, rfl, fun w x hx => by simpa using hx⟩ (fun ρ wc hbc hcn hk => ?_) ?_; rotate_left
        · obtain ⟨hcn, -⟩ := hcn
          simp at hk
          obtain ⟨x2, y2, z2⟩ := H2.out.drew.below hbc
          obtain ⟨x3, y3, z3⟩ := H3.out.drew.below hbc
          go_simp
          rfl
        refine chain_call (T := Is ?_) 17 [50] rfl (by kernel_rfl) ⟨47, by decide +kernel, rfl, fun w x hx => by simpa using hx⟩ (stable_is _) (fun ρ wc hbc hcn hk => ?_) ?_; rotate_left
        · obtain ⟨hcn, hfn⟩ := hcn
          simp at hk
          refine ⟨_, by go_simp; rfl, ?_⟩
          refine (RefObjects_node x A1 c1 B1 e1 wc (HX.out.on (bel_on (bel_drew HB.out) hbc) (Nat.le_refl _)) HSX.out).mono ?_
          rintro e w' ⟨rfl, hbq⟩
          refine ⟨_, rfl, ?_, hbq⟩
          unfold Is
          rfl
        refine chain_val (u := ?_) [49, 51] rfl (by kernel_rfl) ⟨47, by decide +kernel, rfl, fun w x hx => by simpa using hx⟩ (fun ρ wc hbc hcn hk => ?_) ?_; rotate_left
        · obtain ⟨hcn, -⟩ := hcn
          simp at hk
          go_simp
          rfl
        refine chain_val (u := ?_) [47, 52] rfl (by kernel_rfl) ⟨41, by decide +kernel, rfl, fun w x hx => by simpa using hx⟩ (fun ρ wc hbc hcn hk => ?_) ?_; rotate_left
        · obtain ⟨hcn, -⟩ := hcn
          simp at hk
          go_simp
          rfl
        refine chain_val (u := ?_) [41, 53] rfl (by kernel_rfl) trivial (fun ρ wc hbc hcn hk => ?_) ?_; rotate_left
        · obtain ⟨hcn, -⟩ := hcn
          simp at hk
          go_simp
          rfl
        refine chain_val (u := ?_) [54] rfl (by kernel_rfl) trivial (fun ρ wc hbc hcn hk => ?_) ?_; rotate_left
        · obtain ⟨hcn, -⟩ := hcn
          simp at hk
          go_simp
          rfl
        refine chain_end_lit 55 rfl (fun ff w8 hb8 hk => ?_)
        refine hKK _ _ ?_
        simp [AllN] at hk
        simp only [frameL, hk]
        have HB8 : Hid (Below w.heap.size w w8) := Lib.hid (bel_on (bel_drew HB.out) hb8)
        clear hb8 hk
        go_wp2
        go_ret
        exact ⟨rfl, HB8.out⟩
end Go.Proofs.YtedofcagfopoeaaDoor
