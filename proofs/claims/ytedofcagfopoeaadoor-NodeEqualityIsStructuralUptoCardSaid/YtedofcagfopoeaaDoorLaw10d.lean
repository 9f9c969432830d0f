/- A law of layer 10: NodeEqualityIsStructural. -/
import Derived.Test.YtedofcagfopoeaaDoorLaw10e
import Derived.Test.YtedofcagfopoeaaDoorNodeK
namespace Go.Proofs.YtedofcagfopoeaaDoor
open Go.ChangeShapes Go.WideShapes Go.ChangeAt Go.RowKit
set_option linter.unusedVariables false
set_option linter.unusedSimpArgs false
attribute [local simp] AllK KnowsV look Is

/-- the first node with one kid more -/
def moreOf (x y : Nd) : Nd := .mk x.k x.e x.n x.d (x.ks ++ [y])
theorem more_ne (x y : Nd) : x ≠ moreOf x y := by
  obtain ⟨k, e, n, d, ks⟩ := x
  intro h
  simp only [moreOf, Nd.k, Nd.e, Nd.n, Nd.d, Nd.ks] at h
  injection h with _ _ _ _ h
  have := congrArg List.length h
  simp at this
theorem more_size (x y : Nd) : sizeN (moreOf x y) = sizeN x + sizeN y := by
  obtain ⟨k, e, n, d, ks⟩ := x
  simp only [moreOf, Nd.k, Nd.e, Nd.n, Nd.d, Nd.ks, sizeN, sizeK_append, sizeK]
  omega
/-- it lies in memory: the kids that came in in a row of the call's own -/
theorem more_here {W0 w : World} {x y : Nd} {A1 : Option Addr} {c1 : Nat} {B1 : Option Addr} {e1 : Nat} {base N0 n0 : Nat} {B7 : Option Addr} {c7 : Nat} (hx : NdR w A1 c1 B1 e1 x) (h : OwnK W0 w base (.slice B7 n0 c7) (x.ks ++ [y])) (hW : W0.heap.size ≤ N0) (hb : Below N0 W0 w) :
    n0 = x.ks.length + 1 ∧ NdR w A1 c1 B7 c7 (moreOf x y) := by
  obtain ⟨B, c, e, h1, h2, h3, h4⟩ := h.slice hW hb
  injection e with g1 g2 g3
  subst g1
  subst g3
  have hl : (x.ks ++ [y]).length = x.ks.length + 1 := by simp
  obtain ⟨k, e, n, d, ks⟩ := x
  obtain ⟨o1, o2, o3, o4, o5, o6, o7, o8, _⟩ := hx.open
  exact ⟨by rw [g2, hl], h1.node o1 o2 o3 o4 o5 o6 (by unfold maxLen; omega) o8 h2 (by unfold maxLen; omega) h4⟩
theorem more_len (x y : Nd) : (moreOf x y).ks.length = x.ks.length + 1 := by simp [moreOf, Nd.ks]
theorem NEqual_m1 (x y : Nd) (A1 : Option Addr) (c1 : Nat) (B1 : Option Addr) (e1 : Nat) (B7 : Option Addr) (c7 : Nat) (w : World) (hT : TabOK w) (hx : NdR w A1 c1 B1 e1 x) (hm : NdR w A1 c1 B7 c7 (moreOf x y)) (hs : sizeN x ≤ 1099511627776) (hs2 : sizeN (moreOf x y) ≤ 1099511627776) :
    Calls Tryd.prog 12 #[.agg #[.int .i64 x.k, .int .i64 x.e, .int .i64 x.n, .slice A1 x.d.length c1, .slice B1 x.ks.length e1], .agg #[.int .i64 x.k, .int .i64 x.e, .int .i64 x.n, .slice A1 x.d.length c1, .slice B7 (x.ks.length + 1) c7]] w fun r w' => r = .returned (.bool false) ∧ Below w.heap.size w w' := by
  have h := NEqual_c x (moreOf x y) A1 c1 B1 e1 A1 c1 B7 c7 false w hT hx hm hs hs2 (eqN_no (more_ne x y))
  rw [more_len] at h
  exact h
theorem NEqual_m2 (x y : Nd) (A1 : Option Addr) (c1 : Nat) (B1 : Option Addr) (e1 : Nat) (B7 : Option Addr) (c7 : Nat) (w : World) (hT : TabOK w) (hx : NdR w A1 c1 B1 e1 x) (hm : NdR w A1 c1 B7 c7 (moreOf x y)) (hs : sizeN x ≤ 1099511627776) (hs2 : sizeN (moreOf x y) ≤ 1099511627776) :
    Calls Tryd.prog 12 #[.agg #[.int .i64 x.k, .int .i64 x.e, .int .i64 x.n, .slice A1 x.d.length c1, .slice B7 (x.ks.length + 1) c7], .agg #[.int .i64 x.k, .int .i64 x.e, .int .i64 x.n, .slice A1 x.d.length c1, .slice B1 x.ks.length e1]] w fun r w' => r = .returned (.bool false) ∧ Below w.heap.size w w' := by
  have h := NEqual_c (moreOf x y) x A1 c1 B7 c7 A1 c1 B1 e1 false w hT hm hx hs2 hs (eqN_no (fun h => more_ne x y h.symm))
  rw [more_len] at h
  exact h
attribute [local irreducible] validN fewN eqN depthN objsN

set_option maxHeartbeats 8000000 in
set_option maxRecDepth 100000 in
theorem Equality10_walk (x y z : Nd) (A1 : Option Addr) (c1 : Nat) (B1 : Option Addr) (e1 : Nat) (A2 : Option Addr) (c2 : Nat) (B2 : Option Addr) (e2 : Nat) (A3 : Option Addr) (c3 : Nat) (B3 : Option Addr) (e3 : Nat) (w : World) (hT : TabOK w) (hx : NdR w A1 c1 B1 e1 x) (hy : NdR w A2 c2 B2 e2 y) (hz : NdR w A3 c3 B3 e3 z) (hsx : sizeN x ≤ 1048576) (hsy : sizeN y ≤ 1048576) (hsz : sizeN z ≤ 1048576) :
    Calls Tryd.prog 4 #[.agg #[.int .i64 x.k, .int .i64 x.e, .int .i64 x.n, .slice A1 x.d.length c1, .slice B1 x.ks.length e1], .agg #[.int .i64 y.k, .int .i64 y.e, .int .i64 y.n, .slice A2 y.d.length c2, .slice B2 y.ks.length e2], .agg #[.int .i64 z.k, .int .i64 z.e, .int .i64 z.n, .slice A3 z.d.length c3, .slice B3 z.ks.length e3]] w fun r w' => r = .returned (.bool true) ∧ Below w.heap.size w w' := by
  have HX := Lib.hid hx
  have HY := Lib.hid hy
  have HZ := Lib.hid hz
  have HT := Lib.hid hT
  have HSX : Hid (sizeN x ≤ 1099511627776) := Lib.hid (by omega)
  have HSY : Hid (sizeN y ≤ 1099511627776) := Lib.hid (by omega)
  have HSZ : Hid (sizeN z ≤ 1099511627776) := Lib.hid (by omega)
  have HSM : Hid (sizeN (moreOf x y) ≤ 1099511627776) := Lib.hid (by rw [more_size]; omega)
  have HKL : Hid (x.ks.length + 1 ≤ 1099511627776) := Lib.hid (by have h1 := sizeK_length x.ks; have h2 := sizeK_ks x; omega)
  clear hx hy hz hT
  go_enter Tryd.func4, Tryd.ntmps4
  go_wp2_with fail
  refine abs_world (F := fun W => Blk W w.heap.size #[.int .i64 x.k, .int .i64 x.e, .int .i64 x.n, .slice A1 x.d.length c1, .slice B1 x.ks.length e1] ∧ Blk W (w.heap.size + 1) #[.int .i64 y.k, .int .i64 y.e, .int .i64 y.n, .slice A2 y.d.length c2, .slice B2 y.ks.length e2] ∧ Blk W (w.heap.size + 1 + 1) #[.int .i64 z.k, .int .i64 z.e, .int .i64 z.n, .slice A3 z.d.length c3, .slice B3 z.ks.length e3] ∧ Below w.heap.size w W) ⟨?_, ?_, ?_, ?_⟩ ?_
  · exact ((Blk.fresh _ _ _).alloc _).alloc _
  · exact (Blk.new (by simp)).alloc _
  · exact Blk.new (by simp)
  · exact (((Below.refl _ _).alloc (Nat.le_refl _) _).alloc (by simp) _).alloc (by simp; omega) _
  rintro w0 ⟨h2, h3, h4, hb0⟩
  have H2 := Lib.hid h2
  have H3 := Lib.hid h3
  have H4 := Lib.hid h4
  have HB := Lib.hid hb0
  clear h2 h3 h4 hb0
  refine (awake10_any _ (HT.out.on HB.out)).mono ?_
  rintro r w1 ⟨rfl, hb1⟩
  have H2n := Lib.hid (H2.out.below hb1)
  have H3n := Lib.hid (H3.out.below hb1)
  have H4n := Lib.hid (H4.out.below hb1)
  have HBn := Lib.hid (bel_on HB.out hb1)
  clear hb1 H2 H3 H4 HB
  have H2 := H2n
  have H3 := H3n
  have H4 := H4n
  have HB := HBn
  clear H2n H3n H4n HBn
  obtain ⟨x2, y2, z2⟩ := H2.out
  obtain ⟨x3, y3, z3⟩ := H3.out
  obtain ⟨x4, y4, z4⟩ := H4.out
  go_wp2_with fail
  refine (RefFew_node x A1 c1 B1 e1 _ (HX.out.on HB.out (Nat.le_refl _)) HSX.out).mono ?_
  rintro r w2 ⟨rfl, hb2⟩
  clear x2 y2 z2 x3 y3 z3 x4 y4 z4
  have H2n := Lib.hid (H2.out.below hb2)
  have H3n := Lib.hid (H3.out.below hb2)
  have H4n := Lib.hid (H4.out.below hb2)
  have HBn := Lib.hid (bel_on HB.out hb2)
  clear hb2 H2 H3 H4 HB
  have H2 := H2n
  have H3 := H3n
  have H4 := H4n
  have HB := HBn
  clear H2n H3n H4n HBn
  obtain ⟨x2, y2, z2⟩ := H2.out
  obtain ⟨x3, y3, z3⟩ := H3.out
  obtain ⟨x4, y4, z4⟩ := H4.out
  cases hf : fewN x with
  | false =>
    clear hf
    go_wp2_with fail
    refine (awake10_any _ (HT.out.on HB.out)).mono ?_
    rintro r w9 ⟨rfl, hb9⟩
    have HB9 := Lib.hid (bel_on HB.out hb9)
    clear hb9
    go_wp2
    go_ret
    exact ⟨rfl, HB9.out⟩
  | true =>
    clear hf
    go_wp2_with fail
    refine (RefFew_node y A2 c2 B2 e2 _ (HY.out.on HB.out (Nat.le_refl _)) HSY.out).mono ?_
    rintro r w2 ⟨rfl, hb2⟩
    clear x2 y2 z2 x3 y3 z3 x4 y4 z4
    have H2n := Lib.hid (H2.out.below hb2)
    have H3n := Lib.hid (H3.out.below hb2)
    have H4n := Lib.hid (H4.out.below hb2)
    have HBn := Lib.hid (bel_on HB.out hb2)
    clear hb2 H2 H3 H4 HB
    have H2 := H2n
    have H3 := H3n
    have H4 := H4n
    have HB := HBn
    clear H2n H3n H4n HBn
    obtain ⟨x2, y2, z2⟩ := H2.out
    obtain ⟨x3, y3, z3⟩ := H3.out
    obtain ⟨x4, y4, z4⟩ := H4.out
    cases hf : fewN y with
    | false =>
      clear hf
      go_wp2_with fail
      refine (awake10_any _ (HT.out.on HB.out)).mono ?_
      rintro r w9 ⟨rfl, hb9⟩
      have HB9 := Lib.hid (bel_on HB.out hb9)
      clear hb9
      go_wp2
      go_ret
      exact ⟨rfl, HB9.out⟩
    | true =>
      clear hf
      go_wp2_with fail
      refine (RefFew_node z A3 c3 B3 e3 _ (HZ.out.on HB.out (Nat.le_refl _)) HSZ.out).mono ?_
      rintro r w2 ⟨rfl, hb2⟩
      clear x2 y2 z2 x3 y3 z3 x4 y4 z4
      have H2n := Lib.hid (H2.out.below hb2)
      have H3n := Lib.hid (H3.out.below hb2)
      have H4n := Lib.hid (H4.out.below hb2)
      have HBn := Lib.hid (bel_on HB.out hb2)
      clear hb2 H2 H3 H4 HB
      have H2 := H2n
      have H3 := H3n
      have H4 := H4n
      have HB := HBn
      clear H2n H3n H4n HBn
      obtain ⟨x2, y2, z2⟩ := H2.out
      obtain ⟨x3, y3, z3⟩ := H3.out
      obtain ⟨x4, y4, z4⟩ := H4.out
      cases hf : fewN z with
      | false =>
        clear hf
        go_wp2_with fail
        refine (awake10_any _ (HT.out.on HB.out)).mono ?_
        rintro r w9 ⟨rfl, hb9⟩
        have HB9 := Lib.hid (bel_on HB.out hb9)
        clear hb9
        go_wp2
        go_ret
        exact ⟨rfl, HB9.out⟩
      | true =>
        clear hf
        by_cases he1 : x = y
        case neg =>
          have HE1 : Hid (eqN x y = false) := Lib.hid (eqN_no he1)
          have HE1' : Hid (eqN y x = false) := Lib.hid (eqN_no (fun h => he1 h.symm))
          clear he1
          go_wp2_with fail
          clear x2 y2 z2 x3 y3 z3 x4 y4 z4
          rename_i KK hKK
          refine wp_region_chain (by kernel_rfl) (by kernel_rfl) ?_
          refine chain_val (u := ?_) [3] rfl (by kernel_rfl) trivial (fun ρ wc hbc hcn hk => ?_) ?_; rotate_left
          · obtain ⟨hcn, -⟩ := hcn
            simp at hk
            obtain ⟨x2, y2, z2⟩ := H2.out.drew.below hbc
            obtain ⟨x3, y3, z3⟩ := H3.out.drew.below hbc
            obtain ⟨x4, y4, z4⟩ := H4.out.drew.below hbc
            go_simp
            rfl
          refine chain_val (u := ?_) [3] rfl (by kernel_rfl) trivial (fun ρ wc hbc hcn hk => ?_) ?_; rotate_left
          · obtain ⟨hcn, -⟩ := hcn
            simp at hk
            obtain ⟨x2, y2, z2⟩ := H2.out.drew.below hbc
            obtain ⟨x3, y3, z3⟩ := H3.out.drew.below hbc
            obtain ⟨x4, y4, z4⟩ := H4.out.drew.below hbc
            go_simp
            rfl
          refine chain_call (T := Is ?_) 12 [26, 27] rfl (by kernel_rfl) trivial (stable_is _) (fun ρ wc hbc hcn hk => ?_) ?_; rotate_left
          · obtain ⟨hcn, hfn⟩ := hcn
            simp at hk
            refine ⟨_, by go_simp; rfl, ?_⟩
            refine (NEqual_c x x A1 c1 B1 e1 A1 c1 B1 e1 true wc (HT.out.on (bel_on (bel_drew HB.out) hbc)) (HX.out.on (bel_on (bel_drew HB.out) hbc) (Nat.le_refl _)) (HX.out.on (bel_on (bel_drew HB.out) hbc) (Nat.le_refl _)) HSX.out HSX.out (eqN_yes rfl)).mono ?_
            rintro e w' ⟨rfl, hbq⟩
            refine ⟨_, rfl, ?_, hbq⟩
            unfold Is
            rfl
          refine chain_val (u := ?_) [28] rfl (by kernel_rfl) trivial (fun ρ wc hbc hcn hk => ?_) ?_; rotate_left
          · obtain ⟨hcn, -⟩ := hcn
            simp at hk
            go_simp
            rfl
          refine chain_val (u := ?_) [29] rfl (by kernel_rfl) trivial (fun ρ wc hbc hcn hk => ?_) ?_; rotate_left
          · obtain ⟨hcn, -⟩ := hcn
            simp at hk
            go_simp
            rfl
          refine chain_val (u := ?_) [3] rfl (by kernel_rfl) ⟨30, by decide +kernel, rfl, fun w x hx => by simpa using hx⟩ (fun ρ wc hbc hcn hk => ?_) ?_; rotate_left
          · obtain ⟨hcn, -⟩ := hcn
            simp at hk
            obtain ⟨x2, y2, z2⟩ := H2.out.drew.below hbc
            obtain ⟨x3, y3, z3⟩ := H3.out.drew.below hbc
            obtain ⟨x4, y4, z4⟩ := H4.out.drew.below hbc
            go_simp
            rfl
          refine chain_val (u := ?_) [4] rfl (by kernel_rfl) ⟨30, by decide +kernel, rfl, fun w x hx => by simpa using hx⟩ (fun ρ wc hbc hcn hk => ?_) ?_; rotate_left
          · obtain ⟨hcn, -⟩ := hcn
            simp at hk
            obtain ⟨x2, y2, z2⟩ := H2.out.drew.below hbc
            obtain ⟨x3, y3, z3⟩ := H3.out.drew.below hbc
            obtain ⟨x4, y4, z4⟩ := H4.out.drew.below hbc
            go_simp
            rfl
          refine chain_call (T := Is ?_) 12 [31, 32] rfl (by kernel_rfl) ⟨30, by decide +kernel, rfl, fun w x hx => by simpa using hx⟩ (stable_is _) (fun ρ wc hbc hcn hk => ?_) ?_; rotate_left
          · obtain ⟨hcn, hfn⟩ := hcn
            simp at hk
            refine ⟨_, by go_simp; rfl, ?_⟩
            refine (NEqual_c x y A1 c1 B1 e1 A2 c2 B2 e2 false wc (HT.out.on (bel_on (bel_drew HB.out) hbc)) (HX.out.on (bel_on (bel_drew HB.out) hbc) (Nat.le_refl _)) (HY.out.on (bel_on (bel_drew HB.out) hbc) (Nat.le_refl _)) HSX.out HSY.out HE1.out).mono ?_
            rintro e w' ⟨rfl, hbq⟩
            refine ⟨_, rfl, ?_, hbq⟩
            unfold Is
            rfl
          refine chain_val (u := ?_) [4] rfl (by kernel_rfl) ⟨30, by decide +kernel, rfl, fun w x hx => by simpa using hx⟩ (fun ρ wc hbc hcn hk => ?_) ?_; rotate_left
          · obtain ⟨hcn, -⟩ := hcn
            simp at hk
            obtain ⟨x2, y2, z2⟩ := H2.out.drew.below hbc
            obtain ⟨x3, y3, z3⟩ := H3.out.drew.below hbc
            obtain ⟨x4, y4, z4⟩ := H4.out.drew.below hbc
            go_simp
            rfl
          refine chain_val (u := ?_) [3] rfl (by kernel_rfl) ⟨30, by decide +kernel, rfl, fun w x hx => by simpa using hx⟩ (fun ρ wc hbc hcn hk => ?_) ?_; rotate_left
          · obtain ⟨hcn, -⟩ := hcn
            simp at hk
            obtain ⟨x2, y2, z2⟩ := H2.out.drew.below hbc
            obtain ⟨x3, y3, z3⟩ := H3.out.drew.below hbc
            obtain ⟨x4, y4, z4⟩ := H4.out.drew.below hbc
            go_simp
            rfl
          refine chain_call (T := Is ?_) 12 [34, 35] rfl (by kernel_rfl) ⟨30, by decide +kernel, rfl, fun w x hx => by simpa using hx⟩ (stable_is _) (fun ρ wc hbc hcn hk => ?_) ?_; rotate_left
          · obtain ⟨hcn, hfn⟩ := hcn
            simp at hk
            refine ⟨_, by go_simp; rfl, ?_⟩
            refine (NEqual_c y x A2 c2 B2 e2 A1 c1 B1 e1 false wc (HT.out.on (bel_on (bel_drew HB.out) hbc)) (HY.out.on (bel_on (bel_drew HB.out) hbc) (Nat.le_refl _)) (HX.out.on (bel_on (bel_drew HB.out) hbc) (Nat.le_refl _)) HSY.out HSX.out HE1'.out).mono ?_
            rintro e w' ⟨rfl, hbq⟩
            refine ⟨_, rfl, ?_, hbq⟩
            unfold Is
            rfl
          refine chain_val (u := ?_) [33, 36] rfl (by kernel_rfl) ⟨30, by decide +kernel, rfl, fun w x hx => by simpa using hx⟩ (fun ρ wc hbc hcn hk => ?_) ?_; rotate_left
          · obtain ⟨hcn, -⟩ := hcn
            simp at hk
            go_simp
            rfl
          refine chain_val (u := ?_) [30, 37] rfl (by kernel_rfl) trivial (fun ρ wc hbc hcn hk => ?_) ?_; rotate_left
          · obtain ⟨hcn, -⟩ := hcn
            simp at hk
            go_simp
            rfl
          refine chain_val (u := ?_) [38] rfl (by kernel_rfl) trivial (fun ρ wc hbc hcn hk => ?_) ?_; rotate_left
          · obtain ⟨hcn, -⟩ := hcn
            simp at hk
            go_simp
            rfl
          refine chain_val (u := ?_) [3] rfl (by kernel_rfl) ⟨39, by decide +kernel, rfl, fun w x hx => by simpa using hx⟩ (fun ρ wc hbc hcn hk => ?_) ?_; rotate_left
          · obtain ⟨hcn, -⟩ := hcn
            simp at hk
            obtain ⟨x2, y2, z2⟩ := H2.out.drew.below hbc
            obtain ⟨x3, y3, z3⟩ := H3.out.drew.below hbc
            obtain ⟨x4, y4, z4⟩ := H4.out.drew.below hbc
            go_simp
            rfl
          refine chain_val (u := ?_) [4] rfl (by kernel_rfl) ⟨39, by decide +kernel, rfl, fun w x hx => by simpa using hx⟩ (fun ρ wc hbc hcn hk => ?_) ?_; rotate_left
          · obtain ⟨hcn, -⟩ := hcn
            simp at hk
            obtain ⟨x2, y2, z2⟩ := H2.out.drew.below hbc
            obtain ⟨x3, y3, z3⟩ := H3.out.drew.below hbc
            obtain ⟨x4, y4, z4⟩ := H4.out.drew.below hbc
            go_simp
            rfl
          refine chain_call (T := Is ?_) 12 [40, 41] rfl (by kernel_rfl) ⟨39, by decide +kernel, rfl, fun w x hx => by simpa using hx⟩ (stable_is _) (fun ρ wc hbc hcn hk => ?_) ?_; rotate_left
          · obtain ⟨hcn, hfn⟩ := hcn
            simp at hk
            refine ⟨_, by go_simp; rfl, ?_⟩
            refine (NEqual_c x y A1 c1 B1 e1 A2 c2 B2 e2 false wc (HT.out.on (bel_on (bel_drew HB.out) hbc)) (HX.out.on (bel_on (bel_drew HB.out) hbc) (Nat.le_refl _)) (HY.out.on (bel_on (bel_drew HB.out) hbc) (Nat.le_refl _)) HSX.out HSY.out HE1.out).mono ?_
            rintro e w' ⟨rfl, hbq⟩
            refine ⟨_, rfl, ?_, hbq⟩
            unfold Is
            rfl
          refine chain_val (u := ?_) [42] rfl (by kernel_rfl) ⟨39, by decide +kernel, rfl, fun w x hx => by simpa using hx⟩ (fun ρ wc hbc hcn hk => ?_) ?_; rotate_left
          · obtain ⟨hcn, -⟩ := hcn
            simp at hk
            go_simp
            rfl
          refine chain_skip (s := 43) (c := false) rfl rfl (by decide +kernel) rfl rfl (fun w x hx => by simpa using hx) ?_
          refine chain_skip (s := 43) (c := false) rfl rfl (by decide +kernel) rfl rfl (fun w x hx => by simpa using hx) ?_
          refine chain_skip (s := 43) (c := false) rfl rfl (by decide +kernel) rfl rfl (fun w x hx => by simpa using hx) ?_
          refine chain_val (u := ?_) [43, 46] rfl (by kernel_rfl) ⟨39, by decide +kernel, rfl, fun w x hx => by simpa using hx⟩ (fun ρ wc hbc hcn hk => ?_) ?_; rotate_left
          · obtain ⟨hcn, -⟩ := hcn
            simp at hk
            go_simp
            rfl
          refine chain_val (u := ?_) [47] rfl (by kernel_rfl) ⟨39, by decide +kernel, rfl, fun w x hx => by simpa using hx⟩ (fun ρ wc hbc hcn hk => ?_) ?_; rotate_left
          · obtain ⟨hcn, -⟩ := hcn
            simp at hk
            go_simp
            rfl
          refine chain_skip (s := 48) (c := false) rfl rfl (by decide +kernel) rfl rfl (fun w x hx => by simpa using hx) ?_
          refine chain_skip (s := 48) (c := false) rfl rfl (by decide +kernel) rfl rfl (fun w x hx => by simpa using hx) ?_
          refine chain_skip (s := 48) (c := false) rfl rfl (by decide +kernel) rfl rfl (fun w x hx => by simpa using hx) ?_
          refine chain_skip (s := 48) (c := false) rfl rfl (by decide +kernel) rfl rfl (fun w x hx => by simpa using hx) ?_
          refine chain_val (u := ?_) [48, 52] rfl (by kernel_rfl) ⟨39, by decide +kernel, rfl, fun w x hx => by simpa using hx⟩ (fun ρ wc hbc hcn hk => ?_) ?_; rotate_left
          · obtain ⟨hcn, -⟩ := hcn
            simp at hk
            go_simp
            rfl
          refine chain_val (u := ?_) [39, 53] rfl (by kernel_rfl) trivial (fun ρ wc hbc hcn hk => ?_) ?_; rotate_left
          · obtain ⟨hcn, -⟩ := hcn
            simp at hk
            go_simp
            rfl
          refine chain_end_lit 100 rfl (fun ff w7 hb7 hk => ?_)
          refine hKK _ _ ?_
          simp [AllN] at hk
          simp only [frameL, hk, Nat.zero_add, Nat.reduceAdd]
          have hb7' : Below w2.heap.size w2 w7 := ⟨hb7.os, hb7.tape, hb7.output, hb7.size, hb7.block⟩
          clear hb7 hk
          have H2n := Lib.hid (H2.out.below hb7')
          have H3n := Lib.hid (H3.out.below hb7')
          have H4n := Lib.hid (H4.out.below hb7')
          have HBn := Lib.hid (bel_on HB.out hb7')
          clear hb7' H2 H3 H4 HB
          have H2 := H2n
          have H3 := H3n
          have H4 := H4n
          have HB := HBn
          clear H2n H3n H4n HBn
          obtain ⟨x2, y2, z2⟩ := H2.out
          obtain ⟨x3, y3, z3⟩ := H3.out
          obtain ⟨x4, y4, z4⟩ := H4.out
          go_wp2_with fail
          refine abs_code10 (F := fun W => Blk W w.heap.size #[.int .i64 x.k, .int .i64 x.e, .int .i64 x.n, .slice A1 x.d.length c1, .slice B1 x.ks.length e1] ∧ Blk W (w.heap.size + 1) #[.int .i64 y.k, .int .i64 y.e, .int .i64 y.n, .slice A2 y.d.length c2, .slice B2 y.ks.length e2] ∧ Blk W (w.heap.size + 1 + 1) #[.int .i64 z.k, .int .i64 z.e, .int .i64 z.n, .slice A3 z.d.length c3, .slice B3 z.ks.length e3] ∧ Blk W w7.heap.size #[.int .i64 x.k, .int .i64 x.e, .int .i64 x.n, .slice A1 x.d.length c1, .slice B1 x.ks.length e1] ∧ Below w.heap.size w W ∧ w.heap.size + 1 + 1 < w7.heap.size) ⟨?_, ?_, ?_, ?_, ?_, ?_⟩ ?_
          · exact H2.out.alloc _
          · exact H3.out.alloc _
          · exact H4.out.alloc _
          · exact Blk.fresh _ _ _
          · exact HB.out.alloc HB.out.size _
          · exact H4.out.lt
          generalize w7.heap.size = bm
          clear H2 H3 H4 HB
          clear x2 y2 z2 x3 y3 z3 x4 y4 z4
          rintro w8 ⟨h2, h3, h4, h7, hb, hlo⟩
          have H2 := Lib.hid h2
          have H3 := Lib.hid h3
          have H4 := Lib.hid h4
          have H7 := Lib.hid h7
          have HB := Lib.hid hb
          clear h2 h3 h4 h7 hb
          have hxo : ∀ wc, Keeps (fun q => w8.heap.size ≤ q) w8.drew wc → Blk wc w.heap.size #[.int .i64 x.k, .int .i64 x.e, .int .i64 x.n, .slice A1 x.d.length c1, .slice B1 x.ks.length e1] := fun wc hk => H2.out.drew.keeps hk (by have := H2.out.lt; omega)
          have hyo : ∀ wc, Keeps (fun q => w8.heap.size ≤ q) w8.drew wc → Blk wc (w.heap.size + 1) #[.int .i64 y.k, .int .i64 y.e, .int .i64 y.n, .slice A2 y.d.length c2, .slice B2 y.ks.length e2] := fun wc hk => H3.out.drew.keeps hk (by have := H3.out.lt; omega)
          have HXO := Lib.hid hxo
          have HYO := Lib.hid hyo
          clear hxo hyo
          rename_i KK hKK
          refine wp_region_a8 6 (fun q => w8.heap.size ≤ q) (by kernel_rfl) (by kernel_rfl) ?_
          refine a_new_l (T := EmpF w8.heap.size) [] (by kernel_rfl) rfl (by kernel_rfl) trivial (stable_empF _) (fun ρ wc hbc hcn hk => ?_) ?_
          · obtain ⟨hcn, -⟩ := hcn
            exact ⟨.slice (some ⟨wc.heap.size, 0, none⟩) 0 0, wc.alloc (.cells #[] 25), by go_simp, ⟨_, rfl, hbc.size, heap_alloc_new wc _⟩, (Below.refl _ _).alloc (Nat.le_refl _) _⟩
          refine a_val_l (u := ?_) [3] (by kernel_rfl) rfl (by kernel_rfl) trivial (fun ρ wc hbc hcn hk => ?_) ?_; rotate_left
          · obtain ⟨hcn, -⟩ := hcn
            simp at hk
            go_simp
            rfl
          refine a_val_l (u := ?_) [57] (by kernel_rfl) rfl (by kernel_rfl) trivial (fun ρ wc hbc hcn hk => ?_) ?_; rotate_left
          · obtain ⟨hcn, -⟩ := hcn
            simp at hk
            obtain ⟨x2, y2, z2⟩ := HXO.out wc hbc
            go_simp
            rfl
          refine a_new (T := OwnKF w w8.heap.size x.ks) [56, 58] (by kernel_rfl) rfl rfl (by kernel_rfl) trivial (stable_ownKF _ _ _) (fun ρ wc hbc hcn hk => ?_) ?_
          · obtain ⟨⟨q0, h56, hq0, hqc⟩, h58, -⟩ := hk
            obtain ⟨hk1, hk2, hk3⟩ := HX.out.kidsX
            exact exec_appK0 (.tmp 56) (.tmp 58) 23 rfl Tryd.underlying23 h56 hqc hq0 h58 hk1 hk2 hk3 (N0 := w.heap.size) (Nat.le_refl _) (bel_on (bel_drew HB.out) hbc) (by have := HKL.out; omega)
          refine a_val_l (u := ?_) [4] (by kernel_rfl) rfl (by kernel_rfl) trivial (fun ρ wc hbc hcn hk => ?_) ?_; rotate_left
          · obtain ⟨hcn, -⟩ := hcn
            simp at hk
            obtain ⟨x3, y3, z3⟩ := HYO.out wc hbc
            go_simp
            rfl
          refine a_new (T := CelF y A2 c2 B2 e2) [60] (by kernel_rfl) rfl rfl (by kernel_rfl) trivial (stable_celF _ _ _ _ _) (fun ρ wc hbc hcn hk => ?_) ?_
          · obtain ⟨hcn, -⟩ := hcn
            simp at hk
            exact ⟨.slice (some ⟨wc.heap.size, 0, none⟩) 1 1, wc.alloc (.cells #[.int .i64 y.k, .int .i64 y.e, .int .i64 y.n, .slice A2 y.d.length c2, .slice B2 y.ks.length e2] 25), by go_simp, ⟨_, rfl, fun o _ => by rw [blk_new]; simp [fiveC]⟩, (Below.refl _ _).alloc (Nat.le_refl _) _⟩
          refine a_sp (T := OwnKF w w8.heap.size (x.ks ++ [y])) [59, 61] rfl rfl (by kernel_rfl) trivial (stable_ownKF _ _ _) (fun a wc hbc hcn hk => ?_) ?_
          · obtain ⟨h59, ⟨q, h61, hq61⟩, -⟩ := hk
            refine wpList_appK1 rfl (.tmp 59) (.tmp 61) 23 rfl Tryd.underlying23 rfl h59 h61 hq61 HY.out HKL.out hbc.size ?_
            intro v' w' hown' hgr
            refine ⟨rfl, v', rfl, hown', ?_⟩
            rw [if_pos rfl]
            refine ⟨hgr.os, hgr.tape, hgr.output, hgr.size, fun q1 h1 h2 => hgr.block q1 h1 fun e => h2 ?_⟩
            obtain ⟨vs, hv1, _⟩ := h59
            exact (hv1.lt q1 e.symm).1
          refine a_val_l (u := ?_) [7] (by kernel_rfl) rfl (by kernel_rfl) trivial (fun ρ wc hbc hcn hk => ?_) ?_; rotate_left
          · obtain ⟨hcn, -⟩ := hcn
            simp at hk
            go_simp
            rfl
          refine a_end_lit 100 rfl (fun ff w9 hb9 hk => ?_)
          have hO2 : OwnK w w9 w8.heap.size (ff 62) (x.ks ++ [y]) := allN_atF hk 62 (by decide) (by decide)
          simp [AllN] at hk
          simp only [frameL, hk, Nat.zero_add, Nat.reduceAdd]
          have HB9 := Lib.hid hb9
          have hbl : Below w8.heap.size w8 w9 := by
            have := hb9.below (B := w8.heap.size) (Nat.le_refl _) (fun q hq => hq)
            exact ⟨this.os, this.tape, this.output, this.size, this.block⟩
          have HBL := Lib.hid hbl
          obtain ⟨B7, c7, hv7, -⟩ := hO2.slice (N0 := w.heap.size) (Nat.le_refl _) (bel_on HB.out hbl)
          rw [show (x.ks ++ [y]).length = x.ks.length + 1 by simp] at hv7
          have HO2 := Lib.hid hO2
          clear hO2 hb9 hk hbl
          rw [hv7] at HO2
          rw [hv7]
          clear hv7
          generalize ff 56 = v56
          generalize ff 59 = v59
          generalize ff 61 = v61
          have z7 := H7.out.lt
          refine split_store (fun W => Blk W w.heap.size #[.int .i64 x.k, .int .i64 x.e, .int .i64 x.n, .slice A1 x.d.length c1, .slice B1 x.ks.length e1] ∧ Blk W (w.heap.size + 1) #[.int .i64 y.k, .int .i64 y.e, .int .i64 y.n, .slice A2 y.d.length c2, .slice B2 y.ks.length e2] ∧ Blk W (w.heap.size + 1 + 1) #[.int .i64 z.k, .int .i64 z.e, .int .i64 z.n, .slice A3 z.d.length c3, .slice B3 z.ks.length e3] ∧ Blk W bm #[.int .i64 x.k, .int .i64 x.e, .int .i64 x.n, .slice A1 x.d.length c1, .slice B7 (x.ks.length + 1) c7] ∧ NdR W A1 c1 B7 c7 (moreOf x y) ∧ Below w.heap.size w W) rfl ?_ ?_
          · obtain ⟨x7, y7, z7'⟩ := (H7.out.drew.keeps HB9.out (by have := H7.out.lt; omega))
            go_wp2
            have hst : ∀ u, Below w.heap.size w (w9.setCell ⟨bm, 4, none⟩ u) := fun u => Below.setCell ((bel_on HB.out HBL.out)) (by show w.heap.size ≤ bm; omega) _
            refine ⟨rfl, rfl, ?_, ?_, ?_, ?_, ?_, ?_⟩
            · exact (H2.out.below HBL.out).other (by show bm ≠ w.heap.size; omega) _
            · exact (H3.out.below HBL.out).other (by show bm ≠ w.heap.size + 1; omega) _
            · exact (H4.out.below HBL.out).other (by show bm ≠ w.heap.size + 1 + 1; omega) _
            · exact (H7.out.below HBL.out).set 4 (by simp) _
            · refine (more_here (N0 := w.heap.size) (W0 := w) (x := x) (y := y) (HX.out.on (hst _) (Nat.le_refl _)) (base := w8.heap.size) (n0 := x.ks.length + 1) (HO2.out.far (by show bm < w8.heap.size; exact z7) _) (Nat.le_refl _) (hst _)).2
            · exact hst _
          rintro w9 ⟨h2, h3, h4, h7, hm, hb⟩
          refine hKK _ _ ?_
          clear H2 H3 H4 H7 HB HB9 HBL HO2 HXO HYO
          have H2 := Lib.hid h2
          have H3 := Lib.hid h3
          have H4 := Lib.hid h4
          have H7 := Lib.hid h7
          have HM := Lib.hid hm
          have HB := Lib.hid hb
          clear h2 h3 h4 h7 hm hb hKK KK
          obtain ⟨x2, y2, z2⟩ := H2.out
          obtain ⟨x3, y3, z3⟩ := H3.out
          obtain ⟨x4, y4, z4⟩ := H4.out
          obtain ⟨x7, y7, z7⟩ := H7.out
          go_wp2_with fail
          refine (NEqual_m1 x y A1 c1 B1 e1 B7 c7 _ (HT.out.on HB.out) (HX.out.on HB.out (Nat.le_refl _)) HM.out HSX.out HSM.out).mono ?_
          rintro r w10 ⟨rfl, hb10⟩
          clear x2 y2 z2 x3 y3 z3 x4 y4 z4 x7 y7 z7
          have H2n := Lib.hid (H2.out.below hb10)
          have H3n := Lib.hid (H3.out.below hb10)
          have H4n := Lib.hid (H4.out.below hb10)
          have HBn := Lib.hid (bel_on HB.out hb10)
          have H7n := Lib.hid (H7.out.below hb10)
          have HMn := Lib.hid (HM.out.on hb10 (Nat.le_refl _))
          clear hb10 H2 H3 H4 HB H7 HM
          have H2 := H2n
          have H3 := H3n
          have H4 := H4n
          have HB := HBn
          clear H2n H3n H4n HBn
          have H7 := H7n
          have HM := HMn
          clear H7n HMn
          obtain ⟨x2, y2, z2⟩ := H2.out
          obtain ⟨x3, y3, z3⟩ := H3.out
          obtain ⟨x4, y4, z4⟩ := H4.out
          obtain ⟨x7, y7, z7⟩ := H7.out
          go_wp2_with fail
          refine (NEqual_m2 x y A1 c1 B1 e1 B7 c7 _ (HT.out.on HB.out) (HX.out.on HB.out (Nat.le_refl _)) HM.out HSX.out HSM.out).mono ?_
          rintro r w11 ⟨rfl, hb11⟩
          clear x2 y2 z2 x3 y3 z3 x4 y4 z4 x7 y7 z7
          have H2n := Lib.hid (H2.out.below hb11)
          have H3n := Lib.hid (H3.out.below hb11)
          have H4n := Lib.hid (H4.out.below hb11)
          have HBn := Lib.hid (bel_on HB.out hb11)
          have H7n := Lib.hid (H7.out.below hb11)
          have HMn := Lib.hid (HM.out.on hb11 (Nat.le_refl _))
          clear hb11 H2 H3 H4 HB H7 HM
          have H2 := H2n
          have H3 := H3n
          have H4 := H4n
          have HB := HBn
          clear H2n H3n H4n HBn
          have H7 := H7n
          have HM := HMn
          clear H7n HMn
          obtain ⟨x2, y2, z2⟩ := H2.out
          obtain ⟨x3, y3, z3⟩ := H3.out
          obtain ⟨x4, y4, z4⟩ := H4.out
          obtain ⟨x7, y7, z7⟩ := H7.out
          go_wp2_with fail
          refine (NEqual_c x y A1 c1 B1 e1 A2 c2 B2 e2 false _ (HT.out.on HB.out) (HX.out.on HB.out (Nat.le_refl _)) (HY.out.on HB.out (Nat.le_refl _)) HSX.out HSY.out HE1.out).mono ?_
          rintro r w12 ⟨rfl, hb12⟩
          clear x2 y2 z2 x3 y3 z3 x4 y4 z4 x7 y7 z7
          have H2n := Lib.hid (H2.out.below hb12)
          have H3n := Lib.hid (H3.out.below hb12)
          have H4n := Lib.hid (H4.out.below hb12)
          have HBn := Lib.hid (bel_on HB.out hb12)
          have H7n := Lib.hid (H7.out.below hb12)
          have HMn := Lib.hid (HM.out.on hb12 (Nat.le_refl _))
          clear hb12 H2 H3 H4 HB H7 HM
          have H2 := H2n
          have H3 := H3n
          have H4 := H4n
          have HB := HBn
          clear H2n H3n H4n HBn
          have H7 := H7n
          have HM := HMn
          clear H7n HMn
          obtain ⟨x2, y2, z2⟩ := H2.out
          obtain ⟨x3, y3, z3⟩ := H3.out
          obtain ⟨x4, y4, z4⟩ := H4.out
          obtain ⟨x7, y7, z7⟩ := H7.out
          go_wp2
          go_ret
          exact ⟨rfl, HB.out⟩
        case pos =>
          have HE1 : Hid (eqN x y = true) := Lib.hid (eqN_yes he1)
          have HE1' : Hid (eqN y x = true) := Lib.hid (eqN_yes he1.symm)
          have HDY : Hid (((depthN y : Nat) : Int) = ((depthN x : Nat) : Int)) := Lib.hid (by rw [he1])
          have HOY : Hid (((objsN y : Nat) : Int) = ((objsN x : Nat) : Int)) := Lib.hid (by rw [he1])
          have HE := Lib.hid he1
          clear he1
          by_cases he2 : y = z
          case neg =>
            have HE2 : Hid (eqN y z = false) := Lib.hid (eqN_no he2)
            clear he2
            go_wp2_with fail
            clear x2 y2 z2 x3 y3 z3 x4 y4 z4
            rename_i KK hKK
            refine wp_region_chain (by kernel_rfl) (by kernel_rfl) ?_
            refine chain_val (u := ?_) [3] rfl (by kernel_rfl) trivial (fun ρ wc hbc hcn hk => ?_) ?_; rotate_left
            · obtain ⟨hcn, -⟩ := hcn
              simp at hk
              obtain ⟨x2, y2, z2⟩ := H2.out.drew.below hbc
              obtain ⟨x3, y3, z3⟩ := H3.out.drew.below hbc
              obtain ⟨x4, y4, z4⟩ := H4.out.drew.below hbc
              go_simp
              rfl
            refine chain_val (u := ?_) [3] rfl (by kernel_rfl) trivial (fun ρ wc hbc hcn hk => ?_) ?_; rotate_left
            · obtain ⟨hcn, -⟩ := hcn
              simp at hk
              obtain ⟨x2, y2, z2⟩ := H2.out.drew.below hbc
              obtain ⟨x3, y3, z3⟩ := H3.out.drew.below hbc
              obtain ⟨x4, y4, z4⟩ := H4.out.drew.below hbc
              go_simp
              rfl
            refine chain_call (T := Is ?_) 12 [26, 27] rfl (by kernel_rfl) trivial (stable_is _) (fun ρ wc hbc hcn hk => ?_) ?_; rotate_left
            · obtain ⟨hcn, hfn⟩ := hcn
              simp at hk
              refine ⟨_, by go_simp; rfl, ?_⟩
              refine (NEqual_c x x A1 c1 B1 e1 A1 c1 B1 e1 true wc (HT.out.on (bel_on (bel_drew HB.out) hbc)) (HX.out.on (bel_on (bel_drew HB.out) hbc) (Nat.le_refl _)) (HX.out.on (bel_on (bel_drew HB.out) hbc) (Nat.le_refl _)) HSX.out HSX.out (eqN_yes rfl)).mono ?_
              rintro e w' ⟨rfl, hbq⟩
              refine ⟨_, rfl, ?_, hbq⟩
              unfold Is
              rfl
            refine chain_val (u := ?_) [28] rfl (by kernel_rfl) trivial (fun ρ wc hbc hcn hk => ?_) ?_; rotate_left
            · obtain ⟨hcn, -⟩ := hcn
              simp at hk
              go_simp
              rfl
            refine chain_val (u := ?_) [29] rfl (by kernel_rfl) trivial (fun ρ wc hbc hcn hk => ?_) ?_; rotate_left
            · obtain ⟨hcn, -⟩ := hcn
              simp at hk
              go_simp
              rfl
            refine chain_val (u := ?_) [3] rfl (by kernel_rfl) ⟨30, by decide +kernel, rfl, fun w x hx => by simpa using hx⟩ (fun ρ wc hbc hcn hk => ?_) ?_; rotate_left
            · obtain ⟨hcn, -⟩ := hcn
              simp at hk
              obtain ⟨x2, y2, z2⟩ := H2.out.drew.below hbc
              obtain ⟨x3, y3, z3⟩ := H3.out.drew.below hbc
              obtain ⟨x4, y4, z4⟩ := H4.out.drew.below hbc
              go_simp
              rfl
            refine chain_val (u := ?_) [4] rfl (by kernel_rfl) ⟨30, by decide +kernel, rfl, fun w x hx => by simpa using hx⟩ (fun ρ wc hbc hcn hk => ?_) ?_; rotate_left
            · obtain ⟨hcn, -⟩ := hcn
              simp at hk
              obtain ⟨x2, y2, z2⟩ := H2.out.drew.below hbc
              obtain ⟨x3, y3, z3⟩ := H3.out.drew.below hbc
              obtain ⟨x4, y4, z4⟩ := H4.out.drew.below hbc
              go_simp
              rfl
            refine chain_call (T := Is ?_) 12 [31, 32] rfl (by kernel_rfl) ⟨30, by decide +kernel, rfl, fun w x hx => by simpa using hx⟩ (stable_is _) (fun ρ wc hbc hcn hk => ?_) ?_; rotate_left
            · obtain ⟨hcn, hfn⟩ := hcn
              simp at hk
              refine ⟨_, by go_simp; rfl, ?_⟩
              refine (NEqual_c x y A1 c1 B1 e1 A2 c2 B2 e2 true wc (HT.out.on (bel_on (bel_drew HB.out) hbc)) (HX.out.on (bel_on (bel_drew HB.out) hbc) (Nat.le_refl _)) (HY.out.on (bel_on (bel_drew HB.out) hbc) (Nat.le_refl _)) HSX.out HSY.out HE1.out).mono ?_
              rintro e w' ⟨rfl, hbq⟩
              refine ⟨_, rfl, ?_, hbq⟩
              unfold Is
              rfl
            refine chain_val (u := ?_) [4] rfl (by kernel_rfl) ⟨30, by decide +kernel, rfl, fun w x hx => by simpa using hx⟩ (fun ρ wc hbc hcn hk => ?_) ?_; rotate_left
            · obtain ⟨hcn, -⟩ := hcn
              simp at hk
              obtain ⟨x2, y2, z2⟩ := H2.out.drew.below hbc
              obtain ⟨x3, y3, z3⟩ := H3.out.drew.below hbc
              obtain ⟨x4, y4, z4⟩ := H4.out.drew.below hbc
              go_simp
              rfl
            refine chain_val (u := ?_) [3] rfl (by kernel_rfl) ⟨30, by decide +kernel, rfl, fun w x hx => by simpa using hx⟩ (fun ρ wc hbc hcn hk => ?_) ?_; rotate_left
            · obtain ⟨hcn, -⟩ := hcn
              simp at hk
              obtain ⟨x2, y2, z2⟩ := H2.out.drew.below hbc
              obtain ⟨x3, y3, z3⟩ := H3.out.drew.below hbc
              obtain ⟨x4, y4, z4⟩ := H4.out.drew.below hbc
              go_simp
              rfl
            refine chain_call (T := Is ?_) 12 [34, 35] rfl (by kernel_rfl) ⟨30, by decide +kernel, rfl, fun w x hx => by simpa using hx⟩ (stable_is _) (fun ρ wc hbc hcn hk => ?_) ?_; rotate_left
            · obtain ⟨hcn, hfn⟩ := hcn
              simp at hk
              refine ⟨_, by go_simp; rfl, ?_⟩
              refine (NEqual_c y x A2 c2 B2 e2 A1 c1 B1 e1 true wc (HT.out.on (bel_on (bel_drew HB.out) hbc)) (HY.out.on (bel_on (bel_drew HB.out) hbc) (Nat.le_refl _)) (HX.out.on (bel_on (bel_drew HB.out) hbc) (Nat.le_refl _)) HSY.out HSX.out HE1'.out).mono ?_
              rintro e w' ⟨rfl, hbq⟩
              refine ⟨_, rfl, ?_, hbq⟩
              unfold Is
              rfl
            refine chain_val (u := ?_) [33, 36] rfl (by kernel_rfl) ⟨30, by decide +kernel, rfl, fun w x hx => by simpa using hx⟩ (fun ρ wc hbc hcn hk => ?_) ?_; rotate_left
            · obtain ⟨hcn, -⟩ := hcn
              simp at hk
              go_simp
              rfl
            refine chain_val (u := ?_) [30, 37] rfl (by kernel_rfl) trivial (fun ρ wc hbc hcn hk => ?_) ?_; rotate_left
            · obtain ⟨hcn, -⟩ := hcn
              simp at hk
              go_simp
              rfl
            refine chain_val (u := ?_) [38] rfl (by kernel_rfl) trivial (fun ρ wc hbc hcn hk => ?_) ?_; rotate_left
            · obtain ⟨hcn, -⟩ := hcn
              simp at hk
              go_simp
              rfl
            refine chain_val (u := ?_) [3] rfl (by kernel_rfl) ⟨39, by decide +kernel, rfl, fun w x hx => by simpa using hx⟩ (fun ρ wc hbc hcn hk => ?_) ?_; rotate_left
            · obtain ⟨hcn, -⟩ := hcn
              simp at hk
              obtain ⟨x2, y2, z2⟩ := H2.out.drew.below hbc
              obtain ⟨x3, y3, z3⟩ := H3.out.drew.below hbc
              obtain ⟨x4, y4, z4⟩ := H4.out.drew.below hbc
              go_simp
              rfl
            refine chain_val (u := ?_) [4] rfl (by kernel_rfl) ⟨39, by decide +kernel, rfl, fun w x hx => by simpa using hx⟩ (fun ρ wc hbc hcn hk => ?_) ?_; rotate_left
            · obtain ⟨hcn, -⟩ := hcn
              simp at hk
              obtain ⟨x2, y2, z2⟩ := H2.out.drew.below hbc
              obtain ⟨x3, y3, z3⟩ := H3.out.drew.below hbc
              obtain ⟨x4, y4, z4⟩ := H4.out.drew.below hbc
              go_simp
              rfl
            refine chain_call (T := Is ?_) 12 [40, 41] rfl (by kernel_rfl) ⟨39, by decide +kernel, rfl, fun w x hx => by simpa using hx⟩ (stable_is _) (fun ρ wc hbc hcn hk => ?_) ?_; rotate_left
            · obtain ⟨hcn, hfn⟩ := hcn
              simp at hk
              refine ⟨_, by go_simp; rfl, ?_⟩
              refine (NEqual_c x y A1 c1 B1 e1 A2 c2 B2 e2 true wc (HT.out.on (bel_on (bel_drew HB.out) hbc)) (HX.out.on (bel_on (bel_drew HB.out) hbc) (Nat.le_refl _)) (HY.out.on (bel_on (bel_drew HB.out) hbc) (Nat.le_refl _)) HSX.out HSY.out HE1.out).mono ?_
              rintro e w' ⟨rfl, hbq⟩
              refine ⟨_, rfl, ?_, hbq⟩
              unfold Is
              rfl
            refine chain_val (u := ?_) [42] rfl (by kernel_rfl) ⟨39, by decide +kernel, rfl, fun w x hx => by simpa using hx⟩ (fun ρ wc hbc hcn hk => ?_) ?_; rotate_left
            · obtain ⟨hcn, -⟩ := hcn
              simp at hk
              go_simp
              rfl
            refine chain_val (u := ?_) [4] rfl (by kernel_rfl) ⟨43, by decide +kernel, rfl, fun w x hx => by simpa using hx⟩ (fun ρ wc hbc hcn hk => ?_) ?_; rotate_left
            · obtain ⟨hcn, -⟩ := hcn
              simp at hk
              obtain ⟨x2, y2, z2⟩ := H2.out.drew.below hbc
              obtain ⟨x3, y3, z3⟩ := H3.out.drew.below hbc
              obtain ⟨x4, y4, z4⟩ := H4.out.drew.below hbc
              go_simp
              rfl
            refine chain_val (u := ?_) [5] rfl (by kernel_rfl) ⟨43, by decide +kernel, rfl, fun w x hx => by simpa using hx⟩ (fun ρ wc hbc hcn hk => ?_) ?_; rotate_left
            · obtain ⟨hcn, -⟩ := hcn
              simp at hk
              obtain ⟨x2, y2, z2⟩ := H2.out.drew.below hbc
              obtain ⟨x3, y3, z3⟩ := H3.out.drew.below hbc
              obtain ⟨x4, y4, z4⟩ := H4.out.drew.below hbc
              go_simp
              rfl
            refine chain_call (T := Is ?_) 12 [44, 45] rfl (by kernel_rfl) ⟨43, by decide +kernel, rfl, fun w x hx => by simpa using hx⟩ (stable_is _) (fun ρ wc hbc hcn hk => ?_) ?_; rotate_left
            · obtain ⟨hcn, hfn⟩ := hcn
              simp at hk
              refine ⟨_, by go_simp; rfl, ?_⟩
              refine (NEqual_c y z A2 c2 B2 e2 A3 c3 B3 e3 false wc (HT.out.on (bel_on (bel_drew HB.out) hbc)) (HY.out.on (bel_on (bel_drew HB.out) hbc) (Nat.le_refl _)) (HZ.out.on (bel_on (bel_drew HB.out) hbc) (Nat.le_refl _)) HSY.out HSZ.out HE2.out).mono ?_
              rintro e w' ⟨rfl, hbq⟩
              refine ⟨_, rfl, ?_, hbq⟩
              unfold Is
              rfl
            refine chain_val (u := ?_) [43, 46] rfl (by kernel_rfl) ⟨39, by decide +kernel, rfl, fun w x hx => by simpa using hx⟩ (fun ρ wc hbc hcn hk => ?_) ?_; rotate_left
            · obtain ⟨hcn, -⟩ := hcn
              simp at hk
              go_simp
              rfl
            refine chain_val (u := ?_) [47] rfl (by kernel_rfl) ⟨39, by decide +kernel, rfl, fun w x hx => by simpa using hx⟩ (fun ρ wc hbc hcn hk => ?_) ?_; rotate_left
            · obtain ⟨hcn, -⟩ := hcn
              simp at hk
              go_simp
              rfl
            refine chain_skip (s := 48) (c := false) rfl rfl (by decide +kernel) rfl rfl (fun w x hx => by simpa using hx) ?_
            refine chain_skip (s := 48) (c := false) rfl rfl (by decide +kernel) rfl rfl (fun w x hx => by simpa using hx) ?_
            refine chain_skip (s := 48) (c := false) rfl rfl (by decide +kernel) rfl rfl (fun w x hx => by simpa using hx) ?_
            refine chain_skip (s := 48) (c := false) rfl rfl (by decide +kernel) rfl rfl (fun w x hx => by simpa using hx) ?_
            refine chain_val (u := ?_) [48, 52] rfl (by kernel_rfl) ⟨39, by decide +kernel, rfl, fun w x hx => by simpa using hx⟩ (fun ρ wc hbc hcn hk => ?_) ?_; rotate_left
            · obtain ⟨hcn, -⟩ := hcn
              simp at hk
              go_simp
              rfl
            refine chain_val (u := ?_) [39, 53] rfl (by kernel_rfl) trivial (fun ρ wc hbc hcn hk => ?_) ?_; rotate_left
            · obtain ⟨hcn, -⟩ := hcn
              simp at hk
              go_simp
              rfl
            refine chain_end_lit 100 rfl (fun ff w7 hb7 hk => ?_)
            refine hKK _ _ ?_
            simp [AllN] at hk
            simp only [frameL, hk, Nat.zero_add, Nat.reduceAdd]
            have hb7' : Below w2.heap.size w2 w7 := ⟨hb7.os, hb7.tape, hb7.output, hb7.size, hb7.block⟩
            clear hb7 hk
            have H2n := Lib.hid (H2.out.below hb7')
            have H3n := Lib.hid (H3.out.below hb7')
            have H4n := Lib.hid (H4.out.below hb7')
            have HBn := Lib.hid (bel_on HB.out hb7')
            clear hb7' H2 H3 H4 HB
            have H2 := H2n
            have H3 := H3n
            have H4 := H4n
            have HB := HBn
            clear H2n H3n H4n HBn
            obtain ⟨x2, y2, z2⟩ := H2.out
            obtain ⟨x3, y3, z3⟩ := H3.out
            obtain ⟨x4, y4, z4⟩ := H4.out
            go_wp2_with fail
            refine abs_code10 (F := fun W => Blk W w.heap.size #[.int .i64 x.k, .int .i64 x.e, .int .i64 x.n, .slice A1 x.d.length c1, .slice B1 x.ks.length e1] ∧ Blk W (w.heap.size + 1) #[.int .i64 y.k, .int .i64 y.e, .int .i64 y.n, .slice A2 y.d.length c2, .slice B2 y.ks.length e2] ∧ Blk W (w.heap.size + 1 + 1) #[.int .i64 z.k, .int .i64 z.e, .int .i64 z.n, .slice A3 z.d.length c3, .slice B3 z.ks.length e3] ∧ Blk W w7.heap.size #[.int .i64 x.k, .int .i64 x.e, .int .i64 x.n, .slice A1 x.d.length c1, .slice B1 x.ks.length e1] ∧ Below w.heap.size w W ∧ w.heap.size + 1 + 1 < w7.heap.size) ⟨?_, ?_, ?_, ?_, ?_, ?_⟩ ?_
            · exact H2.out.alloc _
            · exact H3.out.alloc _
            · exact H4.out.alloc _
            · exact Blk.fresh _ _ _
            · exact HB.out.alloc HB.out.size _
            · exact H4.out.lt
            generalize w7.heap.size = bm
            clear H2 H3 H4 HB
            clear x2 y2 z2 x3 y3 z3 x4 y4 z4
            rintro w8 ⟨h2, h3, h4, h7, hb, hlo⟩
            have H2 := Lib.hid h2
            have H3 := Lib.hid h3
            have H4 := Lib.hid h4
            have H7 := Lib.hid h7
            have HB := Lib.hid hb
            clear h2 h3 h4 h7 hb
            have hxo : ∀ wc, Keeps (fun q => w8.heap.size ≤ q) w8.drew wc → Blk wc w.heap.size #[.int .i64 x.k, .int .i64 x.e, .int .i64 x.n, .slice A1 x.d.length c1, .slice B1 x.ks.length e1] := fun wc hk => H2.out.drew.keeps hk (by have := H2.out.lt; omega)
            have hyo : ∀ wc, Keeps (fun q => w8.heap.size ≤ q) w8.drew wc → Blk wc (w.heap.size + 1) #[.int .i64 y.k, .int .i64 y.e, .int .i64 y.n, .slice A2 y.d.length c2, .slice B2 y.ks.length e2] := fun wc hk => H3.out.drew.keeps hk (by have := H3.out.lt; omega)
            have HXO := Lib.hid hxo
            have HYO := Lib.hid hyo
            clear hxo hyo
            rename_i KK hKK
            refine wp_region_a8 6 (fun q => w8.heap.size ≤ q) (by kernel_rfl) (by kernel_rfl) ?_
            refine a_new_l (T := EmpF w8.heap.size) [] (by kernel_rfl) rfl (by kernel_rfl) trivial (stable_empF _) (fun ρ wc hbc hcn hk => ?_) ?_
            · obtain ⟨hcn, -⟩ := hcn
              exact ⟨.slice (some ⟨wc.heap.size, 0, none⟩) 0 0, wc.alloc (.cells #[] 25), by go_simp, ⟨_, rfl, hbc.size, heap_alloc_new wc _⟩, (Below.refl _ _).alloc (Nat.le_refl _) _⟩
            refine a_val_l (u := ?_) [3] (by kernel_rfl) rfl (by kernel_rfl) trivial (fun ρ wc hbc hcn hk => ?_) ?_; rotate_left
            · obtain ⟨hcn, -⟩ := hcn
              simp at hk
              go_simp
              rfl
            refine a_val_l (u := ?_) [57] (by kernel_rfl) rfl (by kernel_rfl) trivial (fun ρ wc hbc hcn hk => ?_) ?_; rotate_left
            · obtain ⟨hcn, -⟩ := hcn
              simp at hk
              obtain ⟨x2, y2, z2⟩ := HXO.out wc hbc
              go_simp
              rfl
            refine a_new (T := OwnKF w w8.heap.size x.ks) [56, 58] (by kernel_rfl) rfl rfl (by kernel_rfl) trivial (stable_ownKF _ _ _) (fun ρ wc hbc hcn hk => ?_) ?_
            · obtain ⟨⟨q0, h56, hq0, hqc⟩, h58, -⟩ := hk
              obtain ⟨hk1, hk2, hk3⟩ := HX.out.kidsX
              exact exec_appK0 (.tmp 56) (.tmp 58) 23 rfl Tryd.underlying23 h56 hqc hq0 h58 hk1 hk2 hk3 (N0 := w.heap.size) (Nat.le_refl _) (bel_on (bel_drew HB.out) hbc) (by have := HKL.out; omega)
            refine a_val_l (u := ?_) [4] (by kernel_rfl) rfl (by kernel_rfl) trivial (fun ρ wc hbc hcn hk => ?_) ?_; rotate_left
            · obtain ⟨hcn, -⟩ := hcn
              simp at hk
              obtain ⟨x3, y3, z3⟩ := HYO.out wc hbc
              go_simp
              rfl
            refine a_new (T := CelF y A2 c2 B2 e2) [60] (by kernel_rfl) rfl rfl (by kernel_rfl) trivial (stable_celF _ _ _ _ _) (fun ρ wc hbc hcn hk => ?_) ?_
            · obtain ⟨hcn, -⟩ := hcn
              simp at hk
              exact ⟨.slice (some ⟨wc.heap.size, 0, none⟩) 1 1, wc.alloc (.cells #[.int .i64 y.k, .int .i64 y.e, .int .i64 y.n, .slice A2 y.d.length c2, .slice B2 y.ks.length e2] 25), by go_simp, ⟨_, rfl, fun o _ => by rw [blk_new]; simp [fiveC]⟩, (Below.refl _ _).alloc (Nat.le_refl _) _⟩
            refine a_sp (T := OwnKF w w8.heap.size (x.ks ++ [y])) [59, 61] rfl rfl (by kernel_rfl) trivial (stable_ownKF _ _ _) (fun a wc hbc hcn hk => ?_) ?_
            · obtain ⟨h59, ⟨q, h61, hq61⟩, -⟩ := hk
              refine wpList_appK1 rfl (.tmp 59) (.tmp 61) 23 rfl Tryd.underlying23 rfl h59 h61 hq61 HY.out HKL.out hbc.size ?_
              intro v' w' hown' hgr
              refine ⟨rfl, v', rfl, hown', ?_⟩
              rw [if_pos rfl]
              refine ⟨hgr.os, hgr.tape, hgr.output, hgr.size, fun q1 h1 h2 => hgr.block q1 h1 fun e => h2 ?_⟩
              obtain ⟨vs, hv1, _⟩ := h59
              exact (hv1.lt q1 e.symm).1
            refine a_val_l (u := ?_) [7] (by kernel_rfl) rfl (by kernel_rfl) trivial (fun ρ wc hbc hcn hk => ?_) ?_; rotate_left
            · obtain ⟨hcn, -⟩ := hcn
              simp at hk
              go_simp
              rfl
            refine a_end_lit 100 rfl (fun ff w9 hb9 hk => ?_)
            have hO2 : OwnK w w9 w8.heap.size (ff 62) (x.ks ++ [y]) := allN_atF hk 62 (by decide) (by decide)
            simp [AllN] at hk
            simp only [frameL, hk, Nat.zero_add, Nat.reduceAdd]
            have HB9 := Lib.hid hb9
            have hbl : Below w8.heap.size w8 w9 := by
              have := hb9.below (B := w8.heap.size) (Nat.le_refl _) (fun q hq => hq)
              exact ⟨this.os, this.tape, this.output, this.size, this.block⟩
            have HBL := Lib.hid hbl
            obtain ⟨B7, c7, hv7, -⟩ := hO2.slice (N0 := w.heap.size) (Nat.le_refl _) (bel_on HB.out hbl)
            rw [show (x.ks ++ [y]).length = x.ks.length + 1 by simp] at hv7
            have HO2 := Lib.hid hO2
            clear hO2 hb9 hk hbl
            rw [hv7] at HO2
            rw [hv7]
            clear hv7
            generalize ff 56 = v56
            generalize ff 59 = v59
            generalize ff 61 = v61
            have z7 := H7.out.lt
            refine split_store (fun W => Blk W w.heap.size #[.int .i64 x.k, .int .i64 x.e, .int .i64 x.n, .slice A1 x.d.length c1, .slice B1 x.ks.length e1] ∧ Blk W (w.heap.size + 1) #[.int .i64 y.k, .int .i64 y.e, .int .i64 y.n, .slice A2 y.d.length c2, .slice B2 y.ks.length e2] ∧ Blk W (w.heap.size + 1 + 1) #[.int .i64 z.k, .int .i64 z.e, .int .i64 z.n, .slice A3 z.d.length c3, .slice B3 z.ks.length e3] ∧ Blk W bm #[.int .i64 x.k, .int .i64 x.e, .int .i64 x.n, .slice A1 x.d.length c1, .slice B7 (x.ks.length + 1) c7] ∧ NdR W A1 c1 B7 c7 (moreOf x y) ∧ Below w.heap.size w W) rfl ?_ ?_
            · obtain ⟨x7, y7, z7'⟩ := (H7.out.drew.keeps HB9.out (by have := H7.out.lt; omega))
              go_wp2
              have hst : ∀ u, Below w.heap.size w (w9.setCell ⟨bm, 4, none⟩ u) := fun u => Below.setCell ((bel_on HB.out HBL.out)) (by show w.heap.size ≤ bm; omega) _
              refine ⟨rfl, rfl, ?_, ?_, ?_, ?_, ?_, ?_⟩
              · exact (H2.out.below HBL.out).other (by show bm ≠ w.heap.size; omega) _
              · exact (H3.out.below HBL.out).other (by show bm ≠ w.heap.size + 1; omega) _
              · exact (H4.out.below HBL.out).other (by show bm ≠ w.heap.size + 1 + 1; omega) _
              · exact (H7.out.below HBL.out).set 4 (by simp) _
              · refine (more_here (N0 := w.heap.size) (W0 := w) (x := x) (y := y) (HX.out.on (hst _) (Nat.le_refl _)) (base := w8.heap.size) (n0 := x.ks.length + 1) (HO2.out.far (by show bm < w8.heap.size; exact z7) _) (Nat.le_refl _) (hst _)).2
              · exact hst _
            rintro w9 ⟨h2, h3, h4, h7, hm, hb⟩
            refine hKK _ _ ?_
            clear H2 H3 H4 H7 HB HB9 HBL HO2 HXO HYO
            have H2 := Lib.hid h2
            have H3 := Lib.hid h3
            have H4 := Lib.hid h4
            have H7 := Lib.hid h7
            have HM := Lib.hid hm
            have HB := Lib.hid hb
            clear h2 h3 h4 h7 hm hb hKK KK
            obtain ⟨x2, y2, z2⟩ := H2.out
            obtain ⟨x3, y3, z3⟩ := H3.out
            obtain ⟨x4, y4, z4⟩ := H4.out
            obtain ⟨x7, y7, z7⟩ := H7.out
            go_wp2_with fail
            refine (NEqual_m1 x y A1 c1 B1 e1 B7 c7 _ (HT.out.on HB.out) (HX.out.on HB.out (Nat.le_refl _)) HM.out HSX.out HSM.out).mono ?_
            rintro r w10 ⟨rfl, hb10⟩
            clear x2 y2 z2 x3 y3 z3 x4 y4 z4 x7 y7 z7
            have H2n := Lib.hid (H2.out.below hb10)
            have H3n := Lib.hid (H3.out.below hb10)
            have H4n := Lib.hid (H4.out.below hb10)
            have HBn := Lib.hid (bel_on HB.out hb10)
            have H7n := Lib.hid (H7.out.below hb10)
            have HMn := Lib.hid (HM.out.on hb10 (Nat.le_refl _))
            clear hb10 H2 H3 H4 HB H7 HM
            have H2 := H2n
            have H3 := H3n
            have H4 := H4n
            have HB := HBn
            clear H2n H3n H4n HBn
            have H7 := H7n
            have HM := HMn
            clear H7n HMn
            obtain ⟨x2, y2, z2⟩ := H2.out
            obtain ⟨x3, y3, z3⟩ := H3.out
            obtain ⟨x4, y4, z4⟩ := H4.out
            obtain ⟨x7, y7, z7⟩ := H7.out
            go_wp2_with fail
            refine (NEqual_m2 x y A1 c1 B1 e1 B7 c7 _ (HT.out.on HB.out) (HX.out.on HB.out (Nat.le_refl _)) HM.out HSX.out HSM.out).mono ?_
            rintro r w11 ⟨rfl, hb11⟩
            clear x2 y2 z2 x3 y3 z3 x4 y4 z4 x7 y7 z7
            have H2n := Lib.hid (H2.out.below hb11)
            have H3n := Lib.hid (H3.out.below hb11)
            have H4n := Lib.hid (H4.out.below hb11)
            have HBn := Lib.hid (bel_on HB.out hb11)
            have H7n := Lib.hid (H7.out.below hb11)
            have HMn := Lib.hid (HM.out.on hb11 (Nat.le_refl _))
            clear hb11 H2 H3 H4 HB H7 HM
            have H2 := H2n
            have H3 := H3n
            have H4 := H4n
            have HB := HBn
            clear H2n H3n H4n HBn
            have H7 := H7n
            have HM := HMn
            clear H7n HMn
            obtain ⟨x2, y2, z2⟩ := H2.out
            obtain ⟨x3, y3, z3⟩ := H3.out
            obtain ⟨x4, y4, z4⟩ := H4.out
            obtain ⟨x7, y7, z7⟩ := H7.out
            go_wp2_with fail
            refine (NEqual_c x y A1 c1 B1 e1 A2 c2 B2 e2 true _ (HT.out.on HB.out) (HX.out.on HB.out (Nat.le_refl _)) (HY.out.on HB.out (Nat.le_refl _)) HSX.out HSY.out HE1.out).mono ?_
            rintro r w12 ⟨rfl, hb12⟩
            clear x2 y2 z2 x3 y3 z3 x4 y4 z4 x7 y7 z7
            have H2n := Lib.hid (H2.out.below hb12)
            have H3n := Lib.hid (H3.out.below hb12)
            have H4n := Lib.hid (H4.out.below hb12)
            have HBn := Lib.hid (bel_on HB.out hb12)
            have H7n := Lib.hid (H7.out.below hb12)
            have HMn := Lib.hid (HM.out.on hb12 (Nat.le_refl _))
            clear hb12 H2 H3 H4 HB H7 HM
            have H2 := H2n
            have H3 := H3n
            have H4 := H4n
            have HB := HBn
            clear H2n H3n H4n HBn
            have H7 := H7n
            have HM := HMn
            clear H7n HMn
            obtain ⟨x2, y2, z2⟩ := H2.out
            obtain ⟨x3, y3, z3⟩ := H3.out
            obtain ⟨x4, y4, z4⟩ := H4.out
            obtain ⟨x7, y7, z7⟩ := H7.out
            cases hv : validN x with
            | false =>
              have HV := Lib.hid hv
              have HVY : Hid (validN y = false) := Lib.hid (HE.out ▸ hv)
              clear hv
              go_wp2_with fail
              clear x2 y2 z2 x3 y3 z3 x4 y4 z4 x7 y7 z7
              rename_i KK hKK
              refine wp_region_chain (by kernel_rfl) (by kernel_rfl) ?_
              refine chain_val (u := ?_) [3] rfl (by kernel_rfl) trivial (fun ρ wc hbc hcn hk => ?_) ?_; rotate_left
              · obtain ⟨hcn, -⟩ := hcn
                simp at hk
                obtain ⟨x2, y2, z2⟩ := H2.out.drew.below hbc
                obtain ⟨x3, y3, z3⟩ := H3.out.drew.below hbc
                obtain ⟨x4, y4, z4⟩ := H4.out.drew.below hbc
                go_simp
                rfl
              refine chain_call (T := Is ?_) 10 [76] rfl (by kernel_rfl) trivial (stable_is _) (fun ρ wc hbc hcn hk => ?_) ?_; rotate_left
              · obtain ⟨hcn, hfn⟩ := hcn
                simp at hk
                refine ⟨_, by go_simp; rfl, ?_⟩
                refine (NValid_c x A1 c1 B1 e1 false wc (HT.out.on (bel_on (bel_drew HB.out) hbc)) (HX.out.on (bel_on (bel_drew HB.out) hbc) (Nat.le_refl _)) HSX.out HV.out).mono ?_
                rintro e w' ⟨rfl, hbq⟩
                refine ⟨_, rfl, ?_, hbq⟩
                unfold Is
                rfl
              refine chain_val (u := ?_) [4] rfl (by kernel_rfl) trivial (fun ρ wc hbc hcn hk => ?_) ?_; rotate_left
              · obtain ⟨hcn, -⟩ := hcn
                simp at hk
                obtain ⟨x2, y2, z2⟩ := H2.out.drew.below hbc
                obtain ⟨x3, y3, z3⟩ := H3.out.drew.below hbc
                obtain ⟨x4, y4, z4⟩ := H4.out.drew.below hbc
                go_simp
                rfl
              refine chain_call (T := Is ?_) 10 [78] rfl (by kernel_rfl) trivial (stable_is _) (fun ρ wc hbc hcn hk => ?_) ?_; rotate_left
              · obtain ⟨hcn, hfn⟩ := hcn
                simp at hk
                refine ⟨_, by go_simp; rfl, ?_⟩
                refine (NValid_c y A2 c2 B2 e2 false wc (HT.out.on (bel_on (bel_drew HB.out) hbc)) (HY.out.on (bel_on (bel_drew HB.out) hbc) (Nat.le_refl _)) HSY.out HVY.out).mono ?_
                rintro e w' ⟨rfl, hbq⟩
                refine ⟨_, rfl, ?_, hbq⟩
                unfold Is
                rfl
              refine chain_val (u := ?_) [77, 79] rfl (by kernel_rfl) trivial (fun ρ wc hbc hcn hk => ?_) ?_; rotate_left
              · obtain ⟨hcn, -⟩ := hcn
                simp at hk
                go_simp
                rfl
              refine chain_val (u := ?_) [80] rfl (by kernel_rfl) trivial (fun ρ wc hbc hcn hk => ?_) ?_; rotate_left
              · obtain ⟨hcn, -⟩ := hcn
                simp at hk
                go_simp
                rfl
              refine chain_val (u := ?_) [3] rfl (by kernel_rfl) ⟨81, by decide +kernel, rfl, fun w x hx => by simpa using hx⟩ (fun ρ wc hbc hcn hk => ?_) ?_; rotate_left
              · obtain ⟨hcn, -⟩ := hcn
                simp at hk
                obtain ⟨x2, y2, z2⟩ := H2.out.drew.below hbc
                obtain ⟨x3, y3, z3⟩ := H3.out.drew.below hbc
                obtain ⟨x4, y4, z4⟩ := H4.out.drew.below hbc
                go_simp
                rfl
              refine chain_call (T := Is ?_) 10 [82] rfl (by kernel_rfl) ⟨81, by decide +kernel, rfl, fun w x hx => by simpa using hx⟩ (stable_is _) (fun ρ wc hbc hcn hk => ?_) ?_; rotate_left
              · obtain ⟨hcn, hfn⟩ := hcn
                simp at hk
                refine ⟨_, by go_simp; rfl, ?_⟩
                refine (NValid_c x A1 c1 B1 e1 false wc (HT.out.on (bel_on (bel_drew HB.out) hbc)) (HX.out.on (bel_on (bel_drew HB.out) hbc) (Nat.le_refl _)) HSX.out HV.out).mono ?_
                rintro e w' ⟨rfl, hbq⟩
                refine ⟨_, rfl, ?_, hbq⟩
                unfold Is
                rfl
              refine chain_val (u := ?_) [83] rfl (by kernel_rfl) ⟨81, by decide +kernel, rfl, fun w x hx => by simpa using hx⟩ (fun ρ wc hbc hcn hk => ?_) ?_; rotate_left
              · obtain ⟨hcn, -⟩ := hcn
                simp at hk
                go_simp
                rfl
              refine chain_val (u := ?_) [84] rfl (by kernel_rfl) ⟨81, by decide +kernel, rfl, fun w x hx => by simpa using hx⟩ (fun ρ wc hbc hcn hk => ?_) ?_; rotate_left
              · obtain ⟨hcn, -⟩ := hcn
                simp at hk
                go_simp
                rfl
              refine chain_skip (s := 85) (c := true) rfl rfl (by decide +kernel) rfl rfl (fun w x hx => by simpa using hx) ?_
              refine chain_skip (s := 85) (c := true) rfl rfl (by decide +kernel) rfl rfl (fun w x hx => by simpa using hx) ?_
              refine chain_skip (s := 85) (c := true) rfl rfl (by decide +kernel) rfl rfl (fun w x hx => by simpa using hx) ?_
              refine chain_skip (s := 85) (c := true) rfl rfl (by decide +kernel) rfl rfl (fun w x hx => by simpa using hx) ?_
              refine chain_skip (s := 85) (c := true) rfl rfl (by decide +kernel) rfl rfl (fun w x hx => by simpa using hx) ?_
              refine chain_skip (s := 85) (c := true) rfl rfl (by decide +kernel) rfl rfl (fun w x hx => by simpa using hx) ?_
              refine chain_skipU (s := 91) rfl rfl (by decide +kernel) rfl (fun w x hx => by simpa using hx) ?_
              refine chain_skipU (s := 91) rfl rfl (by decide +kernel) rfl (fun w x hx => by simpa using hx) ?_
              refine chain_skipU (s := 91) rfl rfl (by decide +kernel) rfl (fun w x hx => by simpa using hx) ?_
              refine chain_skipU (s := 91) rfl rfl (by decide +kernel) rfl (fun w x hx => by simpa using hx) ?_
              refine chain_skipU (s := 91) rfl rfl (by decide +kernel) rfl (fun w x hx => by simpa using hx) ?_
              refine chain_skip (s := 85) (c := true) rfl rfl (by decide +kernel) rfl rfl (fun w x hx => by simpa using hx) ?_
              refine chain_val (u := ?_) [85, 97] rfl (by kernel_rfl) ⟨81, by decide +kernel, rfl, fun w x hx => by simpa using hx⟩ (fun ρ wc hbc hcn hk => ?_) ?_; rotate_left
              · obtain ⟨hcn, -⟩ := hcn
                simp at hk
                go_simp
                rfl
              refine chain_val (u := ?_) [81, 98] rfl (by kernel_rfl) trivial (fun ρ wc hbc hcn hk => ?_) ?_; rotate_left
              · obtain ⟨hcn, -⟩ := hcn
                simp at hk
                go_simp
                rfl
              refine chain_val (u := ?_) [99] rfl (by kernel_rfl) trivial (fun ρ wc hbc hcn hk => ?_) ?_; rotate_left
              · obtain ⟨hcn, -⟩ := hcn
                simp at hk
                go_simp
                rfl

              refine chain_end_lit 100 rfl (fun ff w17 hb17 hk => ?_)
              refine hKK _ _ ?_
              simp [AllN] at hk
              simp only [frameL, hk]
              have HB17 : Hid (Below w.heap.size w w17) := Lib.hid (bel_on (bel_drew HB.out) hb17)
              clear hb17 hk
              go_wp2
              go_ret
              exact ⟨rfl, HB17.out⟩
            | true =>
              have HV := Lib.hid hv
              have HVY : Hid (validN y = true) := Lib.hid (HE.out ▸ hv)
              clear hv
              go_wp2_with fail
              clear x2 y2 z2 x3 y3 z3 x4 y4 z4 x7 y7 z7
              rename_i KK hKK
              refine wp_region_chain (by kernel_rfl) (by kernel_rfl) ?_
              refine chain_val (u := ?_) [3] rfl (by kernel_rfl) trivial (fun ρ wc hbc hcn hk => ?_) ?_; rotate_left
              · obtain ⟨hcn, -⟩ := hcn
                simp at hk
                obtain ⟨x2, y2, z2⟩ := H2.out.drew.below hbc
                obtain ⟨x3, y3, z3⟩ := H3.out.drew.below hbc
                obtain ⟨x4, y4, z4⟩ := H4.out.drew.below hbc
                go_simp
                rfl
              refine chain_call (T := Is ?_) 10 [76] rfl (by kernel_rfl) trivial (stable_is _) (fun ρ wc hbc hcn hk => ?_) ?_; rotate_left
              · obtain ⟨hcn, hfn⟩ := hcn
                simp at hk
                refine ⟨_, by go_simp; rfl, ?_⟩
                refine (NValid_c x A1 c1 B1 e1 true wc (HT.out.on (bel_on (bel_drew HB.out) hbc)) (HX.out.on (bel_on (bel_drew HB.out) hbc) (Nat.le_refl _)) HSX.out HV.out).mono ?_
                rintro e w' ⟨rfl, hbq⟩
                refine ⟨_, rfl, ?_, hbq⟩
                unfold Is
                rfl
              refine chain_val (u := ?_) [4] rfl (by kernel_rfl) trivial (fun ρ wc hbc hcn hk => ?_) ?_; rotate_left
              · obtain ⟨hcn, -⟩ := hcn
                simp at hk
                obtain ⟨x2, y2, z2⟩ := H2.out.drew.below hbc
                obtain ⟨x3, y3, z3⟩ := H3.out.drew.below hbc
                obtain ⟨x4, y4, z4⟩ := H4.out.drew.below hbc
                go_simp
                rfl
              refine chain_call (T := Is ?_) 10 [78] rfl (by kernel_rfl) trivial (stable_is _) (fun ρ wc hbc hcn hk => ?_) ?_; rotate_left
              · obtain ⟨hcn, hfn⟩ := hcn
                simp at hk
                refine ⟨_, by go_simp; rfl, ?_⟩
                refine (NValid_c y A2 c2 B2 e2 true wc (HT.out.on (bel_on (bel_drew HB.out) hbc)) (HY.out.on (bel_on (bel_drew HB.out) hbc) (Nat.le_refl _)) HSY.out HVY.out).mono ?_
                rintro e w' ⟨rfl, hbq⟩
                refine ⟨_, rfl, ?_, hbq⟩
                unfold Is
                rfl
              refine chain_val (u := ?_) [77, 79] rfl (by kernel_rfl) trivial (fun ρ wc hbc hcn hk => ?_) ?_; rotate_left
              · obtain ⟨hcn, -⟩ := hcn
                simp at hk
                go_simp
                rfl
              refine chain_val (u := ?_) [80] rfl (by kernel_rfl) trivial (fun ρ wc hbc hcn hk => ?_) ?_; rotate_left
              · obtain ⟨hcn, -⟩ := hcn
                simp at hk
                go_simp
                rfl
              refine chain_val (u := ?_) [3] rfl (by kernel_rfl) ⟨81, by decide +kernel, rfl, fun w x hx => by simpa using hx⟩ (fun ρ wc hbc hcn hk => ?_) ?_; rotate_left
              · obtain ⟨hcn, -⟩ := hcn
                simp at hk
                obtain ⟨x2, y2, z2⟩ := H2.out.drew.below hbc
                obtain ⟨x3, y3, z3⟩ := H3.out.drew.below hbc
                obtain ⟨x4, y4, z4⟩ := H4.out.drew.below hbc
                go_simp
                rfl
              refine chain_call (T := Is ?_) 10 [82] rfl (by kernel_rfl) ⟨81, by decide +kernel, rfl, fun w x hx => by simpa using hx⟩ (stable_is _) (fun ρ wc hbc hcn hk => ?_) ?_; rotate_left
              · obtain ⟨hcn, hfn⟩ := hcn
                simp at hk
                refine ⟨_, by go_simp; rfl, ?_⟩
                refine (NValid_c x A1 c1 B1 e1 true wc (HT.out.on (bel_on (bel_drew HB.out) hbc)) (HX.out.on (bel_on (bel_drew HB.out) hbc) (Nat.le_refl _)) HSX.out HV.out).mono ?_
                rintro e w' ⟨rfl, hbq⟩
                refine ⟨_, rfl, ?_, hbq⟩
                unfold Is
                rfl
              refine chain_val (u := ?_) [83] rfl (by kernel_rfl) ⟨81, by decide +kernel, rfl, fun w x hx => by simpa using hx⟩ (fun ρ wc hbc hcn hk => ?_) ?_; rotate_left
              · obtain ⟨hcn, -⟩ := hcn
                simp at hk
                go_simp
                rfl
              refine chain_val (u := ?_) [84] rfl (by kernel_rfl) ⟨81, by decide +kernel, rfl, fun w x hx => by simpa using hx⟩ (fun ρ wc hbc hcn hk => ?_) ?_; rotate_left
              · obtain ⟨hcn, -⟩ := hcn
                simp at hk
                go_simp
                rfl
              refine chain_val (u := ?_) [3] rfl (by kernel_rfl) ⟨85, by decide +kernel, rfl, fun w x hx => by simpa using hx⟩ (fun ρ wc hbc hcn hk => ?_) ?_; rotate_left
              · obtain ⟨hcn, -⟩ := hcn
                simp at hk
                obtain ⟨x2, y2, z2⟩ := H2.out.drew.below hbc
                obtain ⟨x3, y3, z3⟩ := H3.out.drew.below hbc
                obtain ⟨x4, y4, z4⟩ := H4.out.drew.below hbc
                go_simp
                rfl
              refine chain_call (T := Is ?_) 14 [86] rfl (by kernel_rfl) ⟨85, by decide +kernel, rfl, fun w x hx => by simpa using hx⟩ (stable_is _) (fun ρ wc hbc hcn hk => ?_) ?_; rotate_left
              · obtain ⟨hcn, hfn⟩ := hcn
                simp at hk
                refine ⟨_, by go_simp; rfl, ?_⟩
                refine (NDepth_c x A1 c1 B1 e1 _ wc (HT.out.on (bel_on (bel_drew HB.out) hbc)) (HX.out.on (bel_on (bel_drew HB.out) hbc) (Nat.le_refl _)) HSX.out HV.out rfl).mono ?_
                rintro e w' ⟨rfl, hbq⟩
                refine ⟨_, rfl, ?_, hbq⟩
                unfold Is
                rfl
              refine chain_val (u := ?_) [4] rfl (by kernel_rfl) ⟨85, by decide +kernel, rfl, fun w x hx => by simpa using hx⟩ (fun ρ wc hbc hcn hk => ?_) ?_; rotate_left
              · obtain ⟨hcn, -⟩ := hcn
                simp at hk
                obtain ⟨x2, y2, z2⟩ := H2.out.drew.below hbc
                obtain ⟨x3, y3, z3⟩ := H3.out.drew.below hbc
                obtain ⟨x4, y4, z4⟩ := H4.out.drew.below hbc
                go_simp
                rfl
              refine chain_call (T := Is ?_) 14 [88] rfl (by kernel_rfl) ⟨85, by decide +kernel, rfl, fun w x hx => by simpa using hx⟩ (stable_is _) (fun ρ wc hbc hcn hk => ?_) ?_; rotate_left
              · obtain ⟨hcn, hfn⟩ := hcn
                simp at hk
                refine ⟨_, by go_simp; rfl, ?_⟩
                refine (NDepth_c y A2 c2 B2 e2 _ wc (HT.out.on (bel_on (bel_drew HB.out) hbc)) (HY.out.on (bel_on (bel_drew HB.out) hbc) (Nat.le_refl _)) HSY.out HVY.out HDY.out).mono ?_
                rintro e w' ⟨rfl, hbq⟩
                refine ⟨_, rfl, ?_, hbq⟩
                unfold Is
                rfl
              refine chain_val (u := ?_) [87, 89] rfl (by kernel_rfl) ⟨85, by decide +kernel, rfl, fun w x hx => by simpa using hx⟩ (fun ρ wc hbc hcn hk => ?_) ?_; rotate_left
              · obtain ⟨hcn, -⟩ := hcn
                simp at hk
                go_simp
                rfl
              refine chain_val (u := ?_) [90] rfl (by kernel_rfl) ⟨85, by decide +kernel, rfl, fun w x hx => by simpa using hx⟩ (fun ρ wc hbc hcn hk => ?_) ?_; rotate_left
              · obtain ⟨hcn, -⟩ := hcn
                simp at hk
                go_simp
                rfl
              refine chain_val (u := ?_) [3] rfl (by kernel_rfl) ⟨91, by decide +kernel, rfl, fun w x hx => by simpa using hx⟩ (fun ρ wc hbc hcn hk => ?_) ?_; rotate_left
              · obtain ⟨hcn, -⟩ := hcn
                simp at hk
                obtain ⟨x2, y2, z2⟩ := H2.out.drew.below hbc
                obtain ⟨x3, y3, z3⟩ := H3.out.drew.below hbc
                obtain ⟨x4, y4, z4⟩ := H4.out.drew.below hbc
                go_simp
                rfl
              refine chain_call (T := Is ?_) 16 [92] rfl (by kernel_rfl) ⟨91, by decide +kernel, rfl, fun w x hx => by simpa using hx⟩ (stable_is _) (fun ρ wc hbc hcn hk => ?_) ?_; rotate_left
              · obtain ⟨hcn, hfn⟩ := hcn
                simp at hk
                refine ⟨_, by go_simp; rfl, ?_⟩
                refine (NObjects_c x A1 c1 B1 e1 _ wc (HT.out.on (bel_on (bel_drew HB.out) hbc)) (HX.out.on (bel_on (bel_drew HB.out) hbc) (Nat.le_refl _)) HSX.out HV.out rfl).mono ?_
                rintro e w' ⟨rfl, hbq⟩
                refine ⟨_, rfl, ?_, hbq⟩
                unfold Is
                rfl
              refine chain_val (u := ?_) [4] rfl (by kernel_rfl) ⟨91, by decide +kernel, rfl, fun w x hx => by simpa using hx⟩ (fun ρ wc hbc hcn hk => ?_) ?_; rotate_left
              · obtain ⟨hcn, -⟩ := hcn
                simp at hk
                obtain ⟨x2, y2, z2⟩ := H2.out.drew.below hbc
                obtain ⟨x3, y3, z3⟩ := H3.out.drew.below hbc
                obtain ⟨x4, y4, z4⟩ := H4.out.drew.below hbc
                go_simp
                rfl
              refine chain_call (T := Is ?_) 16 [94] rfl (by kernel_rfl) ⟨91, by decide +kernel, rfl, fun w x hx => by simpa using hx⟩ (stable_is _) (fun ρ wc hbc hcn hk => ?_) ?_; rotate_left
              · obtain ⟨hcn, hfn⟩ := hcn
                simp at hk
                refine ⟨_, by go_simp; rfl, ?_⟩
                refine (NObjects_c y A2 c2 B2 e2 _ wc (HT.out.on (bel_on (bel_drew HB.out) hbc)) (HY.out.on (bel_on (bel_drew HB.out) hbc) (Nat.le_refl _)) HSY.out HVY.out HOY.out).mono ?_
                rintro e w' ⟨rfl, hbq⟩
                refine ⟨_, rfl, ?_, hbq⟩
                unfold Is
                rfl
              refine chain_val (u := ?_) [93, 95] rfl (by kernel_rfl) ⟨91, by decide +kernel, rfl, fun w x hx => by simpa using hx⟩ (fun ρ wc hbc hcn hk => ?_) ?_; rotate_left
              · obtain ⟨hcn, -⟩ := hcn
                simp at hk
                go_simp
                rfl
              refine chain_val (u := ?_) [91, 96] rfl (by kernel_rfl) ⟨85, by decide +kernel, rfl, fun w x hx => by simpa using hx⟩ (fun ρ wc hbc hcn hk => ?_) ?_; rotate_left
              · obtain ⟨hcn, -⟩ := hcn
                simp at hk
                go_simp
                rfl
              refine chain_val (u := ?_) [85, 97] rfl (by kernel_rfl) ⟨81, by decide +kernel, rfl, fun w x hx => by simpa using hx⟩ (fun ρ wc hbc hcn hk => ?_) ?_; rotate_left
              · obtain ⟨hcn, -⟩ := hcn
                simp at hk
                go_simp
                rfl
              refine chain_val (u := ?_) [81, 98] rfl (by kernel_rfl) trivial (fun ρ wc hbc hcn hk => ?_) ?_; rotate_left
              · obtain ⟨hcn, -⟩ := hcn
                simp at hk
                go_simp
                rfl
              refine chain_val (u := ?_) [99] rfl (by kernel_rfl) trivial (fun ρ wc hbc hcn hk => ?_) ?_; rotate_left
              · obtain ⟨hcn, -⟩ := hcn
                simp at hk
                go_simp
                rfl

              refine chain_end_lit 100 rfl (fun ff w17 hb17 hk => ?_)
              refine hKK _ _ ?_
              simp [AllN] at hk
              simp only [frameL, hk]
              have HB17 : Hid (Below w.heap.size w w17) := Lib.hid (bel_on (bel_drew HB.out) hb17)
              clear hb17 hk
              go_wp2
              go_ret
              exact ⟨rfl, HB17.out⟩
          case pos =>
            have HE2 : Hid (eqN y z = true) := Lib.hid (eqN_yes he2)
            have HE3 : Hid (eqN x z = true) := Lib.hid (eqN_yes (HE.out.trans he2))
            clear he2
            go_wp2_with fail
            clear x2 y2 z2 x3 y3 z3 x4 y4 z4
            rename_i KK hKK
            refine wp_region_chain (by kernel_rfl) (by kernel_rfl) ?_
            refine chain_val (u := ?_) [3] rfl (by kernel_rfl) trivial (fun ρ wc hbc hcn hk => ?_) ?_; rotate_left
            · obtain ⟨hcn, -⟩ := hcn
              simp at hk
              obtain ⟨x2, y2, z2⟩ := H2.out.drew.below hbc
              obtain ⟨x3, y3, z3⟩ := H3.out.drew.below hbc
              obtain ⟨x4, y4, z4⟩ := H4.out.drew.below hbc
              go_simp
              rfl
            refine chain_val (u := ?_) [3] rfl (by kernel_rfl) trivial (fun ρ wc hbc hcn hk => ?_) ?_; rotate_left
            · obtain ⟨hcn, -⟩ := hcn
              simp at hk
              obtain ⟨x2, y2, z2⟩ := H2.out.drew.below hbc
              obtain ⟨x3, y3, z3⟩ := H3.out.drew.below hbc
              obtain ⟨x4, y4, z4⟩ := H4.out.drew.below hbc
              go_simp
              rfl
            refine chain_call (T := Is ?_) 12 [26, 27] rfl (by kernel_rfl) trivial (stable_is _) (fun ρ wc hbc hcn hk => ?_) ?_; rotate_left
            · obtain ⟨hcn, hfn⟩ := hcn
              simp at hk
              refine ⟨_, by go_simp; rfl, ?_⟩
              refine (NEqual_c x x A1 c1 B1 e1 A1 c1 B1 e1 true wc (HT.out.on (bel_on (bel_drew HB.out) hbc)) (HX.out.on (bel_on (bel_drew HB.out) hbc) (Nat.le_refl _)) (HX.out.on (bel_on (bel_drew HB.out) hbc) (Nat.le_refl _)) HSX.out HSX.out (eqN_yes rfl)).mono ?_
              rintro e w' ⟨rfl, hbq⟩
              refine ⟨_, rfl, ?_, hbq⟩
              unfold Is
              rfl
            refine chain_val (u := ?_) [28] rfl (by kernel_rfl) trivial (fun ρ wc hbc hcn hk => ?_) ?_; rotate_left
            · obtain ⟨hcn, -⟩ := hcn
              simp at hk
              go_simp
              rfl
            refine chain_val (u := ?_) [29] rfl (by kernel_rfl) trivial (fun ρ wc hbc hcn hk => ?_) ?_; rotate_left
            · obtain ⟨hcn, -⟩ := hcn
              simp at hk
              go_simp
              rfl
            refine chain_val (u := ?_) [3] rfl (by kernel_rfl) ⟨30, by decide +kernel, rfl, fun w x hx => by simpa using hx⟩ (fun ρ wc hbc hcn hk => ?_) ?_; rotate_left
            · obtain ⟨hcn, -⟩ := hcn
              simp at hk
              obtain ⟨x2, y2, z2⟩ := H2.out.drew.below hbc
              obtain ⟨x3, y3, z3⟩ := H3.out.drew.below hbc
              obtain ⟨x4, y4, z4⟩ := H4.out.drew.below hbc
              go_simp
              rfl
            refine chain_val (u := ?_) [4] rfl (by kernel_rfl) ⟨30, by decide +kernel, rfl, fun w x hx => by simpa using hx⟩ (fun ρ wc hbc hcn hk => ?_) ?_; rotate_left
            · obtain ⟨hcn, -⟩ := hcn
              simp at hk
              obtain ⟨x2, y2, z2⟩ := H2.out.drew.below hbc
              obtain ⟨x3, y3, z3⟩ := H3.out.drew.below hbc
              obtain ⟨x4, y4, z4⟩ := H4.out.drew.below hbc
              go_simp
              rfl
            refine chain_call (T := Is ?_) 12 [31, 32] rfl (by kernel_rfl) ⟨30, by decide +kernel, rfl, fun w x hx => by simpa using hx⟩ (stable_is _) (fun ρ wc hbc hcn hk => ?_) ?_; rotate_left
            · obtain ⟨hcn, hfn⟩ := hcn
              simp at hk
              refine ⟨_, by go_simp; rfl, ?_⟩
              refine (NEqual_c x y A1 c1 B1 e1 A2 c2 B2 e2 true wc (HT.out.on (bel_on (bel_drew HB.out) hbc)) (HX.out.on (bel_on (bel_drew HB.out) hbc) (Nat.le_refl _)) (HY.out.on (bel_on (bel_drew HB.out) hbc) (Nat.le_refl _)) HSX.out HSY.out HE1.out).mono ?_
              rintro e w' ⟨rfl, hbq⟩
              refine ⟨_, rfl, ?_, hbq⟩
              unfold Is
              rfl
            refine chain_val (u := ?_) [4] rfl (by kernel_rfl) ⟨30, by decide +kernel, rfl, fun w x hx => by simpa using hx⟩ (fun ρ wc hbc hcn hk => ?_) ?_; rotate_left
            · obtain ⟨hcn, -⟩ := hcn
              simp at hk
              obtain ⟨x2, y2, z2⟩ := H2.out.drew.below hbc
              obtain ⟨x3, y3, z3⟩ := H3.out.drew.below hbc
              obtain ⟨x4, y4, z4⟩ := H4.out.drew.below hbc
              go_simp
              rfl
            refine chain_val (u := ?_) [3] rfl (by kernel_rfl) ⟨30, by decide +kernel, rfl, fun w x hx => by simpa using hx⟩ (fun ρ wc hbc hcn hk => ?_) ?_; rotate_left
            · obtain ⟨hcn, -⟩ := hcn
              simp at hk
              obtain ⟨x2, y2, z2⟩ := H2.out.drew.below hbc
              obtain ⟨x3, y3, z3⟩ := H3.out.drew.below hbc
              obtain ⟨x4, y4, z4⟩ := H4.out.drew.below hbc
              go_simp
              rfl
            refine chain_call (T := Is ?_) 12 [34, 35] rfl (by kernel_rfl) ⟨30, by decide +kernel, rfl, fun w x hx => by simpa using hx⟩ (stable_is _) (fun ρ wc hbc hcn hk => ?_) ?_; rotate_left
            · obtain ⟨hcn, hfn⟩ := hcn
              simp at hk
              refine ⟨_, by go_simp; rfl, ?_⟩
              refine (NEqual_c y x A2 c2 B2 e2 A1 c1 B1 e1 true wc (HT.out.on (bel_on (bel_drew HB.out) hbc)) (HY.out.on (bel_on (bel_drew HB.out) hbc) (Nat.le_refl _)) (HX.out.on (bel_on (bel_drew HB.out) hbc) (Nat.le_refl _)) HSY.out HSX.out HE1'.out).mono ?_
              rintro e w' ⟨rfl, hbq⟩
              refine ⟨_, rfl, ?_, hbq⟩
              unfold Is
              rfl
            refine chain_val (u := ?_) [33, 36] rfl (by kernel_rfl) ⟨30, by decide +kernel, rfl, fun w x hx => by simpa using hx⟩ (fun ρ wc hbc hcn hk => ?_) ?_; rotate_left
            · obtain ⟨hcn, -⟩ := hcn
              simp at hk
              go_simp
              rfl
            refine chain_val (u := ?_) [30, 37] rfl (by kernel_rfl) trivial (fun ρ wc hbc hcn hk => ?_) ?_; rotate_left
            · obtain ⟨hcn, -⟩ := hcn
              simp at hk
              go_simp
              rfl
            refine chain_val (u := ?_) [38] rfl (by kernel_rfl) trivial (fun ρ wc hbc hcn hk => ?_) ?_; rotate_left
            · obtain ⟨hcn, -⟩ := hcn
              simp at hk
              go_simp
              rfl
            refine chain_val (u := ?_) [3] rfl (by kernel_rfl) ⟨39, by decide +kernel, rfl, fun w x hx => by simpa using hx⟩ (fun ρ wc hbc hcn hk => ?_) ?_; rotate_left
            · obtain ⟨hcn, -⟩ := hcn
              simp at hk
              obtain ⟨x2, y2, z2⟩ := H2.out.drew.below hbc
              obtain ⟨x3, y3, z3⟩ := H3.out.drew.below hbc
              obtain ⟨x4, y4, z4⟩ := H4.out.drew.below hbc
              go_simp
              rfl
            refine chain_val (u := ?_) [4] rfl (by kernel_rfl) ⟨39, by decide +kernel, rfl, fun w x hx => by simpa using hx⟩ (fun ρ wc hbc hcn hk => ?_) ?_; rotate_left
            · obtain ⟨hcn, -⟩ := hcn
              simp at hk
              obtain ⟨x2, y2, z2⟩ := H2.out.drew.below hbc
              obtain ⟨x3, y3, z3⟩ := H3.out.drew.below hbc
              obtain ⟨x4, y4, z4⟩ := H4.out.drew.below hbc
              go_simp
              rfl
            refine chain_call (T := Is ?_) 12 [40, 41] rfl (by kernel_rfl) ⟨39, by decide +kernel, rfl, fun w x hx => by simpa using hx⟩ (stable_is _) (fun ρ wc hbc hcn hk => ?_) ?_; rotate_left
            · obtain ⟨hcn, hfn⟩ := hcn
              simp at hk
              refine ⟨_, by go_simp; rfl, ?_⟩
              refine (NEqual_c x y A1 c1 B1 e1 A2 c2 B2 e2 true wc (HT.out.on (bel_on (bel_drew HB.out) hbc)) (HX.out.on (bel_on (bel_drew HB.out) hbc) (Nat.le_refl _)) (HY.out.on (bel_on (bel_drew HB.out) hbc) (Nat.le_refl _)) HSX.out HSY.out HE1.out).mono ?_
              rintro e w' ⟨rfl, hbq⟩
              refine ⟨_, rfl, ?_, hbq⟩
              unfold Is
              rfl
            refine chain_val (u := ?_) [42] rfl (by kernel_rfl) ⟨39, by decide +kernel, rfl, fun w x hx => by simpa using hx⟩ (fun ρ wc hbc hcn hk => ?_) ?_; rotate_left
            · obtain ⟨hcn, -⟩ := hcn
              simp at hk
              go_simp
              rfl
            refine chain_val (u := ?_) [4] rfl (by kernel_rfl) ⟨43, by decide +kernel, rfl, fun w x hx => by simpa using hx⟩ (fun ρ wc hbc hcn hk => ?_) ?_; rotate_left
            · obtain ⟨hcn, -⟩ := hcn
              simp at hk
              obtain ⟨x2, y2, z2⟩ := H2.out.drew.below hbc
              obtain ⟨x3, y3, z3⟩ := H3.out.drew.below hbc
              obtain ⟨x4, y4, z4⟩ := H4.out.drew.below hbc
              go_simp
              rfl
            refine chain_val (u := ?_) [5] rfl (by kernel_rfl) ⟨43, by decide +kernel, rfl, fun w x hx => by simpa using hx⟩ (fun ρ wc hbc hcn hk => ?_) ?_; rotate_left
            · obtain ⟨hcn, -⟩ := hcn
              simp at hk
              obtain ⟨x2, y2, z2⟩ := H2.out.drew.below hbc
              obtain ⟨x3, y3, z3⟩ := H3.out.drew.below hbc
              obtain ⟨x4, y4, z4⟩ := H4.out.drew.below hbc
              go_simp
              rfl
            refine chain_call (T := Is ?_) 12 [44, 45] rfl (by kernel_rfl) ⟨43, by decide +kernel, rfl, fun w x hx => by simpa using hx⟩ (stable_is _) (fun ρ wc hbc hcn hk => ?_) ?_; rotate_left
            · obtain ⟨hcn, hfn⟩ := hcn
              simp at hk
              refine ⟨_, by go_simp; rfl, ?_⟩
              refine (NEqual_c y z A2 c2 B2 e2 A3 c3 B3 e3 true wc (HT.out.on (bel_on (bel_drew HB.out) hbc)) (HY.out.on (bel_on (bel_drew HB.out) hbc) (Nat.le_refl _)) (HZ.out.on (bel_on (bel_drew HB.out) hbc) (Nat.le_refl _)) HSY.out HSZ.out HE2.out).mono ?_
              rintro e w' ⟨rfl, hbq⟩
              refine ⟨_, rfl, ?_, hbq⟩
              unfold Is
              rfl
            refine chain_val (u := ?_) [43, 46] rfl (by kernel_rfl) ⟨39, by decide +kernel, rfl, fun w x hx => by simpa using hx⟩ (fun ρ wc hbc hcn hk => ?_) ?_; rotate_left
            · obtain ⟨hcn, -⟩ := hcn
              simp at hk
              go_simp
              rfl
            refine chain_val (u := ?_) [47] rfl (by kernel_rfl) ⟨39, by decide +kernel, rfl, fun w x hx => by simpa using hx⟩ (fun ρ wc hbc hcn hk => ?_) ?_; rotate_left
            · obtain ⟨hcn, -⟩ := hcn
              simp at hk
              go_simp
              rfl
            refine chain_val (u := ?_) [3] rfl (by kernel_rfl) ⟨48, by decide +kernel, rfl, fun w x hx => by simpa using hx⟩ (fun ρ wc hbc hcn hk => ?_) ?_; rotate_left
            · obtain ⟨hcn, -⟩ := hcn
              simp at hk
              obtain ⟨x2, y2, z2⟩ := H2.out.drew.below hbc
              obtain ⟨x3, y3, z3⟩ := H3.out.drew.below hbc
              obtain ⟨x4, y4, z4⟩ := H4.out.drew.below hbc
              go_simp
              rfl
            refine chain_val (u := ?_) [5] rfl (by kernel_rfl) ⟨48, by decide +kernel, rfl, fun w x hx => by simpa using hx⟩ (fun ρ wc hbc hcn hk => ?_) ?_; rotate_left
            · obtain ⟨hcn, -⟩ := hcn
              simp at hk
              obtain ⟨x2, y2, z2⟩ := H2.out.drew.below hbc
              obtain ⟨x3, y3, z3⟩ := H3.out.drew.below hbc
              obtain ⟨x4, y4, z4⟩ := H4.out.drew.below hbc
              go_simp
              rfl
            refine chain_call (T := Is ?_) 12 [49, 50] rfl (by kernel_rfl) ⟨48, by decide +kernel, rfl, fun w x hx => by simpa using hx⟩ (stable_is _) (fun ρ wc hbc hcn hk => ?_) ?_; rotate_left
            · obtain ⟨hcn, hfn⟩ := hcn
              simp at hk
              refine ⟨_, by go_simp; rfl, ?_⟩
              refine (NEqual_c x z A1 c1 B1 e1 A3 c3 B3 e3 true wc (HT.out.on (bel_on (bel_drew HB.out) hbc)) (HX.out.on (bel_on (bel_drew HB.out) hbc) (Nat.le_refl _)) (HZ.out.on (bel_on (bel_drew HB.out) hbc) (Nat.le_refl _)) HSX.out HSZ.out HE3.out).mono ?_
              rintro e w' ⟨rfl, hbq⟩
              refine ⟨_, rfl, ?_, hbq⟩
              unfold Is
              rfl
            refine chain_val (u := ?_) [51] rfl (by kernel_rfl) ⟨48, by decide +kernel, rfl, fun w x hx => by simpa using hx⟩ (fun ρ wc hbc hcn hk => ?_) ?_; rotate_left
            · obtain ⟨hcn, -⟩ := hcn
              simp at hk
              go_simp
              rfl
            refine chain_val (u := ?_) [48, 52] rfl (by kernel_rfl) ⟨39, by decide +kernel, rfl, fun w x hx => by simpa using hx⟩ (fun ρ wc hbc hcn hk => ?_) ?_; rotate_left
            · obtain ⟨hcn, -⟩ := hcn
              simp at hk
              go_simp
              rfl
            refine chain_val (u := ?_) [39, 53] rfl (by kernel_rfl) trivial (fun ρ wc hbc hcn hk => ?_) ?_; rotate_left
            · obtain ⟨hcn, -⟩ := hcn
              simp at hk
              go_simp
              rfl
            refine chain_end_lit 100 rfl (fun ff w7 hb7 hk => ?_)
            refine hKK _ _ ?_
            simp [AllN] at hk
            simp only [frameL, hk, Nat.zero_add, Nat.reduceAdd]
            have hb7' : Below w2.heap.size w2 w7 := ⟨hb7.os, hb7.tape, hb7.output, hb7.size, hb7.block⟩
            clear hb7 hk
            have H2n := Lib.hid (H2.out.below hb7')
            have H3n := Lib.hid (H3.out.below hb7')
            have H4n := Lib.hid (H4.out.below hb7')
            have HBn := Lib.hid (bel_on HB.out hb7')
            clear hb7' H2 H3 H4 HB
            have H2 := H2n
            have H3 := H3n
            have H4 := H4n
            have HB := HBn
            clear H2n H3n H4n HBn
            obtain ⟨x2, y2, z2⟩ := H2.out
            obtain ⟨x3, y3, z3⟩ := H3.out
            obtain ⟨x4, y4, z4⟩ := H4.out
            go_wp2_with fail
            refine abs_code10 (F := fun W => Blk W w.heap.size #[.int .i64 x.k, .int .i64 x.e, .int .i64 x.n, .slice A1 x.d.length c1, .slice B1 x.ks.length e1] ∧ Blk W (w.heap.size + 1) #[.int .i64 y.k, .int .i64 y.e, .int .i64 y.n, .slice A2 y.d.length c2, .slice B2 y.ks.length e2] ∧ Blk W (w.heap.size + 1 + 1) #[.int .i64 z.k, .int .i64 z.e, .int .i64 z.n, .slice A3 z.d.length c3, .slice B3 z.ks.length e3] ∧ Blk W w7.heap.size #[.int .i64 x.k, .int .i64 x.e, .int .i64 x.n, .slice A1 x.d.length c1, .slice B1 x.ks.length e1] ∧ Below w.heap.size w W ∧ w.heap.size + 1 + 1 < w7.heap.size) ⟨?_, ?_, ?_, ?_, ?_, ?_⟩ ?_
            · exact H2.out.alloc _
            · exact H3.out.alloc _
            · exact H4.out.alloc _
            · exact Blk.fresh _ _ _
            · exact HB.out.alloc HB.out.size _
            · exact H4.out.lt
            generalize w7.heap.size = bm
            clear H2 H3 H4 HB
            clear x2 y2 z2 x3 y3 z3 x4 y4 z4
            rintro w8 ⟨h2, h3, h4, h7, hb, hlo⟩
            have H2 := Lib.hid h2
            have H3 := Lib.hid h3
            have H4 := Lib.hid h4
            have H7 := Lib.hid h7
            have HB := Lib.hid hb
            clear h2 h3 h4 h7 hb
            have hxo : ∀ wc, Keeps (fun q => w8.heap.size ≤ q) w8.drew wc → Blk wc w.heap.size #[.int .i64 x.k, .int .i64 x.e, .int .i64 x.n, .slice A1 x.d.length c1, .slice B1 x.ks.length e1] := fun wc hk => H2.out.drew.keeps hk (by have := H2.out.lt; omega)
            have hyo : ∀ wc, Keeps (fun q => w8.heap.size ≤ q) w8.drew wc → Blk wc (w.heap.size + 1) #[.int .i64 y.k, .int .i64 y.e, .int .i64 y.n, .slice A2 y.d.length c2, .slice B2 y.ks.length e2] := fun wc hk => H3.out.drew.keeps hk (by have := H3.out.lt; omega)
            have HXO := Lib.hid hxo
            have HYO := Lib.hid hyo
            clear hxo hyo
            rename_i KK hKK
            refine wp_region_a8 6 (fun q => w8.heap.size ≤ q) (by kernel_rfl) (by kernel_rfl) ?_
            refine a_new_l (T := EmpF w8.heap.size) [] (by kernel_rfl) rfl (by kernel_rfl) trivial (stable_empF _) (fun ρ wc hbc hcn hk => ?_) ?_
            · obtain ⟨hcn, -⟩ := hcn
              exact ⟨.slice (some ⟨wc.heap.size, 0, none⟩) 0 0, wc.alloc (.cells #[] 25), by go_simp, ⟨_, rfl, hbc.size, heap_alloc_new wc _⟩, (Below.refl _ _).alloc (Nat.le_refl _) _⟩
            refine a_val_l (u := ?_) [3] (by kernel_rfl) rfl (by kernel_rfl) trivial (fun ρ wc hbc hcn hk => ?_) ?_; rotate_left
            · obtain ⟨hcn, -⟩ := hcn
              simp at hk
              go_simp
              rfl
            refine a_val_l (u := ?_) [57] (by kernel_rfl) rfl (by kernel_rfl) trivial (fun ρ wc hbc hcn hk => ?_) ?_; rotate_left
            · obtain ⟨hcn, -⟩ := hcn
              simp at hk
              obtain ⟨x2, y2, z2⟩ := HXO.out wc hbc
              go_simp
              rfl
            refine a_new (T := OwnKF w w8.heap.size x.ks) [56, 58] (by kernel_rfl) rfl rfl (by kernel_rfl) trivial (stable_ownKF _ _ _) (fun ρ wc hbc hcn hk => ?_) ?_
            · obtain ⟨⟨q0, h56, hq0, hqc⟩, h58, -⟩ := hk
              obtain ⟨hk1, hk2, hk3⟩ := HX.out.kidsX
              exact exec_appK0 (.tmp 56) (.tmp 58) 23 rfl Tryd.underlying23 h56 hqc hq0 h58 hk1 hk2 hk3 (N0 := w.heap.size) (Nat.le_refl _) (bel_on (bel_drew HB.out) hbc) (by have := HKL.out; omega)
            refine a_val_l (u := ?_) [4] (by kernel_rfl) rfl (by kernel_rfl) trivial (fun ρ wc hbc hcn hk => ?_) ?_; rotate_left
            · obtain ⟨hcn, -⟩ := hcn
              simp at hk
              obtain ⟨x3, y3, z3⟩ := HYO.out wc hbc
              go_simp
              rfl
            refine a_new (T := CelF y A2 c2 B2 e2) [60] (by kernel_rfl) rfl rfl (by kernel_rfl) trivial (stable_celF _ _ _ _ _) (fun ρ wc hbc hcn hk => ?_) ?_
            · obtain ⟨hcn, -⟩ := hcn
              simp at hk
              exact ⟨.slice (some ⟨wc.heap.size, 0, none⟩) 1 1, wc.alloc (.cells #[.int .i64 y.k, .int .i64 y.e, .int .i64 y.n, .slice A2 y.d.length c2, .slice B2 y.ks.length e2] 25), by go_simp, ⟨_, rfl, fun o _ => by rw [blk_new]; simp [fiveC]⟩, (Below.refl _ _).alloc (Nat.le_refl _) _⟩
            refine a_sp (T := OwnKF w w8.heap.size (x.ks ++ [y])) [59, 61] rfl rfl (by kernel_rfl) trivial (stable_ownKF _ _ _) (fun a wc hbc hcn hk => ?_) ?_
            · obtain ⟨h59, ⟨q, h61, hq61⟩, -⟩ := hk
              refine wpList_appK1 rfl (.tmp 59) (.tmp 61) 23 rfl Tryd.underlying23 rfl h59 h61 hq61 HY.out HKL.out hbc.size ?_
              intro v' w' hown' hgr
              refine ⟨rfl, v', rfl, hown', ?_⟩
              rw [if_pos rfl]
              refine ⟨hgr.os, hgr.tape, hgr.output, hgr.size, fun q1 h1 h2 => hgr.block q1 h1 fun e => h2 ?_⟩
              obtain ⟨vs, hv1, _⟩ := h59
              exact (hv1.lt q1 e.symm).1
            refine a_val_l (u := ?_) [7] (by kernel_rfl) rfl (by kernel_rfl) trivial (fun ρ wc hbc hcn hk => ?_) ?_; rotate_left
            · obtain ⟨hcn, -⟩ := hcn
              simp at hk
              go_simp
              rfl
            refine a_end_lit 100 rfl (fun ff w9 hb9 hk => ?_)
            have hO2 : OwnK w w9 w8.heap.size (ff 62) (x.ks ++ [y]) := allN_atF hk 62 (by decide) (by decide)
            simp [AllN] at hk
            simp only [frameL, hk, Nat.zero_add, Nat.reduceAdd]
            have HB9 := Lib.hid hb9
            have hbl : Below w8.heap.size w8 w9 := by
              have := hb9.below (B := w8.heap.size) (Nat.le_refl _) (fun q hq => hq)
              exact ⟨this.os, this.tape, this.output, this.size, this.block⟩
            have HBL := Lib.hid hbl
            obtain ⟨B7, c7, hv7, -⟩ := hO2.slice (N0 := w.heap.size) (Nat.le_refl _) (bel_on HB.out hbl)
            rw [show (x.ks ++ [y]).length = x.ks.length + 1 by simp] at hv7
            have HO2 := Lib.hid hO2
            clear hO2 hb9 hk hbl
            rw [hv7] at HO2
            rw [hv7]
            clear hv7
            generalize ff 56 = v56
            generalize ff 59 = v59
            generalize ff 61 = v61
            have z7 := H7.out.lt
            refine split_store (fun W => Blk W w.heap.size #[.int .i64 x.k, .int .i64 x.e, .int .i64 x.n, .slice A1 x.d.length c1, .slice B1 x.ks.length e1] ∧ Blk W (w.heap.size + 1) #[.int .i64 y.k, .int .i64 y.e, .int .i64 y.n, .slice A2 y.d.length c2, .slice B2 y.ks.length e2] ∧ Blk W (w.heap.size + 1 + 1) #[.int .i64 z.k, .int .i64 z.e, .int .i64 z.n, .slice A3 z.d.length c3, .slice B3 z.ks.length e3] ∧ Blk W bm #[.int .i64 x.k, .int .i64 x.e, .int .i64 x.n, .slice A1 x.d.length c1, .slice B7 (x.ks.length + 1) c7] ∧ NdR W A1 c1 B7 c7 (moreOf x y) ∧ Below w.heap.size w W) rfl ?_ ?_
            · obtain ⟨x7, y7, z7'⟩ := (H7.out.drew.keeps HB9.out (by have := H7.out.lt; omega))
              go_wp2
              have hst : ∀ u, Below w.heap.size w (w9.setCell ⟨bm, 4, none⟩ u) := fun u => Below.setCell ((bel_on HB.out HBL.out)) (by show w.heap.size ≤ bm; omega) _
              refine ⟨rfl, rfl, ?_, ?_, ?_, ?_, ?_, ?_⟩
              · exact (H2.out.below HBL.out).other (by show bm ≠ w.heap.size; omega) _
              · exact (H3.out.below HBL.out).other (by show bm ≠ w.heap.size + 1; omega) _
              · exact (H4.out.below HBL.out).other (by show bm ≠ w.heap.size + 1 + 1; omega) _
              · exact (H7.out.below HBL.out).set 4 (by simp) _
              · refine (more_here (N0 := w.heap.size) (W0 := w) (x := x) (y := y) (HX.out.on (hst _) (Nat.le_refl _)) (base := w8.heap.size) (n0 := x.ks.length + 1) (HO2.out.far (by show bm < w8.heap.size; exact z7) _) (Nat.le_refl _) (hst _)).2
              · exact hst _
            rintro w9 ⟨h2, h3, h4, h7, hm, hb⟩
            refine hKK _ _ ?_
            clear H2 H3 H4 H7 HB HB9 HBL HO2 HXO HYO
            have H2 := Lib.hid h2
            have H3 := Lib.hid h3
            have H4 := Lib.hid h4
            have H7 := Lib.hid h7
            have HM := Lib.hid hm
            have HB := Lib.hid hb
            clear h2 h3 h4 h7 hm hb hKK KK
            obtain ⟨x2, y2, z2⟩ := H2.out
            obtain ⟨x3, y3, z3⟩ := H3.out
            obtain ⟨x4, y4, z4⟩ := H4.out
            obtain ⟨x7, y7, z7⟩ := H7.out
            go_wp2_with fail
            refine (NEqual_m1 x y A1 c1 B1 e1 B7 c7 _ (HT.out.on HB.out) (HX.out.on HB.out (Nat.le_refl _)) HM.out HSX.out HSM.out).mono ?_
            rintro r w10 ⟨rfl, hb10⟩
            clear x2 y2 z2 x3 y3 z3 x4 y4 z4 x7 y7 z7
            have H2n := Lib.hid (H2.out.below hb10)
            have H3n := Lib.hid (H3.out.below hb10)
            have H4n := Lib.hid (H4.out.below hb10)
            have HBn := Lib.hid (bel_on HB.out hb10)
            have H7n := Lib.hid (H7.out.below hb10)
            have HMn := Lib.hid (HM.out.on hb10 (Nat.le_refl _))
            clear hb10 H2 H3 H4 HB H7 HM
            have H2 := H2n
            have H3 := H3n
            have H4 := H4n
            have HB := HBn
            clear H2n H3n H4n HBn
            have H7 := H7n
            have HM := HMn
            clear H7n HMn
            obtain ⟨x2, y2, z2⟩ := H2.out
            obtain ⟨x3, y3, z3⟩ := H3.out
            obtain ⟨x4, y4, z4⟩ := H4.out
            obtain ⟨x7, y7, z7⟩ := H7.out
            go_wp2_with fail
            refine (NEqual_m2 x y A1 c1 B1 e1 B7 c7 _ (HT.out.on HB.out) (HX.out.on HB.out (Nat.le_refl _)) HM.out HSX.out HSM.out).mono ?_
            rintro r w11 ⟨rfl, hb11⟩
            clear x2 y2 z2 x3 y3 z3 x4 y4 z4 x7 y7 z7
            have H2n := Lib.hid (H2.out.below hb11)
            have H3n := Lib.hid (H3.out.below hb11)
            have H4n := Lib.hid (H4.out.below hb11)
            have HBn := Lib.hid (bel_on HB.out hb11)
            have H7n := Lib.hid (H7.out.below hb11)
            have HMn := Lib.hid (HM.out.on hb11 (Nat.le_refl _))
            clear hb11 H2 H3 H4 HB H7 HM
            have H2 := H2n
            have H3 := H3n
            have H4 := H4n
            have HB := HBn
            clear H2n H3n H4n HBn
            have H7 := H7n
            have HM := HMn
            clear H7n HMn
            obtain ⟨x2, y2, z2⟩ := H2.out
            obtain ⟨x3, y3, z3⟩ := H3.out
            obtain ⟨x4, y4, z4⟩ := H4.out
            obtain ⟨x7, y7, z7⟩ := H7.out
            go_wp2_with fail
            refine (NEqual_c x y A1 c1 B1 e1 A2 c2 B2 e2 true _ (HT.out.on HB.out) (HX.out.on HB.out (Nat.le_refl _)) (HY.out.on HB.out (Nat.le_refl _)) HSX.out HSY.out HE1.out).mono ?_
            rintro r w12 ⟨rfl, hb12⟩
            clear x2 y2 z2 x3 y3 z3 x4 y4 z4 x7 y7 z7
            have H2n := Lib.hid (H2.out.below hb12)
            have H3n := Lib.hid (H3.out.below hb12)
            have H4n := Lib.hid (H4.out.below hb12)
            have HBn := Lib.hid (bel_on HB.out hb12)
            have H7n := Lib.hid (H7.out.below hb12)
            have HMn := Lib.hid (HM.out.on hb12 (Nat.le_refl _))
            clear hb12 H2 H3 H4 HB H7 HM
            have H2 := H2n
            have H3 := H3n
            have H4 := H4n
            have HB := HBn
            clear H2n H3n H4n HBn
            have H7 := H7n
            have HM := HMn
            clear H7n HMn
            obtain ⟨x2, y2, z2⟩ := H2.out
            obtain ⟨x3, y3, z3⟩ := H3.out
            obtain ⟨x4, y4, z4⟩ := H4.out
            obtain ⟨x7, y7, z7⟩ := H7.out
            cases hv : validN x with
            | false =>
              have HV := Lib.hid hv
              have HVY : Hid (validN y = false) := Lib.hid (HE.out ▸ hv)
              clear hv
              go_wp2_with fail
              clear x2 y2 z2 x3 y3 z3 x4 y4 z4 x7 y7 z7
              rename_i KK hKK
              refine wp_region_chain (by kernel_rfl) (by kernel_rfl) ?_
              refine chain_val (u := ?_) [3] rfl (by kernel_rfl) trivial (fun ρ wc hbc hcn hk => ?_) ?_; rotate_left
              · obtain ⟨hcn, -⟩ := hcn
                simp at hk
                obtain ⟨x2, y2, z2⟩ := H2.out.drew.below hbc
                obtain ⟨x3, y3, z3⟩ := H3.out.drew.below hbc
                obtain ⟨x4, y4, z4⟩ := H4.out.drew.below hbc
                go_simp
                rfl
              refine chain_call (T := Is ?_) 10 [76] rfl (by kernel_rfl) trivial (stable_is _) (fun ρ wc hbc hcn hk => ?_) ?_; rotate_left
              · obtain ⟨hcn, hfn⟩ := hcn
                simp at hk
                refine ⟨_, by go_simp; rfl, ?_⟩
                refine (NValid_c x A1 c1 B1 e1 false wc (HT.out.on (bel_on (bel_drew HB.out) hbc)) (HX.out.on (bel_on (bel_drew HB.out) hbc) (Nat.le_refl _)) HSX.out HV.out).mono ?_
                rintro e w' ⟨rfl, hbq⟩
                refine ⟨_, rfl, ?_, hbq⟩
                unfold Is
                rfl
              refine chain_val (u := ?_) [4] rfl (by kernel_rfl) trivial (fun ρ wc hbc hcn hk => ?_) ?_; rotate_left
              · obtain ⟨hcn, -⟩ := hcn
                simp at hk
                obtain ⟨x2, y2, z2⟩ := H2.out.drew.below hbc
                obtain ⟨x3, y3, z3⟩ := H3.out.drew.below hbc
                obtain ⟨x4, y4, z4⟩ := H4.out.drew.below hbc
                go_simp
                rfl
              refine chain_call (T := Is ?_) 10 [78] rfl (by kernel_rfl) trivial (stable_is _) (fun ρ wc hbc hcn hk => ?_) ?_; rotate_left
              · obtain ⟨hcn, hfn⟩ := hcn
                simp at hk
                refine ⟨_, by go_simp; rfl, ?_⟩
                refine (NValid_c y A2 c2 B2 e2 false wc (HT.out.on (bel_on (bel_drew HB.out) hbc)) (HY.out.on (bel_on (bel_drew HB.out) hbc) (Nat.le_refl _)) HSY.out HVY.out).mono ?_
                rintro e w' ⟨rfl, hbq⟩
                refine ⟨_, rfl, ?_, hbq⟩
                unfold Is
                rfl
              refine chain_val (u := ?_) [77, 79] rfl (by kernel_rfl) trivial (fun ρ wc hbc hcn hk => ?_) ?_; rotate_left
              · obtain ⟨hcn, -⟩ := hcn
                simp at hk
                go_simp
                rfl
              refine chain_val (u := ?_) [80] rfl (by kernel_rfl) trivial (fun ρ wc hbc hcn hk => ?_) ?_; rotate_left
              · obtain ⟨hcn, -⟩ := hcn
                simp at hk
                go_simp
                rfl
              refine chain_val (u := ?_) [3] rfl (by kernel_rfl) ⟨81, by decide +kernel, rfl, fun w x hx => by simpa using hx⟩ (fun ρ wc hbc hcn hk => ?_) ?_; rotate_left
              · obtain ⟨hcn, -⟩ := hcn
                simp at hk
                obtain ⟨x2, y2, z2⟩ := H2.out.drew.below hbc
                obtain ⟨x3, y3, z3⟩ := H3.out.drew.below hbc
                obtain ⟨x4, y4, z4⟩ := H4.out.drew.below hbc
                go_simp
                rfl
              refine chain_call (T := Is ?_) 10 [82] rfl (by kernel_rfl) ⟨81, by decide +kernel, rfl, fun w x hx => by simpa using hx⟩ (stable_is _) (fun ρ wc hbc hcn hk => ?_) ?_; rotate_left
              · obtain ⟨hcn, hfn⟩ := hcn
                simp at hk
                refine ⟨_, by go_simp; rfl, ?_⟩
                refine (NValid_c x A1 c1 B1 e1 false wc (HT.out.on (bel_on (bel_drew HB.out) hbc)) (HX.out.on (bel_on (bel_drew HB.out) hbc) (Nat.le_refl _)) HSX.out HV.out).mono ?_
                rintro e w' ⟨rfl, hbq⟩
                refine ⟨_, rfl, ?_, hbq⟩
                unfold Is
                rfl
              refine chain_val (u := ?_) [83] rfl (by kernel_rfl) ⟨81, by decide +kernel, rfl, fun w x hx => by simpa using hx⟩ (fun ρ wc hbc hcn hk => ?_) ?_; rotate_left
              · obtain ⟨hcn, -⟩ := hcn
                simp at hk
                go_simp
                rfl
              refine chain_val (u := ?_) [84] rfl (by kernel_rfl) ⟨81, by decide +kernel, rfl, fun w x hx => by simpa using hx⟩ (fun ρ wc hbc hcn hk => ?_) ?_; rotate_left
              · obtain ⟨hcn, -⟩ := hcn
                simp at hk
                go_simp
                rfl
              refine chain_skip (s := 85) (c := true) rfl rfl (by decide +kernel) rfl rfl (fun w x hx => by simpa using hx) ?_
              refine chain_skip (s := 85) (c := true) rfl rfl (by decide +kernel) rfl rfl (fun w x hx => by simpa using hx) ?_
              refine chain_skip (s := 85) (c := true) rfl rfl (by decide +kernel) rfl rfl (fun w x hx => by simpa using hx) ?_
              refine chain_skip (s := 85) (c := true) rfl rfl (by decide +kernel) rfl rfl (fun w x hx => by simpa using hx) ?_
              refine chain_skip (s := 85) (c := true) rfl rfl (by decide +kernel) rfl rfl (fun w x hx => by simpa using hx) ?_
              refine chain_skip (s := 85) (c := true) rfl rfl (by decide +kernel) rfl rfl (fun w x hx => by simpa using hx) ?_
              refine chain_skipU (s := 91) rfl rfl (by decide +kernel) rfl (fun w x hx => by simpa using hx) ?_
              refine chain_skipU (s := 91) rfl rfl (by decide +kernel) rfl (fun w x hx => by simpa using hx) ?_
              refine chain_skipU (s := 91) rfl rfl (by decide +kernel) rfl (fun w x hx => by simpa using hx) ?_
              refine chain_skipU (s := 91) rfl rfl (by decide +kernel) rfl (fun w x hx => by simpa using hx) ?_
              refine chain_skipU (s := 91) rfl rfl (by decide +kernel) rfl (fun w x hx => by simpa using hx) ?_
              refine chain_skip (s := 85) (c := true) rfl rfl (by decide +kernel) rfl rfl (fun w x hx => by simpa using hx) ?_
              refine chain_val (u := ?_) [85, 97] rfl (by kernel_rfl) ⟨81, by decide +kernel, rfl, fun w x hx => by simpa using hx⟩ (fun ρ wc hbc hcn hk => ?_) ?_; rotate_left
              · obtain ⟨hcn, -⟩ := hcn
                simp at hk
                go_simp
                rfl
              refine chain_val (u := ?_) [81, 98] rfl (by kernel_rfl) trivial (fun ρ wc hbc hcn hk => ?_) ?_; rotate_left
              · obtain ⟨hcn, -⟩ := hcn
                simp at hk
                go_simp
                rfl
              refine chain_val (u := ?_) [99] rfl (by kernel_rfl) trivial (fun ρ wc hbc hcn hk => ?_) ?_; rotate_left
              · obtain ⟨hcn, -⟩ := hcn
                simp at hk
                go_simp
                rfl

              refine chain_end_lit 100 rfl (fun ff w17 hb17 hk => ?_)
              refine hKK _ _ ?_
              simp [AllN] at hk
              simp only [frameL, hk]
              have HB17 : Hid (Below w.heap.size w w17) := Lib.hid (bel_on (bel_drew HB.out) hb17)
              clear hb17 hk
              go_wp2
              go_ret
              exact ⟨rfl, HB17.out⟩
            | true =>
              have HV := Lib.hid hv
              have HVY : Hid (validN y = true) := Lib.hid (HE.out ▸ hv)
              clear hv
              go_wp2_with fail
              clear x2 y2 z2 x3 y3 z3 x4 y4 z4 x7 y7 z7
              rename_i KK hKK
              refine wp_region_chain (by kernel_rfl) (by kernel_rfl) ?_
              refine chain_val (u := ?_) [3] rfl (by kernel_rfl) trivial (fun ρ wc hbc hcn hk => ?_) ?_; rotate_left
              · obtain ⟨hcn, -⟩ := hcn
                simp at hk
                obtain ⟨x2, y2, z2⟩ := H2.out.drew.below hbc
                obtain ⟨x3, y3, z3⟩ := H3.out.drew.below hbc
                obtain ⟨x4, y4, z4⟩ := H4.out.drew.below hbc
                go_simp
                rfl
              refine chain_call (T := Is ?_) 10 [76] rfl (by kernel_rfl) trivial (stable_is _) (fun ρ wc hbc hcn hk => ?_) ?_; rotate_left
              · obtain ⟨hcn, hfn⟩ := hcn
                simp at hk
                refine ⟨_, by go_simp; rfl, ?_⟩
                refine (NValid_c x A1 c1 B1 e1 true wc (HT.out.on (bel_on (bel_drew HB.out) hbc)) (HX.out.on (bel_on (bel_drew HB.out) hbc) (Nat.le_refl _)) HSX.out HV.out).mono ?_
                rintro e w' ⟨rfl, hbq⟩
                refine ⟨_, rfl, ?_, hbq⟩
                unfold Is
                rfl
              refine chain_val (u := ?_) [4] rfl (by kernel_rfl) trivial (fun ρ wc hbc hcn hk => ?_) ?_; rotate_left
              · obtain ⟨hcn, -⟩ := hcn
                simp at hk
                obtain ⟨x2, y2, z2⟩ := H2.out.drew.below hbc
                obtain ⟨x3, y3, z3⟩ := H3.out.drew.below hbc
                obtain ⟨x4, y4, z4⟩ := H4.out.drew.below hbc
                go_simp
                rfl
              refine chain_call (T := Is ?_) 10 [78] rfl (by kernel_rfl) trivial (stable_is _) (fun ρ wc hbc hcn hk => ?_) ?_; rotate_left
              · obtain ⟨hcn, hfn⟩ := hcn
                simp at hk
                refine ⟨_, by go_simp; rfl, ?_⟩
                refine (NValid_c y A2 c2 B2 e2 true wc (HT.out.on (bel_on (bel_drew HB.out) hbc)) (HY.out.on (bel_on (bel_drew HB.out) hbc) (Nat.le_refl _)) HSY.out HVY.out).mono ?_
                rintro e w' ⟨rfl, hbq⟩
                refine ⟨_, rfl, ?_, hbq⟩
                unfold Is
                rfl
              refine chain_val (u := ?_) [77, 79] rfl (by kernel_rfl) trivial (fun ρ wc hbc hcn hk => ?_) ?_; rotate_left
              · obtain ⟨hcn, -⟩ := hcn
                simp at hk
                go_simp
                rfl
              refine chain_val (u := ?_) [80] rfl (by kernel_rfl) trivial (fun ρ wc hbc hcn hk => ?_) ?_; rotate_left
              · obtain ⟨hcn, -⟩ := hcn
                simp at hk
                go_simp
                rfl
              refine chain_val (u := ?_) [3] rfl (by kernel_rfl) ⟨81, by decide +kernel, rfl, fun w x hx => by simpa using hx⟩ (fun ρ wc hbc hcn hk => ?_) ?_; rotate_left
              · obtain ⟨hcn, -⟩ := hcn
                simp at hk
                obtain ⟨x2, y2, z2⟩ := H2.out.drew.below hbc
                obtain ⟨x3, y3, z3⟩ := H3.out.drew.below hbc
                obtain ⟨x4, y4, z4⟩ := H4.out.drew.below hbc
                go_simp
                rfl
              refine chain_call (T := Is ?_) 10 [82] rfl (by kernel_rfl) ⟨81, by decide +kernel, rfl, fun w x hx => by simpa using hx⟩ (stable_is _) (fun ρ wc hbc hcn hk => ?_) ?_; rotate_left
              · obtain ⟨hcn, hfn⟩ := hcn
                simp at hk
                refine ⟨_, by go_simp; rfl, ?_⟩
                refine (NValid_c x A1 c1 B1 e1 true wc (HT.out.on (bel_on (bel_drew HB.out) hbc)) (HX.out.on (bel_on (bel_drew HB.out) hbc) (Nat.le_refl _)) HSX.out HV.out).mono ?_
                rintro e w' ⟨rfl, hbq⟩
                refine ⟨_, rfl, ?_, hbq⟩
                unfold Is
                rfl
              refine chain_val (u := ?_) [83] rfl (by kernel_rfl) ⟨81, by decide +kernel, rfl, fun w x hx => by simpa using hx⟩ (fun ρ wc hbc hcn hk => ?_) ?_; rotate_left
              · obtain ⟨hcn, -⟩ := hcn
                simp at hk
                go_simp
                rfl
              refine chain_val (u := ?_) [84] rfl (by kernel_rfl) ⟨81, by decide +kernel, rfl, fun w x hx => by simpa using hx⟩ (fun ρ wc hbc hcn hk => ?_) ?_; rotate_left
              · obtain ⟨hcn, -⟩ := hcn
                simp at hk
                go_simp
                rfl
              refine chain_val (u := ?_) [3] rfl (by kernel_rfl) ⟨85, by decide +kernel, rfl, fun w x hx => by simpa using hx⟩ (fun ρ wc hbc hcn hk => ?_) ?_; rotate_left
              · obtain ⟨hcn, -⟩ := hcn
                simp at hk
                obtain ⟨x2, y2, z2⟩ := H2.out.drew.below hbc
                obtain ⟨x3, y3, z3⟩ := H3.out.drew.below hbc
                obtain ⟨x4, y4, z4⟩ := H4.out.drew.below hbc
                go_simp
                rfl
              refine chain_call (T := Is ?_) 14 [86] rfl (by kernel_rfl) ⟨85, by decide +kernel, rfl, fun w x hx => by simpa using hx⟩ (stable_is _) (fun ρ wc hbc hcn hk => ?_) ?_; rotate_left
              · obtain ⟨hcn, hfn⟩ := hcn
                simp at hk
                refine ⟨_, by go_simp; rfl, ?_⟩
                refine (NDepth_c x A1 c1 B1 e1 _ wc (HT.out.on (bel_on (bel_drew HB.out) hbc)) (HX.out.on (bel_on (bel_drew HB.out) hbc) (Nat.le_refl _)) HSX.out HV.out rfl).mono ?_
                rintro e w' ⟨rfl, hbq⟩
                refine ⟨_, rfl, ?_, hbq⟩
                unfold Is
                rfl
              refine chain_val (u := ?_) [4] rfl (by kernel_rfl) ⟨85, by decide +kernel, rfl, fun w x hx => by simpa using hx⟩ (fun ρ wc hbc hcn hk => ?_) ?_; rotate_left
              · obtain ⟨hcn, -⟩ := hcn
                simp at hk
                obtain ⟨x2, y2, z2⟩ := H2.out.drew.below hbc
                obtain ⟨x3, y3, z3⟩ := H3.out.drew.below hbc
                obtain ⟨x4, y4, z4⟩ := H4.out.drew.below hbc
                go_simp
                rfl
              refine chain_call (T := Is ?_) 14 [88] rfl (by kernel_rfl) ⟨85, by decide +kernel, rfl, fun w x hx => by simpa using hx⟩ (stable_is _) (fun ρ wc hbc hcn hk => ?_) ?_; rotate_left
              · obtain ⟨hcn, hfn⟩ := hcn
                simp at hk
                refine ⟨_, by go_simp; rfl, ?_⟩
                refine (NDepth_c y A2 c2 B2 e2 _ wc (HT.out.on (bel_on (bel_drew HB.out) hbc)) (HY.out.on (bel_on (bel_drew HB.out) hbc) (Nat.le_refl _)) HSY.out HVY.out HDY.out).mono ?_
                rintro e w' ⟨rfl, hbq⟩
                refine ⟨_, rfl, ?_, hbq⟩
                unfold Is
                rfl
              refine chain_val (u := ?_) [87, 89] rfl (by kernel_rfl) ⟨85, by decide +kernel, rfl, fun w x hx => by simpa using hx⟩ (fun ρ wc hbc hcn hk => ?_) ?_; rotate_left
              · obtain ⟨hcn, -⟩ := hcn
                simp at hk
                go_simp
                rfl
              refine chain_val (u := ?_) [90] rfl (by kernel_rfl) ⟨85, by decide +kernel, rfl, fun w x hx => by simpa using hx⟩ (fun ρ wc hbc hcn hk => ?_) ?_; rotate_left
              · obtain ⟨hcn, -⟩ := hcn
                simp at hk
                go_simp
                rfl
              refine chain_val (u := ?_) [3] rfl (by kernel_rfl) ⟨91, by decide +kernel, rfl, fun w x hx => by simpa using hx⟩ (fun ρ wc hbc hcn hk => ?_) ?_; rotate_left
              · obtain ⟨hcn, -⟩ := hcn
                simp at hk
                obtain ⟨x2, y2, z2⟩ := H2.out.drew.below hbc
                obtain ⟨x3, y3, z3⟩ := H3.out.drew.below hbc
                obtain ⟨x4, y4, z4⟩ := H4.out.drew.below hbc
                go_simp
                rfl
              refine chain_call (T := Is ?_) 16 [92] rfl (by kernel_rfl) ⟨91, by decide +kernel, rfl, fun w x hx => by simpa using hx⟩ (stable_is _) (fun ρ wc hbc hcn hk => ?_) ?_; rotate_left
              · obtain ⟨hcn, hfn⟩ := hcn
                simp at hk
                refine ⟨_, by go_simp; rfl, ?_⟩
                refine (NObjects_c x A1 c1 B1 e1 _ wc (HT.out.on (bel_on (bel_drew HB.out) hbc)) (HX.out.on (bel_on (bel_drew HB.out) hbc) (Nat.le_refl _)) HSX.out HV.out rfl).mono ?_
                rintro e w' ⟨rfl, hbq⟩
                refine ⟨_, rfl, ?_, hbq⟩
                unfold Is
                rfl
              refine chain_val (u := ?_) [4] rfl (by kernel_rfl) ⟨91, by decide +kernel, rfl, fun w x hx => by simpa using hx⟩ (fun ρ wc hbc hcn hk => ?_) ?_; rotate_left
              · obtain ⟨hcn, -⟩ := hcn
                simp at hk
                obtain ⟨x2, y2, z2⟩ := H2.out.drew.below hbc
                obtain ⟨x3, y3, z3⟩ := H3.out.drew.below hbc
                obtain ⟨x4, y4, z4⟩ := H4.out.drew.below hbc
                go_simp
                rfl
              refine chain_call (T := Is ?_) 16 [94] rfl (by kernel_rfl) ⟨91, by decide +kernel, rfl, fun w x hx => by simpa using hx⟩ (stable_is _) (fun ρ wc hbc hcn hk => ?_) ?_; rotate_left
              · obtain ⟨hcn, hfn⟩ := hcn
                simp at hk
                refine ⟨_, by go_simp; rfl, ?_⟩
                refine (NObjects_c y A2 c2 B2 e2 _ wc (HT.out.on (bel_on (bel_drew HB.out) hbc)) (HY.out.on (bel_on (bel_drew HB.out) hbc) (Nat.le_refl _)) HSY.out HVY.out HOY.out).mono ?_
                rintro e w' ⟨rfl, hbq⟩
                refine ⟨_, rfl, ?_, hbq⟩
                unfold Is
                rfl
              refine chain_val (u := ?_) [93, 95] rfl (by kernel_rfl) ⟨91, by decide +kernel, rfl, fun w x hx => by simpa using hx⟩ (fun ρ wc hbc hcn hk => ?_) ?_; rotate_left
              · obtain ⟨hcn, -⟩ := hcn
                simp at hk
                go_simp
                rfl
              refine chain_val (u := ?_) [91, 96] rfl (by kernel_rfl) ⟨85, by decide +kernel, rfl, fun w x hx => by simpa using hx⟩ (fun ρ wc hbc hcn hk => ?_) ?_; rotate_left
              · obtain ⟨hcn, -⟩ := hcn
                simp at hk
                go_simp
                rfl
              refine chain_val (u := ?_) [85, 97] rfl (by kernel_rfl) ⟨81, by decide +kernel, rfl, fun w x hx => by simpa using hx⟩ (fun ρ wc hbc hcn hk => ?_) ?_; rotate_left
              · obtain ⟨hcn, -⟩ := hcn
                simp at hk
                go_simp
                rfl
              refine chain_val (u := ?_) [81, 98] rfl (by kernel_rfl) trivial (fun ρ wc hbc hcn hk => ?_) ?_; rotate_left
              · obtain ⟨hcn, -⟩ := hcn
                simp at hk
                go_simp
                rfl
              refine chain_val (u := ?_) [99] rfl (by kernel_rfl) trivial (fun ρ wc hbc hcn hk => ?_) ?_; rotate_left
              · obtain ⟨hcn, -⟩ := hcn
                simp at hk
                go_simp
                rfl

              refine chain_end_lit 100 rfl (fun ff w17 hb17 hk => ?_)
              refine hKK _ _ ?_
              simp [AllN] at hk
              simp only [frameL, hk]
              have HB17 : Hid (Below w.heap.size w w17) := Lib.hid (bel_on (bel_drew HB.out) hb17)
              clear hb17 hk
              go_wp2
              go_ret
              exact ⟨rfl, HB17.out⟩
end Go.Proofs.YtedofcagfopoeaaDoor
