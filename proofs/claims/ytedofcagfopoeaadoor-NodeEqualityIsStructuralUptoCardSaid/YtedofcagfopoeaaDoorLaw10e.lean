/- A law of layer 10: NodeDepth. -/
import Derived.Test.YtedofcagfopoeaaDoorLaw10c
namespace Go.Proofs.YtedofcagfopoeaaDoor
open Go.ChangeShapes Go.WideShapes Go.ChangeAt Go.RowKit
set_option linter.unusedVariables false
set_option linter.unusedSimpArgs false

/-- the three nodes over two others -/
def sOf (x y : Nd) : Nd := .mk 1 0 0 [] [x, y]
def lOf (x y : Nd) : Nd := .mk 2 6 2 [] [x, y]
def cOf (x y : Nd) : Nd := .mk 2 7 1 [] [sOf x y]
theorem sOf_size (x y : Nd) : sizeN (sOf x y) = 1 + (sizeN x + sizeN y) := by simp [sOf, sizeN, sizeK]
theorem lOf_size (x y : Nd) : sizeN (lOf x y) = 1 + (sizeN x + sizeN y) := by simp [lOf, sizeN, sizeK]
theorem cOf_size (x y : Nd) : sizeN (cOf x y) = 2 + (sizeN x + sizeN y) := by simp [cOf, sOf, sizeN, sizeK]; omega
theorem sOf_valid {x y : Nd} (hx : validN x = true) (hy : validN y = true) : validN (sOf x y) = true := by
  simp [sOf, validN, validK, hx, hy, headB]
theorem lOf_valid {x y : Nd} (hx : validN x = true) (hy : validN y = true) : validN (lOf x y) = true := by
  simp [lOf, validN, validK, hx, hy, headB]
theorem cOf_valid {x y : Nd} (hx : validN x = true) (hy : validN y = true) : validN (cOf x y) = true := by
  simp [cOf, sOf, validN, validK, hx, hy, headB, Nd.k]
theorem sOf_objs (x y : Nd) : objsN (sOf x y) = 1 + (objsN x + objsN y) := by simp [sOf, objsN, objsK]
theorem lOf_objs (x y : Nd) : objsN (lOf x y) = 1 + (objsN x + objsN y) := by simp [lOf, objsN, objsK]
theorem cOf_objs (x y : Nd) : objsN (cOf x y) = 1 + (objsN x + objsN y) := by simp [cOf, sOf, objsN, objsK, objsG]
theorem sOf_depth (x y : Nd) : depthN (sOf x y) = 1 + max (depthN x) (depthN y) := by simp [sOf, depthN, depthK]
theorem lOf_depth (x y : Nd) : depthN (lOf x y) = 1 + max (depthN x) (depthN y) := by simp [lOf, depthN, depthK]
theorem cOf_depth (x y : Nd) : depthN (cOf x y) = 1 + max (depthN x) (depthN y) := by simp [cOf, sOf, depthN, depthK, depthG]
theorem depth_zero (x : Nd) : depthN x = 0 ↔ x.k = 0 := by
  rw [depthN_eq]
  split
  · simp [*]
  · rename_i h; simp [h]

/-- what lies in memory while the calls are made -/
structure M10e (w : World) (n0 : Nat) (x y : Nd) (A1 : Option Addr) (c1 : Nat) (B1 : Option Addr) (e1 : Nat) (A2 : Option Addr) (c2 : Nat) (B2 : Option Addr) (e2 : Nat) (W : World) : Prop where
  t1 : Blk W w.heap.size #[.int .i64 x.k, .int .i64 x.e, .int .i64 x.n, .slice A1 x.d.length c1, .slice B1 x.ks.length e1]
  t2 : Blk W (w.heap.size + 1) #[.int .i64 y.k, .int .i64 y.e, .int .i64 y.n, .slice A2 y.d.length c2, .slice B2 y.ks.length e2]
  t3 : Blk W (n0 + 1) #[.int .i64 1, .int .i64 0, .int .i64 0, .slice none 0 0, .slice (some ⟨n0, 0, none⟩) 2 2]
  n3 : NdR W none 0 (some ⟨n0, 0, none⟩) 2 (sOf x y)
  t4 : Blk W (n0 + 1 + 1 + 1) #[.int .i64 2, .int .i64 6, .int .i64 2, .slice none 0 0, .slice (some ⟨n0 + 1 + 1, 0, none⟩) 2 2]
  n4 : NdR W none 0 (some ⟨n0 + 1 + 1, 0, none⟩) 2 (lOf x y)
  t5 : Blk W (n0 + 1 + 1 + 1 + 1 + 1) #[.int .i64 2, .int .i64 7, .int .i64 1, .slice none 0 0, .slice (some ⟨n0 + 1 + 1 + 1 + 1, 0, none⟩) 1 1]
  n5 : NdR W none 0 (some ⟨n0 + 1 + 1 + 1 + 1, 0, none⟩) 1 (cOf x y)
  hb : Below w.heap.size w W
theorem M10e.on {w : World} {n0 : Nat} {x y : Nd} {A1 : Option Addr} {c1 : Nat} {B1 : Option Addr} {e1 : Nat} {A2 : Option Addr} {c2 : Nat} {B2 : Option Addr} {e2 : Nat} {W W' : World} (h : M10e w n0 x y A1 c1 B1 e1 A2 c2 B2 e2 W) (hb : Below W.heap.size W W') : M10e w n0 x y A1 c1 B1 e1 A2 c2 B2 e2 W' :=
  ⟨h.t1.below hb, h.t2.below hb, h.t3.below hb, h.n3.on hb (Nat.le_refl _), h.t4.below hb, h.n4.on hb (Nat.le_refl _), h.t5.below hb, h.n5.on hb (Nat.le_refl _), bel_on h.hb hb⟩
attribute [local irreducible] validN fewN eqN depthN objsN

set_option maxHeartbeats 4000000 in
set_option maxRecDepth 100000 in
theorem Depth10_walk (x y : Nd) (A1 : Option Addr) (c1 : Nat) (B1 : Option Addr) (e1 : Nat) (A2 : Option Addr) (c2 : Nat) (B2 : Option Addr) (e2 : Nat) (w : World) (hT : TabOK w) (hx : NdR w A1 c1 B1 e1 x) (hy : NdR w A2 c2 B2 e2 y) (hsx : sizeN x ≤ 1048576) (hsy : sizeN y ≤ 1048576) :
    Calls Tryd.prog 5 #[.agg #[.int .i64 x.k, .int .i64 x.e, .int .i64 x.n, .slice A1 x.d.length c1, .slice B1 x.ks.length e1], .agg #[.int .i64 y.k, .int .i64 y.e, .int .i64 y.n, .slice A2 y.d.length c2, .slice B2 y.ks.length e2]] w fun r w' => r = .returned (.bool true) ∧ Below w.heap.size w w' := by
  have HX := Lib.hid hx
  have HY := Lib.hid hy
  have HT := Lib.hid hT
  have HSX : Hid (sizeN x ≤ 1099511627776) := Lib.hid (by omega)
  have HSY : Hid (sizeN y ≤ 1099511627776) := Lib.hid (by omega)
  have HS1 : Hid (sizeN (sOf x y) ≤ 1099511627776) := Lib.hid (by rw [sOf_size]; omega)
  have HS2 : Hid (sizeN (lOf x y) ≤ 1099511627776) := Lib.hid (by rw [lOf_size]; omega)
  have HS3 : Hid (sizeN (cOf x y) ≤ 1099511627776) := Lib.hid (by rw [cOf_size]; omega)
  clear hx hy hT
  go_enter Tryd.func5, Tryd.ntmps5
  go_wp2_with fail
  refine abs_world (F := fun W => Blk W w.heap.size #[.int .i64 x.k, .int .i64 x.e, .int .i64 x.n, .slice A1 x.d.length c1, .slice B1 x.ks.length e1] ∧ Blk W (w.heap.size + 1) #[.int .i64 y.k, .int .i64 y.e, .int .i64 y.n, .slice A2 y.d.length c2, .slice B2 y.ks.length e2] ∧ Below w.heap.size w W) ⟨?_, ?_, ?_⟩ ?_
  · exact (Blk.fresh _ _ _).alloc _
  · exact Blk.new (by simp)
  · exact ((Below.refl _ _).alloc (Nat.le_refl _) _).alloc (by simp) _
  rintro w0 ⟨h2, h3, hb0⟩
  have H2 := Lib.hid h2
  have H3 := Lib.hid h3
  have HB := Lib.hid hb0
  clear h2 h3 hb0
  refine (awake10_any _ (HT.out.on HB.out)).mono ?_
  rintro r w1 ⟨rfl, hb1⟩
  have H2n := Lib.hid (H2.out.below hb1)
  have H3n := Lib.hid (H3.out.below hb1)
  have HBn := Lib.hid (bel_on HB.out hb1)
  clear hb1 H2 H3 HB
  have H2 := H2n
  have H3 := H3n
  have HB := HBn
  clear H2n H3n HBn
  obtain ⟨x2, y2, z2⟩ := H2.out
  obtain ⟨x3, y3, z3⟩ := H3.out
  go_wp2_with fail
  refine (RefFew_node x A1 c1 B1 e1 _ (HX.out.on HB.out (Nat.le_refl _)) HSX.out).mono ?_
  rintro r w2 ⟨rfl, hb2⟩
  clear x2 y2 z2 x3 y3 z3
  have H2n := Lib.hid (H2.out.below hb2)
  have H3n := Lib.hid (H3.out.below hb2)
  have HBn := Lib.hid (bel_on HB.out hb2)
  clear hb2 H2 H3 HB
  have H2 := H2n
  have H3 := H3n
  have HB := HBn
  clear H2n H3n HBn
  obtain ⟨x2, y2, z2⟩ := H2.out
  obtain ⟨x3, y3, z3⟩ := H3.out
  cases hf1 : fewN x with
  | false =>
    clear hf1
    go_wp2_with fail
    refine (awake10_any _ (HT.out.on HB.out)).mono ?_
    rintro r w9 ⟨rfl, hb9⟩
    have HB9 := Lib.hid (bel_on HB.out hb9)
    clear hb9
    go_wp2
    go_ret
    exact ⟨rfl, HB9.out⟩
  | true =>
    clear hf1
    go_wp2_with fail
    refine (RefFew_node y A2 c2 B2 e2 _ (HY.out.on HB.out (Nat.le_refl _)) HSY.out).mono ?_
    rintro r w2 ⟨rfl, hb2⟩
    clear x2 y2 z2 x3 y3 z3
    have H2n := Lib.hid (H2.out.below hb2)
    have H3n := Lib.hid (H3.out.below hb2)
    have HBn := Lib.hid (bel_on HB.out hb2)
    clear hb2 H2 H3 HB
    have H2 := H2n
    have H3 := H3n
    have HB := HBn
    clear H2n H3n HBn
    obtain ⟨x2, y2, z2⟩ := H2.out
    obtain ⟨x3, y3, z3⟩ := H3.out
    cases hf2 : fewN y with
    | false =>
      clear hf2
      go_wp2_with fail
      refine (awake10_any _ (HT.out.on HB.out)).mono ?_
      rintro r w9 ⟨rfl, hb9⟩
      have HB9 := Lib.hid (bel_on HB.out hb9)
      clear hb9
      go_wp2
      go_ret
      exact ⟨rfl, HB9.out⟩
    | true =>
      clear hf2
      go_wp2_with fail
      refine (RefValid_node x A1 c1 B1 e1 _ (HX.out.on HB.out (Nat.le_refl _)) HSX.out).mono ?_
      rintro r w2 ⟨rfl, hb2⟩
      clear x2 y2 z2 x3 y3 z3
      have H2n := Lib.hid (H2.out.below hb2)
      have H3n := Lib.hid (H3.out.below hb2)
      have HBn := Lib.hid (bel_on HB.out hb2)
      clear hb2 H2 H3 HB
      have H2 := H2n
      have H3 := H3n
      have HB := HBn
      clear H2n H3n HBn
      obtain ⟨x2, y2, z2⟩ := H2.out
      obtain ⟨x3, y3, z3⟩ := H3.out
      cases hv1 : validN x with
      | false =>
        clear hv1
        go_wp2_with fail
        refine (awake10_any _ (HT.out.on HB.out)).mono ?_
        rintro r w9 ⟨rfl, hb9⟩
        have HB9 := Lib.hid (bel_on HB.out hb9)
        clear hb9
        go_wp2
        go_ret
        exact ⟨rfl, HB9.out⟩
      | true =>
        have HV1 := Lib.hid hv1
        clear hv1
        go_wp2_with fail
        refine (RefValid_node y A2 c2 B2 e2 _ (HY.out.on HB.out (Nat.le_refl _)) HSY.out).mono ?_
        rintro r w2 ⟨rfl, hb2⟩
        clear x2 y2 z2 x3 y3 z3
        have H2n := Lib.hid (H2.out.below hb2)
        have H3n := Lib.hid (H3.out.below hb2)
        have HBn := Lib.hid (bel_on HB.out hb2)
        clear hb2 H2 H3 HB
        have H2 := H2n
        have H3 := H3n
        have HB := HBn
        clear H2n H3n HBn
        obtain ⟨x2, y2, z2⟩ := H2.out
        obtain ⟨x3, y3, z3⟩ := H3.out
        cases hv2 : validN y with
        | false =>
          clear hv2
          go_wp2_with fail
          refine (awake10_any _ (HT.out.on HB.out)).mono ?_
          rintro r w9 ⟨rfl, hb9⟩
          have HB9 := Lib.hid (bel_on HB.out hb9)
          clear hb9
          go_wp2
          go_ret
          exact ⟨rfl, HB9.out⟩
        | true =>
          have HV2 := Lib.hid hv2
          clear hv2
          go_wp2_with fail
          refine (NDepth_any x A1 c1 B1 e1 _ (HT.out.on HB.out) (HX.out.on HB.out (Nat.le_refl _)) HSX.out HV1.out).mono ?_
          rintro r w2 ⟨rfl, hb2⟩
          clear x2 y2 z2 x3 y3 z3
          have H2n := Lib.hid (H2.out.below hb2)
          have H3n := Lib.hid (H3.out.below hb2)
          have HBn := Lib.hid (bel_on HB.out hb2)
          clear hb2 H2 H3 HB
          have H2 := H2n
          have H3 := H3n
          have HB := HBn
          clear H2n H3n HBn
          obtain ⟨x2, y2, z2⟩ := H2.out
          obtain ⟨x3, y3, z3⟩ := H3.out
          go_wp2_with fail
          refine (NObjects_any x A1 c1 B1 e1 _ (HT.out.on HB.out) (HX.out.on HB.out (Nat.le_refl _)) HSX.out HV1.out).mono ?_
          rintro r w2 ⟨rfl, hb2⟩
          clear x2 y2 z2 x3 y3 z3
          have H2n := Lib.hid (H2.out.below hb2)
          have H3n := Lib.hid (H3.out.below hb2)
          have HBn := Lib.hid (bel_on HB.out hb2)
          clear hb2 H2 H3 HB
          have H2 := H2n
          have H3 := H3n
          have HB := HBn
          clear H2n H3n HBn
          obtain ⟨x2, y2, z2⟩ := H2.out
          obtain ⟨x3, y3, z3⟩ := H3.out
          have HO1 := Lib.hid (objs_size x)
          have HO2 := Lib.hid (objs_size y)
          have HD1 := Lib.hid (depth_le_objs x)
          have HD2 := Lib.hid (depth_le_objs y)
          have ho1 : objsN x ≤ 1048576 := Nat.le_trans HO1.out hsx
          have ho2 : objsN y ≤ 1048576 := Nat.le_trans HO2.out hsy
          have hd1 : depthN x ≤ 1048576 := Nat.le_trans HD1.out ho1
          have hd2 : depthN y ≤ 1048576 := Nat.le_trans HD2.out ho2
          have t1 : decide ((objsN x : Int) < (depthN x : Int)) = false := decide_eq_false (by have h1 := HD1.out; omega)
          have t1' : decide (objsN x < depthN x) = false := decide_eq_false (by have h1 := HD1.out; omega)
          obtain ⟨bz, z1, z2', z3'⟩ : ∃ bz : Bool, (x.k == 0) = bz ∧ ((depthN x : Int) == 0) = bz ∧ ((objsN x : Int) == 0) = bz := by
            have h := depth_zero x
            have h' := objs_zero x
            by_cases h0 : x.k = 0
            · exact ⟨true, by simp [h0], by simp [h.2 h0], by simp [h'.2 (h.2 h0)]⟩
            · have h1 : ¬ depthN x = 0 := fun e => h0 (h.1 e)
              have h2 : ¬ objsN x = 0 := fun e => h1 (h'.1 e)
              exact ⟨false, beq_eq_false_iff_ne.2 h0, beq_eq_false_iff_ne.2 (by omega), beq_eq_false_iff_ne.2 (by omega)⟩
          have h8 : ∀ o, ((w2.alloc (.cells #[.int .i64 x.k, .int .i64 x.e, .int .i64 x.n, .slice A1 x.d.length c1, .slice B1 x.ks.length e1, .int .i64 y.k, .int .i64 y.e, .int .i64 y.n, .slice A2 y.d.length c2, .slice B2 y.ks.length e2] 25)).alloc (.cells #[.int .i64 1, .int .i64 0, .int .i64 0, .slice none 0 0, .slice (some ⟨w2.heap.size, 0, none⟩) 2 2] 25)).cell? ⟨w.heap.size, o, none⟩ = (#[.int .i64 x.k, .int .i64 x.e, .int .i64 x.n, .slice A1 x.d.length c1, .slice B1 x.ks.length e1] : Array Value)[o]? := ((H2.out.alloc _).alloc _).cell
          have h9 : ∀ o, ((w2.alloc (.cells #[.int .i64 x.k, .int .i64 x.e, .int .i64 x.n, .slice A1 x.d.length c1, .slice B1 x.ks.length e1, .int .i64 y.k, .int .i64 y.e, .int .i64 y.n, .slice A2 y.d.length c2, .slice B2 y.ks.length e2] 25)).alloc (.cells #[.int .i64 1, .int .i64 0, .int .i64 0, .slice none 0 0, .slice (some ⟨w2.heap.size, 0, none⟩) 2 2] 25)).cell? ⟨w.heap.size + 1, o, none⟩ = (#[.int .i64 y.k, .int .i64 y.e, .int .i64 y.n, .slice A2 y.d.length c2, .slice B2 y.ks.length e2] : Array Value)[o]? := ((H3.out.alloc _).alloc _).cell
          have h10 : ∀ o, ((((((w2.alloc (.cells #[.int .i64 x.k, .int .i64 x.e, .int .i64 x.n, .slice A1 x.d.length c1, .slice B1 x.ks.length e1, .int .i64 y.k, .int .i64 y.e, .int .i64 y.n, .slice A2 y.d.length c2, .slice B2 y.ks.length e2] 25)).alloc (.cells #[.int .i64 1, .int .i64 0, .int .i64 0, .slice none 0 0, .slice (some ⟨w2.heap.size, 0, none⟩) 2 2] 25)).alloc (.cells #[.int .i64 x.k, .int .i64 x.e, .int .i64 x.n, .slice A1 x.d.length c1, .slice B1 x.ks.length e1, .int .i64 y.k, .int .i64 y.e, .int .i64 y.n, .slice A2 y.d.length c2, .slice B2 y.ks.length e2] 25)).alloc (.cells #[.int .i64 2, .int .i64 6, .int .i64 2, .slice none 0 0, .slice (some ⟨w2.heap.size + 1 + 1, 0, none⟩) 2 2] 25)).alloc (.cells #[.int .i64 1, .int .i64 0, .int .i64 0, .slice none 0 0, .slice (some ⟨w2.heap.size, 0, none⟩) 2 2] 25)).alloc (.cells #[.int .i64 2, .int .i64 7, .int .i64 1, .slice none 0 0, .slice (some ⟨w2.heap.size + 1 + 1 + 1 + 1, 0, none⟩) 1 1] 25)).cell? ⟨w.heap.size + 1, o, none⟩ = (#[.int .i64 y.k, .int .i64 y.e, .int .i64 y.n, .slice A2 y.d.length c2, .slice B2 y.ks.length e2] : Array Value)[o]? := ((((((H3.out.alloc _).alloc _).alloc _).alloc _).alloc _).alloc _).cell
          go_wp2_with fail
          refine abs_world (F := M10e w w2.heap.size x y A1 c1 B1 e1 A2 c2 B2 e2) ?_ ?_
          · have nx := HX.out.on HB.out (Nat.le_refl _)
            have ny := HY.out.on HB.out (Nat.le_refl _)
            have bA : ∀ (V : World) (o : Obj), Below V.heap.size V (V.alloc o) := fun V o => (Below.refl _ _).alloc (Nat.le_refl _) o
            refine ⟨?_, ?_, ?_, ?_, ?_, ?_, ?_, ?_, ?_⟩
            · exact (((((H2.out.alloc _).alloc _).alloc _).alloc _).alloc _).alloc _
            · exact (((((H3.out.alloc _).alloc _).alloc _).alloc _).alloc _).alloc _
            · exact ((((Blk.new (by simp)).alloc _).alloc _).alloc _).alloc _
            · have hn : NdR (w2.alloc (.cells #[.int .i64 x.k, .int .i64 x.e, .int .i64 x.n, .slice A1 x.d.length c1, .slice B1 x.ks.length e1, .int .i64 y.k, .int .i64 y.e, .int .i64 y.n, .slice A2 y.d.length c2, .slice B2 y.ks.length e2] 25)) none 0 (some ⟨w2.heap.size, 0, none⟩) 2 (sOf x y) := (row2_new nx ny 25).node ⟨by decide, by decide⟩ ⟨by decide, by decide⟩ ⟨by decide, by decide⟩ (Ri.nil _ _ _) (fun z hz => by cases hz) (by simp) (by unfold maxLen; omega) (fun _ => rfl) (by simp) (by unfold maxLen; omega) (fun h => by cases h)
              exact ((((hn.on (bA _ _) (Nat.le_refl _)).on (bA _ _) (Nat.le_refl _)).on (bA _ _) (Nat.le_refl _)).on (bA _ _) (Nat.le_refl _)).on (bA _ _) (Nat.le_refl _)
            · exact ((Blk.new (by simp)).alloc _).alloc _
            · have hr := row2_new ((nx.on (bA _ (.cells #[.int .i64 x.k, .int .i64 x.e, .int .i64 x.n, .slice A1 x.d.length c1, .slice B1 x.ks.length e1, .int .i64 y.k, .int .i64 y.e, .int .i64 y.n, .slice A2 y.d.length c2, .slice B2 y.ks.length e2] 25)) (Nat.le_refl _)).on (bA _ (.cells #[.int .i64 1, .int .i64 0, .int .i64 0, .slice none 0 0, .slice (some ⟨w2.heap.size, 0, none⟩) 2 2] 25)) (Nat.le_refl _)) ((ny.on (bA _ (.cells #[.int .i64 x.k, .int .i64 x.e, .int .i64 x.n, .slice A1 x.d.length c1, .slice B1 x.ks.length e1, .int .i64 y.k, .int .i64 y.e, .int .i64 y.n, .slice A2 y.d.length c2, .slice B2 y.ks.length e2] 25)) (Nat.le_refl _)).on (bA _ (.cells #[.int .i64 1, .int .i64 0, .int .i64 0, .slice none 0 0, .slice (some ⟨w2.heap.size, 0, none⟩) 2 2] 25)) (Nat.le_refl _)) 25
              have e2 : ∀ a b, ((w2.alloc a).alloc b).heap.size = w2.heap.size + 1 + 1 := fun a b => by simp
              rw [e2] at hr
              have hn := hr.node (k := 2) (e := 6) (n := 2) (d := []) (A := none) (c := 0) (c2 := 2) ⟨by decide, by decide⟩ ⟨by decide, by decide⟩ ⟨by decide, by decide⟩ (Ri.nil _ _ _) (fun z hz => by cases hz) (by simp) (by unfold maxLen; omega) (fun _ => rfl) (by simp) (by unfold maxLen; omega) (fun h => by cases h)
              exact ((hn.on (bA _ _) (Nat.le_refl _)).on (bA _ _) (Nat.le_refl _)).on (bA _ _) (Nat.le_refl _)
            · exact Blk.new (by simp)
            · have hn : NdR (w2.alloc (.cells #[.int .i64 x.k, .int .i64 x.e, .int .i64 x.n, .slice A1 x.d.length c1, .slice B1 x.ks.length e1, .int .i64 y.k, .int .i64 y.e, .int .i64 y.n, .slice A2 y.d.length c2, .slice B2 y.ks.length e2] 25)) none 0 (some ⟨w2.heap.size, 0, none⟩) 2 (sOf x y) := (row2_new nx ny 25).node ⟨by decide, by decide⟩ ⟨by decide, by decide⟩ ⟨by decide, by decide⟩ (Ri.nil _ _ _) (fun z hz => by cases hz) (by simp) (by unfold maxLen; omega) (fun _ => rfl) (by simp) (by unfold maxLen; omega) (fun h => by cases h)
              have hr := row1_new (((hn.on (bA _ (.cells #[.int .i64 1, .int .i64 0, .int .i64 0, .slice none 0 0, .slice (some ⟨w2.heap.size, 0, none⟩) 2 2] 25)) (Nat.le_refl _)).on (bA _ (.cells #[.int .i64 x.k, .int .i64 x.e, .int .i64 x.n, .slice A1 x.d.length c1, .slice B1 x.ks.length e1, .int .i64 y.k, .int .i64 y.e, .int .i64 y.n, .slice A2 y.d.length c2, .slice B2 y.ks.length e2] 25)) (Nat.le_refl _)).on (bA _ (.cells #[.int .i64 2, .int .i64 6, .int .i64 2, .slice none 0 0, .slice (some ⟨w2.heap.size + 1 + 1, 0, none⟩) 2 2] 25)) (Nat.le_refl _)) 25
              have e4 : ∀ a b c d, ((((w2.alloc a).alloc b).alloc c).alloc d).heap.size = w2.heap.size + 1 + 1 + 1 + 1 := fun a b c d => by simp
              rw [e4] at hr
              have hn := hr.node (k := 2) (e := 7) (n := 1) (d := []) (A := none) (c := 0) (c2 := 1) ⟨by decide, by decide⟩ ⟨by decide, by decide⟩ ⟨by decide, by decide⟩ (Ri.nil _ _ _) (fun z hz => by cases hz) (by simp) (by unfold maxLen; omega) (fun _ => rfl) (by simp) (by unfold maxLen; omega) (fun h => by cases h)
              exact hn.on (bA _ _) (Nat.le_refl _)
            · have hbA : ∀ (V : World) (o : Obj), Below w.heap.size w V → Below w.heap.size w (V.alloc o) := fun V o h => h.alloc h.size o
              exact hbA _ _ (hbA _ _ (hbA _ _ (hbA _ _ (hbA _ _ (hbA _ _ HB.out)))))
          have MM : M10e w w2.heap.size x y A1 c1 B1 e1 A2 c2 B2 e2 = M10e w w2.heap.size x y A1 c1 B1 e1 A2 c2 B2 e2 := rfl
          clear MM
          generalize w2.heap.size = n0
          clear x2 y2 z2 x3 y3 z3 h8 h9 h10 H2 H3 HB
          intro w3 m3
          have M := Lib.hid m3
          clear m3
          have eo1 : ((objsN (sOf x y) : Nat) : Int) = 1 + (objsN x : Int) + (objsN y : Int) := by rw [sOf_objs]; omega
          have eo2 : ((objsN (lOf x y) : Nat) : Int) = 1 + (objsN x : Int) + (objsN y : Int) := by rw [lOf_objs]; omega
          have eo3 : ((objsN (cOf x y) : Nat) : Int) = 1 + (objsN x : Int) + (objsN y : Int) := by rw [cOf_objs]; omega
          have ed1 : ((depthN (sOf x y) : Nat) : Int) = 1 + max (depthN x : Int) (depthN y : Int) := by rw [sOf_depth]; omega
          have ed2 : ((depthN (lOf x y) : Nat) : Int) = 1 + max (depthN x : Int) (depthN y : Int) := by rw [lOf_depth]; omega
          have ed3 : ((depthN (cOf x y) : Nat) : Int) = 1 + max (depthN x : Int) (depthN y : Int) := by rw [cOf_depth]; omega
          have nd1 : 0 ≤ ((depthN x : Nat) : Int) ∧ ((depthN x : Nat) : Int) ≤ 1048576 := by omega
          have nd2 : 0 ≤ ((depthN y : Nat) : Int) ∧ ((depthN y : Nat) : Int) ≤ 1048576 := by omega
          generalize hE1 : ((depthN x : Nat) : Int) = E1 at *
          generalize hE2 : ((depthN y : Nat) : Int) = E2 at *
          have HE2 := Lib.hid hE2
          clear hE1 hE2
          obtain ⟨nd1, nd1'⟩ := nd1
          obtain ⟨nd2, nd2'⟩ := nd2
          obtain ⟨Mx, hM⟩ : ∃ Mx : Int, max E1 E2 = Mx := ⟨_, rfl⟩
          rw [hM] at ed1 ed2 ed3
          have hcs : (E1 < E2 ∧ E2 = Mx) ∨ (¬ E1 < E2 ∧ E1 = Mx) := by omega
          clear hM
          have EO1 := Lib.hid eo1
          have EO2 := Lib.hid eo2
          have EO3 := Lib.hid eo3
          have ED1 := Lib.hid ed1
          have ED2 := Lib.hid ed2
          have ED3 := Lib.hid ed3
          clear eo1 eo2 eo3 ed1 ed2 ed3
          rcases hcs with ⟨hl, rfl⟩ | ⟨hl, rfl⟩
          all_goals
            refine (NObjects_any y A2 c2 B2 e2 _ (HT.out.on M.out.hb) (HY.out.on M.out.hb (Nat.le_refl _)) HSY.out HV2.out).mono ?_
            rintro r w20 ⟨rfl, hb20⟩
            have M1 := Lib.hid (M.out.on hb20)
            clear hb20 M
            have M := M1
            clear M1
            have x1 := M.out.t1.cell
            have x2 := M.out.t2.cell
            have x3 := M.out.t3.cell
            have x4 := M.out.t4.cell
            have x5 := M.out.t5.cell
            go_wp2_with fail
            refine (NDepth_c y A2 c2 B2 e2 _ _ (HT.out.on M.out.hb) (HY.out.on M.out.hb (Nat.le_refl _)) HSY.out HV2.out HE2.out).mono ?_
            rintro r w21 ⟨rfl, hb21⟩
            have M1 := Lib.hid (M.out.on hb21)
            clear hb21 M x1 x2 x3 x4 x5
            have M := M1
            clear M1
            have x1 := M.out.t1.cell
            have x2 := M.out.t2.cell
            have x3 := M.out.t3.cell
            have x4 := M.out.t4.cell
            have x5 := M.out.t5.cell
            go_wp2_with fail
            refine (NValid_c (sOf x y) _ _ _ _ true _ (HT.out.on M.out.hb) M.out.n3 HS1.out (sOf_valid HV1.out HV2.out)).mono ?_
            rintro r w22 ⟨rfl, hb22⟩
            have M1 := Lib.hid (M.out.on hb22)
            clear hb22 M x1 x2 x3 x4 x5
            have M := M1
            clear M1
            have x1 := M.out.t1.cell
            have x2 := M.out.t2.cell
            have x3 := M.out.t3.cell
            have x4 := M.out.t4.cell
            have x5 := M.out.t5.cell
            go_wp2_with fail
            refine (NValid_c (lOf x y) _ _ _ _ true _ (HT.out.on M.out.hb) M.out.n4 HS2.out (lOf_valid HV1.out HV2.out)).mono ?_
            rintro r w23 ⟨rfl, hb23⟩
            have M1 := Lib.hid (M.out.on hb23)
            clear hb23 M x1 x2 x3 x4 x5
            have M := M1
            clear M1
            have x1 := M.out.t1.cell
            have x2 := M.out.t2.cell
            have x3 := M.out.t3.cell
            have x4 := M.out.t4.cell
            have x5 := M.out.t5.cell
            go_wp2_with fail
            refine (NValid_c (cOf x y) _ _ _ _ true _ (HT.out.on M.out.hb) M.out.n5 HS3.out (cOf_valid HV1.out HV2.out)).mono ?_
            rintro r w24 ⟨rfl, hb24⟩
            have M1 := Lib.hid (M.out.on hb24)
            clear hb24 M x1 x2 x3 x4 x5
            have M := M1
            clear M1
            have x1 := M.out.t1.cell
            have x2 := M.out.t2.cell
            have x3 := M.out.t3.cell
            have x4 := M.out.t4.cell
            have x5 := M.out.t5.cell
            go_wp2_with fail
            refine (NObjects_c (sOf x y) _ _ _ _ (1 + (objsN x : Int) + (objsN y : Int)) _ (HT.out.on M.out.hb) M.out.n3 HS1.out (sOf_valid HV1.out HV2.out) EO1.out).mono ?_
            rintro r w25 ⟨rfl, hb25⟩
            have M1 := Lib.hid (M.out.on hb25)
            clear hb25 M x1 x2 x3 x4 x5
            have M := M1
            clear M1
            have x1 := M.out.t1.cell
            have x2 := M.out.t2.cell
            have x3 := M.out.t3.cell
            have x4 := M.out.t4.cell
            have x5 := M.out.t5.cell
            go_wp2_with fail
            refine (NObjects_c (lOf x y) _ _ _ _ (1 + (objsN x : Int) + (objsN y : Int)) _ (HT.out.on M.out.hb) M.out.n4 HS2.out (lOf_valid HV1.out HV2.out) EO2.out).mono ?_
            rintro r w26 ⟨rfl, hb26⟩
            have M1 := Lib.hid (M.out.on hb26)
            clear hb26 M x1 x2 x3 x4 x5
            have M := M1
            clear M1
            have x1 := M.out.t1.cell
            have x2 := M.out.t2.cell
            have x3 := M.out.t3.cell
            have x4 := M.out.t4.cell
            have x5 := M.out.t5.cell
            go_wp2_with fail
            refine (NObjects_c (cOf x y) _ _ _ _ (1 + (objsN x : Int) + (objsN y : Int)) _ (HT.out.on M.out.hb) M.out.n5 HS3.out (cOf_valid HV1.out HV2.out) EO3.out).mono ?_
            rintro r w27 ⟨rfl, hb27⟩
            have M1 := Lib.hid (M.out.on hb27)
            clear hb27 M x1 x2 x3 x4 x5
            have M := M1
            clear M1
            have x1 := M.out.t1.cell
            have x2 := M.out.t2.cell
            have x3 := M.out.t3.cell
            have x4 := M.out.t4.cell
            have x5 := M.out.t5.cell
            go_wp2_with fail
            refine (NDepth_c (sOf x y) _ _ _ _ _ _ (HT.out.on M.out.hb) M.out.n3 HS1.out (sOf_valid HV1.out HV2.out) ED1.out).mono ?_
            rintro r w28 ⟨rfl, hb28⟩
            have M1 := Lib.hid (M.out.on hb28)
            clear hb28 M x1 x2 x3 x4 x5
            have M := M1
            clear M1
            have x1 := M.out.t1.cell
            have x2 := M.out.t2.cell
            have x3 := M.out.t3.cell
            have x4 := M.out.t4.cell
            have x5 := M.out.t5.cell
            go_wp2_with fail
            refine (NDepth_c (lOf x y) _ _ _ _ _ _ (HT.out.on M.out.hb) M.out.n4 HS2.out (lOf_valid HV1.out HV2.out) ED2.out).mono ?_
            rintro r w29 ⟨rfl, hb29⟩
            have M1 := Lib.hid (M.out.on hb29)
            clear hb29 M x1 x2 x3 x4 x5
            have M := M1
            clear M1
            have x1 := M.out.t1.cell
            have x2 := M.out.t2.cell
            have x3 := M.out.t3.cell
            have x4 := M.out.t4.cell
            have x5 := M.out.t5.cell
            go_wp2_with fail
            refine (NDepth_c (cOf x y) _ _ _ _ _ _ (HT.out.on M.out.hb) M.out.n5 HS3.out (cOf_valid HV1.out HV2.out) ED3.out).mono ?_
            rintro r w30 ⟨rfl, hb30⟩
            have M1 := Lib.hid (M.out.on hb30)
            clear hb30 M x1 x2 x3 x4 x5
            have M := M1
            clear M1
            go_wp2
            go_ret
            exact ⟨rfl, M.out.hb⟩
end Go.Proofs.YtedofcagfopoeaaDoor
