/- A law of layer 10: NodeCopies. -/
import Derived.Test.YtedofcagfopoeaaDoorLaw10b
import Derived.Test.YtedofcagfopoeaaDoorRef10d
namespace Go.Proofs.YtedofcagfopoeaaDoor
open Go.ChangeShapes Go.WideShapes Go.ChangeAt Go.RowKit
set_option linter.unusedVariables false
set_option linter.unusedSimpArgs false
attribute [local simp] AllK KnowsV look Is

theorem depth_le_objs : ∀ x : Nd, depthN x ≤ objsN x := size_ind (by
  intro x ih
  rw [depthN_eq, objsN_eq]
  split
  · exact Nat.le_refl _
  · have : ∀ l : List Nd, (∀ t ∈ l, depthN t ≤ objsN t) → depthK l ≤ objsK l := by
      intro l
      induction l with
      | nil => intro _; simp [depthK, objsK]
      | cons y ys ih2 =>
        intro h
        have h1 := h y (List.mem_cons_self ..)
        have h2 := ih2 fun t ht => h t (List.mem_cons_of_mem _ ht)
        simp only [depthK, objsK]
        omega
    have := this (targN x) fun t ht => ih t (targ_lt ht)
    omega)
theorem objs_zero (x : Nd) : objsN x = 0 ↔ depthN x = 0 := by
  rw [depthN_eq, objsN_eq]
  split <;> simp
theorem RefEqual_c (x y : Nd) (A : Option Addr) (c : Nat) (B : Option Addr) (c2 : Nat) (A1 : Option Addr) (c3 : Nat) (B1 : Option Addr) (c4 : Nat) (v : Bool) (w : World) (hx : NdR w A c B c2 x) (hy : NdR w A1 c3 B1 c4 y) (hv : eqN x y = v) :
    Calls Tryd.prog 13 #[.agg #[.int .i64 x.k, .int .i64 x.e, .int .i64 x.n, .slice A x.d.length c, .slice B x.ks.length c2], .agg #[.int .i64 y.k, .int .i64 y.e, .int .i64 y.n, .slice A1 y.d.length c3, .slice B1 y.ks.length c4]] w fun r w' => r = .returned (.bool v) ∧ Below w.heap.size w w' := hv ▸ RefEqual_node x y A c B c2 A1 c3 B1 c4 w hx hy
attribute [local irreducible] validN fewN eqN depthN objsN

set_option maxHeartbeats 4000000 in
set_option maxRecDepth 100000 in
theorem Copies10_walk (x : Nd) (A1 : Option Addr) (c1 : Nat) (B1 : Option Addr) (e1 : Nat) (w : World) (hT : TabOK w) (hx : NdR w A1 c1 B1 e1 x) (hsx : sizeN x ≤ 1048576) :
    Calls Tryd.prog 7 #[.agg #[.int .i64 x.k, .int .i64 x.e, .int .i64 x.n, .slice A1 x.d.length c1, .slice B1 x.ks.length e1]] w fun r w' => r = .returned (.bool true) ∧ Below w.heap.size w w' := by
  have HX := Lib.hid hx
  have HT := Lib.hid hT
  have HSX : Hid (sizeN x ≤ 1099511627776) := Lib.hid (by omega)
  clear hx hT
  go_enter Tryd.func7, Tryd.ntmps7
  go_wp2_with fail
  refine abs_world (F := fun W => Blk W w.heap.size #[.int .i64 x.k, .int .i64 x.e, .int .i64 x.n, .slice A1 x.d.length c1, .slice B1 x.ks.length e1] ∧ Below w.heap.size w W) ⟨?_, ?_⟩ ?_
  · exact Blk.fresh _ _ _
  · exact (Below.refl _ _).alloc (Nat.le_refl _) _
  rintro w0 ⟨h2, hb0⟩
  have H2 := Lib.hid h2
  have HB := Lib.hid hb0
  clear h2 hb0
  refine (awake10_any _ (HT.out.on HB.out)).mono ?_
  rintro r w1 ⟨rfl, hb1⟩
  have H2n := Lib.hid (H2.out.below hb1)
  have HBn := Lib.hid (bel_on HB.out hb1)
  clear hb1 H2 HB
  have H2 := H2n
  have HB := HBn
  clear H2n HBn
  obtain ⟨x2, y2, z2⟩ := H2.out
  go_wp2_with fail
  refine (RefFew_node x A1 c1 B1 e1 _ (HX.out.on HB.out (Nat.le_refl _)) HSX.out).mono ?_
  rintro r w2 ⟨rfl, hb2⟩
  clear x2 y2 z2
  have H2n := Lib.hid (H2.out.below hb2)
  have HBn := Lib.hid (bel_on HB.out hb2)
  clear hb2 H2 HB
  have H2 := H2n
  have HB := HBn
  clear H2n HBn
  obtain ⟨x2, y2, z2⟩ := H2.out
  cases hf : fewN x with
  | false =>
    clear hf
    go_wp2_with fail
    refine (awake10_any _ (HT.out.on HB.out)).mono ?_
    rintro r w9 ⟨rfl, hb9⟩
    have HB9 := Lib.hid (bel_on HB.out hb9)
    clear hb9
    go_wp2
    go_ret
    exact ⟨rfl, HB9.out⟩
  | true =>
    clear hf
    go_wp2_with fail
    refine (RefCopy_node x A1 c1 B1 e1 _ (HX.out.on HB.out (Nat.le_refl _)) HSX.out).mono ?_
    rintro r w3 ⟨v3, rfl, ⟨A5, c5, B5, e5, hi5, rfl, hh5, ho5⟩, hb3⟩
    have HO := Lib.hid ho5.nd
    clear ho5 hh5 x2 y2 z2
    have H2n := Lib.hid (H2.out.below hb3)
    have HBn := Lib.hid (bel_on HB.out hb3)
    clear hb3 H2 HB
    have H2 := H2n
    have HB := HBn
    clear H2n HBn
    obtain ⟨x2, y2, z2⟩ := H2.out
    go_wp2_with fail
    refine abs_code10 (F := fun W => Blk W w.heap.size #[.int .i64 x.k, .int .i64 x.e, .int .i64 x.n, .slice A1 x.d.length c1, .slice B1 x.ks.length e1] ∧ Blk W w3.heap.size #[.int .i64 x.k, .int .i64 x.e, .int .i64 x.n, .slice A5 x.d.length c5, .slice B5 x.ks.length e5] ∧ NdR W A5 c5 B5 e5 x ∧ Below w.heap.size w W ∧ w.heap.size < w3.heap.size) ⟨?_, ?_, ?_, ?_, ?_⟩ ?_
    · exact H2.out.alloc _
    · exact Blk.fresh _ _ _
    · exact HO.out.on ((Below.refl _ _).alloc (Nat.le_refl _) _) (Nat.le_refl _)
    · exact HB.out.alloc HB.out.size _
    · exact H2.out.lt
    generalize w3.heap.size = bo
    clear H2 HO HB x2 y2 z2
    rintro w3 ⟨h2, h3, ho, hb, hlo⟩
    have H2 := Lib.hid h2
    have H3 := Lib.hid h3
    have HO := Lib.hid ho
    have HB := Lib.hid hb
    clear h2 h3 ho hb
    rename_i KK hKK
    refine wp_region_chain (by kernel_rfl) (by kernel_rfl) ?_
    refine chain_val (u := ?_) [3] rfl (by kernel_rfl) trivial (fun ρ wc hbc hcn hk => ?_) ?_; rotate_left
    · obtain ⟨hcn, -⟩ := hcn
      simp at hk
      obtain ⟨x2, y2, z2⟩ := H2.out.drew.below hbc
      obtain ⟨x3, y3, z3⟩ := H3.out.drew.below hbc
      go_simp
      rfl
    refine chain_val (u := ?_) [1] rfl (by kernel_rfl) trivial (fun ρ wc hbc hcn hk => ?_) ?_; rotate_left
    · obtain ⟨hcn, -⟩ := hcn
      simp at hk
      obtain ⟨x2, y2, z2⟩ := H2.out.drew.below hbc
      obtain ⟨x3, y3, z3⟩ := H3.out.drew.below hbc
      go_simp
      rfl
    refine chain_call (T := Is ?_) 12 [16, 17] rfl (by kernel_rfl) trivial (stable_is _) (fun ρ wc hbc hcn hk => ?_) ?_; rotate_left
    · obtain ⟨hcn, hfn⟩ := hcn
      simp at hk
      refine ⟨_, by go_simp; rfl, ?_⟩
      refine (NEqual_c x x A5 c5 B5 e5 A1 c1 B1 e1 true wc (HT.out.on (bel_on (bel_drew HB.out) hbc)) (HO.out.on (w' := wc) (N := w3.heap.size) ⟨hbc.os, hbc.tape, hbc.output, hbc.size, hbc.block⟩ (Nat.le_refl _)) (HX.out.on (bel_on (bel_drew HB.out) hbc) (Nat.le_refl _)) HSX.out HSX.out (eqN_yes rfl)).mono ?_
      rintro e w' ⟨rfl, hbq⟩
      refine ⟨_, rfl, ?_, hbq⟩
      unfold Is
      rfl
    refine chain_val (u := ?_) [18] rfl (by kernel_rfl) trivial (fun ρ wc hbc hcn hk => ?_) ?_; rotate_left
    · obtain ⟨hcn, -⟩ := hcn
      simp at hk
      go_simp
      rfl
    refine chain_val (u := ?_) [19] rfl (by kernel_rfl) trivial (fun ρ wc hbc hcn hk => ?_) ?_; rotate_left
    · obtain ⟨hcn, -⟩ := hcn
      simp at hk
      go_simp
      rfl
    refine chain_val (u := ?_) [3] rfl (by kernel_rfl) ⟨20, by decide +kernel, rfl, fun w x hx => by simpa using hx⟩ (fun ρ wc hbc hcn hk => ?_) ?_; rotate_left
    · obtain ⟨hcn, -⟩ := hcn
      simp at hk
      obtain ⟨x2, y2, z2⟩ := H2.out.drew.below hbc
      obtain ⟨x3, y3, z3⟩ := H3.out.drew.below hbc
      go_simp
      rfl
    refine chain_call (T := Is ?_) 10 [21] rfl (by kernel_rfl) ⟨20, by decide +kernel, rfl, fun w x hx => by simpa using hx⟩ (stable_is _) (fun ρ wc hbc hcn hk => ?_) ?_; rotate_left
    · obtain ⟨hcn, hfn⟩ := hcn
      simp at hk
      refine ⟨_, by go_simp; rfl, ?_⟩
      refine (NValid_any x A5 c5 B5 e5 wc (HT.out.on (bel_on (bel_drew HB.out) hbc)) (HO.out.on (w' := wc) (N := w3.heap.size) ⟨hbc.os, hbc.tape, hbc.output, hbc.size, hbc.block⟩ (Nat.le_refl _)) HSX.out).mono ?_
      rintro e w' ⟨rfl, hbq⟩
      refine ⟨_, rfl, ?_, hbq⟩
      unfold Is
      rfl
    refine chain_val (u := ?_) [1] rfl (by kernel_rfl) ⟨20, by decide +kernel, rfl, fun w x hx => by simpa using hx⟩ (fun ρ wc hbc hcn hk => ?_) ?_; rotate_left
    · obtain ⟨hcn, -⟩ := hcn
      simp at hk
      obtain ⟨x2, y2, z2⟩ := H2.out.drew.below hbc
      obtain ⟨x3, y3, z3⟩ := H3.out.drew.below hbc
      go_simp
      rfl
    refine chain_call (T := Is ?_) 10 [23] rfl (by kernel_rfl) ⟨20, by decide +kernel, rfl, fun w x hx => by simpa using hx⟩ (stable_is _) (fun ρ wc hbc hcn hk => ?_) ?_; rotate_left
    · obtain ⟨hcn, hfn⟩ := hcn
      simp at hk
      refine ⟨_, by go_simp; rfl, ?_⟩
      refine (NValid_any x A1 c1 B1 e1 wc (HT.out.on (bel_on (bel_drew HB.out) hbc)) (HX.out.on (bel_on (bel_drew HB.out) hbc) (Nat.le_refl _)) HSX.out).mono ?_
      rintro e w' ⟨rfl, hbq⟩
      refine ⟨_, rfl, ?_, hbq⟩
      unfold Is
      rfl
    refine chain_val (u := ?_) [22, 24] rfl (by kernel_rfl) ⟨20, by decide +kernel, rfl, fun w x hx => by simpa using hx⟩ (fun ρ wc hbc hcn hk => ?_) ?_; rotate_left
    · obtain ⟨hcn, -⟩ := hcn
      simp at hk
      go_simp
      rfl
    refine chain_val (u := ?_) [20, 25] rfl (by kernel_rfl) trivial (fun ρ wc hbc hcn hk => ?_) ?_; rotate_left
    · obtain ⟨hcn, -⟩ := hcn
      simp at hk
      go_simp
      rfl
    refine chain_val (u := ?_) [26] rfl (by kernel_rfl) trivial (fun ρ wc hbc hcn hk => ?_) ?_; rotate_left
    · obtain ⟨hcn, -⟩ := hcn
      simp at hk
      go_simp
      rfl
    refine chain_val (u := ?_) [1] rfl (by kernel_rfl) ⟨27, by decide +kernel, rfl, fun w x hx => by simpa using hx⟩ (fun ρ wc hbc hcn hk => ?_) ?_; rotate_left
    · obtain ⟨hcn, -⟩ := hcn
      simp at hk
      obtain ⟨x2, y2, z2⟩ := H2.out.drew.below hbc
      obtain ⟨x3, y3, z3⟩ := H3.out.drew.below hbc
      go_simp
      rfl
    refine chain_val (u := ?_) [3] rfl (by kernel_rfl) ⟨27, by decide +kernel, rfl, fun w x hx => by simpa using hx⟩ (fun ρ wc hbc hcn hk => ?_) ?_; rotate_left
    · obtain ⟨hcn, -⟩ := hcn
      simp at hk
      obtain ⟨x2, y2, z2⟩ := H2.out.drew.below hbc
      obtain ⟨x3, y3, z3⟩ := H3.out.drew.below hbc
      go_simp
      rfl
    refine chain_call (T := Is ?_) 12 [28, 29] rfl (by kernel_rfl) ⟨27, by decide +kernel, rfl, fun w x hx => by simpa using hx⟩ (stable_is _) (fun ρ wc hbc hcn hk => ?_) ?_; rotate_left
    · obtain ⟨hcn, hfn⟩ := hcn
      simp at hk
      refine ⟨_, by go_simp; rfl, ?_⟩
      refine (NEqual_c x x A1 c1 B1 e1 A5 c5 B5 e5 true wc (HT.out.on (bel_on (bel_drew HB.out) hbc)) (HX.out.on (bel_on (bel_drew HB.out) hbc) (Nat.le_refl _)) (HO.out.on (w' := wc) (N := w3.heap.size) ⟨hbc.os, hbc.tape, hbc.output, hbc.size, hbc.block⟩ (Nat.le_refl _)) HSX.out HSX.out (eqN_yes rfl)).mono ?_
      rintro e w' ⟨rfl, hbq⟩
      refine ⟨_, rfl, ?_, hbq⟩
      unfold Is
      rfl
    refine chain_val (u := ?_) [30] rfl (by kernel_rfl) ⟨27, by decide +kernel, rfl, fun w x hx => by simpa using hx⟩ (fun ρ wc hbc hcn hk => ?_) ?_; rotate_left
    · obtain ⟨hcn, -⟩ := hcn
      simp at hk
      go_simp
      rfl
    refine chain_val (u := ?_) [27, 31] rfl (by kernel_rfl) trivial (fun ρ wc hbc hcn hk => ?_) ?_; rotate_left
    · obtain ⟨hcn, -⟩ := hcn
      simp at hk
      go_simp
      rfl
    refine chain_end_lit 71 rfl (fun ff w7 hb7 hk => ?_)
    refine hKK _ _ ?_
    simp [AllN] at hk
    simp only [frameL, hk]
    have hb7' : Below w3.heap.size w3 w7 := ⟨hb7.os, hb7.tape, hb7.output, hb7.size, hb7.block⟩
    clear hb7 hk
    have H2n := Lib.hid (H2.out.below hb7')
    have HBn := Lib.hid (bel_on HB.out hb7')
    have H3n := Lib.hid (H3.out.below hb7')
    have HOn := Lib.hid (HO.out.on hb7' (Nat.le_refl _))
    clear hb7' H2 HB H3 HO
    have H2 := H2n
    have HB := HBn
    have H3 := H3n
    have HO := HOn
    clear H3n HOn
    clear H2n HBn
    obtain ⟨x2, y2, z2⟩ := H2.out
    obtain ⟨x3, y3, z3⟩ := H3.out
    go_wp2_with fail
    refine (RefValid_node x A1 c1 B1 e1 _ (HX.out.on HB.out (Nat.le_refl _)) HSX.out).mono ?_
    rintro r w8 ⟨rfl, hb8⟩
    clear x2 y2 z2 x3 y3 z3
    have H2n := Lib.hid (H2.out.below hb8)
    have HBn := Lib.hid (bel_on HB.out hb8)
    have H3n := Lib.hid (H3.out.below hb8)
    have HOn := Lib.hid (HO.out.on hb8 (Nat.le_refl _))
    clear hb8 H2 HB H3 HO
    have H2 := H2n
    have HB := HBn
    have H3 := H3n
    have HO := HOn
    clear H3n HOn
    clear H2n HBn
    obtain ⟨x2, y2, z2⟩ := H2.out
    obtain ⟨x3, y3, z3⟩ := H3.out
    cases hv : validN x with
    | false =>
      clear hv
      go_wp2
      go_ret
      exact ⟨rfl, HB.out⟩
    | true =>
      have HV := Lib.hid hv
      have HDO := Lib.hid (depth_le_objs x)
      have HZ := Lib.hid (objs_zero x)
      have HOS := Lib.hid (objs_size x)
      clear hv
      have hd0 : depthN x ≤ 1048576 := by have h1 := HDO.out; have h2 := HOS.out; omega
      have ho0 : objsN x ≤ 1048576 := by have h2 := HOS.out; omega
      have hdo : decide ((depthN x : Int) ≤ (objsN x : Int)) = true := decide_eq_true (by have h1 := HDO.out; omega)
      have hzz : (((objsN x : Int) == 0) == ((depthN x : Int) == 0)) = true := by
        have := HZ.out
        by_cases h : depthN x = 0
        · simp [h, this.2 h]
        · have h2 : ¬ objsN x = 0 := fun e => h (this.1 e)
          have e1 : ((objsN x : Int) == 0) = false := beq_eq_false_iff_ne.2 (by omega)
          have e2 : ((depthN x : Int) == 0) = false := beq_eq_false_iff_ne.2 (by omega)
          rw [e1, e2]; rfl
      go_wp2_with fail
      refine (NDepth_any x A5 c5 B5 e5 _ (HT.out.on HB.out) HO.out HSX.out HV.out).mono ?_
      rintro r w9 ⟨rfl, hb9⟩
      clear x2 y2 z2 x3 y3 z3
      have H2n := Lib.hid (H2.out.below hb9)
      have HBn := Lib.hid (bel_on HB.out hb9)
      have H3n := Lib.hid (H3.out.below hb9)
      have HOn := Lib.hid (HO.out.on hb9 (Nat.le_refl _))
      clear hb9 H2 HB H3 HO
      have H2 := H2n
      have HB := HBn
      have H3 := H3n
      have HO := HOn
      clear H3n HOn
      clear H2n HBn
      obtain ⟨x2, y2, z2⟩ := H2.out
      obtain ⟨x3, y3, z3⟩ := H3.out
      go_wp2_with fail
      refine (NObjects_any x A5 c5 B5 e5 _ (HT.out.on HB.out) HO.out HSX.out HV.out).mono ?_
      rintro r w10 ⟨rfl, hb9⟩
      clear x2 y2 z2 x3 y3 z3
      have H2n := Lib.hid (H2.out.below hb9)
      have HBn := Lib.hid (bel_on HB.out hb9)
      have H3n := Lib.hid (H3.out.below hb9)
      have HOn := Lib.hid (HO.out.on hb9 (Nat.le_refl _))
      clear hb9 H2 HB H3 HO
      have H2 := H2n
      have HB := HBn
      have H3 := H3n
      have HO := HOn
      clear H3n HOn
      clear H2n HBn
      obtain ⟨x2, y2, z2⟩ := H2.out
      obtain ⟨x3, y3, z3⟩ := H3.out
      go_wp2_with fail
      refine (RefEqual_c x x A5 c5 B5 e5 A1 c1 B1 e1 true _ HO.out (HX.out.on HB.out (Nat.le_refl _)) (eqN_yes rfl)).mono ?_
      rintro r w11 ⟨rfl, hb9⟩
      clear x2 y2 z2 x3 y3 z3
      have H2n := Lib.hid (H2.out.below hb9)
      have HBn := Lib.hid (bel_on HB.out hb9)
      have H3n := Lib.hid (H3.out.below hb9)
      have HOn := Lib.hid (HO.out.on hb9 (Nat.le_refl _))
      clear hb9 H2 HB H3 HO
      have H2 := H2n
      have HB := HBn
      have H3 := H3n
      have HO := HOn
      clear H3n HOn
      clear H2n HBn
      obtain ⟨x2, y2, z2⟩ := H2.out
      obtain ⟨x3, y3, z3⟩ := H3.out
      go_wp2_with fail
      refine (NDepth_any x A1 c1 B1 e1 _ (HT.out.on HB.out) (HX.out.on HB.out (Nat.le_refl _)) HSX.out HV.out).mono ?_
      rintro r w12 ⟨rfl, hb9⟩
      clear x2 y2 z2 x3 y3 z3
      have H2n := Lib.hid (H2.out.below hb9)
      have HBn := Lib.hid (bel_on HB.out hb9)
      have H3n := Lib.hid (H3.out.below hb9)
      have HOn := Lib.hid (HO.out.on hb9 (Nat.le_refl _))
      clear hb9 H2 HB H3 HO
      have H2 := H2n
      have HB := HBn
      have H3 := H3n
      have HO := HOn
      clear H3n HOn
      clear H2n HBn
      obtain ⟨x2, y2, z2⟩ := H2.out
      obtain ⟨x3, y3, z3⟩ := H3.out
      go_wp2_with fail
      refine (NObjects_any x A1 c1 B1 e1 _ (HT.out.on HB.out) (HX.out.on HB.out (Nat.le_refl _)) HSX.out HV.out).mono ?_
      rintro r w13 ⟨rfl, hb9⟩
      clear x2 y2 z2 x3 y3 z3
      have H2n := Lib.hid (H2.out.below hb9)
      have HBn := Lib.hid (bel_on HB.out hb9)
      have H3n := Lib.hid (H3.out.below hb9)
      have HOn := Lib.hid (HO.out.on hb9 (Nat.le_refl _))
      clear hb9 H2 HB H3 HO
      have H2 := H2n
      have HB := HBn
      have H3 := H3n
      have HO := HOn
      clear H3n HOn
      clear H2n HBn
      obtain ⟨x2, y2, z2⟩ := H2.out
      obtain ⟨x3, y3, z3⟩ := H3.out
      generalize depthN x = D at *
      generalize objsN x = O at *
      go_wp2
      go_ret
      exact ⟨congrArg (fun b => Ending.returned (.bool b)) (decide_eq_true HDO.out), HB.out⟩
end Go.Proofs.YtedofcagfopoeaaDoor
