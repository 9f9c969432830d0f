/- A law of layer 13: CanonsizeMatchesReference. -/
import Derived.Test.YtcmljjhnfpfcfaaDoorAwake13
namespace Go.Proofs.YtcmljjhnfpfcfaaDoor
open Go.ChangeShapes Go.WideShapes Go.ChangeAt Go.RowKit
set_option linter.unusedVariables false
set_option linter.unusedSimpArgs false
set_option maxRecDepth 100000
attribute [local simp] AllK KnowsV look Is

theorem right_parts {x : Nd} (h : rightN x = true) : fewN x = true ∧ validN x = true ∧ trimmedN x = true := by
  unfold rightN at h
  simp only [Bool.and_eq_true] at h
  exact h
attribute [local irreducible] validN fewN trimmedN canN canO rightN sizeN
set_option maxHeartbeats 4000000 in
set_option maxRecDepth 100000 in
theorem MR13_walk (x : Nd) (A1 : Option Addr) (c1 : Nat) (B1 : Option Addr) (e1 : Nat) (w : World) (hT : TabOK w) (hx : NdR w A1 c1 B1 e1 x) (hsx : sizeN x ≤ 1048576) :
    Calls Tryd.prog 3 #[.agg #[.int .i64 x.k, .int .i64 x.e, .int .i64 x.n, .slice A1 x.d.length c1, .slice B1 x.ks.length e1]] w fun e w' => e = .returned (.bool true) ∧ Below w.heap.size w w' := by
  have HT := Lib.hid hT
  have Hp := Lib.hid hx
  have HSX : Hid (sizeN x ≤ 1099511627776) := Lib.hid (by omega)
  clear hT hx
  go_enter Tryd.func3, Tryd.ntmps3
  go_wp2_with fail
  refine abs_world (F := fun W => NdR W A1 c1 B1 e1 x ∧ Blk W w.heap.size #[.int .i64 x.k, .int .i64 x.e, .int .i64 x.n, .slice A1 x.d.length c1, .slice B1 x.ks.length e1] ∧ Below w.heap.size w W) ⟨?_, ?_, ?_⟩ ?_
  · exact (NdR.on Hp.out ((Below.refl _ _).alloc (Nat.le_refl _) _) (Nat.le_refl _))
  · exact Blk.fresh _ _ _
  · exact ((Below.refl w.heap.size w).alloc (by first | exact Nat.le_refl _ | (simp; done) | (simp; omega)) _)
  clear Hp
  rintro W1 ⟨hp, hl, hb⟩
  have Hp := Lib.hid hp
  have Hl := Lib.hid hl
  have HB := Lib.hid hb
  clear hb hp hl
  refine (awake13_any _ (HT.out.on HB.out)).mono ?_
  rintro r w2 ⟨rfl, hb⟩
  have fp := Hp.out.on hb (Nat.le_refl _)
  have fl := Hl.out.below hb
  have HB0 := Lib.hid (bel_on HB.out hb)
  clear hb Hp Hl HB
  have HB := HB0
  clear HB0
  have Hp := Lib.hid fp
  clear fp
  have Hl := Lib.hid fl
  clear fl
  obtain ⟨xl, yl, zl⟩ := Hl.out
  go_wp2_with fail
  clear xl yl zl
  refine (RefRight13 x A1 c1 B1 e1 _ Hp.out HSX.out).mono ?_
  rintro r w3 ⟨rfl, hb⟩
  have fp := Hp.out.on hb (Nat.le_refl _)
  have fl := Hl.out.below hb
  have HB0 := Lib.hid (bel_on HB.out hb)
  clear hb Hp Hl HB
  have HB := HB0
  clear HB0
  have Hp := Lib.hid fp
  clear fp
  have Hl := Lib.hid fl
  clear fl
  cases hri : rightN x with
  | false =>
    clear hri
    go_wp2_with fail
    refine (awake13_any _ (HT.out.on HB.out)).mono ?_
    rintro r w4 ⟨rfl, hb⟩
    have fp := Hp.out.on hb (Nat.le_refl _)
    have fl := Hl.out.below hb
    have HB0 := Lib.hid (bel_on HB.out hb)
    clear hb Hp Hl HB
    have HB := HB0
    clear HB0
    have Hp := Lib.hid fp
    clear fp
    have Hl := Lib.hid fl
    clear fl
    go_wp2
    go_ret
    exact ⟨rfl, HB.out⟩
  | true =>
    obtain ⟨hfx, hvx, hmx⟩ := right_parts hri
    have HVX := Lib.hid hvx
    have HMX := Lib.hid hmx
    have hcb := can_size x hvx
    have hco := canO_size hvx
    have HCB : Hid (0 ≤ canN x ∧ canN x ≤ 1000000000000) := Lib.hid (by omega)
    clear hri hfx hvx hmx hcb hco
    obtain ⟨xl, yl, zl⟩ := Hl.out
    go_wp2_with fail
    clear xl yl zl
    rename_i KK hKK
    refine wp_region_chain (by kernel_rfl) (by kernel_rfl) ?_
    refine chain_val (u := ?_) [1] rfl (by kernel_rfl) trivial (fun ρ wc hbc hcn hk => ?_) ?_; rotate_left
    · obtain ⟨hcn, -⟩ := hcn
      simp at hk
      obtain ⟨xl, yl, zl⟩ := Hl.out.drew.below hbc
      go_simp
      rfl
    refine chain_call (T := Is ?_) 10 [11] rfl (by kernel_rfl) trivial (stable_is _) (fun ρ wc hbc hcn hk => ?_) ?_; rotate_left
    · obtain ⟨hcn, hfn⟩ := hcn
      simp at hk
      refine ⟨_, by go_simp; rfl, ?_⟩
      refine (CObject_any x A1 c1 B1 e1 wc (HT.out.on (bel_on (bel_drew HB.out) hbc)) (Hp.out.on (w' := wc) (N := w3.heap.size) ⟨hbc.os, hbc.tape, hbc.output, hbc.size, hbc.block⟩ (Nat.le_refl _)) HSX.out HVX.out HMX.out).mono ?_
      rintro e w' ⟨rfl, hbq⟩
      refine ⟨_, rfl, ?_, hbq⟩
      unfold Is
      rfl
    refine chain_val (u := ?_) [1] rfl (by kernel_rfl) trivial (fun ρ wc hbc hcn hk => ?_) ?_; rotate_left
    · obtain ⟨hcn, -⟩ := hcn
      simp at hk
      obtain ⟨xl, yl, zl⟩ := Hl.out.drew.below hbc
      go_simp
      rfl
    refine chain_call (T := Is ?_) 11 [13] rfl (by kernel_rfl) trivial (stable_is _) (fun ρ wc hbc hcn hk => ?_) ?_; rotate_left
    · obtain ⟨hcn, hfn⟩ := hcn
      simp at hk
      refine ⟨_, by go_simp; rfl, ?_⟩
      refine (RefObject13 x A1 c1 B1 e1 wc (Hp.out.on (w' := wc) (N := w3.heap.size) ⟨hbc.os, hbc.tape, hbc.output, hbc.size, hbc.block⟩ (Nat.le_refl _)) HSX.out HVX.out).mono ?_
      rintro e w' ⟨rfl, hbq⟩
      refine ⟨_, rfl, ?_, hbq⟩
      unfold Is
      rfl
    refine chain_val (u := ?_) [12, 14] rfl (by kernel_rfl) trivial (fun ρ wc hbc hcn hk => ?_) ?_; rotate_left
    · obtain ⟨hcn, -⟩ := hcn
      simp at hk
      go_simp
      rfl
    refine chain_val (u := ?_) [15] rfl (by kernel_rfl) trivial (fun ρ wc hbc hcn hk => ?_) ?_; rotate_left
    · obtain ⟨hcn, -⟩ := hcn
      simp at hk
      go_simp
      rfl
    refine chain_val (u := ?_) [1] rfl (by kernel_rfl) ⟨16, by decide +kernel, rfl, fun w x hx => by simpa using hx⟩ (fun ρ wc hbc hcn hk => ?_) ?_; rotate_left
    · obtain ⟨hcn, -⟩ := hcn
      simp at hk
      obtain ⟨xl, yl, zl⟩ := Hl.out.drew.below hbc
      go_simp
      rfl
    refine chain_call (T := Is ?_) 12 [17] rfl (by kernel_rfl) ⟨16, by decide +kernel, rfl, fun w x hx => by simpa using hx⟩ (stable_is _) (fun ρ wc hbc hcn hk => ?_) ?_; rotate_left
    · obtain ⟨hcn, hfn⟩ := hcn
      simp at hk
      refine ⟨_, by go_simp; rfl, ?_⟩
      refine (CNode_any x A1 c1 B1 e1 wc (HT.out.on (bel_on (bel_drew HB.out) hbc)) (Hp.out.on (w' := wc) (N := w3.heap.size) ⟨hbc.os, hbc.tape, hbc.output, hbc.size, hbc.block⟩ (Nat.le_refl _)) HSX.out HVX.out HMX.out).mono ?_
      rintro e w' ⟨rfl, hbq⟩
      refine ⟨_, rfl, ?_, hbq⟩
      unfold Is
      rfl
    refine chain_val (u := ?_) [1] rfl (by kernel_rfl) ⟨16, by decide +kernel, rfl, fun w x hx => by simpa using hx⟩ (fun ρ wc hbc hcn hk => ?_) ?_; rotate_left
    · obtain ⟨hcn, -⟩ := hcn
      simp at hk
      obtain ⟨xl, yl, zl⟩ := Hl.out.drew.below hbc
      go_simp
      rfl
    refine chain_call (T := Is ?_) 13 [19] rfl (by kernel_rfl) ⟨16, by decide +kernel, rfl, fun w x hx => by simpa using hx⟩ (stable_is _) (fun ρ wc hbc hcn hk => ?_) ?_; rotate_left
    · obtain ⟨hcn, hfn⟩ := hcn
      simp at hk
      refine ⟨_, by go_simp; rfl, ?_⟩
      refine (RefNode13 x A1 c1 B1 e1 wc (Hp.out.on (w' := wc) (N := w3.heap.size) ⟨hbc.os, hbc.tape, hbc.output, hbc.size, hbc.block⟩ (Nat.le_refl _)) HSX.out HVX.out).mono ?_
      rintro e w' ⟨rfl, hbq⟩
      refine ⟨_, rfl, ?_, hbq⟩
      unfold Is
      rfl
    refine chain_val (u := ?_) [18, 20] rfl (by kernel_rfl) ⟨16, by decide +kernel, rfl, fun w x hx => by simpa using hx⟩ (fun ρ wc hbc hcn hk => ?_) ?_; rotate_left
    · obtain ⟨hcn, -⟩ := hcn
      simp at hk
      go_simp
      rfl
    refine chain_val (u := ?_) [16, 21] rfl (by kernel_rfl) trivial (fun ρ wc hbc hcn hk => ?_) ?_; rotate_left
    · obtain ⟨hcn, -⟩ := hcn
      simp at hk
      go_simp
      rfl
    refine chain_val (u := ?_) [22] rfl (by kernel_rfl) trivial (fun ρ wc hbc hcn hk => ?_) ?_; rotate_left
    · obtain ⟨hcn, -⟩ := hcn
      simp at hk
      go_simp
      rfl
    refine chain_val (u := ?_) [1] rfl (by kernel_rfl) ⟨23, by decide +kernel, rfl, fun w x hx => by simpa using hx⟩ (fun ρ wc hbc hcn hk => ?_) ?_; rotate_left
    · obtain ⟨hcn, -⟩ := hcn
      simp at hk
      obtain ⟨xl, yl, zl⟩ := Hl.out.drew.below hbc
      go_simp
      rfl
    refine chain_call (T := Is ?_) 14 [24] rfl (by kernel_rfl) ⟨23, by decide +kernel, rfl, fun w x hx => by simpa using hx⟩ (stable_is _) (fun ρ wc hbc hcn hk => ?_) ?_; rotate_left
    · obtain ⟨hcn, hfn⟩ := hcn
      simp at hk
      refine ⟨_, by go_simp; rfl, ?_⟩
      refine (CTotal_any x A1 c1 B1 e1 wc (HT.out.on (bel_on (bel_drew HB.out) hbc)) (Hp.out.on (w' := wc) (N := w3.heap.size) ⟨hbc.os, hbc.tape, hbc.output, hbc.size, hbc.block⟩ (Nat.le_refl _)) HSX.out HVX.out HMX.out).mono ?_
      rintro e w' ⟨rfl, hbq⟩
      refine ⟨_, rfl, ?_, hbq⟩
      unfold Is
      rfl
    refine chain_val (u := ?_) [1] rfl (by kernel_rfl) ⟨23, by decide +kernel, rfl, fun w x hx => by simpa using hx⟩ (fun ρ wc hbc hcn hk => ?_) ?_; rotate_left
    · obtain ⟨hcn, -⟩ := hcn
      simp at hk
      obtain ⟨xl, yl, zl⟩ := Hl.out.drew.below hbc
      go_simp
      rfl
    refine chain_call (T := Is ?_) 13 [26] rfl (by kernel_rfl) ⟨23, by decide +kernel, rfl, fun w x hx => by simpa using hx⟩ (stable_is _) (fun ρ wc hbc hcn hk => ?_) ?_; rotate_left
    · obtain ⟨hcn, hfn⟩ := hcn
      simp at hk
      refine ⟨_, by go_simp; rfl, ?_⟩
      refine (RefNode13 x A1 c1 B1 e1 wc (Hp.out.on (w' := wc) (N := w3.heap.size) ⟨hbc.os, hbc.tape, hbc.output, hbc.size, hbc.block⟩ (Nat.le_refl _)) HSX.out HVX.out).mono ?_
      rintro e w' ⟨rfl, hbq⟩
      refine ⟨_, rfl, ?_, hbq⟩
      unfold Is
      rfl
    refine chain_val (u := .int .i64 (canN x + 1)) [27] rfl (by kernel_rfl) ⟨23, by decide +kernel, rfl, fun w x hx => by simpa using hx⟩ (fun ρ wc hbc hcn hk => ?_) ?_
    · obtain ⟨hcn, -⟩ := hcn
      simp at hk
      have h := HCB.out
      go_simp
      rw [IntKind.wrap_i64]
      omega
    refine chain_val (u := ?_) [25, 28] rfl (by kernel_rfl) ⟨23, by decide +kernel, rfl, fun w x hx => by simpa using hx⟩ (fun ρ wc hbc hcn hk => ?_) ?_; rotate_left
    · obtain ⟨hcn, -⟩ := hcn
      simp at hk
      go_simp
      rfl
    refine chain_val (u := ?_) [23, 29] rfl (by kernel_rfl) trivial (fun ρ wc hbc hcn hk => ?_) ?_; rotate_left
    · obtain ⟨hcn, -⟩ := hcn
      simp at hk
      go_simp
      rfl
    refine chain_val (u := ?_) [30] rfl (by kernel_rfl) trivial (fun ρ wc hbc hcn hk => ?_) ?_; rotate_left
    · obtain ⟨hcn, -⟩ := hcn
      simp at hk
      go_simp
      rfl
    refine chain_end_lit 31 rfl (fun ff w7 hb7 hk => ?_)
    refine hKK _ _ ?_
    simp [AllN] at hk
    simp only [frameL, hk, Nat.zero_add, Nat.reduceAdd]
    have hb7' : Below w3.heap.size w3 w7 := ⟨hb7.os, hb7.tape, hb7.output, hb7.size, hb7.block⟩
    have HB7 := Lib.hid (bel_on HB.out hb7')
    clear hb7 hk hb7'
    go_wp2
    go_ret
    exact ⟨rfl, HB7.out⟩
end Go.Proofs.YtcmljjhnfpfcfaaDoor
