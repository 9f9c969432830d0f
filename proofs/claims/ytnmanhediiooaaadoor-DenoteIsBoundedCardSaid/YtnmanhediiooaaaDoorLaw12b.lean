/- A law of layer 12: DenoteIsBounded. -/
import Derived.Test.YtnmanhediiooaaaDoorLaw12
import Derived.Test.YtnmanhediiooaaaDoorMg5
namespace Go.Proofs.YtnmanhediiooaaaDoor
open Go.ChangeShapes Go.WideShapes Go.ChangeAt Go.RowKit
set_option linter.unusedVariables false
set_option linter.unusedSimpArgs false
set_option maxRecDepth 100000
attribute [local simp] AllK KnowsV look Is
theorem RefValid_c (x : Nd) (A : Option Addr) (c : Nat) (B : Option Addr) (c2 : Nat) (v : Bool) (w : World) (hx : NdR w A c B c2 x) (hs : sizeN x ≤ 1099511627776) (hv : validN x = v) :
    Calls Tryd.prog 12 #[.agg #[.int .i64 x.k, .int .i64 x.e, .int .i64 x.n, .slice A x.d.length c, .slice B x.ks.length c2]] w fun r w' => r = .returned (.bool v) ∧ Below w.heap.size w w' := hv ▸ RefValid_node x A c B c2 w hx hs
theorem RefTrimmed_c (x : Nd) (A : Option Addr) (c : Nat) (B : Option Addr) (c2 : Nat) (v : Bool) (w : World) (hx : NdR w A c B c2 x) (hs : sizeN x ≤ 1099511627776) (hv : trimmedN x = v) :
    Calls Tryd.prog 13 #[.agg #[.int .i64 x.k, .int .i64 x.e, .int .i64 x.n, .slice A x.d.length c, .slice B x.ks.length c2]] w fun r w' => r = .returned (.bool v) ∧ Below w.heap.size w w' := hv ▸ RefTrimmed11_node x A c B c2 w hx hs
theorem RefDepth_c (x : Nd) (A : Option Addr) (c : Nat) (B : Option Addr) (c2 : Nat) (D : Nat) (w : World) (hx : NdR w A c B c2 x) (hs : sizeN x ≤ 1099511627776) (hv : depthN x = D) :
    Calls Tryd.prog 14 #[.agg #[.int .i64 x.k, .int .i64 x.e, .int .i64 x.n, .slice A x.d.length c, .slice B x.ks.length c2]] w fun r w' => r = .returned (.int .i64 D) ∧ Below w.heap.size w w' := hv ▸ RefDepth_node x A c B c2 w hx hs
attribute [local irreducible] msgV measV smallB fewB validN trimmedN depthN sizeN
set_option maxHeartbeats 4000000 in
set_option maxRecDepth 100000 in
theorem Bnd12_walk (A : Option Addr) (c : Nat) (ls : List (List Int)) (D X O : Int) (w : World) (hT : TabOK w) (hA : Sg w A ls) (hw : Wd2 ls) (hnil : A = none → c = 0) (hlm : ls.length ≤ 9223372036854775807) (hlc : ls.length ≤ c) (hcm : c ≤ 9223372036854775807)
    (d0 : -9223372036854775808 ≤ D) (d1 : D ≤ 9223372036854775807) (x0 : -9223372036854775808 ≤ X) (x1 : X ≤ 9223372036854775807) :
    Calls Tryd.prog 3 #[.slice A ls.length c, .agg #[.int .i64 D, .int .i64 X, .int .i64 O]] w fun e w' => e = .returned (.bool true) ∧ Below w.heap.size w w' := by
  have HT := Lib.hid hT
  have Hm := Lib.hid hA
  have HW := Lib.hid hw
  clear hT hA hw hnil
  go_enter Tryd.func3, Tryd.ntmps3
  go_wp2_with fail
  refine abs_world (F := fun W => Sg W A ls ∧ Blk W w.heap.size #[.int .i64 D, .int .i64 X, .int .i64 O] ∧ Below w.heap.size w W) ⟨?_, ?_, ?_⟩ ?_
  · exact (Hm.out.alloc _)
  · exact Blk.fresh _ _ _
  · exact ((Below.refl w.heap.size w).alloc (by first | exact Nat.le_refl _ | (simp; done) | (simp; omega)) _)
  clear Hm
  rintro W1 ⟨hm, hl, hb⟩
  have Hm := Lib.hid hm
  have Hl := Lib.hid hl
  have HB := Lib.hid hb
  clear hb hm hl
  refine (awake12_any _ (HT.out.on HB.out)).mono ?_
  rintro r w2 ⟨rfl, hb⟩
  have fm := Hm.out.below hb (Nat.le_refl _)
  have fl := Hl.out.below hb
  have HB0 := Lib.hid (bel_on HB.out hb)
  clear hb Hm Hl HB
  have HB := HB0
  clear HB0
  have Hm := Lib.hid fm
  clear fm
  have Hl := Lib.hid fl
  clear fl
  obtain ⟨xl, yl, zl⟩ := Hl.out
  go_wp2_with fail
  clear xl yl zl
  refine (RefSmall_any A c ls D X O _ Hm.out hlm).mono ?_
  rintro r w3 ⟨rfl, hb⟩
  have fm := Hm.out.below hb (Nat.le_refl _)
  have fl := Hl.out.below hb
  have HB0 := Lib.hid (bel_on HB.out hb)
  clear hb Hm Hl HB
  have HB := HB0
  clear HB0
  have Hm := Lib.hid fm
  clear fm
  have Hl := Lib.hid fl
  clear fl
  cases hsm : smallB ls D X with
  | false =>
    clear hsm
    go_wp2_with fail
    refine (awake12_any _ (HT.out.on HB.out)).mono ?_
    rintro r w4 ⟨rfl, hb⟩
    have fm := Hm.out.below hb (Nat.le_refl _)
    have fl := Hl.out.below hb
    have HB0 := Lib.hid (bel_on HB.out hb)
    clear hb Hm Hl HB
    have HB := HB0
    clear HB0
    have Hm := Lib.hid fm
    clear fm
    have Hl := Lib.hid fl
    clear fl
    go_wp2
    go_ret
    exact ⟨rfl, HB.out⟩
  | true =>
    obtain ⟨hD, hX, hl20, hf⟩ := small_fits hsm
    have HF : Hid (∀ j, (seg ls j).length ≤ 20000000) := Lib.hid (fun j => by have := hf j; omega)
    have hm' : ls.length ≤ 40 := by omega
    clear hsm hf
    obtain ⟨⟨x, e⟩, hq⟩ : ∃ q, msgV ls D X = q := ⟨_, rfl⟩
    obtain ⟨⟨y, f⟩, hr⟩ : ∃ q, measV ls D X = q := ⟨_, rfl⟩
    have hfe := msg_same ls D X
    rw [hq, hr] at hfe
    simp only at hfe
    subst hfe
    have HQ := Lib.hid hq
    have HR := Lib.hid hr
    clear hq hr
    obtain ⟨xl, yl, zl⟩ := Hl.out
    go_wp2_with fail
    clear xl yl zl
    refine (DMessage_is A c _ ls D X O x e _ (HT.out.on HB.out) rfl Hm.out HW.out hm' HF.out (by omega) (by omega) HQ.out).mono ?_
    rintro r w4 ⟨v, rfl, ⟨A1, c1, E1, e1, hi1, rfl, -, hno⟩, hb⟩
    have fm := Hm.out.below hb (Nat.le_refl _)
    have fl := Hl.out.below hb
    have HB0 := Lib.hid (bel_on HB.out hb)
    clear hb Hm Hl HB
    have HB := HB0
    clear HB0
    have Hm := Lib.hid fm
    clear fm
    have Hl := Lib.hid fl
    clear fl
    have hn := hno.nd
    clear hno
    have Hp := Lib.hid hn
    clear hn
    obtain ⟨xl, yl, zl⟩ := (Hl.out.alloc (.cells #[.int .i64 x.k, .int .i64 x.e, .int .i64 x.n, .slice A1 x.d.length c1, .slice E1 x.ks.length e1] 30))
    go_wp2_with fail
    refine abs_world (F := fun W => Sg W A ls ∧ Blk W w.heap.size #[.int .i64 D, .int .i64 X, .int .i64 O] ∧ NdR W A1 c1 E1 e1 x ∧ Blk W w4.heap.size #[.int .i64 x.k, .int .i64 x.e, .int .i64 x.n, .slice A1 x.d.length c1, .slice E1 x.ks.length e1] ∧ Below w.heap.size w W) ⟨?_, ?_, ?_, ?_, ?_⟩ ?_
    · exact (Hm.out.alloc _)
    · exact (Hl.out.alloc _)
    · exact (NdR.on Hp.out ((Below.refl _ _).alloc (Nat.le_refl _) _) (Nat.le_refl _))
    · exact Blk.fresh _ _ _
    · exact (HB.out.alloc (by first | exact Nat.le_refl _ | (have := HB.out.size; simp; omega) | (have := HB.out.size; omega) | (simp; done) | (simp; omega)) _)
    clear Hm Hl Hp HB xl yl zl
    rintro W5 ⟨hm, hl, hp, ha, hb⟩
    have Hm := Lib.hid hm
    have Hl := Lib.hid hl
    have Hp := Lib.hid hp
    have Ha := Lib.hid ha
    have HB := Lib.hid hb
    clear hb hm hl hp ha
    refine (DMeasure_is A c _ ls D X O y e _ (HT.out.on HB.out) rfl Hm.out HW.out hm' HF.out (by omega) (by omega) HR.out).mono ?_
    rintro r w6 ⟨rfl, hb⟩
    have fm := Hm.out.below hb (Nat.le_refl _)
    have fl := Hl.out.below hb
    have fp := Hp.out.on hb (Nat.le_refl _)
    have fa := Ha.out.below hb
    have HB0 := Lib.hid (bel_on HB.out hb)
    clear hb Hm Hl Hp Ha HB
    have HB := HB0
    clear HB0
    have Hm := Lib.hid fm
    clear fm
    have Hl := Lib.hid fl
    clear fl
    have Hp := Lib.hid fp
    clear fp
    have Ha := Lib.hid fa
    clear fa
    clear Hm
    have hva := msg_valid HW.out hm' HF.out D X
    have hsz := msg_size HW.out hm' HF.out D X
    have hbd := meas_bd HW.out hm' HF.out D X
    have her := msg_e HW.out hm' HF.out D X
    have hze := msg_err ls D X
    rw [HQ.out] at hva hsz her hze
    rw [HR.out] at hbd hze
    simp only at hva hsz her hze hbd
    have hsx : startI X = max X 0 := by unfold startI; split <;> omega
    rw [hsx] at hsz hbd
    have tt : (e != e) = false := by simp
    by_cases he : e = 0
    · skip
      obtain ⟨dx, hdx⟩ : ∃ d, depthN x = d := ⟨_, rfl⟩
      have HVX := Lib.hid hva.1
      have HTX := Lib.hid hva.2.1
      have HDX := Lib.hid hdx
      have HSX : Hid (sizeN x ≤ 1099511627776) := Lib.hid (by omega)
      have HDL : Hid ((dx : Int) ≤ max D 0) := Lib.hid (by rw [← hdx]; have := hva.2.2; omega)
      have hy0 : 0 ≤ y := hbd.1
      have hy1 : y ≤ max X 0 := hbd.2
      have t0 : (e != 0) = false := by rw [he]; rfl
      clear he hva hsz hbd her hze hsx hdx
      obtain ⟨xl, yl, zl⟩ := Hl.out
      obtain ⟨xa, ya, za⟩ := Ha.out
      go_wp2_with fail
      clear xl yl zl xa ya za
      rename_i KK hKK
      refine wp_region_chain (by kernel_rfl) (by kernel_rfl) ?_
      refine chain_val (u := ?_) [5] rfl (by kernel_rfl) trivial (fun ρ wc hbc hcn hk => ?_) ?_; rotate_left
      · obtain ⟨hcn, -⟩ := hcn
        simp at hk
        obtain ⟨xl, yl, zl⟩ := Hl.out.drew.below hbc
        obtain ⟨xa, ya, za⟩ := Ha.out.drew.below hbc
        go_simp
        rfl
      refine chain_call (T := Is ?_) 12 [50] rfl (by kernel_rfl) trivial (stable_is _) (fun ρ wc hbc hcn hk => ?_) ?_; rotate_left
      · obtain ⟨hcn, hfn⟩ := hcn
        simp at hk
        refine ⟨_, by go_simp; rfl, ?_⟩
        refine (RefValid_c x A1 c1 E1 e1 true wc (Hp.out.on (w' := wc) (N := w6.heap.size) ⟨hbc.os, hbc.tape, hbc.output, hbc.size, hbc.block⟩ (Nat.le_refl _)) HSX.out HVX.out).mono ?_
        rintro e w' ⟨rfl, hbq⟩
        refine ⟨_, rfl, ?_, hbq⟩
        unfold Is
        rfl
      refine chain_val (u := ?_) [51] rfl (by kernel_rfl) trivial (fun ρ wc hbc hcn hk => ?_) ?_; rotate_left
      · obtain ⟨hcn, -⟩ := hcn
        simp at hk
        go_simp
        rfl
      refine chain_val (u := ?_) [5] rfl (by kernel_rfl) ⟨52, by decide +kernel, rfl, fun w x hx => by simpa using hx⟩ (fun ρ wc hbc hcn hk => ?_) ?_; rotate_left
      · obtain ⟨hcn, -⟩ := hcn
        simp at hk
        obtain ⟨xl, yl, zl⟩ := Hl.out.drew.below hbc
        obtain ⟨xa, ya, za⟩ := Ha.out.drew.below hbc
        go_simp
        rfl
      refine chain_call (T := Is ?_) 13 [53] rfl (by kernel_rfl) ⟨52, by decide +kernel, rfl, fun w x hx => by simpa using hx⟩ (stable_is _) (fun ρ wc hbc hcn hk => ?_) ?_; rotate_left
      · obtain ⟨hcn, hfn⟩ := hcn
        simp at hk
        refine ⟨_, by go_simp; rfl, ?_⟩
        refine (RefTrimmed_c x A1 c1 E1 e1 true wc (Hp.out.on (w' := wc) (N := w6.heap.size) ⟨hbc.os, hbc.tape, hbc.output, hbc.size, hbc.block⟩ (Nat.le_refl _)) HSX.out HTX.out).mono ?_
        rintro e w' ⟨rfl, hbq⟩
        refine ⟨_, rfl, ?_, hbq⟩
        unfold Is
        rfl
      refine chain_val (u := ?_) [52, 54] rfl (by kernel_rfl) trivial (fun ρ wc hbc hcn hk => ?_) ?_; rotate_left
      · obtain ⟨hcn, -⟩ := hcn
        simp at hk
        go_simp
        rfl
      refine chain_val (u := ?_) [55] rfl (by kernel_rfl) trivial (fun ρ wc hbc hcn hk => ?_) ?_; rotate_left
      · obtain ⟨hcn, -⟩ := hcn
        simp at hk
        go_simp
        rfl
      refine chain_val (u := ?_) [5] rfl (by kernel_rfl) ⟨56, by decide +kernel, rfl, fun w x hx => by simpa using hx⟩ (fun ρ wc hbc hcn hk => ?_) ?_; rotate_left
      · obtain ⟨hcn, -⟩ := hcn
        simp at hk
        obtain ⟨xl, yl, zl⟩ := Hl.out.drew.below hbc
        obtain ⟨xa, ya, za⟩ := Ha.out.drew.below hbc
        go_simp
        rfl
      refine chain_call (T := Is ?_) 14 [57] rfl (by kernel_rfl) ⟨56, by decide +kernel, rfl, fun w x hx => by simpa using hx⟩ (stable_is _) (fun ρ wc hbc hcn hk => ?_) ?_; rotate_left
      · obtain ⟨hcn, hfn⟩ := hcn
        simp at hk
        refine ⟨_, by go_simp; rfl, ?_⟩
        refine (RefDepth_c x A1 c1 E1 e1 dx wc (Hp.out.on (w' := wc) (N := w6.heap.size) ⟨hbc.os, hbc.tape, hbc.output, hbc.size, hbc.block⟩ (Nat.le_refl _)) HSX.out HDX.out).mono ?_
        rintro e w' ⟨rfl, hbq⟩
        refine ⟨_, rfl, ?_, hbq⟩
        unfold Is
        rfl
      refine chain_val (u := ?_) [3] rfl (by kernel_rfl) ⟨56, by decide +kernel, rfl, fun w x hx => by simpa using hx⟩ (fun ρ wc hbc hcn hk => ?_) ?_; rotate_left
      · obtain ⟨hcn, -⟩ := hcn
        simp at hk
        go_simp
        rfl
      refine chain_val (u := ?_) [59] rfl (by kernel_rfl) ⟨56, by decide +kernel, rfl, fun w x hx => by simpa using hx⟩ (fun ρ wc hbc hcn hk => ?_) ?_; rotate_left
      · obtain ⟨hcn, -⟩ := hcn
        simp at hk
        obtain ⟨xl, yl, zl⟩ := Hl.out.drew.below hbc
        obtain ⟨xa, ya, za⟩ := Ha.out.drew.below hbc
        go_simp
        rfl
      refine chain_val (u := .int .i64 (max D 0)) [60] rfl (by kernel_rfl) ⟨56, by decide +kernel, rfl, fun w x hx => by simpa using hx⟩ (fun ρ wc hbc hcn hk => ?_) ?_
      · obtain ⟨hcn, -⟩ := hcn
        simp at hk
        by_cases hneg : D < 0
        · rw [show max D 0 = 0 by omega]
          go_simp
        · rw [show max D 0 = D by omega]
          go_simp
      refine chain_val (u := .bool true) [58, 61] rfl (by kernel_rfl) ⟨56, by decide +kernel, rfl, fun w x hx => by simpa using hx⟩ (fun ρ wc hbc hcn hk => ?_) ?_
      · obtain ⟨hcn, -⟩ := hcn
        simp at hk
        have h := HDL.out
        go_simp
      refine chain_val (u := ?_) [56, 62] rfl (by kernel_rfl) trivial (fun ρ wc hbc hcn hk => ?_) ?_; rotate_left
      · obtain ⟨hcn, -⟩ := hcn
        simp at hk
        go_simp
        rfl
      refine chain_val (u := ?_) [63] rfl (by kernel_rfl) trivial (fun ρ wc hbc hcn hk => ?_) ?_; rotate_left
      · obtain ⟨hcn, -⟩ := hcn
        simp at hk
        go_simp
        rfl
      refine chain_val (u := ?_) [7] rfl (by kernel_rfl) ⟨64, by decide +kernel, rfl, fun w x hx => by simpa using hx⟩ (fun ρ wc hbc hcn hk => ?_) ?_; rotate_left
      · obtain ⟨hcn, -⟩ := hcn
        simp at hk
        go_simp
        rfl
      refine chain_val (u := .bool true) [65] rfl (by kernel_rfl) ⟨64, by decide +kernel, rfl, fun w x hx => by simpa using hx⟩ (fun ρ wc hbc hcn hk => ?_) ?_
      · obtain ⟨hcn, -⟩ := hcn
        simp at hk
        have h := hy0
        go_simp
      refine chain_val (u := ?_) [64, 66] rfl (by kernel_rfl) trivial (fun ρ wc hbc hcn hk => ?_) ?_; rotate_left
      · obtain ⟨hcn, -⟩ := hcn
        simp at hk
        go_simp
        rfl
      refine chain_val (u := ?_) [67] rfl (by kernel_rfl) trivial (fun ρ wc hbc hcn hk => ?_) ?_; rotate_left
      · obtain ⟨hcn, -⟩ := hcn
        simp at hk
        go_simp
        rfl
      refine chain_val (u := ?_) [7] rfl (by kernel_rfl) ⟨68, by decide +kernel, rfl, fun w x hx => by simpa using hx⟩ (fun ρ wc hbc hcn hk => ?_) ?_; rotate_left
      · obtain ⟨hcn, -⟩ := hcn
        simp at hk
        go_simp
        rfl
      refine chain_val (u := ?_) [3] rfl (by kernel_rfl) ⟨68, by decide +kernel, rfl, fun w x hx => by simpa using hx⟩ (fun ρ wc hbc hcn hk => ?_) ?_; rotate_left
      · obtain ⟨hcn, -⟩ := hcn
        simp at hk
        go_simp
        rfl
      refine chain_val (u := ?_) [70] rfl (by kernel_rfl) ⟨68, by decide +kernel, rfl, fun w x hx => by simpa using hx⟩ (fun ρ wc hbc hcn hk => ?_) ?_; rotate_left
      · obtain ⟨hcn, -⟩ := hcn
        simp at hk
        obtain ⟨xl, yl, zl⟩ := Hl.out.drew.below hbc
        obtain ⟨xa, ya, za⟩ := Ha.out.drew.below hbc
        go_simp
        rfl
      refine chain_val (u := .int .i64 (max X 0)) [71] rfl (by kernel_rfl) ⟨68, by decide +kernel, rfl, fun w x hx => by simpa using hx⟩ (fun ρ wc hbc hcn hk => ?_) ?_
      · obtain ⟨hcn, -⟩ := hcn
        simp at hk
        by_cases hneg : X < 0
        · rw [show max X 0 = 0 by omega]
          go_simp
        · rw [show max X 0 = X by omega]
          go_simp
      refine chain_val (u := .bool true) [69, 72] rfl (by kernel_rfl) ⟨68, by decide +kernel, rfl, fun w x hx => by simpa using hx⟩ (fun ρ wc hbc hcn hk => ?_) ?_
      · obtain ⟨hcn, -⟩ := hcn
        simp at hk
        have h := hy1
        go_simp
      refine chain_val (u := ?_) [68, 73] rfl (by kernel_rfl) trivial (fun ρ wc hbc hcn hk => ?_) ?_; rotate_left
      · obtain ⟨hcn, -⟩ := hcn
        simp at hk
        go_simp
        rfl
      refine chain_val (u := ?_) [74] rfl (by kernel_rfl) trivial (fun ρ wc hbc hcn hk => ?_) ?_; rotate_left
      · obtain ⟨hcn, -⟩ := hcn
        simp at hk
        go_simp
        rfl
      refine chain_end_lit 75 rfl (fun ff w7 hb7 hk => ?_)
      refine hKK _ _ ?_
      simp [AllN] at hk
      simp only [frameL, hk, Nat.zero_add, Nat.reduceAdd]
      have hb7' : Below w6.heap.size w6 w7 := ⟨hb7.os, hb7.tape, hb7.output, hb7.size, hb7.block⟩
      have HB7 := Lib.hid (bel_on HB.out hb7')
      clear hb7 hk hb7'
      go_wp2
      go_ret
      exact ⟨rfl, HB7.out⟩
    · skip
      obtain ⟨hx0, hy0⟩ := hze he
      have h28 : 2 ≤ e ∧ e ≤ 8 := by rcases her with h | h; exact absurd h he; exact h
      have t0 : (e != 0) = true := by simpa using he
      have HX0 := Lib.hid hx0
      have ty : (y == 0) = true := by rw [hy0]; rfl
      have t2 : decide (2 ≤ e) = true := decide_eq_true h28.1
      have t8 : decide (e ≤ 8) = true := decide_eq_true h28.2
      clear he hva hsz hbd her hze hsx hx0 hy0 h28
      obtain ⟨xa, ya, za⟩ := Ha.out
      go_wp2_with fail
      clear xa ya za
      refine (RefEqual_12 x nd0 A1 c1 E1 e1 none 0 none 0 true _ Hp.out (nd0_here _ 0 (by decide)) (by rw [HX0.out]; simp [eqN])).mono ?_
      rintro r w7 ⟨rfl, hb⟩
      have fl := Hl.out.below hb
      have fp := Hp.out.on hb (Nat.le_refl _)
      have fa := Ha.out.below hb
      have HB0 := Lib.hid (bel_on HB.out hb)
      clear hb Hl Hp Ha HB
      have HB := HB0
      clear HB0
      have Hl := Lib.hid fl
      clear fl
      have Hp := Lib.hid fp
      clear fp
      have Ha := Lib.hid fa
      clear fa
      go_wp2
      go_ret
      exact ⟨rfl, HB.out⟩
end Go.Proofs.YtnmanhediiooaaaDoor
