/- A law of layer 13: CanonsizeIsAtMostCost. -/
import Derived.Test.YtcmljjhnfpfcfaaDoorLaw13
import Derived.Test.YtcmljjhnfpfcfaaDoorMg1
import Derived.Test.YtcmljjhnfpfcfaaDoorMg2
import Derived.Test.YtcmljjhnfpfcfaaDoorMg3
import Derived.Test.YtcmljjhnfpfcfaaDoorMg4
import Derived.Test.YtcmljjhnfpfcfaaDoorMg5
import Derived.Test.YtcmljjhnfpfcfaaDoorMg6
import Derived.Test.YtcmljjhnfpfcfaaDoorMg7
import Derived.Test.YtcmljjhnfpfcfaaDoorMg8
import Derived.Test.YtcmljjhnfpfcfaaDoorMg9
import Derived.Test.YtcmljjhnfpfcfaaDoorMg10
import Derived.Test.YtcmljjhnfpfcfaaDoorMg11
import Derived.Test.YtcmljjhnfpfcfaaDoorMg13
import Derived.Test.YtcmljjhnfpfcfaaDoorMg14
import Derived.Test.YtcmljjhnfpfcfaaDoorMg17
import Derived.Test.YtcmljjhnfpfcfaaDoorMg18
import Derived.Test.YtcmljjhnfpfcfaaDoorMg19
import Derived.Test.YtcmljjhnfpfcfaaDoorMg20
import Derived.Test.YtcmljjhnfpfcfaaDoorMg21
import Derived.Test.YtcmljjhnfpfcfaaDoorMg22
import Derived.Test.YtcmljjhnfpfcfaaDoorMg23
import Derived.Test.YtcmljjhnfpfcfaaDoorMg24
import Derived.Test.YtcmljjhnfpfcfaaDoorMg25
import Derived.Test.YtcmljjhnfpfcfaaDoorMg26
import Derived.Test.YtcmljjhnfpfcfaaDoorMg27
import Derived.Test.YtcmljjhnfpfcfaaDoorMg28
import Derived.Test.YtcmljjhnfpfcfaaDoorMg29
import Derived.Test.YtcmljjhnfpfcfaaDoorMg30
import Derived.Test.YtcmljjhnfpfcfaaDoorMg31
namespace Go.Proofs.YtcmljjhnfpfcfaaDoor
open Go.ChangeShapes Go.WideShapes Go.ChangeAt Go.RowKit
set_option linter.unusedVariables false
set_option linter.unusedSimpArgs false
set_option maxRecDepth 100000
attribute [local simp] AllK KnowsV look Is

/-- are message and limits small? -/
def smallC (ls : List (List Int)) (D X : Int) : Bool := decide (D ≤ 40) && (decide (X ≤ 2000) && fewB ls)
theorem RefSmall_13 (A : Option Addr) (c : Nat) (ls : List (List Int)) (D X O : Int) (w : World) (hs : Sg w A ls) (hlm : ls.length ≤ 9223372036854775807) :
    Calls Tryd.prog 16 #[.slice A ls.length c, .agg #[.int .i64 D, .int .i64 X, .int .i64 O]] w fun e w' => e = .returned (.bool (smallC ls D X)) ∧ Below w.heap.size w w' := by
  have Hs := Lib.hid hs
  clear hs
  by_cases h1 : D ≤ 40
  · by_cases h2 : X ≤ 2000
    · have HR : Hid (smallC ls D X = fewB ls) := Lib.hid (by unfold smallC; simp [h1, h2])
      generalize smallC ls D X = v at *
      have HF := Lib.hid (fun w2 hs2 => Few_any A c ls w2 hs2 hlm)
      generalize fewB ls = fb at *
      have t1 : decide (D ≤ 40) = true := decide_eq_true h1
      have t2 : decide (X ≤ 2000) = true := decide_eq_true h2
      clear h1 h2
      go_enter Tryd.func16, Tryd.ntmps16
      go_wp2_with fail
      refine (HF.out _ (Hs.out.alloc _)).mono ?_
      rintro e w' ⟨rfl, rfl⟩
      go_wp2
      go_ret
      exact ⟨by rw [HR.out]; rfl, (Below.refl _ _).alloc (Nat.le_refl _) _⟩
    · have HR : Hid (smallC ls D X = false) := Lib.hid (by unfold smallC; simp [h1, h2])
      generalize smallC ls D X = v at *
      have t1 : decide (D ≤ 40) = true := decide_eq_true h1
      go_enter Tryd.func16, Tryd.ntmps16
      go_wp2
      go_ret
      exact ⟨by rw [HR.out]; rfl, (Below.refl _ _).alloc (Nat.le_refl _) _⟩
  · have HR : Hid (smallC ls D X = false) := Lib.hid (by unfold smallC; simp [h1])
    generalize smallC ls D X = v at *
    go_enter Tryd.func16, Tryd.ntmps16
    go_wp2
    go_ret
    exact ⟨by rw [HR.out]; rfl, (Below.refl _ _).alloc (Nat.le_refl _) _⟩
theorem small_fits13 {ls : List (List Int)} {D X : Int} (h : smallC ls D X = true) : D ≤ 40 ∧ X ≤ 2000 ∧ ls.length ≤ 20 ∧ ∀ j, (seg ls j).length ≤ 300 := by
  unfold smallC at h
  simp only [Bool.and_eq_true, decide_eq_true_eq] at h
  have := few_fits h.2.2
  exact ⟨h.1, h.2.1, this.2, this.1⟩

theorem RefMessage_13 (A : Option Addr) (c : Nat) (ls : List (List Int)) (D X O : Int) (x : Nd) (e : Int) (w : World) (hs : Sg w A ls) (hw : Wd2 ls) (hm : ls.length ≤ 40) (hf : ∀ j, (seg ls j).length ≤ 20000000) (hD : D ≤ 900) (hX : X ≤ 1000000) (hq : msgV ls D X = (x, e)) :
    Calls Tryd.prog 17 #[.slice A ls.length c, .agg #[.int .i64 D, .int .i64 X, .int .i64 O]] w fun r w' => ∃ v, r = .returned (.tuple #[v, .int .i64 e]) ∧ NodF w.heap.size x v w' ∧ Below w.heap.size w w' := by
  have h := RefMessage12 A c ls D X O w hs hw hm hf hD hX
  rw [hq] at h
  exact h
theorem RefMeasure_13 (A : Option Addr) (c : Nat) (ls : List (List Int)) (D X O y e : Int) (w : World) (hs : Sg w A ls) (hw : Wd2 ls) (hm : ls.length ≤ 40) (hf : ∀ j, (seg ls j).length ≤ 20000000) (hD : D ≤ 900) (hX : X ≤ 1000000) (hq : measV ls D X = (y, e)) :
    Calls Tryd.prog 18 #[.slice A ls.length c, .agg #[.int .i64 D, .int .i64 X, .int .i64 O]] w fun r w' => r = .returned (.tuple #[.int .i64 y, .int .i64 e]) ∧ Below w.heap.size w w' := by
  have h := RefMeasure12 A c ls D X O w hs hw hm hf hD hX
  rw [hq] at h
  exact h
attribute [local irreducible] msgV measV smallC fewB validN fewN trimmedN canN canO rightN sizeN
set_option maxHeartbeats 4000000 in
set_option maxRecDepth 100000 in
theorem Cost13_walk (A : Option Addr) (c : Nat) (ls : List (List Int)) (D X O : Int) (w : World) (hT : TabOK w) (hA : Sg w A ls) (hw : Wd2 ls) (hnil : A = none → c = 0) (hlm : ls.length ≤ 9223372036854775807) (hlc : ls.length ≤ c) (hcm : c ≤ 9223372036854775807)
    (d0 : -9223372036854775808 ≤ D) (d1 : D ≤ 9223372036854775807) (x0 : -9223372036854775808 ≤ X) (x1 : X ≤ 9223372036854775807) :
    Calls Tryd.prog 5 #[.slice A ls.length c, .agg #[.int .i64 D, .int .i64 X, .int .i64 O]] w fun e w' => e = .returned (.bool true) ∧ Below w.heap.size w w' := by
  have HT := Lib.hid hT
  have Hm := Lib.hid hA
  have HW := Lib.hid hw
  clear hT hA hw hnil
  go_enter Tryd.func5, Tryd.ntmps5
  go_wp2_with fail
  refine abs_world (F := fun W => Sg W A ls ∧ Blk W w.heap.size #[.int .i64 D, .int .i64 X, .int .i64 O] ∧ Below w.heap.size w W) ⟨?_, ?_, ?_⟩ ?_
  · exact (Hm.out.alloc _)
  · exact Blk.fresh _ _ _
  · exact ((Below.refl w.heap.size w).alloc (by first | exact Nat.le_refl _ | (simp; done) | (simp; omega)) _)
  clear Hm
  rintro W1 ⟨hm, hl, hb⟩
  have Hm := Lib.hid hm
  have Hl := Lib.hid hl
  have HB := Lib.hid hb
  clear hb hm hl
  refine (awake13_any _ (HT.out.on HB.out)).mono ?_
  rintro r w2 ⟨rfl, hb⟩
  have fm := Hm.out.below hb (Nat.le_refl _)
  have fl := Hl.out.below hb
  have HB0 := Lib.hid (bel_on HB.out hb)
  clear hb Hm Hl HB
  have HB := HB0
  clear HB0
  have Hm := Lib.hid fm
  clear fm
  have Hl := Lib.hid fl
  clear fl
  obtain ⟨xl, yl, zl⟩ := Hl.out
  go_wp2_with fail
  clear xl yl zl
  refine (RefSmall_13 A c ls D X O _ Hm.out hlm).mono ?_
  rintro r w3 ⟨rfl, hb⟩
  have fm := Hm.out.below hb (Nat.le_refl _)
  have fl := Hl.out.below hb
  have HB0 := Lib.hid (bel_on HB.out hb)
  clear hb Hm Hl HB
  have HB := HB0
  clear HB0
  have Hm := Lib.hid fm
  clear fm
  have Hl := Lib.hid fl
  clear fl
  cases hsm : smallC ls D X with
  | false =>
    clear hsm
    go_wp2_with fail
    refine (awake13_any _ (HT.out.on HB.out)).mono ?_
    rintro r w4 ⟨rfl, hb⟩
    have fm := Hm.out.below hb (Nat.le_refl _)
    have fl := Hl.out.below hb
    have HB0 := Lib.hid (bel_on HB.out hb)
    clear hb Hm Hl HB
    have HB := HB0
    clear HB0
    have Hm := Lib.hid fm
    clear fm
    have Hl := Lib.hid fl
    clear fl
    go_wp2
    go_ret
    exact ⟨rfl, HB.out⟩
  | true =>
    obtain ⟨hD, hX, hl20, hf⟩ := small_fits13 hsm
    have HF : Hid (∀ j, (seg ls j).length ≤ 20000000) := Lib.hid (fun j => by have := hf j; omega)
    have hm' : ls.length ≤ 40 := by omega
    clear hsm hf
    obtain ⟨⟨x, e⟩, hq⟩ : ∃ q, msgV ls D X = q := ⟨_, rfl⟩
    obtain ⟨⟨y, f⟩, hr⟩ : ∃ q, measV ls D X = q := ⟨_, rfl⟩
    have HQ := Lib.hid hq
    have HR := Lib.hid hr
    clear hq hr
    obtain ⟨xl, yl, zl⟩ := Hl.out
    go_wp2_with fail
    clear xl yl zl
    refine (RefMessage_13 A c ls D X O x e _ Hm.out HW.out hm' HF.out (by omega) (by omega) HQ.out).mono ?_
    rintro r w4 ⟨v, rfl, ⟨A1, c1, E1, e1, hi1, rfl, -, hno⟩, hb⟩
    have fm := Hm.out.below hb (Nat.le_refl _)
    have fl := Hl.out.below hb
    have HB0 := Lib.hid (bel_on HB.out hb)
    clear hb Hm Hl HB
    have HB := HB0
    clear HB0
    have Hm := Lib.hid fm
    clear fm
    have Hl := Lib.hid fl
    clear fl
    have hn := hno.nd
    clear hno
    have Hp := Lib.hid hn
    clear hn
    obtain ⟨xl, yl, zl⟩ := (Hl.out.alloc (.cells #[.int .i64 x.k, .int .i64 x.e, .int .i64 x.n, .slice A1 x.d.length c1, .slice E1 x.ks.length e1] 25))
    go_wp2_with fail
    refine abs_world (F := fun W => Sg W A ls ∧ Blk W w.heap.size #[.int .i64 D, .int .i64 X, .int .i64 O] ∧ NdR W A1 c1 E1 e1 x ∧ Blk W w4.heap.size #[.int .i64 x.k, .int .i64 x.e, .int .i64 x.n, .slice A1 x.d.length c1, .slice E1 x.ks.length e1] ∧ Below w.heap.size w W) ⟨?_, ?_, ?_, ?_, ?_⟩ ?_
    · exact (Hm.out.alloc _)
    · exact (Hl.out.alloc _)
    · exact (NdR.on Hp.out ((Below.refl _ _).alloc (Nat.le_refl _) _) (Nat.le_refl _))
    · exact Blk.fresh _ _ _
    · exact (HB.out.alloc (by first | exact Nat.le_refl _ | (have := HB.out.size; simp; omega) | (have := HB.out.size; omega) | (simp; done) | (simp; omega)) _)
    clear Hm Hl Hp HB xl yl zl
    rintro W5 ⟨hm, hl, hp, ha, hb⟩
    have Hm := Lib.hid hm
    have Hl := Lib.hid hl
    have Hp := Lib.hid hp
    have Ha := Lib.hid ha
    have HB := Lib.hid hb
    clear hb hm hl hp ha
    refine (RefMeasure_13 A c ls D X O y f _ Hm.out HW.out hm' HF.out (by omega) (by omega) HR.out).mono ?_
    rintro r w6 ⟨rfl, hb⟩
    have fm := Hm.out.below hb (Nat.le_refl _)
    have fl := Hl.out.below hb
    have fp := Hp.out.on hb (Nat.le_refl _)
    have fa := Ha.out.below hb
    have HB0 := Lib.hid (bel_on HB.out hb)
    clear hb Hm Hl Hp Ha HB
    have HB := HB0
    clear HB0
    have Hm := Lib.hid fm
    clear fm
    have Hl := Lib.hid fl
    clear fl
    have Hp := Lib.hid fp
    clear fp
    have Ha := Lib.hid fa
    clear fa
    clear Hm
    clear Hl
    by_cases he : e = 0
    rotate_left
    · have t0 : (e != 0) = true := by simpa using he
      clear he
      go_wp2
      go_ret
      exact ⟨rfl, HB.out⟩
    have hva := msg_valid HW.out hm' HF.out D X
    have hsz := msg_size HW.out hm' HF.out D X
    have hca := msg_can HW.out hm' HF.out D X (by rw [HQ.out]; exact he)
    rw [HQ.out] at hva hsz hca
    rw [HR.out] at hca
    simp only at hva hsz hca
    have hsx : startI X ≤ 2000 := by unfold startI; split <;> omega
    have HVX := Lib.hid hva.1
    have HMX := Lib.hid hva.2.1
    have HSX : Hid (sizeN x ≤ 1099511627776) := Lib.hid (by omega)
    have HLE := Lib.hid hca
    have hcb := can_size x hva.1
    have HCB : Hid (0 ≤ canN x ∧ canN x ≤ 1000000000000) := Lib.hid (by omega)
    have t0 : (e != 0) = false := by rw [he]; rfl
    clear he hva hsz hca hsx hcb
    obtain ⟨xa, ya, za⟩ := Ha.out
    go_wp2_with fail
    clear xa ya za
    refine (RefRight13 x A1 c1 E1 e1 _ Hp.out HSX.out).mono ?_
    rintro r w7 ⟨rfl, hb⟩
    have fp := Hp.out.on hb (Nat.le_refl _)
    have fa := Ha.out.below hb
    have HB0 := Lib.hid (bel_on HB.out hb)
    clear hb Hp Ha HB
    have HB := HB0
    clear HB0
    have Hp := Lib.hid fp
    clear fp
    have Ha := Lib.hid fa
    clear fa
    cases hri : rightN x with
    | false =>
      clear hri
      go_wp2
      go_ret
      exact ⟨rfl, HB.out⟩
    | true =>
    clear hri
    obtain ⟨xa, ya, za⟩ := Ha.out
    go_wp2_with fail
    clear xa ya za
    rename_i KK hKK
    refine wp_region_chain (by kernel_rfl) (by kernel_rfl) ?_
    refine chain_val (u := ?_) [5] rfl (by kernel_rfl) trivial (fun ρ wc hbc hcn hk => ?_) ?_; rotate_left
    · obtain ⟨hcn, -⟩ := hcn
      simp at hk
      obtain ⟨xa, ya, za⟩ := Ha.out.drew.below hbc
      go_simp
      rfl
    refine chain_call (T := Is ?_) 12 [37] rfl (by kernel_rfl) trivial (stable_is _) (fun ρ wc hbc hcn hk => ?_) ?_; rotate_left
    · obtain ⟨hcn, hfn⟩ := hcn
      simp at hk
      refine ⟨_, by go_simp; rfl, ?_⟩
      refine (CNode_any x A1 c1 E1 e1 wc (HT.out.on (bel_on (bel_drew HB.out) hbc)) (Hp.out.on (w' := wc) (N := w7.heap.size) ⟨hbc.os, hbc.tape, hbc.output, hbc.size, hbc.block⟩ (Nat.le_refl _)) HSX.out HVX.out HMX.out).mono ?_
      rintro e w' ⟨rfl, hbq⟩
      refine ⟨_, rfl, ?_, hbq⟩
      unfold Is
      rfl
    refine chain_val (u := ?_) [7] rfl (by kernel_rfl) trivial (fun ρ wc hbc hcn hk => ?_) ?_; rotate_left
    · obtain ⟨hcn, -⟩ := hcn
      simp at hk
      go_simp
      rfl
    refine chain_val (u := .bool true) [38, 39] rfl (by kernel_rfl) trivial (fun ρ wc hbc hcn hk => ?_) ?_
    · obtain ⟨hcn, -⟩ := hcn
      simp at hk
      have h := HLE.out
      go_simp
    refine chain_val (u := ?_) [40] rfl (by kernel_rfl) trivial (fun ρ wc hbc hcn hk => ?_) ?_; rotate_left
    · obtain ⟨hcn, -⟩ := hcn
      simp at hk
      go_simp
      rfl
    refine chain_val (u := ?_) [5] rfl (by kernel_rfl) ⟨41, by decide +kernel, rfl, fun w x hx => by simpa using hx⟩ (fun ρ wc hbc hcn hk => ?_) ?_; rotate_left
    · obtain ⟨hcn, -⟩ := hcn
      simp at hk
      obtain ⟨xa, ya, za⟩ := Ha.out.drew.below hbc
      go_simp
      rfl
    refine chain_call (T := Is ?_) 14 [42] rfl (by kernel_rfl) ⟨41, by decide +kernel, rfl, fun w x hx => by simpa using hx⟩ (stable_is _) (fun ρ wc hbc hcn hk => ?_) ?_; rotate_left
    · obtain ⟨hcn, hfn⟩ := hcn
      simp at hk
      refine ⟨_, by go_simp; rfl, ?_⟩
      refine (CTotal_any x A1 c1 E1 e1 wc (HT.out.on (bel_on (bel_drew HB.out) hbc)) (Hp.out.on (w' := wc) (N := w7.heap.size) ⟨hbc.os, hbc.tape, hbc.output, hbc.size, hbc.block⟩ (Nat.le_refl _)) HSX.out HVX.out HMX.out).mono ?_
      rintro e w' ⟨rfl, hbq⟩
      refine ⟨_, rfl, ?_, hbq⟩
      unfold Is
      rfl
    refine chain_val (u := ?_) [5] rfl (by kernel_rfl) ⟨41, by decide +kernel, rfl, fun w x hx => by simpa using hx⟩ (fun ρ wc hbc hcn hk => ?_) ?_; rotate_left
    · obtain ⟨hcn, -⟩ := hcn
      simp at hk
      obtain ⟨xa, ya, za⟩ := Ha.out.drew.below hbc
      go_simp
      rfl
    refine chain_call (T := Is ?_) 12 [44] rfl (by kernel_rfl) ⟨41, by decide +kernel, rfl, fun w x hx => by simpa using hx⟩ (stable_is _) (fun ρ wc hbc hcn hk => ?_) ?_; rotate_left
    · obtain ⟨hcn, hfn⟩ := hcn
      simp at hk
      refine ⟨_, by go_simp; rfl, ?_⟩
      refine (CNode_any x A1 c1 E1 e1 wc (HT.out.on (bel_on (bel_drew HB.out) hbc)) (Hp.out.on (w' := wc) (N := w7.heap.size) ⟨hbc.os, hbc.tape, hbc.output, hbc.size, hbc.block⟩ (Nat.le_refl _)) HSX.out HVX.out HMX.out).mono ?_
      rintro e w' ⟨rfl, hbq⟩
      refine ⟨_, rfl, ?_, hbq⟩
      unfold Is
      rfl
    refine chain_val (u := .int .i64 (canN x + 1)) [45] rfl (by kernel_rfl) ⟨41, by decide +kernel, rfl, fun w x hx => by simpa using hx⟩ (fun ρ wc hbc hcn hk => ?_) ?_
    · obtain ⟨hcn, -⟩ := hcn
      simp at hk
      have h := HCB.out
      go_simp
      rw [IntKind.wrap_i64]
      omega
    refine chain_val (u := ?_) [43, 46] rfl (by kernel_rfl) ⟨41, by decide +kernel, rfl, fun w x hx => by simpa using hx⟩ (fun ρ wc hbc hcn hk => ?_) ?_; rotate_left
    · obtain ⟨hcn, -⟩ := hcn
      simp at hk
      go_simp
      rfl
    refine chain_val (u := ?_) [41, 47] rfl (by kernel_rfl) trivial (fun ρ wc hbc hcn hk => ?_) ?_; rotate_left
    · obtain ⟨hcn, -⟩ := hcn
      simp at hk
      go_simp
      rfl
    refine chain_val (u := ?_) [48] rfl (by kernel_rfl) trivial (fun ρ wc hbc hcn hk => ?_) ?_; rotate_left
    · obtain ⟨hcn, -⟩ := hcn
      simp at hk
      go_simp
      rfl
    refine chain_end_lit 49 rfl (fun ff w9 hb7 hk => ?_)
    refine hKK _ _ ?_
    simp [AllN] at hk
    simp only [frameL, hk, Nat.zero_add, Nat.reduceAdd]
    have hb7' : Below w7.heap.size w7 w9 := ⟨hb7.os, hb7.tape, hb7.output, hb7.size, hb7.block⟩
    have HB7 := Lib.hid (bel_on HB.out hb7')
    clear hb7 hk hb7'
    go_wp2
    go_ret
    exact ⟨rfl, HB7.out⟩
end Go.Proofs.YtcmljjhnfpfcfaaDoor
