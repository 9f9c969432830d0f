/- A law of layer 12: DenoteMatchesReference. -/
import Derived.Test.YtnmanhediiooaaaGreatDoorAwake12
namespace Go.Proofs.YtnmanhediiooaaaGreatDoor
open Go.ChangeShapes Go.WideShapes Go.ChangeAt Go.RowKit
set_option linter.unusedVariables false
set_option linter.unusedSimpArgs false
set_option maxRecDepth 100000

/-- are message and limits small? -/
def smallB (ls : List (List Int)) (D X : Int) : Bool := decide (D ≤ 40) && (decide (X ≤ 2000) && fewB ls)
theorem RefSmall_any (A : Option Addr) (c : Nat) (ls : List (List Int)) (D X O : Int) (w : World) (hs : Sg w A ls) (hlm : ls.length ≤ 9223372036854775807) :
    Calls Tryz.prog 5 #[.slice A ls.length c, .agg #[.int .i64 D, .int .i64 X, .int .i64 O]] w fun e w' => e = .returned (.bool (smallB ls D X)) ∧ Below w.heap.size w w' := by
  have Hs := Lib.hid hs
  clear hs
  by_cases h1 : D ≤ 40
  · by_cases h2 : X ≤ 2000
    · have HR : Hid (smallB ls D X = fewB ls) := Lib.hid (by unfold smallB; simp [h1, h2])
      generalize smallB ls D X = v at *
      have HF := Lib.hid (fun w2 hs2 => Few_any A c ls w2 hs2 hlm)
      generalize fewB ls = fb at *
      have t1 : decide (D ≤ 40) = true := decide_eq_true h1
      have t2 : decide (X ≤ 2000) = true := decide_eq_true h2
      clear h1 h2
      go_enter Tryz.func5, Tryz.ntmps5
      go_wp2_with fail
      refine (HF.out _ (Hs.out.alloc _)).mono ?_
      rintro e w' ⟨rfl, rfl⟩
      go_wp2
      go_ret
      exact ⟨by rw [HR.out]; rfl, (Below.refl _ _).alloc (Nat.le_refl _) _⟩
    · have HR : Hid (smallB ls D X = false) := Lib.hid (by unfold smallB; simp [h1, h2])
      generalize smallB ls D X = v at *
      have t1 : decide (D ≤ 40) = true := decide_eq_true h1
      go_enter Tryz.func5, Tryz.ntmps5
      go_wp2
      go_ret
      exact ⟨by rw [HR.out]; rfl, (Below.refl _ _).alloc (Nat.le_refl _) _⟩
  · have HR : Hid (smallB ls D X = false) := Lib.hid (by unfold smallB; simp [h1])
    generalize smallB ls D X = v at *
    go_enter Tryz.func5, Tryz.ntmps5
    go_wp2
    go_ret
    exact ⟨by rw [HR.out]; rfl, (Below.refl _ _).alloc (Nat.le_refl _) _⟩
theorem small_fits {ls : List (List Int)} {D X : Int} (h : smallB ls D X = true) : D ≤ 40 ∧ X ≤ 2000 ∧ ls.length ≤ 20 ∧ ∀ j, (seg ls j).length ≤ 300 := by
  unfold smallB at h
  simp only [Bool.and_eq_true, decide_eq_true_eq] at h
  have := few_fits h.2.2
  exact ⟨h.1, h.2.1, this.2, this.1⟩

attribute [local irreducible] msgV measV smallB fewB
set_option maxHeartbeats 4000000 in
set_option maxRecDepth 100000 in
theorem MR12_walk (A : Option Addr) (c : Nat) (ls : List (List Int)) (D X O : Int) (w : World) (hT : TabOK w) (hA : Sg w A ls) (hw : Wd2 ls) (hnil : A = none → c = 0) (hlm : ls.length ≤ 9223372036854775807) (hlc : ls.length ≤ c) (hcm : c ≤ 9223372036854775807)
    (d0 : -9223372036854775808 ≤ D) (d1 : D ≤ 9223372036854775807) (x0 : -9223372036854775808 ≤ X) (x1 : X ≤ 9223372036854775807) :
    Calls Tryz.prog 3 #[.slice A ls.length c, .agg #[.int .i64 D, .int .i64 X, .int .i64 O]] w fun e w' => e = .returned (.bool true) ∧ Below w.heap.size w w' := by
  have HT := Lib.hid hT
  have Hm := Lib.hid hA
  have HW := Lib.hid hw
  clear hT hA hw hnil
  go_enter Tryz.func3, Tryz.ntmps3
  go_wp2_with fail
  refine abs_world (F := fun W => Sg W A ls ∧ Blk W w.heap.size #[.int .i64 D, .int .i64 X, .int .i64 O] ∧ Below w.heap.size w W) ⟨?_, ?_, ?_⟩ ?_
  · exact (Hm.out.alloc _)
  · exact Blk.fresh _ _ _
  · exact ((Below.refl w.heap.size w).alloc (by first | exact Nat.le_refl _ | (simp; done) | (simp; omega)) _)
  clear Hm
  rintro W1 ⟨hm, hl, hb⟩
  have Hm := Lib.hid hm
  have Hl := Lib.hid hl
  have HB := Lib.hid hb
  clear hb hm hl
  refine (awake12_any _ (HT.out.on HB.out)).mono ?_
  rintro r w2 ⟨rfl, hb⟩
  have fm := Hm.out.below hb (Nat.le_refl _)
  have fl := Hl.out.below hb
  have HB0 := Lib.hid (bel_on HB.out hb)
  clear hb Hm Hl HB
  have HB := HB0
  clear HB0
  have Hm := Lib.hid fm
  clear fm
  have Hl := Lib.hid fl
  clear fl
  obtain ⟨xl, yl, zl⟩ := Hl.out
  go_wp2_with fail
  clear xl yl zl
  refine (RefSmall_any A c ls D X O _ Hm.out hlm).mono ?_
  rintro r w3 ⟨rfl, hb⟩
  have fm := Hm.out.below hb (Nat.le_refl _)
  have fl := Hl.out.below hb
  have HB0 := Lib.hid (bel_on HB.out hb)
  clear hb Hm Hl HB
  have HB := HB0
  clear HB0
  have Hm := Lib.hid fm
  clear fm
  have Hl := Lib.hid fl
  clear fl
  cases hsm : smallB ls D X with
  | false =>
    clear hsm
    go_wp2_with fail
    refine (awake12_any _ (HT.out.on HB.out)).mono ?_
    rintro r w4 ⟨rfl, hb⟩
    have fm := Hm.out.below hb (Nat.le_refl _)
    have fl := Hl.out.below hb
    have HB0 := Lib.hid (bel_on HB.out hb)
    clear hb Hm Hl HB
    have HB := HB0
    clear HB0
    have Hm := Lib.hid fm
    clear fm
    have Hl := Lib.hid fl
    clear fl
    go_wp2
    go_ret
    exact ⟨rfl, HB.out⟩
  | true =>
    obtain ⟨hD, hX, hl20, hf⟩ := small_fits hsm
    have HF : Hid (∀ j, (seg ls j).length ≤ 20000000) := Lib.hid (fun j => by have := hf j; omega)
    have hm' : ls.length ≤ 40 := by omega
    clear hsm hf
    obtain ⟨⟨x, e⟩, hq⟩ : ∃ q, msgV ls D X = q := ⟨_, rfl⟩
    obtain ⟨⟨y, f⟩, hr⟩ : ∃ q, measV ls D X = q := ⟨_, rfl⟩
    have HQ := Lib.hid hq
    have HR := Lib.hid hr
    clear hq hr
    obtain ⟨xl, yl, zl⟩ := Hl.out
    go_wp2_with fail
    clear xl yl zl
    refine (DMessage_is A c _ ls D X O x e _ (HT.out.on HB.out) rfl Hm.out HW.out hm' HF.out (by omega) (by omega) HQ.out).mono ?_
    rintro r w4 ⟨v, rfl, ⟨A1, c1, E1, e1, hi1, rfl, -, hno⟩, hb⟩
    have fm := Hm.out.below hb (Nat.le_refl _)
    have fl := Hl.out.below hb
    have HB0 := Lib.hid (bel_on HB.out hb)
    clear hb Hm Hl HB
    have HB := HB0
    clear HB0
    have Hm := Lib.hid fm
    clear fm
    have Hl := Lib.hid fl
    clear fl
    have hn := hno.nd
    clear hno
    have Hp := Lib.hid hn
    clear hn
    obtain ⟨xl, yl, zl⟩ := (Hl.out.alloc (.cells #[.int .i64 x.k, .int .i64 x.e, .int .i64 x.n, .slice A1 x.d.length c1, .slice E1 x.ks.length e1] 30))
    go_wp2_with fail
    refine abs_world (F := fun W => Sg W A ls ∧ Blk W w.heap.size #[.int .i64 D, .int .i64 X, .int .i64 O] ∧ NdR W A1 c1 E1 e1 x ∧ Blk W w4.heap.size #[.int .i64 x.k, .int .i64 x.e, .int .i64 x.n, .slice A1 x.d.length c1, .slice E1 x.ks.length e1] ∧ Below w.heap.size w W) ⟨?_, ?_, ?_, ?_, ?_⟩ ?_
    · exact (Hm.out.alloc _)
    · exact (Hl.out.alloc _)
    · exact (NdR.on Hp.out ((Below.refl _ _).alloc (Nat.le_refl _) _) (Nat.le_refl _))
    · exact Blk.fresh _ _ _
    · exact (HB.out.alloc (by first | exact Nat.le_refl _ | (have := HB.out.size; simp; omega) | (have := HB.out.size; omega) | (simp; done) | (simp; omega)) _)
    clear Hm Hl Hp HB xl yl zl
    rintro W5 ⟨hm, hl, hp, ha, hb⟩
    have Hm := Lib.hid hm
    have Hl := Lib.hid hl
    have Hp := Lib.hid hp
    have Ha := Lib.hid ha
    have HB := Lib.hid hb
    clear hb hm hl hp ha
    refine (RefMessage_is A c ls D X O x e _ Hm.out HW.out hm' HF.out (by omega) (by omega) HQ.out).mono ?_
    rintro r w6 ⟨v, rfl, ⟨A2, c2, E2, e2, hi2, rfl, -, hno⟩, hb⟩
    have fm := Hm.out.below hb (Nat.le_refl _)
    have fl := Hl.out.below hb
    have fp := Hp.out.on hb (Nat.le_refl _)
    have fa := Ha.out.below hb
    have HB0 := Lib.hid (bel_on HB.out hb)
    clear hb Hm Hl Hp Ha HB
    have HB := HB0
    clear HB0
    have Hm := Lib.hid fm
    clear fm
    have Hl := Lib.hid fl
    clear fl
    have Hp := Lib.hid fp
    clear fp
    have Ha := Lib.hid fa
    clear fa
    have hn := hno.nd
    clear hno
    have Hq := Lib.hid hn
    clear hn
    obtain ⟨xl, yl, zl⟩ := (Hl.out.alloc (.cells #[.int .i64 x.k, .int .i64 x.e, .int .i64 x.n, .slice A2 x.d.length c2, .slice E2 x.ks.length e2] 30))
    go_wp2_with fail
    refine abs_world (F := fun W => Sg W A ls ∧ Blk W w.heap.size #[.int .i64 D, .int .i64 X, .int .i64 O] ∧ NdR W A1 c1 E1 e1 x ∧ Blk W w4.heap.size #[.int .i64 x.k, .int .i64 x.e, .int .i64 x.n, .slice A1 x.d.length c1, .slice E1 x.ks.length e1] ∧ NdR W A2 c2 E2 e2 x ∧ Blk W w6.heap.size #[.int .i64 x.k, .int .i64 x.e, .int .i64 x.n, .slice A2 x.d.length c2, .slice E2 x.ks.length e2] ∧ Below w.heap.size w W) ⟨?_, ?_, ?_, ?_, ?_, ?_, ?_⟩ ?_
    · exact (Hm.out.alloc _)
    · exact (Hl.out.alloc _)
    · exact (NdR.on Hp.out ((Below.refl _ _).alloc (Nat.le_refl _) _) (Nat.le_refl _))
    · exact (Ha.out.alloc _)
    · exact (NdR.on Hq.out ((Below.refl _ _).alloc (Nat.le_refl _) _) (Nat.le_refl _))
    · exact Blk.fresh _ _ _
    · exact (HB.out.alloc (by first | exact Nat.le_refl _ | (have := HB.out.size; simp; omega) | (have := HB.out.size; omega) | (simp; done) | (simp; omega)) _)
    clear Hm Hl Hp Ha Hq HB xl yl zl
    rintro W7 ⟨hm, hl, hp, ha, hq, hg, hb⟩
    have Hm := Lib.hid hm
    have Hl := Lib.hid hl
    have Hp := Lib.hid hp
    have Ha := Lib.hid ha
    have Hq := Lib.hid hq
    have Hg := Lib.hid hg
    have HB := Lib.hid hb
    clear hb hm hl hp ha hq hg
    refine (DMeasure_is A c _ ls D X O y f _ (HT.out.on HB.out) rfl Hm.out HW.out hm' HF.out (by omega) (by omega) HR.out).mono ?_
    rintro r w8 ⟨rfl, hb⟩
    have fm := Hm.out.below hb (Nat.le_refl _)
    have fl := Hl.out.below hb
    have fp := Hp.out.on hb (Nat.le_refl _)
    have fa := Ha.out.below hb
    have fq := Hq.out.on hb (Nat.le_refl _)
    have fg := Hg.out.below hb
    have HB0 := Lib.hid (bel_on HB.out hb)
    clear hb Hm Hl Hp Ha Hq Hg HB
    have HB := HB0
    clear HB0
    have Hm := Lib.hid fm
    clear fm
    have Hl := Lib.hid fl
    clear fl
    have Hp := Lib.hid fp
    clear fp
    have Ha := Lib.hid fa
    clear fa
    have Hq := Lib.hid fq
    clear fq
    have Hg := Lib.hid fg
    clear fg
    obtain ⟨xl, yl, zl⟩ := Hl.out
    go_wp2_with fail
    clear xl yl zl
    refine (RefMeasure_is A c ls D X O y f _ Hm.out HW.out hm' HF.out (by omega) (by omega) HR.out).mono ?_
    rintro r w9 ⟨rfl, hb⟩
    have fm := Hm.out.below hb (Nat.le_refl _)
    have fl := Hl.out.below hb
    have fp := Hp.out.on hb (Nat.le_refl _)
    have fa := Ha.out.below hb
    have fq := Hq.out.on hb (Nat.le_refl _)
    have fg := Hg.out.below hb
    have HB0 := Lib.hid (bel_on HB.out hb)
    clear hb Hm Hl Hp Ha Hq Hg HB
    have HB := HB0
    clear HB0
    have Hm := Lib.hid fm
    clear fm
    have Hl := Lib.hid fl
    clear fl
    have Hp := Lib.hid fp
    clear fp
    have Ha := Lib.hid fa
    clear fa
    have Hq := Lib.hid fq
    clear fq
    have Hg := Lib.hid fg
    clear fg
    clear Hm
    clear Hl
    obtain ⟨xa, ya, za⟩ := Ha.out
    obtain ⟨xg, yg, zg⟩ := Hg.out
    go_wp2_with fail
    clear xa ya za xg yg zg
    refine (RefEqual_12 x x A1 c1 E1 e1 A2 c2 E2 e2 true _ Hp.out Hq.out (by simp [eqN])).mono ?_
    rintro r w10 ⟨rfl, hb⟩
    have fp := Hp.out.on hb (Nat.le_refl _)
    have fa := Ha.out.below hb
    have fq := Hq.out.on hb (Nat.le_refl _)
    have fg := Hg.out.below hb
    have HB0 := Lib.hid (bel_on HB.out hb)
    clear hb Hp Ha Hq Hg HB
    have HB := HB0
    clear HB0
    have Hp := Lib.hid fp
    clear fp
    have Ha := Lib.hid fa
    clear fa
    have Hq := Lib.hid fq
    clear fq
    have Hg := Lib.hid fg
    clear fg
    go_wp2
    go_ret
    exact ⟨rfl, HB.out⟩
end Go.Proofs.YtnmanhediiooaaaGreatDoor
