/- A law of layer 12: DenoteLimitsAreMonotone. -/
import Derived.Test.YtnmanhediiooaaaDoorLaw12
namespace Go.Proofs.YtnmanhediiooaaaDoor
open Go.ChangeShapes Go.WideShapes Go.ChangeAt Go.RowKit
set_option linter.unusedVariables false
set_option linter.unusedSimpArgs false
set_option maxRecDepth 100000

attribute [local irreducible] msgV measV smallB fewB
set_option maxHeartbeats 4000000 in
set_option maxRecDepth 100000 in
theorem Mono12_walk (A : Option Addr) (c : Nat) (ls : List (List Int)) (D X O dd ww : Int) (w : World) (hT : TabOK w) (hA : Sg w A ls) (hw : Wd2 ls) (hnil : A = none → c = 0) (hlm : ls.length ≤ 9223372036854775807) (hlc : ls.length ≤ c) (hcm : c ≤ 9223372036854775807)
    (d0 : -9223372036854775808 ≤ D) (d1 : D ≤ 9223372036854775807) (x0 : -9223372036854775808 ≤ X) (x1 : X ≤ 9223372036854775807) (h0 : 0 ≤ dd) (h1 : dd < 256) (h2 : 0 ≤ ww) (h3 : ww < 256) :
    Calls Tryd.prog 4 #[.slice A ls.length c, .agg #[.int .i64 D, .int .i64 X, .int .i64 O], .int .u8 dd, .int .u8 ww] w fun e w' => e = .returned (.bool true) ∧ Below w.heap.size w w' := by
  have HT := Lib.hid hT
  have Hm := Lib.hid hA
  have HW := Lib.hid hw
  clear hT hA hw hnil
  go_enter Tryd.func4, Tryd.ntmps4
  go_wp2_with fail
  refine abs_world (F := fun W => Sg W A ls ∧ Blk W w.heap.size #[.int .i64 D, .int .i64 X, .int .i64 O] ∧ Below w.heap.size w W) ⟨?_, ?_, ?_⟩ ?_
  · exact (Hm.out.alloc _)
  · exact Blk.fresh _ _ _
  · exact ((Below.refl w.heap.size w).alloc (by first | exact Nat.le_refl _ | (simp; done) | (simp; omega)) _)
  clear Hm
  rintro W1 ⟨hm, hl, hb⟩
  have Hm := Lib.hid hm
  have Hl := Lib.hid hl
  have HB := Lib.hid hb
  clear hb hm hl
  refine (awake12_any _ (HT.out.on HB.out)).mono ?_
  rintro r w2 ⟨rfl, hb⟩
  have fm := Hm.out.below hb (Nat.le_refl _)
  have fl := Hl.out.below hb
  have HB0 := Lib.hid (bel_on HB.out hb)
  clear hb Hm Hl HB
  have HB := HB0
  clear HB0
  have Hm := Lib.hid fm
  clear fm
  have Hl := Lib.hid fl
  clear fl
  obtain ⟨xl, yl, zl⟩ := Hl.out
  go_wp2_with fail
  clear xl yl zl
  refine (RefSmall_any A c ls D X O _ Hm.out hlm).mono ?_
  rintro r w3 ⟨rfl, hb⟩
  have fm := Hm.out.below hb (Nat.le_refl _)
  have fl := Hl.out.below hb
  have HB0 := Lib.hid (bel_on HB.out hb)
  clear hb Hm Hl HB
  have HB := HB0
  clear HB0
  have Hm := Lib.hid fm
  clear fm
  have Hl := Lib.hid fl
  clear fl
  cases hsm : smallB ls D X with
  | false =>
    clear hsm
    go_wp2_with fail
    refine (awake12_any _ (HT.out.on HB.out)).mono ?_
    rintro r w4 ⟨rfl, hb⟩
    have fm := Hm.out.below hb (Nat.le_refl _)
    have fl := Hl.out.below hb
    have HB0 := Lib.hid (bel_on HB.out hb)
    clear hb Hm Hl HB
    have HB := HB0
    clear HB0
    have Hm := Lib.hid fm
    clear fm
    have Hl := Lib.hid fl
    clear fl
    go_wp2
    go_ret
    exact ⟨rfl, HB.out⟩
  | true =>
    obtain ⟨hD, hX, hl20, hf⟩ := small_fits hsm
    have HF : Hid (∀ j, (seg ls j).length ≤ 20000000) := Lib.hid (fun j => by have := hf j; omega)
    have hm' : ls.length ≤ 40 := by omega
    clear hsm hf
    obtain ⟨⟨x, e⟩, hq⟩ : ∃ q, msgV ls D X = q := ⟨_, rfl⟩
    obtain ⟨⟨y, f⟩, hr⟩ : ∃ q, measV ls D X = q := ⟨_, rfl⟩
    have HQ := Lib.hid hq
    have HR := Lib.hid hr
    clear hq hr
    obtain ⟨xl, yl, zl⟩ := Hl.out
    go_wp2_with fail
    clear xl yl zl
    refine (DMessage_is A c _ ls D X O x e _ (HT.out.on HB.out) rfl Hm.out HW.out hm' HF.out (by omega) (by omega) HQ.out).mono ?_
    rintro r w4 ⟨v, rfl, ⟨A1, c1, E1, e1, hi1, rfl, -, hno⟩, hb⟩
    have fm := Hm.out.below hb (Nat.le_refl _)
    have fl := Hl.out.below hb
    have HB0 := Lib.hid (bel_on HB.out hb)
    clear hb Hm Hl HB
    have HB := HB0
    clear HB0
    have Hm := Lib.hid fm
    clear fm
    have Hl := Lib.hid fl
    clear fl
    have hn := hno.nd
    clear hno
    have Hp := Lib.hid hn
    clear hn
    obtain ⟨xl, yl, zl⟩ := (Hl.out.alloc (.cells #[.int .i64 x.k, .int .i64 x.e, .int .i64 x.n, .slice A1 x.d.length c1, .slice E1 x.ks.length e1] 30))
    go_wp2_with fail
    refine abs_world (F := fun W => Sg W A ls ∧ Blk W w.heap.size #[.int .i64 D, .int .i64 X, .int .i64 O] ∧ NdR W A1 c1 E1 e1 x ∧ Blk W w4.heap.size #[.int .i64 x.k, .int .i64 x.e, .int .i64 x.n, .slice A1 x.d.length c1, .slice E1 x.ks.length e1] ∧ Below w.heap.size w W) ⟨?_, ?_, ?_, ?_, ?_⟩ ?_
    · exact (Hm.out.alloc _)
    · exact (Hl.out.alloc _)
    · exact (NdR.on Hp.out ((Below.refl _ _).alloc (Nat.le_refl _) _) (Nat.le_refl _))
    · exact Blk.fresh _ _ _
    · exact (HB.out.alloc (by first | exact Nat.le_refl _ | (have := HB.out.size; simp; omega) | (have := HB.out.size; omega) | (simp; done) | (simp; omega)) _)
    clear Hm Hl Hp HB xl yl zl
    rintro W5 ⟨hm, hl, hp, ha, hb⟩
    have Hm := Lib.hid hm
    have Hl := Lib.hid hl
    have Hp := Lib.hid hp
    have Ha := Lib.hid ha
    have HB := Lib.hid hb
    clear hb hm hl hp ha
    refine (DMeasure_is A c _ ls D X O y f _ (HT.out.on HB.out) rfl Hm.out HW.out hm' HF.out (by omega) (by omega) HR.out).mono ?_
    rintro r w6 ⟨rfl, hb⟩
    have fm := Hm.out.below hb (Nat.le_refl _)
    have fl := Hl.out.below hb
    have fp := Hp.out.on hb (Nat.le_refl _)
    have fa := Ha.out.below hb
    have HB0 := Lib.hid (bel_on HB.out hb)
    clear hb Hm Hl Hp Ha HB
    have HB := HB0
    clear HB0
    have Hm := Lib.hid fm
    clear fm
    have Hl := Lib.hid fl
    clear fl
    have Hp := Lib.hid fp
    clear fp
    have Ha := Lib.hid fa
    clear fa
    by_cases he : e = 0
    · have hms := msg_sim HW.out hm' HF.out D X (ExtM.refl ls) Iff.rfl
      have hlo := msg_low HW.out hm' HF.out D X
      have hbd := meas_bd HW.out hm' HF.out D X
      rw [HQ.out, HR.out] at hms
      rw [HQ.out, HR.out] at hlo
      rw [HR.out] at hbd
      simp only at hms hlo hbd
      have hsx : startI X ≤ 2000 := by unfold startI; split <;> omega
      have HV1 : Hid (msgV ls (max D 0 + dd) (max X 0 + ww) = (x, 0)) := Lib.hid ((hms (max D 0 + dd) (max X 0 + ww) (by omega) he (by have : startI X = max X 0 := (by unfold startI; split <;> omega); unfold startI; split <;> omega)).1.trans (by rw [he]))
      have HV2 : Hid (msgV ls D y = (x, 0)) := Lib.hid ((hms D y (Nat.le_refl _) he (by unfold startI; split <;> omega)).1.trans (by rw [he]))
      have HV3 : Hid (y ≠ 0 → (msgV ls D (y - 1)).2 = 8) := Lib.hid (fun hy => hlo (y - 1) he (by omega) (by omega))
      have hyb : 0 ≤ y ∧ y ≤ 2000 := by omega
      clear hms hlo hbd hsx
      have t0 : (e != 0) = false := by rw [he]; rfl
      clear he
      obtain ⟨xl, yl, zl⟩ := Hl.out
      obtain ⟨xa, ya, za⟩ := Ha.out
      go_wp2_with fail
      · skip
        have HVB : Hid (msgV ls (dd) (ww) = (x, 0)) := Lib.hid (by have h := HV1.out; rwa [show max D 0 + dd = dd by omega, show max X 0 + ww = ww by omega] at h)
        refine abs_world (F := fun W => Sg W A ls ∧ Blk W w.heap.size #[.int .i64 D, .int .i64 X, .int .i64 O] ∧ NdR W A1 c1 E1 e1 x ∧ Blk W w4.heap.size #[.int .i64 x.k, .int .i64 x.e, .int .i64 x.n, .slice A1 x.d.length c1, .slice E1 x.ks.length e1] ∧ Below w.heap.size w W) ⟨?_, ?_, ?_, ?_, ?_⟩ ?_
        · exact (Hm.out.alloc _)
        · exact (Hl.out.alloc _)
        · exact (NdR.on Hp.out ((Below.refl _ _).alloc (Nat.le_refl _) _) (Nat.le_refl _))
        · exact (Ha.out.alloc _)
        · exact (HB.out.alloc (by first | exact Nat.le_refl _ | (have := HB.out.size; simp; omega) | (have := HB.out.size; omega) | (simp; done) | (simp; omega)) _)
        clear Hm Hl Hp Ha HB xl yl zl xa ya za
        rintro W7 ⟨hm, hl, hp, ha, hb⟩
        have Hm := Lib.hid hm
        have Hl := Lib.hid hl
        have Hp := Lib.hid hp
        have Ha := Lib.hid ha
        have HB := Lib.hid hb
        clear hb hm hl hp ha
        refine (DMessage_is A c _ ls (dd) (ww) O x 0 _ (HT.out.on HB.out) rfl Hm.out HW.out hm' HF.out (by omega) (by omega) HVB.out).mono ?_
        rintro r w8 ⟨v, rfl, ⟨A2, c2, E2, e2, hi2, rfl, -, hno⟩, hb⟩
        have fm := Hm.out.below hb (Nat.le_refl _)
        have fl := Hl.out.below hb
        have fp := Hp.out.on hb (Nat.le_refl _)
        have fa := Ha.out.below hb
        have HB0 := Lib.hid (bel_on HB.out hb)
        clear hb Hm Hl Hp Ha HB
        have HB := HB0
        clear HB0
        have Hm := Lib.hid fm
        clear fm
        have Hl := Lib.hid fl
        clear fl
        have Hp := Lib.hid fp
        clear fp
        have Ha := Lib.hid fa
        clear fa
        have hn := hno.nd
        clear hno
        have Hq := Lib.hid hn
        clear hn
        obtain ⟨xl, yl, zl⟩ := (Hl.out.alloc (.cells #[.int .i64 x.k, .int .i64 x.e, .int .i64 x.n, .slice A2 x.d.length c2, .slice E2 x.ks.length e2] 30))
        go_wp2_with fail
        refine abs_world (F := fun W => Sg W A ls ∧ Blk W w.heap.size #[.int .i64 D, .int .i64 X, .int .i64 O] ∧ NdR W A1 c1 E1 e1 x ∧ Blk W w4.heap.size #[.int .i64 x.k, .int .i64 x.e, .int .i64 x.n, .slice A1 x.d.length c1, .slice E1 x.ks.length e1] ∧ NdR W A2 c2 E2 e2 x ∧ Blk W w8.heap.size #[.int .i64 x.k, .int .i64 x.e, .int .i64 x.n, .slice A2 x.d.length c2, .slice E2 x.ks.length e2] ∧ Below w.heap.size w W) ⟨?_, ?_, ?_, ?_, ?_, ?_, ?_⟩ ?_
        · exact ((Hm.out.alloc _).alloc _)
        · exact ((Hl.out.alloc _).alloc _)
        · exact (NdR.on (NdR.on Hp.out ((Below.refl _ _).alloc (Nat.le_refl _) _) (Nat.le_refl _)) ((Below.refl _ _).alloc (Nat.le_refl _) _) (Nat.le_refl _))
        · exact ((Ha.out.alloc _).alloc _)
        · exact (NdR.on (NdR.on Hq.out ((Below.refl _ _).alloc (Nat.le_refl _) _) (Nat.le_refl _)) ((Below.refl _ _).alloc (Nat.le_refl _) _) (Nat.le_refl _))
        · exact (Blk.fresh _ _ _).alloc _
        · exact ((HB.out.alloc (by first | exact Nat.le_refl _ | (have := HB.out.size; simp; omega) | (have := HB.out.size; omega) | (simp; done) | (simp; omega)) _).alloc (by first | exact Nat.le_refl _ | (have := HB.out.size; simp; omega) | (have := HB.out.size; omega) | (simp; done) | (simp; omega)) _)
        clear Hm Hl Hp Ha Hq HB xl yl zl
        rintro W9 ⟨hm, hl, hp, ha, hq, hg, hb⟩
        have Hm := Lib.hid hm
        have Hl := Lib.hid hl
        have Hp := Lib.hid hp
        have Ha := Lib.hid ha
        have Hq := Lib.hid hq
        have Hg := Lib.hid hg
        have HB := Lib.hid hb
        clear hb hm hl hp ha hq hg
        refine (DMessage_is A c _ ls D y O x 0 _ (HT.out.on HB.out) rfl Hm.out HW.out hm' HF.out (by omega) (by omega) HV2.out).mono ?_
        rintro r w10 ⟨v, rfl, ⟨A3, c3, E3, e3, hi3, rfl, -, hno⟩, hb⟩
        have fm := Hm.out.below hb (Nat.le_refl _)
        have fl := Hl.out.below hb
        have fp := Hp.out.on hb (Nat.le_refl _)
        have fa := Ha.out.below hb
        have fq := Hq.out.on hb (Nat.le_refl _)
        have fg := Hg.out.below hb
        have HB0 := Lib.hid (bel_on HB.out hb)
        clear hb Hm Hl Hp Ha Hq Hg HB
        have HB := HB0
        clear HB0
        have Hm := Lib.hid fm
        clear fm
        have Hl := Lib.hid fl
        clear fl
        have Hp := Lib.hid fp
        clear fp
        have Ha := Lib.hid fa
        clear fa
        have Hq := Lib.hid fq
        clear fq
        have Hg := Lib.hid fg
        clear fg
        have hn := hno.nd
        clear hno
        have Hr := Lib.hid hn
        clear hn
        obtain ⟨xa, ya, za⟩ := (Ha.out.alloc (.cells #[.int .i64 x.k, .int .i64 x.e, .int .i64 x.n, .slice A3 x.d.length c3, .slice E3 x.ks.length e3] 30))
        obtain ⟨xg, yg, zg⟩ := (Hg.out.alloc (.cells #[.int .i64 x.k, .int .i64 x.e, .int .i64 x.n, .slice A3 x.d.length c3, .slice E3 x.ks.length e3] 30))
        go_wp2_with fail
        refine abs_world (F := fun W => Sg W A ls ∧ Blk W w.heap.size #[.int .i64 D, .int .i64 X, .int .i64 O] ∧ NdR W A1 c1 E1 e1 x ∧ Blk W w4.heap.size #[.int .i64 x.k, .int .i64 x.e, .int .i64 x.n, .slice A1 x.d.length c1, .slice E1 x.ks.length e1] ∧ NdR W A2 c2 E2 e2 x ∧ Blk W w8.heap.size #[.int .i64 x.k, .int .i64 x.e, .int .i64 x.n, .slice A2 x.d.length c2, .slice E2 x.ks.length e2] ∧ NdR W A3 c3 E3 e3 x ∧ Blk W w10.heap.size #[.int .i64 x.k, .int .i64 x.e, .int .i64 x.n, .slice A3 x.d.length c3, .slice E3 x.ks.length e3] ∧ Below w.heap.size w W) ⟨?_, ?_, ?_, ?_, ?_, ?_, ?_, ?_, ?_⟩ ?_
        · exact (Hm.out.alloc _)
        · exact (Hl.out.alloc _)
        · exact (NdR.on Hp.out ((Below.refl _ _).alloc (Nat.le_refl _) _) (Nat.le_refl _))
        · exact (Ha.out.alloc _)
        · exact (NdR.on Hq.out ((Below.refl _ _).alloc (Nat.le_refl _) _) (Nat.le_refl _))
        · exact (Hg.out.alloc _)
        · exact (NdR.on Hr.out ((Below.refl _ _).alloc (Nat.le_refl _) _) (Nat.le_refl _))
        · exact Blk.fresh _ _ _
        · exact (HB.out.alloc (by first | exact Nat.le_refl _ | (have := HB.out.size; simp; omega) | (have := HB.out.size; omega) | (simp; done) | (simp; omega)) _)
        clear Hm Hl Hp Ha Hq Hg Hr HB xa ya za xg yg zg
        rintro W11 ⟨hm, hl, hp, ha, hq, hg, hr, hk, hb⟩
        have Hm := Lib.hid hm
        have Hl := Lib.hid hl
        have Hp := Lib.hid hp
        have Ha := Lib.hid ha
        have Hq := Lib.hid hq
        have Hg := Lib.hid hg
        have Hr := Lib.hid hr
        have Hk := Lib.hid hk
        have HB := Lib.hid hb
        clear hb hm hl hp ha hq hg hr hk
        refine (RefEqual_12 x x A2 c2 E2 e2 A1 c1 E1 e1 true _ Hq.out Hp.out (by simp [eqN])).mono ?_
        rintro r w12 ⟨rfl, hb⟩
        have fm := Hm.out.below hb (Nat.le_refl _)
        have fl := Hl.out.below hb
        have fp := Hp.out.on hb (Nat.le_refl _)
        have fa := Ha.out.below hb
        have fq := Hq.out.on hb (Nat.le_refl _)
        have fg := Hg.out.below hb
        have fr := Hr.out.on hb (Nat.le_refl _)
        have fk := Hk.out.below hb
        have HB0 := Lib.hid (bel_on HB.out hb)
        clear hb Hm Hl Hp Ha Hq Hg Hr Hk HB
        have HB := HB0
        clear HB0
        have Hm := Lib.hid fm
        clear fm
        have Hl := Lib.hid fl
        clear fl
        have Hp := Lib.hid fp
        clear fp
        have Ha := Lib.hid fa
        clear fa
        have Hq := Lib.hid fq
        clear fq
        have Hg := Lib.hid fg
        clear fg
        have Hr := Lib.hid fr
        clear fr
        have Hk := Lib.hid fk
        clear fk
        obtain ⟨xa, ya, za⟩ := Ha.out
        obtain ⟨xk, yk, zk⟩ := Hk.out
        go_wp2_with fail
        clear xa ya za xk yk zk
        refine (RefEqual_12 x x A3 c3 E3 e3 A1 c1 E1 e1 true _ Hr.out Hp.out (by simp [eqN])).mono ?_
        rintro r w13 ⟨rfl, hb⟩
        have fm := Hm.out.below hb (Nat.le_refl _)
        have fl := Hl.out.below hb
        have fp := Hp.out.on hb (Nat.le_refl _)
        have fa := Ha.out.below hb
        have fq := Hq.out.on hb (Nat.le_refl _)
        have fg := Hg.out.below hb
        have fr := Hr.out.on hb (Nat.le_refl _)
        have fk := Hk.out.below hb
        have HB0 := Lib.hid (bel_on HB.out hb)
        clear hb Hm Hl Hp Ha Hq Hg Hr Hk HB
        have HB := HB0
        clear HB0
        have Hm := Lib.hid fm
        clear fm
        have Hl := Lib.hid fl
        clear fl
        have Hp := Lib.hid fp
        clear fp
        have Ha := Lib.hid fa
        clear fa
        have Hq := Lib.hid fq
        clear fq
        have Hg := Lib.hid fg
        clear fg
        have Hr := Lib.hid fr
        clear fr
        have Hk := Lib.hid fk
        clear fk
        clear Hq
        clear Hg
        clear Hr
        clear Hk
        clear Hp
        clear Ha
        by_cases hy : y = 0
        · have t9 : (y == 0) = true := by simpa using hy
          clear hy
          go_wp2
          go_ret
          exact ⟨rfl, HB.out⟩
        · have t9 : (y == 0) = false := by simpa using hy
          obtain ⟨z, hz⟩ : ∃ z, msgV ls D (y - 1) = (z, 8) := ⟨_, Prod.ext rfl (HV3.out hy)⟩
          have HV4 := Lib.hid hz
          clear hz hy
          obtain ⟨xl, yl, zl⟩ := Hl.out
          go_wp2_with fail
          refine abs_world (F := fun W => Sg W A ls ∧ Blk W w.heap.size #[.int .i64 D, .int .i64 X, .int .i64 O] ∧ Below w.heap.size w W) ⟨?_, ?_, ?_⟩ ?_
          · exact (Hm.out.alloc _)
          · exact (Hl.out.alloc _)
          · exact (HB.out.alloc (by first | exact Nat.le_refl _ | (have := HB.out.size; simp; omega) | (have := HB.out.size; omega) | (simp; done) | (simp; omega)) _)
          clear Hm Hl HB xl yl zl
          rintro W14 ⟨hm, hl, hb⟩
          have Hm := Lib.hid hm
          have Hl := Lib.hid hl
          have HB := Lib.hid hb
          clear hb hm hl
          refine (DMessage_is A c _ ls D (y - 1) O z 8 _ (HT.out.on HB.out) rfl Hm.out HW.out hm' HF.out (by omega) (by omega) HV4.out).mono ?_
          rintro r w15 ⟨v, rfl, ⟨A4, c4, E4, e4, hi4, rfl, -, -⟩, hb⟩
          have fm := Hm.out.below hb (Nat.le_refl _)
          have fl := Hl.out.below hb
          have HB0 := Lib.hid (bel_on HB.out hb)
          clear hb Hm Hl HB
          have HB := HB0
          clear HB0
          have Hm := Lib.hid fm
          clear fm
          have Hl := Lib.hid fl
          clear fl
          go_wp2
          go_ret
          exact ⟨rfl, HB.out.alloc HB.out.size _⟩
      · skip
        have HVB : Hid (msgV ls (dd) (X + ww) = (x, 0)) := Lib.hid (by have h := HV1.out; rwa [show max D 0 + dd = dd by omega, show max X 0 + ww = X + ww by omega] at h)
        refine abs_world (F := fun W => Sg W A ls ∧ Blk W w.heap.size #[.int .i64 D, .int .i64 X, .int .i64 O] ∧ NdR W A1 c1 E1 e1 x ∧ Blk W w4.heap.size #[.int .i64 x.k, .int .i64 x.e, .int .i64 x.n, .slice A1 x.d.length c1, .slice E1 x.ks.length e1] ∧ Below w.heap.size w W) ⟨?_, ?_, ?_, ?_, ?_⟩ ?_
        · exact (Hm.out.alloc _)
        · exact (Hl.out.alloc _)
        · exact (NdR.on Hp.out ((Below.refl _ _).alloc (Nat.le_refl _) _) (Nat.le_refl _))
        · exact (Ha.out.alloc _)
        · exact (HB.out.alloc (by first | exact Nat.le_refl _ | (have := HB.out.size; simp; omega) | (have := HB.out.size; omega) | (simp; done) | (simp; omega)) _)
        clear Hm Hl Hp Ha HB xl yl zl xa ya za
        rintro W7 ⟨hm, hl, hp, ha, hb⟩
        have Hm := Lib.hid hm
        have Hl := Lib.hid hl
        have Hp := Lib.hid hp
        have Ha := Lib.hid ha
        have HB := Lib.hid hb
        clear hb hm hl hp ha
        refine (DMessage_is A c _ ls (dd) (X + ww) O x 0 _ (HT.out.on HB.out) rfl Hm.out HW.out hm' HF.out (by omega) (by omega) HVB.out).mono ?_
        rintro r w8 ⟨v, rfl, ⟨A2, c2, E2, e2, hi2, rfl, -, hno⟩, hb⟩
        have fm := Hm.out.below hb (Nat.le_refl _)
        have fl := Hl.out.below hb
        have fp := Hp.out.on hb (Nat.le_refl _)
        have fa := Ha.out.below hb
        have HB0 := Lib.hid (bel_on HB.out hb)
        clear hb Hm Hl Hp Ha HB
        have HB := HB0
        clear HB0
        have Hm := Lib.hid fm
        clear fm
        have Hl := Lib.hid fl
        clear fl
        have Hp := Lib.hid fp
        clear fp
        have Ha := Lib.hid fa
        clear fa
        have hn := hno.nd
        clear hno
        have Hq := Lib.hid hn
        clear hn
        obtain ⟨xl, yl, zl⟩ := (Hl.out.alloc (.cells #[.int .i64 x.k, .int .i64 x.e, .int .i64 x.n, .slice A2 x.d.length c2, .slice E2 x.ks.length e2] 30))
        go_wp2_with fail
        refine abs_world (F := fun W => Sg W A ls ∧ Blk W w.heap.size #[.int .i64 D, .int .i64 X, .int .i64 O] ∧ NdR W A1 c1 E1 e1 x ∧ Blk W w4.heap.size #[.int .i64 x.k, .int .i64 x.e, .int .i64 x.n, .slice A1 x.d.length c1, .slice E1 x.ks.length e1] ∧ NdR W A2 c2 E2 e2 x ∧ Blk W w8.heap.size #[.int .i64 x.k, .int .i64 x.e, .int .i64 x.n, .slice A2 x.d.length c2, .slice E2 x.ks.length e2] ∧ Below w.heap.size w W) ⟨?_, ?_, ?_, ?_, ?_, ?_, ?_⟩ ?_
        · exact ((Hm.out.alloc _).alloc _)
        · exact ((Hl.out.alloc _).alloc _)
        · exact (NdR.on (NdR.on Hp.out ((Below.refl _ _).alloc (Nat.le_refl _) _) (Nat.le_refl _)) ((Below.refl _ _).alloc (Nat.le_refl _) _) (Nat.le_refl _))
        · exact ((Ha.out.alloc _).alloc _)
        · exact (NdR.on (NdR.on Hq.out ((Below.refl _ _).alloc (Nat.le_refl _) _) (Nat.le_refl _)) ((Below.refl _ _).alloc (Nat.le_refl _) _) (Nat.le_refl _))
        · exact (Blk.fresh _ _ _).alloc _
        · exact ((HB.out.alloc (by first | exact Nat.le_refl _ | (have := HB.out.size; simp; omega) | (have := HB.out.size; omega) | (simp; done) | (simp; omega)) _).alloc (by first | exact Nat.le_refl _ | (have := HB.out.size; simp; omega) | (have := HB.out.size; omega) | (simp; done) | (simp; omega)) _)
        clear Hm Hl Hp Ha Hq HB xl yl zl
        rintro W9 ⟨hm, hl, hp, ha, hq, hg, hb⟩
        have Hm := Lib.hid hm
        have Hl := Lib.hid hl
        have Hp := Lib.hid hp
        have Ha := Lib.hid ha
        have Hq := Lib.hid hq
        have Hg := Lib.hid hg
        have HB := Lib.hid hb
        clear hb hm hl hp ha hq hg
        refine (DMessage_is A c _ ls D y O x 0 _ (HT.out.on HB.out) rfl Hm.out HW.out hm' HF.out (by omega) (by omega) HV2.out).mono ?_
        rintro r w10 ⟨v, rfl, ⟨A3, c3, E3, e3, hi3, rfl, -, hno⟩, hb⟩
        have fm := Hm.out.below hb (Nat.le_refl _)
        have fl := Hl.out.below hb
        have fp := Hp.out.on hb (Nat.le_refl _)
        have fa := Ha.out.below hb
        have fq := Hq.out.on hb (Nat.le_refl _)
        have fg := Hg.out.below hb
        have HB0 := Lib.hid (bel_on HB.out hb)
        clear hb Hm Hl Hp Ha Hq Hg HB
        have HB := HB0
        clear HB0
        have Hm := Lib.hid fm
        clear fm
        have Hl := Lib.hid fl
        clear fl
        have Hp := Lib.hid fp
        clear fp
        have Ha := Lib.hid fa
        clear fa
        have Hq := Lib.hid fq
        clear fq
        have Hg := Lib.hid fg
        clear fg
        have hn := hno.nd
        clear hno
        have Hr := Lib.hid hn
        clear hn
        obtain ⟨xa, ya, za⟩ := (Ha.out.alloc (.cells #[.int .i64 x.k, .int .i64 x.e, .int .i64 x.n, .slice A3 x.d.length c3, .slice E3 x.ks.length e3] 30))
        obtain ⟨xg, yg, zg⟩ := (Hg.out.alloc (.cells #[.int .i64 x.k, .int .i64 x.e, .int .i64 x.n, .slice A3 x.d.length c3, .slice E3 x.ks.length e3] 30))
        go_wp2_with fail
        refine abs_world (F := fun W => Sg W A ls ∧ Blk W w.heap.size #[.int .i64 D, .int .i64 X, .int .i64 O] ∧ NdR W A1 c1 E1 e1 x ∧ Blk W w4.heap.size #[.int .i64 x.k, .int .i64 x.e, .int .i64 x.n, .slice A1 x.d.length c1, .slice E1 x.ks.length e1] ∧ NdR W A2 c2 E2 e2 x ∧ Blk W w8.heap.size #[.int .i64 x.k, .int .i64 x.e, .int .i64 x.n, .slice A2 x.d.length c2, .slice E2 x.ks.length e2] ∧ NdR W A3 c3 E3 e3 x ∧ Blk W w10.heap.size #[.int .i64 x.k, .int .i64 x.e, .int .i64 x.n, .slice A3 x.d.length c3, .slice E3 x.ks.length e3] ∧ Below w.heap.size w W) ⟨?_, ?_, ?_, ?_, ?_, ?_, ?_, ?_, ?_⟩ ?_
        · exact (Hm.out.alloc _)
        · exact (Hl.out.alloc _)
        · exact (NdR.on Hp.out ((Below.refl _ _).alloc (Nat.le_refl _) _) (Nat.le_refl _))
        · exact (Ha.out.alloc _)
        · exact (NdR.on Hq.out ((Below.refl _ _).alloc (Nat.le_refl _) _) (Nat.le_refl _))
        · exact (Hg.out.alloc _)
        · exact (NdR.on Hr.out ((Below.refl _ _).alloc (Nat.le_refl _) _) (Nat.le_refl _))
        · exact Blk.fresh _ _ _
        · exact (HB.out.alloc (by first | exact Nat.le_refl _ | (have := HB.out.size; simp; omega) | (have := HB.out.size; omega) | (simp; done) | (simp; omega)) _)
        clear Hm Hl Hp Ha Hq Hg Hr HB xa ya za xg yg zg
        rintro W11 ⟨hm, hl, hp, ha, hq, hg, hr, hk, hb⟩
        have Hm := Lib.hid hm
        have Hl := Lib.hid hl
        have Hp := Lib.hid hp
        have Ha := Lib.hid ha
        have Hq := Lib.hid hq
        have Hg := Lib.hid hg
        have Hr := Lib.hid hr
        have Hk := Lib.hid hk
        have HB := Lib.hid hb
        clear hb hm hl hp ha hq hg hr hk
        refine (RefEqual_12 x x A2 c2 E2 e2 A1 c1 E1 e1 true _ Hq.out Hp.out (by simp [eqN])).mono ?_
        rintro r w12 ⟨rfl, hb⟩
        have fm := Hm.out.below hb (Nat.le_refl _)
        have fl := Hl.out.below hb
        have fp := Hp.out.on hb (Nat.le_refl _)
        have fa := Ha.out.below hb
        have fq := Hq.out.on hb (Nat.le_refl _)
        have fg := Hg.out.below hb
        have fr := Hr.out.on hb (Nat.le_refl _)
        have fk := Hk.out.below hb
        have HB0 := Lib.hid (bel_on HB.out hb)
        clear hb Hm Hl Hp Ha Hq Hg Hr Hk HB
        have HB := HB0
        clear HB0
        have Hm := Lib.hid fm
        clear fm
        have Hl := Lib.hid fl
        clear fl
        have Hp := Lib.hid fp
        clear fp
        have Ha := Lib.hid fa
        clear fa
        have Hq := Lib.hid fq
        clear fq
        have Hg := Lib.hid fg
        clear fg
        have Hr := Lib.hid fr
        clear fr
        have Hk := Lib.hid fk
        clear fk
        obtain ⟨xa, ya, za⟩ := Ha.out
        obtain ⟨xk, yk, zk⟩ := Hk.out
        go_wp2_with fail
        clear xa ya za xk yk zk
        refine (RefEqual_12 x x A3 c3 E3 e3 A1 c1 E1 e1 true _ Hr.out Hp.out (by simp [eqN])).mono ?_
        rintro r w13 ⟨rfl, hb⟩
        have fm := Hm.out.below hb (Nat.le_refl _)
        have fl := Hl.out.below hb
        have fp := Hp.out.on hb (Nat.le_refl _)
        have fa := Ha.out.below hb
        have fq := Hq.out.on hb (Nat.le_refl _)
        have fg := Hg.out.below hb
        have fr := Hr.out.on hb (Nat.le_refl _)
        have fk := Hk.out.below hb
        have HB0 := Lib.hid (bel_on HB.out hb)
        clear hb Hm Hl Hp Ha Hq Hg Hr Hk HB
        have HB := HB0
        clear HB0
        have Hm := Lib.hid fm
        clear fm
        have Hl := Lib.hid fl
        clear fl
        have Hp := Lib.hid fp
        clear fp
        have Ha := Lib.hid fa
        clear fa
        have Hq := Lib.hid fq
        clear fq
        have Hg := Lib.hid fg
        clear fg
        have Hr := Lib.hid fr
        clear fr
        have Hk := Lib.hid fk
        clear fk
        clear Hq
        clear Hg
        clear Hr
        clear Hk
        clear Hp
        clear Ha
        by_cases hy : y = 0
        · have t9 : (y == 0) = true := by simpa using hy
          clear hy
          go_wp2
          go_ret
          exact ⟨rfl, HB.out⟩
        · have t9 : (y == 0) = false := by simpa using hy
          obtain ⟨z, hz⟩ : ∃ z, msgV ls D (y - 1) = (z, 8) := ⟨_, Prod.ext rfl (HV3.out hy)⟩
          have HV4 := Lib.hid hz
          clear hz hy
          obtain ⟨xl, yl, zl⟩ := Hl.out
          go_wp2_with fail
          refine abs_world (F := fun W => Sg W A ls ∧ Blk W w.heap.size #[.int .i64 D, .int .i64 X, .int .i64 O] ∧ Below w.heap.size w W) ⟨?_, ?_, ?_⟩ ?_
          · exact (Hm.out.alloc _)
          · exact (Hl.out.alloc _)
          · exact (HB.out.alloc (by first | exact Nat.le_refl _ | (have := HB.out.size; simp; omega) | (have := HB.out.size; omega) | (simp; done) | (simp; omega)) _)
          clear Hm Hl HB xl yl zl
          rintro W14 ⟨hm, hl, hb⟩
          have Hm := Lib.hid hm
          have Hl := Lib.hid hl
          have HB := Lib.hid hb
          clear hb hm hl
          refine (DMessage_is A c _ ls D (y - 1) O z 8 _ (HT.out.on HB.out) rfl Hm.out HW.out hm' HF.out (by omega) (by omega) HV4.out).mono ?_
          rintro r w15 ⟨v, rfl, ⟨A4, c4, E4, e4, hi4, rfl, -, -⟩, hb⟩
          have fm := Hm.out.below hb (Nat.le_refl _)
          have fl := Hl.out.below hb
          have HB0 := Lib.hid (bel_on HB.out hb)
          clear hb Hm Hl HB
          have HB := HB0
          clear HB0
          have Hm := Lib.hid fm
          clear fm
          have Hl := Lib.hid fl
          clear fl
          go_wp2
          go_ret
          exact ⟨rfl, HB.out.alloc HB.out.size _⟩
      · skip
        have HVB : Hid (msgV ls (D + dd) (ww) = (x, 0)) := Lib.hid (by have h := HV1.out; rwa [show max D 0 + dd = D + dd by omega, show max X 0 + ww = ww by omega] at h)
        refine abs_world (F := fun W => Sg W A ls ∧ Blk W w.heap.size #[.int .i64 D, .int .i64 X, .int .i64 O] ∧ NdR W A1 c1 E1 e1 x ∧ Blk W w4.heap.size #[.int .i64 x.k, .int .i64 x.e, .int .i64 x.n, .slice A1 x.d.length c1, .slice E1 x.ks.length e1] ∧ Below w.heap.size w W) ⟨?_, ?_, ?_, ?_, ?_⟩ ?_
        · exact (Hm.out.alloc _)
        · exact (Hl.out.alloc _)
        · exact (NdR.on Hp.out ((Below.refl _ _).alloc (Nat.le_refl _) _) (Nat.le_refl _))
        · exact (Ha.out.alloc _)
        · exact (HB.out.alloc (by first | exact Nat.le_refl _ | (have := HB.out.size; simp; omega) | (have := HB.out.size; omega) | (simp; done) | (simp; omega)) _)
        clear Hm Hl Hp Ha HB xl yl zl xa ya za
        rintro W7 ⟨hm, hl, hp, ha, hb⟩
        have Hm := Lib.hid hm
        have Hl := Lib.hid hl
        have Hp := Lib.hid hp
        have Ha := Lib.hid ha
        have HB := Lib.hid hb
        clear hb hm hl hp ha
        refine (DMessage_is A c _ ls (D + dd) (ww) O x 0 _ (HT.out.on HB.out) rfl Hm.out HW.out hm' HF.out (by omega) (by omega) HVB.out).mono ?_
        rintro r w8 ⟨v, rfl, ⟨A2, c2, E2, e2, hi2, rfl, -, hno⟩, hb⟩
        have fm := Hm.out.below hb (Nat.le_refl _)
        have fl := Hl.out.below hb
        have fp := Hp.out.on hb (Nat.le_refl _)
        have fa := Ha.out.below hb
        have HB0 := Lib.hid (bel_on HB.out hb)
        clear hb Hm Hl Hp Ha HB
        have HB := HB0
        clear HB0
        have Hm := Lib.hid fm
        clear fm
        have Hl := Lib.hid fl
        clear fl
        have Hp := Lib.hid fp
        clear fp
        have Ha := Lib.hid fa
        clear fa
        have hn := hno.nd
        clear hno
        have Hq := Lib.hid hn
        clear hn
        obtain ⟨xl, yl, zl⟩ := (Hl.out.alloc (.cells #[.int .i64 x.k, .int .i64 x.e, .int .i64 x.n, .slice A2 x.d.length c2, .slice E2 x.ks.length e2] 30))
        go_wp2_with fail
        refine abs_world (F := fun W => Sg W A ls ∧ Blk W w.heap.size #[.int .i64 D, .int .i64 X, .int .i64 O] ∧ NdR W A1 c1 E1 e1 x ∧ Blk W w4.heap.size #[.int .i64 x.k, .int .i64 x.e, .int .i64 x.n, .slice A1 x.d.length c1, .slice E1 x.ks.length e1] ∧ NdR W A2 c2 E2 e2 x ∧ Blk W w8.heap.size #[.int .i64 x.k, .int .i64 x.e, .int .i64 x.n, .slice A2 x.d.length c2, .slice E2 x.ks.length e2] ∧ Below w.heap.size w W) ⟨?_, ?_, ?_, ?_, ?_, ?_, ?_⟩ ?_
        · exact ((Hm.out.alloc _).alloc _)
        · exact ((Hl.out.alloc _).alloc _)
        · exact (NdR.on (NdR.on Hp.out ((Below.refl _ _).alloc (Nat.le_refl _) _) (Nat.le_refl _)) ((Below.refl _ _).alloc (Nat.le_refl _) _) (Nat.le_refl _))
        · exact ((Ha.out.alloc _).alloc _)
        · exact (NdR.on (NdR.on Hq.out ((Below.refl _ _).alloc (Nat.le_refl _) _) (Nat.le_refl _)) ((Below.refl _ _).alloc (Nat.le_refl _) _) (Nat.le_refl _))
        · exact (Blk.fresh _ _ _).alloc _
        · exact ((HB.out.alloc (by first | exact Nat.le_refl _ | (have := HB.out.size; simp; omega) | (have := HB.out.size; omega) | (simp; done) | (simp; omega)) _).alloc (by first | exact Nat.le_refl _ | (have := HB.out.size; simp; omega) | (have := HB.out.size; omega) | (simp; done) | (simp; omega)) _)
        clear Hm Hl Hp Ha Hq HB xl yl zl
        rintro W9 ⟨hm, hl, hp, ha, hq, hg, hb⟩
        have Hm := Lib.hid hm
        have Hl := Lib.hid hl
        have Hp := Lib.hid hp
        have Ha := Lib.hid ha
        have Hq := Lib.hid hq
        have Hg := Lib.hid hg
        have HB := Lib.hid hb
        clear hb hm hl hp ha hq hg
        refine (DMessage_is A c _ ls D y O x 0 _ (HT.out.on HB.out) rfl Hm.out HW.out hm' HF.out (by omega) (by omega) HV2.out).mono ?_
        rintro r w10 ⟨v, rfl, ⟨A3, c3, E3, e3, hi3, rfl, -, hno⟩, hb⟩
        have fm := Hm.out.below hb (Nat.le_refl _)
        have fl := Hl.out.below hb
        have fp := Hp.out.on hb (Nat.le_refl _)
        have fa := Ha.out.below hb
        have fq := Hq.out.on hb (Nat.le_refl _)
        have fg := Hg.out.below hb
        have HB0 := Lib.hid (bel_on HB.out hb)
        clear hb Hm Hl Hp Ha Hq Hg HB
        have HB := HB0
        clear HB0
        have Hm := Lib.hid fm
        clear fm
        have Hl := Lib.hid fl
        clear fl
        have Hp := Lib.hid fp
        clear fp
        have Ha := Lib.hid fa
        clear fa
        have Hq := Lib.hid fq
        clear fq
        have Hg := Lib.hid fg
        clear fg
        have hn := hno.nd
        clear hno
        have Hr := Lib.hid hn
        clear hn
        obtain ⟨xa, ya, za⟩ := (Ha.out.alloc (.cells #[.int .i64 x.k, .int .i64 x.e, .int .i64 x.n, .slice A3 x.d.length c3, .slice E3 x.ks.length e3] 30))
        obtain ⟨xg, yg, zg⟩ := (Hg.out.alloc (.cells #[.int .i64 x.k, .int .i64 x.e, .int .i64 x.n, .slice A3 x.d.length c3, .slice E3 x.ks.length e3] 30))
        go_wp2_with fail
        refine abs_world (F := fun W => Sg W A ls ∧ Blk W w.heap.size #[.int .i64 D, .int .i64 X, .int .i64 O] ∧ NdR W A1 c1 E1 e1 x ∧ Blk W w4.heap.size #[.int .i64 x.k, .int .i64 x.e, .int .i64 x.n, .slice A1 x.d.length c1, .slice E1 x.ks.length e1] ∧ NdR W A2 c2 E2 e2 x ∧ Blk W w8.heap.size #[.int .i64 x.k, .int .i64 x.e, .int .i64 x.n, .slice A2 x.d.length c2, .slice E2 x.ks.length e2] ∧ NdR W A3 c3 E3 e3 x ∧ Blk W w10.heap.size #[.int .i64 x.k, .int .i64 x.e, .int .i64 x.n, .slice A3 x.d.length c3, .slice E3 x.ks.length e3] ∧ Below w.heap.size w W) ⟨?_, ?_, ?_, ?_, ?_, ?_, ?_, ?_, ?_⟩ ?_
        · exact (Hm.out.alloc _)
        · exact (Hl.out.alloc _)
        · exact (NdR.on Hp.out ((Below.refl _ _).alloc (Nat.le_refl _) _) (Nat.le_refl _))
        · exact (Ha.out.alloc _)
        · exact (NdR.on Hq.out ((Below.refl _ _).alloc (Nat.le_refl _) _) (Nat.le_refl _))
        · exact (Hg.out.alloc _)
        · exact (NdR.on Hr.out ((Below.refl _ _).alloc (Nat.le_refl _) _) (Nat.le_refl _))
        · exact Blk.fresh _ _ _
        · exact (HB.out.alloc (by first | exact Nat.le_refl _ | (have := HB.out.size; simp; omega) | (have := HB.out.size; omega) | (simp; done) | (simp; omega)) _)
        clear Hm Hl Hp Ha Hq Hg Hr HB xa ya za xg yg zg
        rintro W11 ⟨hm, hl, hp, ha, hq, hg, hr, hk, hb⟩
        have Hm := Lib.hid hm
        have Hl := Lib.hid hl
        have Hp := Lib.hid hp
        have Ha := Lib.hid ha
        have Hq := Lib.hid hq
        have Hg := Lib.hid hg
        have Hr := Lib.hid hr
        have Hk := Lib.hid hk
        have HB := Lib.hid hb
        clear hb hm hl hp ha hq hg hr hk
        refine (RefEqual_12 x x A2 c2 E2 e2 A1 c1 E1 e1 true _ Hq.out Hp.out (by simp [eqN])).mono ?_
        rintro r w12 ⟨rfl, hb⟩
        have fm := Hm.out.below hb (Nat.le_refl _)
        have fl := Hl.out.below hb
        have fp := Hp.out.on hb (Nat.le_refl _)
        have fa := Ha.out.below hb
        have fq := Hq.out.on hb (Nat.le_refl _)
        have fg := Hg.out.below hb
        have fr := Hr.out.on hb (Nat.le_refl _)
        have fk := Hk.out.below hb
        have HB0 := Lib.hid (bel_on HB.out hb)
        clear hb Hm Hl Hp Ha Hq Hg Hr Hk HB
        have HB := HB0
        clear HB0
        have Hm := Lib.hid fm
        clear fm
        have Hl := Lib.hid fl
        clear fl
        have Hp := Lib.hid fp
        clear fp
        have Ha := Lib.hid fa
        clear fa
        have Hq := Lib.hid fq
        clear fq
        have Hg := Lib.hid fg
        clear fg
        have Hr := Lib.hid fr
        clear fr
        have Hk := Lib.hid fk
        clear fk
        obtain ⟨xa, ya, za⟩ := Ha.out
        obtain ⟨xk, yk, zk⟩ := Hk.out
        go_wp2_with fail
        clear xa ya za xk yk zk
        refine (RefEqual_12 x x A3 c3 E3 e3 A1 c1 E1 e1 true _ Hr.out Hp.out (by simp [eqN])).mono ?_
        rintro r w13 ⟨rfl, hb⟩
        have fm := Hm.out.below hb (Nat.le_refl _)
        have fl := Hl.out.below hb
        have fp := Hp.out.on hb (Nat.le_refl _)
        have fa := Ha.out.below hb
        have fq := Hq.out.on hb (Nat.le_refl _)
        have fg := Hg.out.below hb
        have fr := Hr.out.on hb (Nat.le_refl _)
        have fk := Hk.out.below hb
        have HB0 := Lib.hid (bel_on HB.out hb)
        clear hb Hm Hl Hp Ha Hq Hg Hr Hk HB
        have HB := HB0
        clear HB0
        have Hm := Lib.hid fm
        clear fm
        have Hl := Lib.hid fl
        clear fl
        have Hp := Lib.hid fp
        clear fp
        have Ha := Lib.hid fa
        clear fa
        have Hq := Lib.hid fq
        clear fq
        have Hg := Lib.hid fg
        clear fg
        have Hr := Lib.hid fr
        clear fr
        have Hk := Lib.hid fk
        clear fk
        clear Hq
        clear Hg
        clear Hr
        clear Hk
        clear Hp
        clear Ha
        by_cases hy : y = 0
        · have t9 : (y == 0) = true := by simpa using hy
          clear hy
          go_wp2
          go_ret
          exact ⟨rfl, HB.out⟩
        · have t9 : (y == 0) = false := by simpa using hy
          obtain ⟨z, hz⟩ : ∃ z, msgV ls D (y - 1) = (z, 8) := ⟨_, Prod.ext rfl (HV3.out hy)⟩
          have HV4 := Lib.hid hz
          clear hz hy
          obtain ⟨xl, yl, zl⟩ := Hl.out
          go_wp2_with fail
          refine abs_world (F := fun W => Sg W A ls ∧ Blk W w.heap.size #[.int .i64 D, .int .i64 X, .int .i64 O] ∧ Below w.heap.size w W) ⟨?_, ?_, ?_⟩ ?_
          · exact (Hm.out.alloc _)
          · exact (Hl.out.alloc _)
          · exact (HB.out.alloc (by first | exact Nat.le_refl _ | (have := HB.out.size; simp; omega) | (have := HB.out.size; omega) | (simp; done) | (simp; omega)) _)
          clear Hm Hl HB xl yl zl
          rintro W14 ⟨hm, hl, hb⟩
          have Hm := Lib.hid hm
          have Hl := Lib.hid hl
          have HB := Lib.hid hb
          clear hb hm hl
          refine (DMessage_is A c _ ls D (y - 1) O z 8 _ (HT.out.on HB.out) rfl Hm.out HW.out hm' HF.out (by omega) (by omega) HV4.out).mono ?_
          rintro r w15 ⟨v, rfl, ⟨A4, c4, E4, e4, hi4, rfl, -, -⟩, hb⟩
          have fm := Hm.out.below hb (Nat.le_refl _)
          have fl := Hl.out.below hb
          have HB0 := Lib.hid (bel_on HB.out hb)
          clear hb Hm Hl HB
          have HB := HB0
          clear HB0
          have Hm := Lib.hid fm
          clear fm
          have Hl := Lib.hid fl
          clear fl
          go_wp2
          go_ret
          exact ⟨rfl, HB.out.alloc HB.out.size _⟩
      · skip
        have HVB : Hid (msgV ls (D + dd) (X + ww) = (x, 0)) := Lib.hid (by have h := HV1.out; rwa [show max D 0 + dd = D + dd by omega, show max X 0 + ww = X + ww by omega] at h)
        refine abs_world (F := fun W => Sg W A ls ∧ Blk W w.heap.size #[.int .i64 D, .int .i64 X, .int .i64 O] ∧ NdR W A1 c1 E1 e1 x ∧ Blk W w4.heap.size #[.int .i64 x.k, .int .i64 x.e, .int .i64 x.n, .slice A1 x.d.length c1, .slice E1 x.ks.length e1] ∧ Below w.heap.size w W) ⟨?_, ?_, ?_, ?_, ?_⟩ ?_
        · exact (Hm.out.alloc _)
        · exact (Hl.out.alloc _)
        · exact (NdR.on Hp.out ((Below.refl _ _).alloc (Nat.le_refl _) _) (Nat.le_refl _))
        · exact (Ha.out.alloc _)
        · exact (HB.out.alloc (by first | exact Nat.le_refl _ | (have := HB.out.size; simp; omega) | (have := HB.out.size; omega) | (simp; done) | (simp; omega)) _)
        clear Hm Hl Hp Ha HB xl yl zl xa ya za
        rintro W7 ⟨hm, hl, hp, ha, hb⟩
        have Hm := Lib.hid hm
        have Hl := Lib.hid hl
        have Hp := Lib.hid hp
        have Ha := Lib.hid ha
        have HB := Lib.hid hb
        clear hb hm hl hp ha
        refine (DMessage_is A c _ ls (D + dd) (X + ww) O x 0 _ (HT.out.on HB.out) rfl Hm.out HW.out hm' HF.out (by omega) (by omega) HVB.out).mono ?_
        rintro r w8 ⟨v, rfl, ⟨A2, c2, E2, e2, hi2, rfl, -, hno⟩, hb⟩
        have fm := Hm.out.below hb (Nat.le_refl _)
        have fl := Hl.out.below hb
        have fp := Hp.out.on hb (Nat.le_refl _)
        have fa := Ha.out.below hb
        have HB0 := Lib.hid (bel_on HB.out hb)
        clear hb Hm Hl Hp Ha HB
        have HB := HB0
        clear HB0
        have Hm := Lib.hid fm
        clear fm
        have Hl := Lib.hid fl
        clear fl
        have Hp := Lib.hid fp
        clear fp
        have Ha := Lib.hid fa
        clear fa
        have hn := hno.nd
        clear hno
        have Hq := Lib.hid hn
        clear hn
        obtain ⟨xl, yl, zl⟩ := (Hl.out.alloc (.cells #[.int .i64 x.k, .int .i64 x.e, .int .i64 x.n, .slice A2 x.d.length c2, .slice E2 x.ks.length e2] 30))
        go_wp2_with fail
        refine abs_world (F := fun W => Sg W A ls ∧ Blk W w.heap.size #[.int .i64 D, .int .i64 X, .int .i64 O] ∧ NdR W A1 c1 E1 e1 x ∧ Blk W w4.heap.size #[.int .i64 x.k, .int .i64 x.e, .int .i64 x.n, .slice A1 x.d.length c1, .slice E1 x.ks.length e1] ∧ NdR W A2 c2 E2 e2 x ∧ Blk W w8.heap.size #[.int .i64 x.k, .int .i64 x.e, .int .i64 x.n, .slice A2 x.d.length c2, .slice E2 x.ks.length e2] ∧ Below w.heap.size w W) ⟨?_, ?_, ?_, ?_, ?_, ?_, ?_⟩ ?_
        · exact ((Hm.out.alloc _).alloc _)
        · exact ((Hl.out.alloc _).alloc _)
        · exact (NdR.on (NdR.on Hp.out ((Below.refl _ _).alloc (Nat.le_refl _) _) (Nat.le_refl _)) ((Below.refl _ _).alloc (Nat.le_refl _) _) (Nat.le_refl _))
        · exact ((Ha.out.alloc _).alloc _)
        · exact (NdR.on (NdR.on Hq.out ((Below.refl _ _).alloc (Nat.le_refl _) _) (Nat.le_refl _)) ((Below.refl _ _).alloc (Nat.le_refl _) _) (Nat.le_refl _))
        · exact (Blk.fresh _ _ _).alloc _
        · exact ((HB.out.alloc (by first | exact Nat.le_refl _ | (have := HB.out.size; simp; omega) | (have := HB.out.size; omega) | (simp; done) | (simp; omega)) _).alloc (by first | exact Nat.le_refl _ | (have := HB.out.size; simp; omega) | (have := HB.out.size; omega) | (simp; done) | (simp; omega)) _)
        clear Hm Hl Hp Ha Hq HB xl yl zl
        rintro W9 ⟨hm, hl, hp, ha, hq, hg, hb⟩
        have Hm := Lib.hid hm
        have Hl := Lib.hid hl
        have Hp := Lib.hid hp
        have Ha := Lib.hid ha
        have Hq := Lib.hid hq
        have Hg := Lib.hid hg
        have HB := Lib.hid hb
        clear hb hm hl hp ha hq hg
        refine (DMessage_is A c _ ls D y O x 0 _ (HT.out.on HB.out) rfl Hm.out HW.out hm' HF.out (by omega) (by omega) HV2.out).mono ?_
        rintro r w10 ⟨v, rfl, ⟨A3, c3, E3, e3, hi3, rfl, -, hno⟩, hb⟩
        have fm := Hm.out.below hb (Nat.le_refl _)
        have fl := Hl.out.below hb
        have fp := Hp.out.on hb (Nat.le_refl _)
        have fa := Ha.out.below hb
        have fq := Hq.out.on hb (Nat.le_refl _)
        have fg := Hg.out.below hb
        have HB0 := Lib.hid (bel_on HB.out hb)
        clear hb Hm Hl Hp Ha Hq Hg HB
        have HB := HB0
        clear HB0
        have Hm := Lib.hid fm
        clear fm
        have Hl := Lib.hid fl
        clear fl
        have Hp := Lib.hid fp
        clear fp
        have Ha := Lib.hid fa
        clear fa
        have Hq := Lib.hid fq
        clear fq
        have Hg := Lib.hid fg
        clear fg
        have hn := hno.nd
        clear hno
        have Hr := Lib.hid hn
        clear hn
        obtain ⟨xa, ya, za⟩ := (Ha.out.alloc (.cells #[.int .i64 x.k, .int .i64 x.e, .int .i64 x.n, .slice A3 x.d.length c3, .slice E3 x.ks.length e3] 30))
        obtain ⟨xg, yg, zg⟩ := (Hg.out.alloc (.cells #[.int .i64 x.k, .int .i64 x.e, .int .i64 x.n, .slice A3 x.d.length c3, .slice E3 x.ks.length e3] 30))
        go_wp2_with fail
        refine abs_world (F := fun W => Sg W A ls ∧ Blk W w.heap.size #[.int .i64 D, .int .i64 X, .int .i64 O] ∧ NdR W A1 c1 E1 e1 x ∧ Blk W w4.heap.size #[.int .i64 x.k, .int .i64 x.e, .int .i64 x.n, .slice A1 x.d.length c1, .slice E1 x.ks.length e1] ∧ NdR W A2 c2 E2 e2 x ∧ Blk W w8.heap.size #[.int .i64 x.k, .int .i64 x.e, .int .i64 x.n, .slice A2 x.d.length c2, .slice E2 x.ks.length e2] ∧ NdR W A3 c3 E3 e3 x ∧ Blk W w10.heap.size #[.int .i64 x.k, .int .i64 x.e, .int .i64 x.n, .slice A3 x.d.length c3, .slice E3 x.ks.length e3] ∧ Below w.heap.size w W) ⟨?_, ?_, ?_, ?_, ?_, ?_, ?_, ?_, ?_⟩ ?_
        · exact (Hm.out.alloc _)
        · exact (Hl.out.alloc _)
        · exact (NdR.on Hp.out ((Below.refl _ _).alloc (Nat.le_refl _) _) (Nat.le_refl _))
        · exact (Ha.out.alloc _)
        · exact (NdR.on Hq.out ((Below.refl _ _).alloc (Nat.le_refl _) _) (Nat.le_refl _))
        · exact (Hg.out.alloc _)
        · exact (NdR.on Hr.out ((Below.refl _ _).alloc (Nat.le_refl _) _) (Nat.le_refl _))
        · exact Blk.fresh _ _ _
        · exact (HB.out.alloc (by first | exact Nat.le_refl _ | (have := HB.out.size; simp; omega) | (have := HB.out.size; omega) | (simp; done) | (simp; omega)) _)
        clear Hm Hl Hp Ha Hq Hg Hr HB xa ya za xg yg zg
        rintro W11 ⟨hm, hl, hp, ha, hq, hg, hr, hk, hb⟩
        have Hm := Lib.hid hm
        have Hl := Lib.hid hl
        have Hp := Lib.hid hp
        have Ha := Lib.hid ha
        have Hq := Lib.hid hq
        have Hg := Lib.hid hg
        have Hr := Lib.hid hr
        have Hk := Lib.hid hk
        have HB := Lib.hid hb
        clear hb hm hl hp ha hq hg hr hk
        refine (RefEqual_12 x x A2 c2 E2 e2 A1 c1 E1 e1 true _ Hq.out Hp.out (by simp [eqN])).mono ?_
        rintro r w12 ⟨rfl, hb⟩
        have fm := Hm.out.below hb (Nat.le_refl _)
        have fl := Hl.out.below hb
        have fp := Hp.out.on hb (Nat.le_refl _)
        have fa := Ha.out.below hb
        have fq := Hq.out.on hb (Nat.le_refl _)
        have fg := Hg.out.below hb
        have fr := Hr.out.on hb (Nat.le_refl _)
        have fk := Hk.out.below hb
        have HB0 := Lib.hid (bel_on HB.out hb)
        clear hb Hm Hl Hp Ha Hq Hg Hr Hk HB
        have HB := HB0
        clear HB0
        have Hm := Lib.hid fm
        clear fm
        have Hl := Lib.hid fl
        clear fl
        have Hp := Lib.hid fp
        clear fp
        have Ha := Lib.hid fa
        clear fa
        have Hq := Lib.hid fq
        clear fq
        have Hg := Lib.hid fg
        clear fg
        have Hr := Lib.hid fr
        clear fr
        have Hk := Lib.hid fk
        clear fk
        obtain ⟨xa, ya, za⟩ := Ha.out
        obtain ⟨xk, yk, zk⟩ := Hk.out
        go_wp2_with fail
        clear xa ya za xk yk zk
        refine (RefEqual_12 x x A3 c3 E3 e3 A1 c1 E1 e1 true _ Hr.out Hp.out (by simp [eqN])).mono ?_
        rintro r w13 ⟨rfl, hb⟩
        have fm := Hm.out.below hb (Nat.le_refl _)
        have fl := Hl.out.below hb
        have fp := Hp.out.on hb (Nat.le_refl _)
        have fa := Ha.out.below hb
        have fq := Hq.out.on hb (Nat.le_refl _)
        have fg := Hg.out.below hb
        have fr := Hr.out.on hb (Nat.le_refl _)
        have fk := Hk.out.below hb
        have HB0 := Lib.hid (bel_on HB.out hb)
        clear hb Hm Hl Hp Ha Hq Hg Hr Hk HB
        have HB := HB0
        clear HB0
        have Hm := Lib.hid fm
        clear fm
        have Hl := Lib.hid fl
        clear fl
        have Hp := Lib.hid fp
        clear fp
        have Ha := Lib.hid fa
        clear fa
        have Hq := Lib.hid fq
        clear fq
        have Hg := Lib.hid fg
        clear fg
        have Hr := Lib.hid fr
        clear fr
        have Hk := Lib.hid fk
        clear fk
        clear Hq
        clear Hg
        clear Hr
        clear Hk
        clear Hp
        clear Ha
        by_cases hy : y = 0
        · have t9 : (y == 0) = true := by simpa using hy
          clear hy
          go_wp2
          go_ret
          exact ⟨rfl, HB.out⟩
        · have t9 : (y == 0) = false := by simpa using hy
          obtain ⟨z, hz⟩ : ∃ z, msgV ls D (y - 1) = (z, 8) := ⟨_, Prod.ext rfl (HV3.out hy)⟩
          have HV4 := Lib.hid hz
          clear hz hy
          obtain ⟨xl, yl, zl⟩ := Hl.out
          go_wp2_with fail
          refine abs_world (F := fun W => Sg W A ls ∧ Blk W w.heap.size #[.int .i64 D, .int .i64 X, .int .i64 O] ∧ Below w.heap.size w W) ⟨?_, ?_, ?_⟩ ?_
          · exact (Hm.out.alloc _)
          · exact (Hl.out.alloc _)
          · exact (HB.out.alloc (by first | exact Nat.le_refl _ | (have := HB.out.size; simp; omega) | (have := HB.out.size; omega) | (simp; done) | (simp; omega)) _)
          clear Hm Hl HB xl yl zl
          rintro W14 ⟨hm, hl, hb⟩
          have Hm := Lib.hid hm
          have Hl := Lib.hid hl
          have HB := Lib.hid hb
          clear hb hm hl
          refine (DMessage_is A c _ ls D (y - 1) O z 8 _ (HT.out.on HB.out) rfl Hm.out HW.out hm' HF.out (by omega) (by omega) HV4.out).mono ?_
          rintro r w15 ⟨v, rfl, ⟨A4, c4, E4, e4, hi4, rfl, -, -⟩, hb⟩
          have fm := Hm.out.below hb (Nat.le_refl _)
          have fl := Hl.out.below hb
          have HB0 := Lib.hid (bel_on HB.out hb)
          clear hb Hm Hl HB
          have HB := HB0
          clear HB0
          have Hm := Lib.hid fm
          clear fm
          have Hl := Lib.hid fl
          clear fl
          go_wp2
          go_ret
          exact ⟨rfl, HB.out.alloc HB.out.size _⟩
    · have t0 : (e != 0) = true := by simpa using he
      clear he
      go_wp2
      go_ret
      exact ⟨rfl, HB.out⟩
end Go.Proofs.YtnmanhediiooaaaDoor
