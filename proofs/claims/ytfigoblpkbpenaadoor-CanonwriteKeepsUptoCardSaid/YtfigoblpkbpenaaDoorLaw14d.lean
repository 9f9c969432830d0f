/- A law of layer 14: CanonwriteKeeps. -/
import Derived.Test.YtfigoblpkbpenaaDoorLaw14b
import Derived.Test.YtfigoblpkbpenaaDoorMg1
import Derived.Test.YtfigoblpkbpenaaDoorMg2
import Derived.Test.YtfigoblpkbpenaaDoorMg3
import Derived.Test.YtfigoblpkbpenaaDoorMg4
import Derived.Test.YtfigoblpkbpenaaDoorMg5
import Derived.Test.YtfigoblpkbpenaaDoorMg9
import Derived.Test.YtfigoblpkbpenaaDoorMg10
import Derived.Test.YtfigoblpkbpenaaDoorMg12
import Derived.Test.YtfigoblpkbpenaaDoorMg13
import Derived.Test.YtfigoblpkbpenaaDoorMg14
namespace Go.Proofs.YtfigoblpkbpenaaDoor
open Go.ChangeShapes Go.WideShapes Go.ChangeAt Go.RowKit
set_option linter.unusedVariables false
set_option linter.unusedSimpArgs false
set_option maxRecDepth 100000
attribute [local simp] AllK KnowsV look Is
attribute [local irreducible] validN fewN trimmedN canN canO rightN sizeN targN canK writeF objW objK bodyN
set_option maxHeartbeats 4000000 in
set_option maxRecDepth 100000 in
theorem Keep14_walk (x : Nd) (A1 : Option Addr) (c1 : Nat) (B1 : Option Addr) (e1 : Nat) (w : World) (hT : TabOK w) (hx : NdR w A1 c1 B1 e1 x) (hsx : sizeN x ≤ 1048576) :
    Calls Tryd.prog 6 #[.agg #[.int .i64 x.k, .int .i64 x.e, .int .i64 x.n, .slice A1 x.d.length c1, .slice B1 x.ks.length e1]] w fun e w' => e = .returned (.bool true) ∧ Below w.heap.size w w' := by
  have HT := Lib.hid hT
  have Hp := Lib.hid hx
  have HSX : Hid (sizeN x ≤ 1048576) := Lib.hid hsx
  have HSX2 : Hid (sizeN x ≤ 1099511627776) := Lib.hid (by omega)
  have HBX := Lib.hid hx.byt
  clear hT hx hsx
  go_enter Tryd.func6, Tryd.ntmps6
  go_wp2_with fail
  refine abs_world (F := fun W => NdR W A1 c1 B1 e1 x ∧ Blk W w.heap.size #[.int .i64 x.k, .int .i64 x.e, .int .i64 x.n, .slice A1 x.d.length c1, .slice B1 x.ks.length e1] ∧ Below w.heap.size w W) ⟨?_, ?_, ?_⟩ ?_
  · exact (NdR.on Hp.out ((Below.refl _ _).alloc (Nat.le_refl _) _) (Nat.le_refl _))
  · exact Blk.fresh _ _ _
  · exact ((Below.refl w.heap.size w).alloc (by first | exact Nat.le_refl _ | (simp; done) | (simp; omega)) _)
  clear Hp
  rintro W1 ⟨hp, hl, hb⟩
  have Hp := Lib.hid hp
  have Hl := Lib.hid hl
  have HB := Lib.hid hb
  clear hb hp hl
  refine (awake14_any _ (HT.out.on HB.out)).mono ?_
  rintro r w2 ⟨rfl, hb⟩
  have fp := Hp.out.on hb (Nat.le_refl _)
  have fl := Hl.out.below hb
  have HB0 := Lib.hid (bel_on HB.out hb)
  clear hb Hp Hl HB
  have HB := HB0
  clear HB0
  have Hp := Lib.hid fp
  clear fp
  have Hl := Lib.hid fl
  clear fl
  obtain ⟨xl, yl, zl⟩ := Hl.out
  go_wp2_with fail
  clear xl yl zl
  refine (RefRight13 x A1 c1 B1 e1 _ Hp.out HSX2.out).mono ?_
  rintro r w3 ⟨rfl, hb⟩
  have fp := Hp.out.on hb (Nat.le_refl _)
  have fl := Hl.out.below hb
  have HB0 := Lib.hid (bel_on HB.out hb)
  clear hb Hp Hl HB
  have HB := HB0
  clear HB0
  have Hp := Lib.hid fp
  clear fp
  have Hl := Lib.hid fl
  clear fl
  obtain ⟨xl, yl, zl⟩ := Hl.out
  cases hrx : rightN x with
  | false =>
    clear hrx
    go_wp2_with fail
    clear xl yl zl
    refine (awake14_any _ (HT.out.on HB.out)).mono ?_
    rintro r w4 ⟨rfl, hb⟩
    have fp := Hp.out.on hb (Nat.le_refl _)
    have fl := Hl.out.below hb
    have HB0 := Lib.hid (bel_on HB.out hb)
    clear hb Hp Hl HB
    have HB := HB0
    clear HB0
    have Hp := Lib.hid fp
    clear fp
    have Hl := Lib.hid fl
    clear fl
    go_wp2
    go_ret
    exact ⟨rfl, HB.out⟩
  | true =>
    obtain ⟨hfx, hvx, hmx⟩ := right_parts hrx
    have hqx := few_size hfx
    have hcx := can_few hvx hqx
    have HVX := Lib.hid hvx
    have HMX := Lib.hid hmx
    have HCX : Hid (canN x ≤ 18000000) := Lib.hid hcx.2
    have HWX : Hid ((writeF x).length ≤ 18000001) := Lib.hid (by have := writeF_length hvx; omega)
    clear hrx hfx hvx hmx hqx hcx
    go_wp2_with fail
    clear xl yl zl
    refine (RefCopy_node x A1 c1 B1 e1 _ Hp.out HSX2.out).mono ?_
    rintro r w4 ⟨v, rfl, ⟨A2, c2, B2, e2, hi2, rfl, -, hno⟩, hb⟩
    have fp := Hp.out.on hb (Nat.le_refl _)
    have fl := Hl.out.below hb
    have HB0 := Lib.hid (bel_on HB.out hb)
    clear hb Hp Hl HB
    have HB := HB0
    clear HB0
    have Hp := Lib.hid fp
    clear fp
    have Hl := Lib.hid fl
    clear fl
    have hn := hno.nd
    clear hno
    have Hq := Lib.hid hn
    clear hn
    go_wp2_with fail
    refine abs_world (F := fun W => NdR W A1 c1 B1 e1 x ∧ Blk W w.heap.size #[.int .i64 x.k, .int .i64 x.e, .int .i64 x.n, .slice A1 x.d.length c1, .slice B1 x.ks.length e1] ∧ NdR W A2 c2 B2 e2 x ∧ Blk W w4.heap.size #[.int .i64 x.k, .int .i64 x.e, .int .i64 x.n, .slice A2 x.d.length c2, .slice B2 x.ks.length e2] ∧ Below w.heap.size w W) ⟨?_, ?_, ?_, ?_, ?_⟩ ?_
    · exact (NdR.on Hp.out ((Below.refl _ _).alloc (Nat.le_refl _) _) (Nat.le_refl _))
    · exact (Hl.out.alloc _)
    · exact (NdR.on Hq.out ((Below.refl _ _).alloc (Nat.le_refl _) _) (Nat.le_refl _))
    · exact Blk.fresh _ _ _
    · exact (HB.out.alloc (by first | exact Nat.le_refl _ | (have := HB.out.size; simp; omega) | (have := HB.out.size; omega) | (simp; done) | (simp; omega)) _)
    clear Hp Hl Hq HB
    rintro W5 ⟨hp, hl, hq, hg, hb⟩
    have Hp := Lib.hid hp
    have Hl := Lib.hid hl
    have Hq := Lib.hid hq
    have Hg := Lib.hid hg
    have HB := Lib.hid hb
    clear hb hp hl hq hg
    have hbo : w4.heap.size < W5.heap.size := Hg.out.lt
    have hbl : w.heap.size < W5.heap.size := Hl.out.lt
    obtain ⟨bo, hboe⟩ : ∃ bo, w4.heap.size = bo := ⟨_, rfl⟩
    rw [hboe] at Hg hbo
    rw [hboe]
    clear hboe
    have hl0 : 0 < (writeF x).length := by simp [writeF]
    obtain ⟨l, hl⟩ : ∃ l, writeF x = l := ⟨_, rfl⟩
    obtain ⟨L, hL⟩ : ∃ L, l.length = L := ⟨_, rfl⟩
    rw [hl] at hl0 HWX
    rw [hL] at hl0 HWX
    have HLW := Lib.hid hl
    have HLL := Lib.hid hL
    have hL1 : L ≤ 18000001 := HWX.out
    clear hl hL
    have HP5 := Lib.hid Hp.out
    have HQ5 := Lib.hid Hq.out
    have HL5 := Lib.hid Hl.out
    have HG5 := Lib.hid Hg.out
    have HB5 := Lib.hid HB.out
    refine (CWrite_w x l L A2 c2 B2 e2 _ (HT.out.on HB.out) Hq.out HSX.out HVX.out HMX.out (by have := HCX.out; omega) HLW.out HLL.out _ _ _ _ _ rfl rfl rfl rfl rfl).mono ?_
    rintro r w6 ⟨A3, c3, rfl, hg, hr, hn3, hl3, hm3, hb6⟩
    obtain ⟨g, rfl, hgb, hgl, -⟩ := hg.addr (by omega)
    have HRA := Lib.hid hr
    have HGA := Lib.hid hg
    have HB6 := Lib.hid hb6
    have hz6 := hb6.size
    obtain ⟨i0, hi, hz0, hz1, hz2⟩ := info_parts int64_info
    clear Hp Hq Hl Hg HB hr hg hb6
    go_wp2_with (at_builtin; refine wpList_appNn L rfl (.tmp 19) (.tmp 20) 29 rfl Tryd.underlying29 hi hz0 hz1 hz2 HLL.out.symm rfl (got_empty14 (w := w6) (base := w6.heap.size) (q := w6.heap.size) (Nat.le_refl _) rfl) rfl (HRA.out.alloc _) (fun h => by cases h) (by unfold maxLen; simp; omega) (by simp; omega) (by simp) ?_; intro v7 w7 hg7 hb7)
    have hbb : Below w6.heap.size w6 w7 := ((Below.refl _ _).alloc (Nat.le_refl _) _).trans hb7
    have HV7 : Hid (Got w7 w6.heap.size 32 .u64 v7 l) := Lib.hid (hg7.cast rfl (by simp))
    have HGA7 := Lib.hid (HGA.out.below hbb (Nat.le_refl _))
    have HBA : Hid (Below W5.heap.size W5 w7) := Lib.hid (HB6.out.trans (hbb.mono hz6))
    clear hg7 hb7 hbb HGA HRA HB6
    go_loopw [6] (fun i wr => ∃ (j : Nat) (zs : List Int), j ≤ L ∧ zs.length = L ∧ i = .int .i64 j ∧ Got wr W5.heap.size 32 .u64 (.slice (some ⟨g, 0, none⟩) L c3) zs ∧ Got wr w6.heap.size 32 .u64 v7 l ∧ Below W5.heap.size W5 wr) (fun i _ => L - (intOf i).toNat)
    case atStart => exact ⟨0, l, by omega, HLL.out, rfl, HGA7.out, HV7.out, HBA.out⟩
    case round =>
      clear HGA7 HV7 HBA
      obtain ⟨j, zs, hj, hzl, rfl, hg, hv, hbr⟩ := hrel
      have HG := Lib.hid hg
      have HV := Lib.hid hv
      have HBR := Lib.hid hbr
      have HZL := Lib.hid hzl
      clear hg hv hbr hzl
      by_cases hlt : j < L
      · have hj1 : (j : Int) < (L : Int) := by omega
        have hgz : Got wr W5.heap.size 32 .u64 (.slice (some ⟨g, 0, none⟩) zs.length c3) zs := by rw [HZL.out]; exact HG.out
        have hcell := hgz.cell j (by rw [HZL.out]; exact hlt)
        have hfree := hgz.free j
        have HPT := Lib.hid (fun y => hgz.put j y)
        clear hgz
        generalize zat zs j = z at *
        go_wp2
        go_roundw
        case rel =>
          refine ⟨j + 1, zs.set j ((z + 1) % 18446744073709551616), by omega, by rw [List.length_set]; exact HZL.out, by go_num, ?_, HV.out.far (p := ⟨g, j, none⟩) hgl _, HBR.out.setCell (p := ⟨g, j, none⟩) hgb _⟩
          have := HPT.out ((z + 1) % 18446744073709551616)
          rw [HZL.out] at this
          exact this
        case measure => simp [intOf]; omega
      · obtain ⟨A7, c7, rfl, hl7, hm7, hr7⟩ := HV.out.slice
        have hBr : Below w.heap.size w wr := HB5.out.trans (HBR.out.mono (by omega))
        have HBW := Lib.hid hBr
        have HP := Lib.hid (HP5.out.on HBR.out (Nat.le_refl _))
        have HQ := Lib.hid (HQ5.out.on HBR.out (Nat.le_refl _))
        have HXL := Lib.hid (HL5.out.belowN HBR.out hbl)
        have HXG := Lib.hid (HG5.out.belowN HBR.out hbo)
        have HR7 := Lib.hid hr7
        rw [HLL.out]
        clear hr7 hBr HP5 HQ5 HL5 HG5 HB5 HG HV HBR
        obtain ⟨x1, y1, z1⟩ := HXL.out
        obtain ⟨x2, y2, z2⟩ := HXG.out
        go_wp2_with fail
        refine (CWrite_w x l L A2 c2 B2 e2 _ (HT.out.on HBW.out) HQ.out HSX.out HVX.out HMX.out (by have := HCX.out; omega) HLW.out HLL.out _ _ _ _ _ rfl rfl rfl rfl rfl).mono ?_
        rintro r w8 ⟨A8, c8, rfl, -, hr8, hn8, hl8, hm8, hb8⟩
        have HR7b := Lib.hid (HR7.out.below hb8 (Nat.le_refl _))
        have HPb := Lib.hid (HP.out.on hb8 (Nat.le_refl _))
        have HQb := Lib.hid (HQ.out.on hb8 (Nat.le_refl _))
        have HXLb := Lib.hid (HXL.out.below hb8)
        have HXGb := Lib.hid (HXG.out.below hb8)
        have HBWb := Lib.hid (bel_on HBW.out hb8)
        clear hb8 HR7 HP HQ HXL HXG HBW x1 y1 z1 x2 y2 z2
        go_wp2_with fail
        refine (SameWords_w A8 A7 c8 c7 l l L L true _ hr8 HR7b.out HLL.out HLL.out (by omega) (by omega) (by simp [sameB])).mono ?_
        rintro r w9 ⟨rfl, hb9⟩
        have HPc := Lib.hid (HPb.out.on hb9 (Nat.le_refl _))
        have HQc := Lib.hid (HQb.out.on hb9 (Nat.le_refl _))
        have HBWc := Lib.hid (bel_on HBWb.out hb9)
        obtain ⟨x1, y1, z1⟩ := HXLb.out.below hb9
        obtain ⟨x2, y2, z2⟩ := HXGb.out.below hb9
        clear hb9 hr8 HR7b HPb HQb HXLb HXGb HBWb
        go_wp2_with fail
        refine (RefEqual_14 x x A2 c2 B2 e2 A1 c1 B1 e1 true _ HQc.out HPc.out (eqN_yes rfl)).mono ?_
        rintro r w10 ⟨rfl, hb10⟩
        have HBWd := Lib.hid (bel_on HBWc.out hb10)
        clear hb10 x1 y1 z1 x2 y2 z2
        go_wp2
        go_ret
        exact ⟨rfl, HBWd.out⟩
end Go.Proofs.YtfigoblpkbpenaaDoor
