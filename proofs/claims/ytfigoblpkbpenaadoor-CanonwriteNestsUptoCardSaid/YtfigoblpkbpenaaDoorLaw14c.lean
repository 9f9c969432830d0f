/- A law of layer 14: CanonwriteNests. -/
import Derived.Test.YtfigoblpkbpenaaDoorLaw14
namespace Go.Proofs.YtfigoblpkbpenaaDoor
open Go.ChangeShapes Go.WideShapes Go.ChangeAt Go.RowKit
set_option linter.unusedVariables false
set_option linter.unusedSimpArgs false
set_option maxRecDepth 100000
attribute [local simp] AllK KnowsV look Is

theorem ri_tail14 {w : World} {k : IntKind} {g o : Nat} {z : Int} {l : List Int} (h : Ri w k (some ⟨g, o, none⟩) (z :: l)) : Ri w k (some ⟨g, o + 1, none⟩) l := by
  rcases h with h | ⟨b, off, he, hc⟩
  · cases h
  · injection he with he
    injection he with e1 e2
    subst e1 e2
    refine .inr ⟨_, _, rfl, fun j hj => ?_⟩
    have := hc (j + 1) (by simp; omega)
    rw [show o + 1 + j = o + (j + 1) by omega, this]
    simp [zat]
theorem writeF_pos (x : Nd) : 0 < (writeF x).length := by simp [writeF]
theorem nest_facts {x : Nd} (hv : validN x = true) (ht : trimmedN x = true) (hk : x.k ≠ 0) (hc : canN x ≤ 18000000) (hs : sizeN x ≤ 3000) :
    (sizeN (.mk 1 0 0 [] [x]) ≤ 1048576 ∧ validN (.mk 1 0 0 [] [x]) = true ∧ trimmedN (.mk 1 0 0 [] [x]) = true ∧ canN (.mk 1 0 0 [] [x]) ≤ 268435455 ∧ writeF (.mk 1 0 0 [] [x]) = 281474976710656 :: writeF x) ∧
    (sizeN (.mk 2 6 1 [] [x]) ≤ 1048576 ∧ validN (.mk 2 6 1 [] [x]) = true ∧ trimmedN (.mk 2 6 1 [] [x]) = true ∧ canN (.mk 2 6 1 [] [x]) ≤ 268435455 ∧ writeF (.mk 2 6 1 [] [x]) = 60129542145 :: writeF x) := by
  have hp : ptrsT [x] = 1 := by
    show ptrsF [x] 1 = 1
    have h1 : kAt [x] 0 = x.k := rfl
    unfold ptrsF
    rw [h1, if_neg hk]
  have hK : canK [x] = canN x := by simp [canK]
  have hOK : objK [x] = objW x := by simp [objK]
  have hO1 : canO (.mk 1 0 0 [] [x]) = 1 := by
    have h : canO (.mk 1 0 0 [] [x]) = ((([] : List Int).length / 8 + [x].length : Nat) : Int) := rfl
    rw [h]; simp
  have hO2 : canO (.mk 2 6 1 [] [x]) = 1 := by
    have h : canO (.mk 2 6 1 [] [x]) = wordsI 6 1 := rfl
    rw [h]; decide
  have hb1 : bodyN (.mk 1 0 0 [] [x]) = [ptrW x 0] := by
    have h : bodyN (.mk 1 0 0 [] [x]) = wordsOf [] ++ ptrsW ((([] : List Int).length / 8 : Nat) : Int) (canO (.mk 1 0 0 [] [x])) [x] := rfl
    rw [h, hO1]
    simp [wordsOf, ptrsW]
  have hb2 : bodyN (.mk 2 6 1 [] [x]) = [ptrW x 0] := by
    have h : bodyN (.mk 2 6 1 [] [x]) = ptrsW 0 (canO (.mk 2 6 1 [] [x])) [x] := rfl
    rw [h, hO2]
    simp [ptrsW]
  refine ⟨⟨?_, ?_, ?_, ?_, ?_⟩, ⟨?_, ?_, ?_, ?_, ?_⟩⟩
  · simp only [sizeN, sizeK, List.length_nil]; omega
  · simp [validN, validK, headB, hv]
  · simp [trimmedN, trimmedK, ht, hp]
    rfl
  · rw [canN_eq, targN_mk, if_neg (by omega), hK]
    omega
  · have h1 : objW (.mk 1 0 0 [] [x]) = ptrW x 0 :: objW x := by
      rw [objW_eq, targN_mk, if_neg (by omega), hOK, hb1]
      rfl
    have h2 : ptrW (.mk 1 0 0 [] [x]) 0 = 281474976710656 := by
      rw [ptrW_str14, if_neg (by rw [hO1]; decide)]
      unfold encW
      simp
    show ptrW _ 0 :: objW _ = 281474976710656 :: ptrW x 0 :: objW x
    rw [h1, h2]
  · simp only [sizeN, sizeK, List.length_nil]; omega
  · simp [validN, validK, headB, hv]
  · simp [trimmedN, trimmedK, ht]
  · rw [canN_eq, targN_mk, if_neg (by omega), hK]
    omega
  · have h1 : objW (.mk 2 6 1 [] [x]) = ptrW x 0 :: objW x := by
      rw [objW_eq, targN_mk, if_neg (by omega), hOK, hb2]
      rfl
    have h2 : ptrW (.mk 2 6 1 [] [x]) 0 = 60129542145 := by
      rw [ptrW_lst14, if_neg (by decide)]
      rfl
    show ptrW _ 0 :: objW _ = 60129542145 :: ptrW x 0 :: objW x
    rw [h1, h2]
attribute [local irreducible] validN fewN trimmedN canN canO rightN sizeN targN canK writeF objW objK bodyN
set_option maxHeartbeats 4000000 in
set_option maxRecDepth 100000 in
theorem Nest14_walk (x : Nd) (A1 : Option Addr) (c1 : Nat) (B1 : Option Addr) (e1 : Nat) (w : World) (hT : TabOK w) (hx : NdR w A1 c1 B1 e1 x) (hsx : sizeN x ≤ 1048576) :
    Calls Tryd.prog 5 #[.agg #[.int .i64 x.k, .int .i64 x.e, .int .i64 x.n, .slice A1 x.d.length c1, .slice B1 x.ks.length e1]] w fun e w' => e = .returned (.bool true) ∧ Below w.heap.size w w' := by
  have HT := Lib.hid hT
  have Hp := Lib.hid hx
  have HSX : Hid (sizeN x ≤ 1048576) := Lib.hid hsx
  have HSX2 : Hid (sizeN x ≤ 1099511627776) := Lib.hid (by omega)
  have HBX := Lib.hid hx.byt
  clear hT hx hsx
  go_enter Tryd.func5, Tryd.ntmps5
  go_wp2_with fail
  refine abs_world (F := fun W => NdR W A1 c1 B1 e1 x ∧ Blk W w.heap.size #[.int .i64 x.k, .int .i64 x.e, .int .i64 x.n, .slice A1 x.d.length c1, .slice B1 x.ks.length e1] ∧ Below w.heap.size w W) ⟨?_, ?_, ?_⟩ ?_
  · exact (NdR.on Hp.out ((Below.refl _ _).alloc (Nat.le_refl _) _) (Nat.le_refl _))
  · exact Blk.fresh _ _ _
  · exact ((Below.refl w.heap.size w).alloc (by first | exact Nat.le_refl _ | (simp; done) | (simp; omega)) _)
  clear Hp
  rintro W1 ⟨hp, hl, hb⟩
  have Hp := Lib.hid hp
  have Hl := Lib.hid hl
  have HB := Lib.hid hb
  clear hb hp hl
  refine (awake14_any _ (HT.out.on HB.out)).mono ?_
  rintro r w2 ⟨rfl, hb⟩
  have fp := Hp.out.on hb (Nat.le_refl _)
  have fl := Hl.out.below hb
  have HB0 := Lib.hid (bel_on HB.out hb)
  clear hb Hp Hl HB
  have HB := HB0
  clear HB0
  have Hp := Lib.hid fp
  clear fp
  have Hl := Lib.hid fl
  clear fl
  obtain ⟨xl, yl, zl⟩ := Hl.out
  go_wp2_with fail
  clear xl yl zl
  refine (RefRight13 x A1 c1 B1 e1 _ Hp.out HSX2.out).mono ?_
  rintro r w3 ⟨rfl, hb⟩
  have fp := Hp.out.on hb (Nat.le_refl _)
  have fl := Hl.out.below hb
  have HB0 := Lib.hid (bel_on HB.out hb)
  clear hb Hp Hl HB
  have HB := HB0
  clear HB0
  have Hp := Lib.hid fp
  clear fp
  have Hl := Lib.hid fl
  clear fl
  obtain ⟨xl, yl, zl⟩ := Hl.out
  cases hrx : rightN x with
  | false =>
    clear hrx
    go_wp2_with fail
    clear xl yl zl
    refine (awake14_any _ (HT.out.on HB.out)).mono ?_
    rintro r w4 ⟨rfl, hb⟩
    have fp := Hp.out.on hb (Nat.le_refl _)
    have fl := Hl.out.below hb
    have HB0 := Lib.hid (bel_on HB.out hb)
    clear hb Hp Hl HB
    have HB := HB0
    clear HB0
    have Hp := Lib.hid fp
    clear fp
    have Hl := Lib.hid fl
    clear fl
    go_wp2
    go_ret
    exact ⟨rfl, HB.out⟩
  | true =>
    obtain ⟨hfx, hvx, hmx⟩ := right_parts hrx
    have hqx := few_size hfx
    have hcx := can_few hvx hqx
    have HFW := Lib.hid hqx
    have HVX := Lib.hid hvx
    have HMX := Lib.hid hmx
    have HCX : Hid (canN x ≤ 18000000) := Lib.hid hcx.2
    have HWX : Hid ((writeF x).length ≤ 18000001) := Lib.hid (by have := writeF_length hvx; omega)
    clear hrx hfx hvx hmx hqx hcx
    by_cases hk : x.k = 0
    · have t1 : (x.k == 0) = true := by simpa using hk
      clear hk
      go_wp2_with fail
      clear xl yl zl
      refine (awake14_any _ (HT.out.on HB.out)).mono ?_
      rintro r w4 ⟨rfl, hb⟩
      have fp := Hp.out.on hb (Nat.le_refl _)
      have fl := Hl.out.below hb
      have HB0 := Lib.hid (bel_on HB.out hb)
      clear hb Hp Hl HB
      have HB := HB0
      clear HB0
      have Hp := Lib.hid fp
      clear fp
      have Hl := Lib.hid fl
      clear fl
      go_wp2
      go_ret
      exact ⟨rfl, HB.out⟩
    have t1 : (x.k == 0) = false := by simpa using hk
    have HNO := Lib.hid (nest_facts HVX.out HMX.out hk HCX.out HFW.out)
    have hl0 := writeF_pos x
    obtain ⟨l, hl⟩ : ∃ l, writeF x = l := ⟨_, rfl⟩
    obtain ⟨L, hL⟩ : ∃ L, l.length = L := ⟨_, rfl⟩
    rw [hl] at HNO hl0 HWX
    rw [hL] at hl0 HWX
    have HLW := Lib.hid hl
    have HLL := Lib.hid hL
    have hL1 : L ≤ 18000001 := HWX.out
    clear hk hl hL
    go_wp2_with fail
    clear xl yl zl
    refine (CWrite_w x l L A1 c1 B1 e1 _ (HT.out.on HB.out) Hp.out HSX.out HVX.out HMX.out (by have := HCX.out; omega) HLW.out HLL.out _ _ _ _ _ rfl rfl rfl rfl rfl).mono ?_
    rintro r w4 ⟨A3, c3, rfl, -, hn, hn3, hl3, hm3, hb⟩
    have fp := Hp.out.on hb (Nat.le_refl _)
    have fl := Hl.out.below hb
    have HB0 := Lib.hid (bel_on HB.out hb)
    clear hb Hp Hl HB
    have HB := HB0
    clear HB0
    have Hp := Lib.hid fp
    clear fp
    have Hl := Lib.hid fl
    clear fl
    have Ha := Lib.hid hn
    clear hn
    obtain ⟨xl, yl, zl⟩ := Hl.out
    go_wp2_with fail
    refine abs_world (F := fun W => NdR W A1 c1 B1 e1 x ∧ Blk W w.heap.size #[.int .i64 x.k, .int .i64 x.e, .int .i64 x.n, .slice A1 x.d.length c1, .slice B1 x.ks.length e1] ∧ Ri W .u64 A3 l ∧ NdR W none 0 (some ⟨w4.heap.size, 0, none⟩) 1 (.mk 1 0 0 [] [x]) ∧ Below w.heap.size w W) ⟨?_, ?_, ?_, ?_, ?_⟩ ?_
    · exact (NdR.on Hp.out ((Below.refl _ _).alloc (Nat.le_refl _) _) (Nat.le_refl _))
    · exact (Hl.out.alloc _)
    · exact (Ri.below Ha.out ((Below.refl _ _).alloc (Nat.le_refl _) _) (Nat.le_refl _))
    · exact KsR.node (row1_new Hp.out _) ⟨by decide, by decide⟩ ⟨by decide, by decide⟩ ⟨by decide, by decide⟩ (Ri.nil _ _ _) (fun z hz => by cases hz) (by decide) (by unfold maxLen; omega) (fun _ => rfl) (by simp) (by unfold maxLen; omega) (fun h => by cases h)
    · exact (HB.out.alloc (by first | exact Nat.le_refl _ | (have := HB.out.size; simp; omega) | (have := HB.out.size; omega) | (simp; done) | (simp; omega)) _)
    clear Hp Hl Ha HB xl yl zl
    rintro W5 ⟨hp, hl, ha, hn4, hb⟩
    have Hp := Lib.hid hp
    have Hl := Lib.hid hl
    have Ha := Lib.hid ha
    have Hn4 := Lib.hid hn4
    have HB := Lib.hid hb
    clear hb hp hl ha hn4
    refine (CWrite_w (.mk 1 0 0 [] [x]) (281474976710656 :: l) (L + 1) none 0 (some ⟨w4.heap.size, 0, none⟩) 1 _ (HT.out.on HB.out) Hn4.out HNO.out.1.1 HNO.out.1.2.1 HNO.out.1.2.2.1 HNO.out.1.2.2.2.1 HNO.out.1.2.2.2.2 (by rw [List.length_cons, HLL.out]) _ _ _ _ _ rfl rfl rfl rfl rfl).mono ?_
    rintro r w6 ⟨A4, c4, rfl, -, hn, hn4, hl4, hm4, hb⟩
    have fp := Hp.out.on hb (Nat.le_refl _)
    have fl := Hl.out.below hb
    have fa := Ha.out.below hb (Nat.le_refl _)
    have fn4 := Hn4.out.on hb (Nat.le_refl _)
    have HB0 := Lib.hid (bel_on HB.out hb)
    clear hb Hp Hl Ha Hn4 HB
    have HB := HB0
    clear HB0
    have Hp := Lib.hid fp
    clear fp
    have Hl := Lib.hid fl
    clear fl
    have Ha := Lib.hid fa
    clear fa
    have Hn4 := Lib.hid fn4
    clear fn4
    have Hb4 := Lib.hid hn
    clear hn
    obtain ⟨xl, yl, zl⟩ := Hl.out
    go_wp2_with fail
    refine abs_world (F := fun W => NdR W A1 c1 B1 e1 x ∧ Blk W w.heap.size #[.int .i64 x.k, .int .i64 x.e, .int .i64 x.n, .slice A1 x.d.length c1, .slice B1 x.ks.length e1] ∧ Ri W .u64 A3 l ∧ NdR W none 0 (some ⟨w4.heap.size, 0, none⟩) 1 (.mk 1 0 0 [] [x]) ∧ Ri W .u64 A4 (281474976710656 :: l) ∧ NdR W none 0 (some ⟨w6.heap.size, 0, none⟩) 1 (.mk 2 6 1 [] [x]) ∧ Below w.heap.size w W) ⟨?_, ?_, ?_, ?_, ?_, ?_, ?_⟩ ?_
    · exact (NdR.on Hp.out ((Below.refl _ _).alloc (Nat.le_refl _) _) (Nat.le_refl _))
    · exact (Hl.out.alloc _)
    · exact (Ri.below Ha.out ((Below.refl _ _).alloc (Nat.le_refl _) _) (Nat.le_refl _))
    · exact (NdR.on Hn4.out ((Below.refl _ _).alloc (Nat.le_refl _) _) (Nat.le_refl _))
    · exact (Ri.below Hb4.out ((Below.refl _ _).alloc (Nat.le_refl _) _) (Nat.le_refl _))
    · exact KsR.node (row1_new Hp.out _) ⟨by decide, by decide⟩ ⟨by decide, by decide⟩ ⟨by decide, by decide⟩ (Ri.nil _ _ _) (fun z hz => by cases hz) (by decide) (by unfold maxLen; omega) (fun _ => rfl) (by simp) (by unfold maxLen; omega) (fun h => by cases h)
    · exact (HB.out.alloc (by first | exact Nat.le_refl _ | (have := HB.out.size; simp; omega) | (have := HB.out.size; omega) | (simp; done) | (simp; omega)) _)
    clear Hp Hl Ha Hn4 Hb4 HB xl yl zl
    rintro W7 ⟨hp, hl, ha, hn4, hb4, hn5, hb⟩
    have Hp := Lib.hid hp
    have Hl := Lib.hid hl
    have Ha := Lib.hid ha
    have Hn4 := Lib.hid hn4
    have Hb4 := Lib.hid hb4
    have Hn5 := Lib.hid hn5
    have HB := Lib.hid hb
    clear hb hp hl ha hn4 hb4 hn5
    refine (CWrite_w (.mk 2 6 1 [] [x]) (60129542145 :: l) (L + 1) none 0 (some ⟨w6.heap.size, 0, none⟩) 1 _ (HT.out.on HB.out) Hn5.out HNO.out.2.1 HNO.out.2.2.1 HNO.out.2.2.2.1 HNO.out.2.2.2.2.1 HNO.out.2.2.2.2.2 (by rw [List.length_cons, HLL.out]) _ _ _ _ _ rfl rfl rfl rfl rfl).mono ?_
    rintro r w8 ⟨A5, c5, rfl, -, hn, hn5, hl5, hm5, hb⟩
    have fp := Hp.out.on hb (Nat.le_refl _)
    have fl := Hl.out.below hb
    have fa := Ha.out.below hb (Nat.le_refl _)
    have fn4 := Hn4.out.on hb (Nat.le_refl _)
    have fb4 := Hb4.out.below hb (Nat.le_refl _)
    have fn5 := Hn5.out.on hb (Nat.le_refl _)
    have HB0 := Lib.hid (bel_on HB.out hb)
    clear hb Hp Hl Ha Hn4 Hb4 Hn5 HB
    have HB := HB0
    clear HB0
    have Hp := Lib.hid fp
    clear fp
    have Hl := Lib.hid fl
    clear fl
    have Ha := Lib.hid fa
    clear fa
    have Hn4 := Lib.hid fn4
    clear fn4
    have Hb4 := Lib.hid fb4
    clear fb4
    have Hn5 := Lib.hid fn5
    clear fn5
    have Hb5 := Lib.hid hn
    clear hn
    obtain ⟨g4, o4, rfl, hd4⟩ := Hb4.out.at (i := 0) (by simp)
    have u4 := hd4 0 (by simp)
    rw [Nat.add_zero] at u4
    have k4 : zat (281474976710656 :: l) 0 = 281474976710656 := rfl
    rw [k4] at u4
    have ht4 : Ri w8 .u64 (some ⟨g4, o4 + 1, none⟩) l := ri_tail14 Hb4.out
    have HU4 := Lib.hid ht4
    have hv4 := World.block_lt_of_cell? w8 ⟨g4, o4, none⟩ u4
    clear hd4 ht4 k4
    obtain ⟨g5, o5, rfl, hd5⟩ := Hb5.out.at (i := 0) (by simp)
    have u5 := hd5 0 (by simp)
    rw [Nat.add_zero] at u5
    have k5 : zat (60129542145 :: l) 0 = 60129542145 := rfl
    rw [k5] at u5
    have ht5 : Ri w8 .u64 (some ⟨g5, o5 + 1, none⟩) l := ri_tail14 Hb5.out
    have HU5 := Lib.hid ht5
    have hv5 := World.block_lt_of_cell? w8 ⟨g5, o5, none⟩ u5
    clear hd5 ht5 k5
    have hL2 : ((L : Int) == 0) = false := by simp; omega
    have HUV : Hid (∀ W', Below w8.heap.size w8 W' → W'.cell? ⟨g5, o5, none⟩ = some (.int .u64 60129542145)) := Lib.hid (fun W' h => (h.cell (p := ⟨g5, o5, none⟩) hv5).trans u5)
    clear u5
    go_wp2_with fail
    refine (SameWords_w (some ⟨g4, o4 + 1, none⟩) A3 _ _ l l L L true _ HU4.out Ha.out HLL.out HLL.out (by omega) (by omega) (by simp [sameB])).mono ?_
    rintro r w8 ⟨rfl, hb8⟩
    have u5 := HUV.out w8 hb8
    have HA8 := Lib.hid (Ha.out.below hb8 (Nat.le_refl _))
    have HU8 := Lib.hid (HU5.out.below hb8 (Nat.le_refl _))
    have HB8 := Lib.hid (bel_on HB.out hb8)
    clear hb8 u4
    go_wp2_with fail
    refine (SameWords_w (some ⟨g5, o5 + 1, none⟩) A3 _ _ l l L L true _ HU8.out HA8.out HLL.out HLL.out (by omega) (by omega) (by simp [sameB])).mono ?_
    rintro r w9 ⟨rfl, hb9⟩
    have HB9 := Lib.hid (bel_on HB8.out hb9)
    clear hb9 u5
    go_wp2
    go_ret
    exact ⟨rfl, HB9.out⟩
end Go.Proofs.YtfigoblpkbpenaaDoor
