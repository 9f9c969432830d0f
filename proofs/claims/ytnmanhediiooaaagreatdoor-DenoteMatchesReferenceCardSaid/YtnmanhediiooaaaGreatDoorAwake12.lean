/- The fixed examples of layer 12: 'awake' is true. -/
import Derived.Test.YtnmanhediiooaaaGreatDoorMg6
namespace Go.Proofs.YtnmanhediiooaaaGreatDoor
open Go.ChangeShapes Go.WideShapes Go.ChangeAt Go.RowKit
set_option linter.unusedVariables false
set_option linter.unusedSimpArgs false
set_option maxRecDepth 100000

/-- the word of a pointer -/
theorem word12_any (k o d p el c pa sg lo : Int) (db : Bool) (w : World) (s0 : 0 ≤ sg) (s1 : sg < 4294967296) (l0 : 0 ≤ lo) :
    Calls Tryz.prog 11 #[.agg #[.int .i64 k, .int .i64 o, .int .i64 d, .int .i64 p, .int .i64 el, .int .i64 c, .bool db, .int .i64 pa, .int .u32 sg, .int .u32 lo]] w fun e w' => e = .returned (.int .u64 (encE ⟨k, o, d, p, el, c, db, pa, sg, lo⟩)) ∧ Below w.heap.size w w' := by
  go_enter Tryz.func11, Tryz.ntmps11
  go_wp2_with fail
  refine (RefEncode_any k o d p el c pa sg lo db _ s0 s1 l0).mono ?_
  rintro e w1 ⟨rfl, hb1⟩
  have HB := Lib.hid ((((Below.refl w.heap.size w).alloc (Nat.le_refl _) (.cells #[.int .i64 k, .int .i64 o, .int .i64 d, .int .i64 p, .int .i64 el, .int .i64 c, .bool db, .int .i64 pa, .int .u32 sg, .int .u32 lo] 45)).trans (hb1.mono (by simp))))
  clear hb1
  go_wp2
  go_ret
  exact ⟨rfl, HB.out⟩

theorem W12_a (w : World) : Calls Tryz.prog 11 #[.agg #[.int .i64 0, .int .i64 0, .int .i64 2, .int .i64 1, .int .i64 0, .int .i64 0, .bool false, .int .i64 0, .int .u32 0, .int .u32 0]] w fun e w' => e = .returned (.int .u64 281483566645248) ∧ Below w.heap.size w w' :=
  (word12_any 0 0 2 1 0 0 0 0 0 false w (by decide) (by decide) (by decide)).mono fun e w' ⟨h1, h2⟩ => ⟨h1.trans (by rw [show encE ⟨0, 0, 2, 1, 0, 0, false, 0, 0, 0⟩ = 281483566645248 by decide +kernel]), h2⟩
theorem W12_b (w : World) : Calls Tryz.prog 11 #[.agg #[.int .i64 1, .int .i64 0, .int .i64 0, .int .i64 0, .int .i64 1, .int .i64 3, .bool false, .int .i64 0, .int .u32 0, .int .u32 0]] w fun e w' => e = .returned (.int .u64 107374182401) ∧ Below w.heap.size w w' :=
  (word12_any 1 0 0 0 1 3 0 0 0 false w (by decide) (by decide) (by decide)).mono fun e w' ⟨h1, h2⟩ => ⟨h1.trans (by rw [show encE ⟨1, 0, 0, 0, 1, 3, false, 0, 0, 0⟩ = 107374182401 by decide +kernel]), h2⟩
theorem W12_c (w : World) : Calls Tryz.prog 11 #[.agg #[.int .i64 0, .int .i64 0, .int .i64 0, .int .i64 1, .int .i64 0, .int .i64 0, .bool false, .int .i64 0, .int .u32 0, .int .u32 0]] w fun e w' => e = .returned (.int .u64 281474976710656) ∧ Below w.heap.size w w' :=
  (word12_any 0 0 0 1 0 0 0 0 0 false w (by decide) (by decide) (by decide)).mono fun e w' ⟨h1, h2⟩ => ⟨h1.trans (by rw [show encE ⟨0, 0, 0, 1, 0, 0, false, 0, 0, 0⟩ = 281474976710656 by decide +kernel]), h2⟩
theorem W12_d (w : World) : Calls Tryz.prog 11 #[.agg #[.int .i64 0, .int .i64 (-1), .int .i64 0, .int .i64 1, .int .i64 0, .int .i64 0, .bool false, .int .i64 0, .int .u32 0, .int .u32 0]] w fun e w' => e = .returned (.int .u64 281479271677948) ∧ Below w.heap.size w w' :=
  (word12_any 0 (-1) 0 1 0 0 0 0 0 false w (by decide) (by decide) (by decide)).mono fun e w' ⟨h1, h2⟩ => ⟨h1.trans (by rw [show encE ⟨0, (-1), 0, 1, 0, 0, false, 0, 0, 0⟩ = 281479271677948 by decide +kernel]), h2⟩

def l12 : Nd := .mk 2 1 3 [7] []
def n12 : Nd := .mk 1 0 0 [7, 0, 0, 0, 0, 0, 0, 0] [l12]
def m12 : List (List Int) := [[281483566645248, 7, 0, 107374182401, 255]]
def k12 : List (List Int) := [[281474976710656, 281479271677948]]
theorem wd_lit {l : List Int} (h : ∀ z ∈ l, 0 ≤ z ∧ z < 18446744073709551616) : Wd2 [l] := by
  intro x hx
  simp at hx
  subst hx
  exact h
theorem wd_m12 : Wd2 m12 := wd_lit (by decide)
theorem wd_k12 : Wd2 k12 := wd_lit (by decide)
theorem wd_e12 : Wd2 [[]] := wd_lit (by decide)
theorem wd_n12 : Wd2 [] := by intro x hx; simp at hx
theorem few_lit {l : List Int} (h : l.length ≤ 20000000) : ∀ j, (seg [l] j).length ≤ 20000000 := by
  intro j
  match j with
  | 0 => exact h
  | n + 1 => rw [seg_out (by simp)]; simp
theorem few_n12 : ∀ j, (seg [] j).length ≤ 20000000 := by intro j; rw [seg_out (by simp)]; simp
theorem few_m12 : ∀ j, (seg m12 j).length ≤ 20000000 := few_lit (by decide)
theorem few_k12 : ∀ j, (seg k12 j).length ≤ 20000000 := few_lit (by decide)
theorem len_m12 : 1 = m12.length := rfl
theorem len_k12 : 1 = k12.length := rfl
theorem le_m12 : m12.length ≤ 40 := by decide
theorem le_k12 : k12.length ≤ 40 := by decide
theorem v12_a : msgV m12 3 20 = (n12, 0) := by kernel_rfl
theorem v12_b : msgV k12 3 20 = (nd0, 7) := by kernel_rfl
theorem v12_c : msgV k12 40 9 = (nd0, 8) := by kernel_rfl
theorem v12_d : msgV [[]] 3 20 = (nd0, 0) := by kernel_rfl
theorem v12_e : msgV [] 3 20 = (nd0, 2) := by kernel_rfl
theorem v12_f : measV m12 3 20 = (4, 0) := by kernel_rfl
/-- the denotation with its fields written out -/
theorem DMes_b (A : Option Addr) (c m : Nat) (ls : List (List Int)) (D X O : Int) (x : Nd) (e : Int) (w : World) (hT : TabOK w) (hl : m = ls.length) (hs : Sg w A ls) (hw : Wd2 ls) (hm : ls.length ≤ 40) (hf : ∀ j, (seg ls j).length ≤ 20000000) (hD : D ≤ 900) (hX : X ≤ 1000000) (hq : msgV ls D X = (x, e))
    (xk xe xn : Int) (dl kl : Nat) (h1 : x.k = xk) (h2 : x.e = xe) (h3 : x.n = xn) (h4 : x.d.length = dl) (h5 : x.ks.length = kl) :
    Calls Tryz.prog 6 #[.slice A m c, .agg #[.int .i64 D, .int .i64 X, .int .i64 O]] w fun r w' => ∃ A' c' B' e', r = .returned (.tuple #[.agg #[.int .i64 xk, .int .i64 xe, .int .i64 xn, .slice A' dl c', .slice B' kl e'], .int .i64 e]) ∧ NdR w' A' c' B' e' x ∧ Below w.heap.size w w' := by
  subst h1 h2 h3 h4 h5
  refine (DMessage_is A c m ls D X O x e w hT hl hs hw hm hf hD hX hq).mono ?_
  rintro r w' ⟨v, rfl, ⟨A', c', B', c2', hi, rfl, h1, h2⟩, hb⟩
  exact ⟨A', c', B', c2', rfl, h2.nd, hb⟩
theorem RefEqual_12 (x y : Nd) (A : Option Addr) (c : Nat) (B : Option Addr) (c2 : Nat) (A1 : Option Addr) (c3 : Nat) (B1 : Option Addr) (c4 : Nat) (v : Bool) (w : World) (hx : NdR w A c B c2 x) (hy : NdR w A1 c3 B1 c4 y) (hv : eqN x y = v) :
    Calls Tryz.prog 10 #[.agg #[.int .i64 x.k, .int .i64 x.e, .int .i64 x.n, .slice A x.d.length c, .slice B x.ks.length c2], .agg #[.int .i64 y.k, .int .i64 y.e, .int .i64 y.n, .slice A1 y.d.length c3, .slice B1 y.ks.length c4]] w fun r w' => r = .returned (.bool v) ∧ Below w.heap.size w w' := hv ▸ RefEqual_node x y A c B c2 A1 c3 B1 c4 w hx hy
attribute [local irreducible] msgV measV m12 k12

set_option maxRecDepth 100000 in
set_option maxHeartbeats 4000000 in
theorem awake12_any (w : World) (hT : TabOK w) : Calls Tryz.prog 4 #[] w fun e w' => e = .returned (.bool true) ∧ Below w.heap.size w w' := by
  have HT := Lib.hid hT
  clear hT
  go_enter Tryz.func4, Tryz.ntmps4
  go_wp2_with fail
  refine abs_world (F := fun W => Blk W w.heap.size #[.int .i64 3, .int .i64 20, .int .i64 0] ∧ Below w.heap.size w W) ⟨?_, ?_⟩ ?_
  · exact Blk.fresh _ _ _
  · exact ((Below.refl w.heap.size w).alloc (by first | exact Nat.le_refl _ | (simp; done) | (simp; omega)) _)
  rintro W1 ⟨hl, hb⟩
  have Hl := Lib.hid hl
  have HB := Lib.hid hb
  clear hb hl
  refine (W12_a _).mono ?_
  rintro r w2 ⟨rfl, hb⟩
  have fl := Hl.out.below hb
  have HB0 := Lib.hid (bel_on HB.out hb)
  clear hb Hl HB
  have HB := HB0
  clear HB0
  have Hl := Lib.hid fl
  clear fl
  go_wp2_with fail
  refine (W12_b _).mono ?_
  rintro r w3 ⟨rfl, hb⟩
  have fl := Hl.out.below hb
  have HB0 := Lib.hid (bel_on HB.out hb)
  clear hb Hl HB
  have HB := HB0
  clear HB0
  have Hl := Lib.hid fl
  clear fl
  obtain ⟨xl, yl, zl⟩ := ((Hl.out.alloc (.cells #[.int .u64 281483566645248, .int .u64 7, .int .u64 0, .int .u64 107374182401, .int .u64 255] 41)).alloc (.cells #[.slice (some ⟨w3.heap.size, 0, none⟩) 5 5] 46))
  go_wp2_with fail
  refine abs_world (F := fun W => Blk W w.heap.size #[.int .i64 3, .int .i64 20, .int .i64 0] ∧ Sg W (some ⟨w3.heap.size + 1, 0, none⟩) m12 ∧ Below w.heap.size w W) ⟨?_, ?_, ?_⟩ ?_
  · exact ((Hl.out.alloc _).alloc _)
  · exact (by unfold m12; exact sg_lit1 _ _ _ _ _ (by simp) (Holds.lit w3 [281483566645248, 7, 0, 107374182401, 255] 41 5 rfl (by decide)))
  · exact ((HB.out.alloc (by first | exact Nat.le_refl _ | (have := HB.out.size; simp; omega) | (have := HB.out.size; omega) | (simp; done) | (simp; omega)) _).alloc (by first | exact Nat.le_refl _ | (have := HB.out.size; simp; omega) | (have := HB.out.size; omega) | (simp; done) | (simp; omega)) _)
  clear Hl HB xl yl zl
  rintro W4 ⟨hl, hm, hb⟩
  have Hl := Lib.hid hl
  have Hm := Lib.hid hm
  have HB := Lib.hid hb
  clear hb hl hm
  refine (DMes_b (some ⟨w3.heap.size + 1, 0, none⟩) 1 1 m12 3 20 0 n12 0 _ (HT.out.on HB.out) len_m12 Hm.out wd_m12 le_m12 few_m12 (by decide) (by decide) v12_a 1 0 0 8 1 rfl rfl rfl rfl rfl).mono ?_
  rintro r w5 ⟨A1, c1, E1, e1, rfl, hn, hb⟩
  have fl := Hl.out.below hb
  have fm := Hm.out.below hb (Nat.le_refl _)
  have HB0 := Lib.hid (bel_on HB.out hb)
  clear hb Hl Hm HB
  have HB := HB0
  clear HB0
  have Hl := Lib.hid fl
  clear fl
  have Hm := Lib.hid fm
  clear fm
  have Hn := Lib.hid hn
  clear hn
  go_wp2_with fail
  refine abs_world (F := fun W => Blk W w.heap.size #[.int .i64 3, .int .i64 20, .int .i64 0] ∧ Sg W (some ⟨w3.heap.size + 1, 0, none⟩) m12 ∧ NdR W A1 c1 E1 e1 n12 ∧ Blk W w5.heap.size #[.int .i64 1, .int .i64 0, .int .i64 0, .slice A1 8 c1, .slice E1 1 e1] ∧ Below w.heap.size w W) ⟨?_, ?_, ?_, ?_, ?_⟩ ?_
  · exact (Hl.out.alloc _)
  · exact (Hm.out.alloc _)
  · exact (NdR.on Hn.out ((Below.refl _ _).alloc (Nat.le_refl _) _) (Nat.le_refl _))
  · exact Blk.fresh _ _ _
  · exact (HB.out.alloc (by first | exact Nat.le_refl _ | (have := HB.out.size; simp; omega) | (have := HB.out.size; omega) | (simp; done) | (simp; omega)) _)
  clear Hl Hm Hn HB
  rintro W6 ⟨hl, hm, hn, hq, hb⟩
  have Hl := Lib.hid hl
  have Hm := Lib.hid hm
  have Hn := Lib.hid hn
  have Hq := Lib.hid hq
  have HB := Lib.hid hb
  clear hb hl hm hn hq
  refine (W12_c _).mono ?_
  rintro r w7 ⟨rfl, hb⟩
  have fl := Hl.out.below hb
  have fm := Hm.out.below hb (Nat.le_refl _)
  have fn := Hn.out.on hb (Nat.le_refl _)
  have fq := Hq.out.below hb
  have HB0 := Lib.hid (bel_on HB.out hb)
  clear hb Hl Hm Hn Hq HB
  have HB := HB0
  clear HB0
  have Hl := Lib.hid fl
  clear fl
  have Hm := Lib.hid fm
  clear fm
  have Hn := Lib.hid fn
  clear fn
  have Hq := Lib.hid fq
  clear fq
  go_wp2_with fail
  refine (W12_d _).mono ?_
  rintro r w8 ⟨rfl, hb⟩
  have fl := Hl.out.below hb
  have fm := Hm.out.below hb (Nat.le_refl _)
  have fn := Hn.out.on hb (Nat.le_refl _)
  have fq := Hq.out.below hb
  have HB0 := Lib.hid (bel_on HB.out hb)
  clear hb Hl Hm Hn Hq HB
  have HB := HB0
  clear HB0
  have Hl := Lib.hid fl
  clear fl
  have Hm := Lib.hid fm
  clear fm
  have Hn := Lib.hid fn
  clear fn
  have Hq := Lib.hid fq
  clear fq
  obtain ⟨xl, yl, zl⟩ := ((Hl.out.alloc (.cells #[.int .u64 281474976710656, .int .u64 281479271677948] 41)).alloc (.cells #[.slice (some ⟨w8.heap.size, 0, none⟩) 2 2] 46))
  go_wp2_with fail
  refine abs_world (F := fun W => Blk W w.heap.size #[.int .i64 3, .int .i64 20, .int .i64 0] ∧ Sg W (some ⟨w3.heap.size + 1, 0, none⟩) m12 ∧ NdR W A1 c1 E1 e1 n12 ∧ Blk W w5.heap.size #[.int .i64 1, .int .i64 0, .int .i64 0, .slice A1 8 c1, .slice E1 1 e1] ∧ Sg W (some ⟨w8.heap.size + 1, 0, none⟩) k12 ∧ Below w.heap.size w W) ⟨?_, ?_, ?_, ?_, ?_, ?_⟩ ?_
  · exact ((Hl.out.alloc _).alloc _)
  · exact ((Hm.out.alloc _).alloc _)
  · exact (NdR.on (NdR.on Hn.out ((Below.refl _ _).alloc (Nat.le_refl _) _) (Nat.le_refl _)) ((Below.refl _ _).alloc (Nat.le_refl _) _) (Nat.le_refl _))
  · exact ((Hq.out.alloc _).alloc _)
  · exact (by unfold k12; exact sg_lit1 _ _ _ _ _ (by simp) (Holds.lit w8 [281474976710656, 281479271677948] 41 2 rfl (by decide)))
  · exact ((HB.out.alloc (by first | exact Nat.le_refl _ | (have := HB.out.size; simp; omega) | (have := HB.out.size; omega) | (simp; done) | (simp; omega)) _).alloc (by first | exact Nat.le_refl _ | (have := HB.out.size; simp; omega) | (have := HB.out.size; omega) | (simp; done) | (simp; omega)) _)
  clear Hl Hm Hn Hq HB xl yl zl
  rintro W9 ⟨hl, hm, hn, hq, hk, hb⟩
  have Hl := Lib.hid hl
  have Hm := Lib.hid hm
  have Hn := Lib.hid hn
  have Hq := Lib.hid hq
  have Hk := Lib.hid hk
  have HB := Lib.hid hb
  clear hb hl hm hn hq hk
  refine (DMes_b (some ⟨w8.heap.size + 1, 0, none⟩) 1 1 k12 3 20 0 nd0 7 _ (HT.out.on HB.out) len_k12 Hk.out wd_k12 le_k12 few_k12 (by decide) (by decide) v12_b 0 0 0 0 0 rfl rfl rfl rfl rfl).mono ?_
  rintro r w10 ⟨A2, c2, E2, e2, rfl, -, hb⟩
  have fl := Hl.out.below hb
  have fm := Hm.out.below hb (Nat.le_refl _)
  have fn := Hn.out.on hb (Nat.le_refl _)
  have fq := Hq.out.below hb
  have fk := Hk.out.below hb (Nat.le_refl _)
  have HB0 := Lib.hid (bel_on HB.out hb)
  clear hb Hl Hm Hn Hq Hk HB
  have HB := HB0
  clear HB0
  have Hl := Lib.hid fl
  clear fl
  have Hm := Lib.hid fm
  clear fm
  have Hn := Lib.hid fn
  clear fn
  have Hq := Lib.hid fq
  clear fq
  have Hk := Lib.hid fk
  clear fk
  go_wp2_with fail
  refine abs_world (F := fun W => Blk W w.heap.size #[.int .i64 3, .int .i64 20, .int .i64 0] ∧ Sg W (some ⟨w3.heap.size + 1, 0, none⟩) m12 ∧ NdR W A1 c1 E1 e1 n12 ∧ Blk W w5.heap.size #[.int .i64 1, .int .i64 0, .int .i64 0, .slice A1 8 c1, .slice E1 1 e1] ∧ Sg W (some ⟨w8.heap.size + 1, 0, none⟩) k12 ∧ Below w.heap.size w W) ⟨?_, ?_, ?_, ?_, ?_, ?_⟩ ?_
  · exact (Hl.out.alloc _)
  · exact (Hm.out.alloc _)
  · exact (NdR.on Hn.out ((Below.refl _ _).alloc (Nat.le_refl _) _) (Nat.le_refl _))
  · exact (Hq.out.alloc _)
  · exact (Hk.out.alloc _)
  · exact (HB.out.alloc (by first | exact Nat.le_refl _ | (have := HB.out.size; simp; omega) | (have := HB.out.size; omega) | (simp; done) | (simp; omega)) _)
  clear Hl Hm Hn Hq Hk HB
  rintro W11 ⟨hl, hm, hn, hq, hk, hb⟩
  have Hl := Lib.hid hl
  have Hm := Lib.hid hm
  have Hn := Lib.hid hn
  have Hq := Lib.hid hq
  have Hk := Lib.hid hk
  have HB := Lib.hid hb
  clear hb hl hm hn hq hk
  refine (DMes_b (some ⟨w8.heap.size + 1, 0, none⟩) 1 1 k12 40 9 0 nd0 8 _ (HT.out.on HB.out) len_k12 Hk.out wd_k12 le_k12 few_k12 (by decide) (by decide) v12_c 0 0 0 0 0 rfl rfl rfl rfl rfl).mono ?_
  rintro r w12 ⟨A3, c3, E3, e3, rfl, -, hb⟩
  have fl := Hl.out.below hb
  have fm := Hm.out.below hb (Nat.le_refl _)
  have fn := Hn.out.on hb (Nat.le_refl _)
  have fq := Hq.out.below hb
  have fk := Hk.out.below hb (Nat.le_refl _)
  have HB0 := Lib.hid (bel_on HB.out hb)
  clear hb Hl Hm Hn Hq Hk HB
  have HB := HB0
  clear HB0
  have Hl := Lib.hid fl
  clear fl
  have Hm := Lib.hid fm
  clear fm
  have Hn := Lib.hid fn
  clear fn
  have Hq := Lib.hid fq
  clear fq
  have Hk := Lib.hid fk
  clear fk
  clear Hk
  obtain ⟨xl, yl, zl⟩ := (((Hl.out.alloc (.cells #[.int .i64 0, .int .i64 0, .int .i64 0, .slice A3 0 c3, .slice E3 0 e3] 30)).alloc (.cells #[] 41)).alloc (.cells #[.slice (some ⟨w12.heap.size + 1, 0, none⟩) 0 0] 46))
  go_wp2_with fail
  refine abs_world (F := fun W => Blk W w.heap.size #[.int .i64 3, .int .i64 20, .int .i64 0] ∧ Sg W (some ⟨w3.heap.size + 1, 0, none⟩) m12 ∧ NdR W A1 c1 E1 e1 n12 ∧ Blk W w5.heap.size #[.int .i64 1, .int .i64 0, .int .i64 0, .slice A1 8 c1, .slice E1 1 e1] ∧ Sg W (some ⟨w12.heap.size + 1 + 1, 0, none⟩) [[]] ∧ Below w.heap.size w W) ⟨?_, ?_, ?_, ?_, ?_, ?_⟩ ?_
  · exact (((Hl.out.alloc _).alloc _).alloc _)
  · exact (((Hm.out.alloc _).alloc _).alloc _)
  · exact (NdR.on (NdR.on (NdR.on Hn.out ((Below.refl _ _).alloc (Nat.le_refl _) _) (Nat.le_refl _)) ((Below.refl _ _).alloc (Nat.le_refl _) _) (Nat.le_refl _)) ((Below.refl _ _).alloc (Nat.le_refl _) _) (Nat.le_refl _))
  · exact (((Hq.out.alloc _).alloc _).alloc _)
  · exact (by have h := sg_lit1 _ _ _ 46 _ rfl (Holds.lit (w12.alloc (.cells #[.int .i64 0, .int .i64 0, .int .i64 0, .slice A3 0 c3, .slice E3 0 e3] 30)) [] 41 0 rfl (by decide)); simpa using h)
  · exact (((HB.out.alloc (by first | exact Nat.le_refl _ | (have := HB.out.size; simp; omega) | (have := HB.out.size; omega) | (simp; done) | (simp; omega)) _).alloc (by first | exact Nat.le_refl _ | (have := HB.out.size; simp; omega) | (have := HB.out.size; omega) | (simp; done) | (simp; omega)) _).alloc (by first | exact Nat.le_refl _ | (have := HB.out.size; simp; omega) | (have := HB.out.size; omega) | (simp; done) | (simp; omega)) _)
  clear Hl Hm Hn Hq HB xl yl zl
  rintro W13 ⟨hl, hm, hn, hq, he, hb⟩
  have Hl := Lib.hid hl
  have Hm := Lib.hid hm
  have Hn := Lib.hid hn
  have Hq := Lib.hid hq
  have He := Lib.hid he
  have HB := Lib.hid hb
  clear hb hl hm hn hq he
  refine (DMes_b (some ⟨w12.heap.size + 1 + 1, 0, none⟩) 1 1 [[]] 3 20 0 nd0 0 _ (HT.out.on HB.out) rfl He.out wd_e12 (by decide) (few_lit (by decide)) (by decide) (by decide) v12_d 0 0 0 0 0 rfl rfl rfl rfl rfl).mono ?_
  rintro r w14 ⟨A4, c4, E4, e4, rfl, hn, hb⟩
  have fl := Hl.out.below hb
  have fm := Hm.out.below hb (Nat.le_refl _)
  have fn := Hn.out.on hb (Nat.le_refl _)
  have fq := Hq.out.below hb
  have fe := He.out.below hb (Nat.le_refl _)
  have HB0 := Lib.hid (bel_on HB.out hb)
  clear hb Hl Hm Hn Hq He HB
  have HB := HB0
  clear HB0
  have Hl := Lib.hid fl
  clear fl
  have Hm := Lib.hid fm
  clear fm
  have Hn := Lib.hid fn
  clear fn
  have Hq := Lib.hid fq
  clear fq
  have He := Lib.hid fe
  clear fe
  have Hz := Lib.hid hn
  clear hn
  clear He
  obtain ⟨xl, yl, zl⟩ := ((Hl.out.alloc (.cells #[.int .i64 0, .int .i64 0, .int .i64 0, .slice A4 0 c4, .slice E4 0 e4] 30)).alloc (.cells #[] 46))
  go_wp2_with fail
  refine abs_world (F := fun W => Blk W w.heap.size #[.int .i64 3, .int .i64 20, .int .i64 0] ∧ Sg W (some ⟨w3.heap.size + 1, 0, none⟩) m12 ∧ NdR W A1 c1 E1 e1 n12 ∧ Blk W w5.heap.size #[.int .i64 1, .int .i64 0, .int .i64 0, .slice A1 8 c1, .slice E1 1 e1] ∧ NdR W A4 c4 E4 e4 nd0 ∧ Blk W w14.heap.size #[.int .i64 0, .int .i64 0, .int .i64 0, .slice A4 0 c4, .slice E4 0 e4] ∧ Below w.heap.size w W) ⟨?_, ?_, ?_, ?_, ?_, ?_, ?_⟩ ?_
  · exact ((Hl.out.alloc _).alloc _)
  · exact ((Hm.out.alloc _).alloc _)
  · exact (NdR.on (NdR.on Hn.out ((Below.refl _ _).alloc (Nat.le_refl _) _) (Nat.le_refl _)) ((Below.refl _ _).alloc (Nat.le_refl _) _) (Nat.le_refl _))
  · exact ((Hq.out.alloc _).alloc _)
  · exact (NdR.on (NdR.on Hz.out ((Below.refl _ _).alloc (Nat.le_refl _) _) (Nat.le_refl _)) ((Below.refl _ _).alloc (Nat.le_refl _) _) (Nat.le_refl _))
  · exact (Blk.fresh _ _ _).alloc _
  · exact ((HB.out.alloc (by first | exact Nat.le_refl _ | (have := HB.out.size; simp; omega) | (have := HB.out.size; omega) | (simp; done) | (simp; omega)) _).alloc (by first | exact Nat.le_refl _ | (have := HB.out.size; simp; omega) | (have := HB.out.size; omega) | (simp; done) | (simp; omega)) _)
  clear Hl Hm Hn Hq Hz HB xl yl zl
  rintro W15 ⟨hl, hm, hn, hq, hz, hr, hb⟩
  have Hl := Lib.hid hl
  have Hm := Lib.hid hm
  have Hn := Lib.hid hn
  have Hq := Lib.hid hq
  have Hz := Lib.hid hz
  have Hr := Lib.hid hr
  have HB := Lib.hid hb
  clear hb hl hm hn hq hz hr
  refine (DMes_b (some ⟨w14.heap.size + 1, 0, none⟩) 0 0 [] 3 20 0 nd0 2 _ (HT.out.on HB.out) rfl (Sg.nil _ _) wd_n12 (by decide) few_n12 (by decide) (by decide) v12_e 0 0 0 0 0 rfl rfl rfl rfl rfl).mono ?_
  rintro r w16 ⟨A5, c5, E5, e5, rfl, -, hb⟩
  have fl := Hl.out.below hb
  have fm := Hm.out.below hb (Nat.le_refl _)
  have fn := Hn.out.on hb (Nat.le_refl _)
  have fq := Hq.out.below hb
  have fz := Hz.out.on hb (Nat.le_refl _)
  have fr := Hr.out.below hb
  have HB0 := Lib.hid (bel_on HB.out hb)
  clear hb Hl Hm Hn Hq Hz Hr HB
  have HB := HB0
  clear HB0
  have Hl := Lib.hid fl
  clear fl
  have Hm := Lib.hid fm
  clear fm
  have Hn := Lib.hid fn
  clear fn
  have Hq := Lib.hid fq
  clear fq
  have Hz := Lib.hid fz
  clear fz
  have Hr := Lib.hid fr
  clear fr
  obtain ⟨xl, yl, zl⟩ := (Hl.out.alloc (.cells #[.int .i64 0, .int .i64 0, .int .i64 0, .slice A5 0 c5, .slice E5 0 e5] 30))
  go_wp2_with fail
  refine abs_world (F := fun W => Blk W w.heap.size #[.int .i64 3, .int .i64 20, .int .i64 0] ∧ Sg W (some ⟨w3.heap.size + 1, 0, none⟩) m12 ∧ NdR W A1 c1 E1 e1 n12 ∧ Blk W w5.heap.size #[.int .i64 1, .int .i64 0, .int .i64 0, .slice A1 8 c1, .slice E1 1 e1] ∧ NdR W A4 c4 E4 e4 nd0 ∧ Blk W w14.heap.size #[.int .i64 0, .int .i64 0, .int .i64 0, .slice A4 0 c4, .slice E4 0 e4] ∧ Below w.heap.size w W) ⟨?_, ?_, ?_, ?_, ?_, ?_, ?_⟩ ?_
  · exact (Hl.out.alloc _)
  · exact (Hm.out.alloc _)
  · exact (NdR.on Hn.out ((Below.refl _ _).alloc (Nat.le_refl _) _) (Nat.le_refl _))
  · exact (Hq.out.alloc _)
  · exact (NdR.on Hz.out ((Below.refl _ _).alloc (Nat.le_refl _) _) (Nat.le_refl _))
  · exact (Hr.out.alloc _)
  · exact (HB.out.alloc (by first | exact Nat.le_refl _ | (have := HB.out.size; simp; omega) | (have := HB.out.size; omega) | (simp; done) | (simp; omega)) _)
  clear Hl Hm Hn Hq Hz Hr HB xl yl zl
  rintro W17 ⟨hl, hm, hn, hq, hz, hr, hb⟩
  have Hl := Lib.hid hl
  have Hm := Lib.hid hm
  have Hn := Lib.hid hn
  have Hq := Lib.hid hq
  have Hz := Lib.hid hz
  have Hr := Lib.hid hr
  have HB := Lib.hid hb
  clear hb hl hm hn hq hz hr
  refine (DMeasure_is (some ⟨w3.heap.size + 1, 0, none⟩) 1 1 m12 3 20 0 4 0 _ (HT.out.on HB.out) len_m12 Hm.out wd_m12 le_m12 few_m12 (by decide) (by decide) v12_f).mono ?_
  rintro r w18 ⟨rfl, hb⟩
  have fl := Hl.out.below hb
  have fm := Hm.out.below hb (Nat.le_refl _)
  have fn := Hn.out.on hb (Nat.le_refl _)
  have fq := Hq.out.below hb
  have fz := Hz.out.on hb (Nat.le_refl _)
  have fr := Hr.out.below hb
  have HB0 := Lib.hid (bel_on HB.out hb)
  clear hb Hl Hm Hn Hq Hz Hr HB
  have HB := HB0
  clear HB0
  have Hl := Lib.hid fl
  clear fl
  have Hm := Lib.hid fm
  clear fm
  have Hn := Lib.hid fn
  clear fn
  have Hq := Lib.hid fq
  clear fq
  have Hz := Lib.hid fz
  clear fz
  have Hr := Lib.hid fr
  clear fr
  clear Hm
  clear Hl
  obtain ⟨xq0, yq0, zq0⟩ := Hq.out
  obtain ⟨xq, yq, zq⟩ := (Hq.out.alloc (.cells #[.int .u8 7, .int .u8 0, .int .u8 0, .int .u8 0, .int .u8 0, .int .u8 0, .int .u8 0, .int .u8 0] 5))
  go_wp2_with fail
  clear xq0 yq0 zq0
  refine abs_world (F := fun W => NdR W A1 c1 E1 e1 n12 ∧ Blk W w5.heap.size #[.int .i64 1, .int .i64 0, .int .i64 0, .slice A1 8 c1, .slice E1 1 e1] ∧ NdR W A4 c4 E4 e4 nd0 ∧ Blk W w14.heap.size #[.int .i64 0, .int .i64 0, .int .i64 0, .slice A4 0 c4, .slice E4 0 e4] ∧ Ri W .u8 (some ⟨w18.heap.size, 0, none⟩) [7, 0, 0, 0, 0, 0, 0, 0] ∧ Below w.heap.size w W) ⟨?_, ?_, ?_, ?_, ?_, ?_⟩ ?_
  · exact (NdR.on Hn.out ((Below.refl _ _).alloc (Nat.le_refl _) _) (Nat.le_refl _))
  · exact (Hq.out.alloc _)
  · exact (NdR.on Hz.out ((Below.refl _ _).alloc (Nat.le_refl _) _) (Nat.le_refl _))
  · exact (Hr.out.alloc _)
  · exact Ri.lit w18 .u8 [7, 0, 0, 0, 0, 0, 0, 0] 5
  · exact (HB.out.alloc (by first | exact Nat.le_refl _ | (have := HB.out.size; simp; omega) | (have := HB.out.size; omega) | (simp; done) | (simp; omega)) _)
  clear Hn Hq Hz Hr HB xq yq zq
  rintro W19 ⟨hn, hq, hz, hr, hy, hb⟩
  have Hn := Lib.hid hn
  have Hq := Lib.hid hq
  have Hz := Lib.hid hz
  have Hr := Lib.hid hr
  have Hy := Lib.hid hy
  have HB := Lib.hid hb
  clear hb hn hq hz hr hy
  refine (Same_any A1 (some ⟨w18.heap.size, 0, none⟩) c1 8 [7, 0, 0, 0, 0, 0, 0, 0] [7, 0, 0, 0, 0, 0, 0, 0] _ (NdR.open Hn.out).2.2.2.1 Hy.out (by decide) (by decide)).mono ?_
  rintro r w20 ⟨rfl, m, rfl⟩
  rw [show sameB [7, 0, 0, 0, 0, 0, 0, 0] [7, 0, 0, 0, 0, 0, 0, 0] = true by decide]
  obtain ⟨xq, yq, zq⟩ := Hq.out.drewN m
  obtain ⟨bk, ok, Ak, ck, Bk, ek, hE, k0, k1, k2, k3, k4, hk⟩ := NdR.kid (j := 0) (Hn.out.on (bel_drewN (Below.refl _ _) m) (Nat.le_refl _)) (by decide)
  subst hE
  simp only [Nat.zero_mul, Nat.add_zero] at k0 k1 k2 k3 k4
  have k0 : (W19.drewN m).cell? ⟨bk, ok, none⟩ = some (.int .i64 2) := k0
  have k1 : (W19.drewN m).cell? ⟨bk, ok + 1, none⟩ = some (.int .i64 1) := k1
  have k2 : (W19.drewN m).cell? ⟨bk, ok + 2, none⟩ = some (.int .i64 3) := k2
  have k3 : (W19.drewN m).cell? ⟨bk, ok + 3, none⟩ = some (.slice Ak 1 ck) := k3
  have k4 : (W19.drewN m).cell? ⟨bk, ok + 4, none⟩ = some (.slice Bk 0 ek) := k4
  have Hk := Lib.hid hk
  clear hk
  go_wp2_with fail
  refine abs_world (F := fun W => Blk W w14.heap.size #[.int .i64 0, .int .i64 0, .int .i64 0, .slice A4 0 c4, .slice E4 0 e4] ∧ NdR W A4 c4 E4 e4 nd0 ∧ NdR W Ak ck Bk ek l12 ∧ NdR W (some ⟨W19.heap.size, 0, none⟩) 1 none 0 l12 ∧ Below w.heap.size w W) ⟨?_, ?_, ?_, ?_, ?_⟩ ?_
  · exact (Hr.out.drewN m).alloc _
  · exact (Hz.out.on (bel_drewN (Below.refl _ _) m) (Nat.le_refl _)).on ((Below.refl _ _).alloc (Nat.le_refl _) _) (Nat.le_refl _)
  · exact Hk.out.on ((Below.refl _ _).alloc (Nat.le_refl _) _) (Nat.le_refl _)
  · exact KsR.node (.inl rfl) ⟨by decide, by decide⟩ ⟨by decide, by decide⟩ ⟨by decide, by decide⟩ (Ri.lit (W19.drewN m) .u8 [7] 5) (by intro z hz; simp at hz; omega) (by decide) (by unfold maxLen; omega) (fun h => by cases h) (by decide) (by unfold maxLen; omega) (fun _ => rfl)
  · exact (bel_drewN HB.out m).alloc (by have := HB.out.size; simp; omega) _
  clear Hr Hz Hk Hq Hn Hy HB xq yq zq k0 k1 k2 k3 k4
  rintro W21 ⟨hr, hz, hk, hl, hb⟩
  have Hr := Lib.hid hr
  have Hz := Lib.hid hz
  have HB := Lib.hid hb
  clear hr hz hb
  refine (RefEqual_12 l12 l12 Ak ck Bk ek (some ⟨W19.heap.size, 0, none⟩) 1 none 0 true _ hk hl (by simp [eqN])).mono ?_
  rintro r w22 ⟨rfl, hb⟩
  have hr := Hr.out.below hb
  have hz := Hz.out.on hb (Nat.le_refl _)
  have HB0 := Lib.hid (bel_on HB.out hb)
  clear hb Hr Hz HB hk hl
  have HZ := Lib.hid hz
  clear hz
  obtain ⟨xr, yr, zr⟩ := hr
  go_wp2_with fail
  refine (RefEqual_12 nd0 nd0 A4 c4 E4 e4 none 0 none 0 true _ HZ.out (nd0_here _ 0 (by decide)) (by simp [eqN])).mono ?_
  rintro r w23 ⟨rfl, hb⟩
  have HB := Lib.hid (bel_on HB0.out hb)
  clear hb HB0 HZ xr yr zr
  go_wp2
  go_ret
  exact ⟨rfl, HB.out⟩
end Go.Proofs.YtnmanhediiooaaaGreatDoor
