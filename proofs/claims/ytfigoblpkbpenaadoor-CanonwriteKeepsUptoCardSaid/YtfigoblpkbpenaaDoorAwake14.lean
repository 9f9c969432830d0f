/- The fixed examples of layer 14: 'awake' is true. -/
import Derived.Test.YtfigoblpkbpenaaDoorMg1
import Derived.Test.YtfigoblpkbpenaaDoorMg2
import Derived.Test.YtfigoblpkbpenaaDoorMg3
import Derived.Test.YtfigoblpkbpenaaDoorMg4
import Derived.Test.YtfigoblpkbpenaaDoorMg5
import Derived.Test.YtfigoblpkbpenaaDoorMg6
import Derived.Test.YtfigoblpkbpenaaDoorMg7
import Derived.Test.YtfigoblpkbpenaaDoorMg8
import Derived.Test.YtfigoblpkbpenaaDoorMg9
import Derived.Test.YtfigoblpkbpenaaDoorMg10
import Derived.Test.YtfigoblpkbpenaaDoorMg11
import Derived.Test.YtfigoblpkbpenaaDoorMg12
import Derived.Test.YtfigoblpkbpenaaDoorMg13
import Derived.Test.YtfigoblpkbpenaaDoorMg14
import Derived.Test.YtfigoblpkbpenaaDoorMg15
import Derived.Test.YtfigoblpkbpenaaDoorMg16
import Derived.Test.YtfigoblpkbpenaaDoorMg17
import Derived.Test.YtfigoblpkbpenaaDoorMg18
import Derived.Test.YtfigoblpkbpenaaDoorMg19
import Derived.Test.YtfigoblpkbpenaaDoorMg20
import Derived.Test.YtfigoblpkbpenaaDoorMg21
import Derived.Test.YtfigoblpkbpenaaDoorMg22
import Derived.Test.YtfigoblpkbpenaaDoorMg23
import Derived.Test.YtfigoblpkbpenaaDoorMg24
import Derived.Test.YtfigoblpkbpenaaDoorMg25
import Derived.Test.YtfigoblpkbpenaaDoorMg26
import Derived.Test.YtfigoblpkbpenaaDoorMg27
import Derived.Test.YtfigoblpkbpenaaDoorMg28
import Derived.Test.YtfigoblpkbpenaaDoorMg29
import Derived.Test.YtfigoblpkbpenaaDoorMg30
import Derived.Test.YtfigoblpkbpenaaDoorMg31
import Derived.Test.YtfigoblpkbpenaaDoorMg32
import Derived.Test.YtfigoblpkbpenaaDoorMg33
import Derived.Test.YtfigoblpkbpenaaDoorMg34
import Derived.Test.YtfigoblpkbpenaaDoorMg35
import Derived.Test.YtfigoblpkbpenaaDoorMg36
import Derived.Lib.SliceRun
namespace Go.Proofs.YtfigoblpkbpenaaDoor
open Go.ChangeShapes Go.WideShapes Go.ChangeAt Go.RowKit
set_option linter.unusedVariables false
set_option linter.unusedSimpArgs false
set_option maxRecDepth 100000

def f14 : Nd := .mk 1 0 0 [5, 0, 0, 0, 0, 0, 0, 0] []
def e14 : Nd := .mk 1 0 0 [] []
def t14 : Nd := .mk 1 0 0 [] [e14, f14]
def c14 : Nd := .mk 2 7 2 [] [e14, f14]
def v14 : Nd := .mk 2 0 3 [] []
structure M14 (w : World) (W : World) : Prop where
  t0 : Blk W (w.heap.size + 1) #[.int .i64 1, .int .i64 0, .int .i64 0, .slice (some ⟨w.heap.size, 0, none⟩) 8 8, .slice none 0 0]
  t1 : Blk W (w.heap.size + 1 + 1) #[.int .i64 1, .int .i64 0, .int .i64 0, .slice none 0 0, .slice none 0 0]
  t3 : Blk W (w.heap.size + 1 + 1 + 1 + 1) #[.int .i64 1, .int .i64 0, .int .i64 0, .slice none 0 0, .slice (some ⟨w.heap.size + 1 + 1 + 1, 0, none⟩) 2 2]
  t4 : Blk W (w.heap.size + 1 + 1 + 1 + 1 + 1 + 1) #[.int .i64 2, .int .i64 7, .int .i64 2, .slice none 0 0, .slice (some ⟨w.heap.size + 1 + 1 + 1 + 1 + 1, 0, none⟩) 2 2]
  t5 : Blk W (w.heap.size + 1 + 1 + 1 + 1 + 1 + 1 + 1) #[.int .i64 2, .int .i64 0, .int .i64 3, .slice none 0 0, .slice none 0 0]
  n0 : NdR W (some ⟨w.heap.size, 0, none⟩) 8 none 0 f14
  n1 : NdR W none 0 none 0 e14
  n2 : NdR W none 0 none 0 nd0
  n3 : NdR W none 0 (some ⟨w.heap.size + 1 + 1 + 1, 0, none⟩) 2 t14
  n4 : NdR W none 0 (some ⟨w.heap.size + 1 + 1 + 1 + 1 + 1, 0, none⟩) 2 c14
  n5 : NdR W none 0 none 0 v14
  hb : Below w.heap.size w W
theorem M14.on {w W W' : World} (h : M14 w W) (hb : Below W.heap.size W W') : M14 w W' :=
  ⟨h.t0.below hb, h.t1.below hb, h.t3.below hb, h.t4.below hb, h.t5.below hb, h.n0.on hb (Nat.le_refl _), h.n1.on hb (Nat.le_refl _), h.n2.on hb (Nat.le_refl _), h.n3.on hb (Nat.le_refl _), h.n4.on hb (Nat.le_refl _), h.n5.on hb (Nat.le_refl _), bel_on h.hb hb⟩
theorem e14_here (W : World) : NdR W none 0 none 0 e14 := KsR.node (.inl rfl) ⟨by decide, by decide⟩ ⟨by decide, by decide⟩ ⟨by decide, by decide⟩ (Ri.nil _ _ _) (by intro z hz; cases hz) (by decide) (by unfold maxLen; omega) (fun _ => rfl) (by decide) (by unfold maxLen; omega) (fun _ => rfl)
theorem v14_here (W : World) : NdR W none 0 none 0 v14 := KsR.node (.inl rfl) ⟨by decide, by decide⟩ ⟨by decide, by decide⟩ ⟨by decide, by decide⟩ (Ri.nil _ _ _) (by intro z hz; cases hz) (by decide) (by unfold maxLen; omega) (fun _ => rfl) (by decide) (by unfold maxLen; omega) (fun _ => rfl)
theorem f14_here (W : World) (g : Nat) (hg : g = W.heap.size) : NdR (W.alloc (.cells #[.int .u8 5, .int .u8 0, .int .u8 0, .int .u8 0, .int .u8 0, .int .u8 0, .int .u8 0, .int .u8 0] 5)) (some ⟨g, 0, none⟩) 8 none 0 f14 := by
  subst hg
  exact KsR.node (.inl rfl) ⟨by decide, by decide⟩ ⟨by decide, by decide⟩ ⟨by decide, by decide⟩ (Ri.lit W .u8 [5, 0, 0, 0, 0, 0, 0, 0] 5) (by intro z hz; simp at hz; omega) (by decide) (by unfold maxLen; omega) (fun h => by cases h) (by decide) (by unfold maxLen; omega) (fun _ => rfl)
theorem t14_here (W : World) (g : Nat) (hg : g = W.heap.size) (p : Nat) (h : NdR W (some ⟨p, 0, none⟩) 8 none 0 f14) : NdR (W.alloc (.cells #[.int .i64 1, .int .i64 0, .int .i64 0, .slice none 0 0, .slice none 0 0, .int .i64 1, .int .i64 0, .int .i64 0, .slice (some ⟨p, 0, none⟩) 8 8, .slice none 0 0] 25)) none 0 (some ⟨g, 0, none⟩) 2 t14 := by
  subst hg
  exact KsR.node (row2_new (e14_here W) h 25) ⟨by decide, by decide⟩ ⟨by decide, by decide⟩ ⟨by decide, by decide⟩ (Ri.nil _ _ _) (by intro z hz; cases hz) (by decide) (by unfold maxLen; omega) (fun _ => rfl) (by decide) (by unfold maxLen; omega) (fun h => by cases h)
theorem c14_here (W : World) (g : Nat) (hg : g = W.heap.size) (p : Nat) (h : NdR W (some ⟨p, 0, none⟩) 8 none 0 f14) : NdR (W.alloc (.cells #[.int .i64 1, .int .i64 0, .int .i64 0, .slice none 0 0, .slice none 0 0, .int .i64 1, .int .i64 0, .int .i64 0, .slice (some ⟨p, 0, none⟩) 8 8, .slice none 0 0] 25)) none 0 (some ⟨g, 0, none⟩) 2 c14 := by
  subst hg
  exact KsR.node (row2_new (e14_here W) h 25) ⟨by decide, by decide⟩ ⟨by decide, by decide⟩ ⟨by decide, by decide⟩ (Ri.nil _ _ _) (by intro z hz; cases hz) (by decide) (by unfold maxLen; omega) (fun _ => rfl) (by decide) (by unfold maxLen; omega) (fun h => by cases h)
theorem m14_new (w : World) : M14 w ((((((((w.alloc (.cells #[.int .u8 5, .int .u8 0, .int .u8 0, .int .u8 0, .int .u8 0, .int .u8 0, .int .u8 0, .int .u8 0] 5)).alloc (.cells #[.int .i64 1, .int .i64 0, .int .i64 0, .slice (some ⟨w.heap.size, 0, none⟩) 8 8, .slice none 0 0] 25)).alloc (.cells #[.int .i64 1, .int .i64 0, .int .i64 0, .slice none 0 0, .slice none 0 0] 25)).alloc (.cells #[.int .i64 1, .int .i64 0, .int .i64 0, .slice none 0 0, .slice none 0 0, .int .i64 1, .int .i64 0, .int .i64 0, .slice (some ⟨w.heap.size, 0, none⟩) 8 8, .slice none 0 0] 25)).alloc (.cells #[.int .i64 1, .int .i64 0, .int .i64 0, .slice none 0 0, .slice (some ⟨w.heap.size + 1 + 1 + 1, 0, none⟩) 2 2] 25)).alloc (.cells #[.int .i64 1, .int .i64 0, .int .i64 0, .slice none 0 0, .slice none 0 0, .int .i64 1, .int .i64 0, .int .i64 0, .slice (some ⟨w.heap.size, 0, none⟩) 8 8, .slice none 0 0] 25)).alloc (.cells #[.int .i64 2, .int .i64 7, .int .i64 2, .slice none 0 0, .slice (some ⟨w.heap.size + 1 + 1 + 1 + 1 + 1, 0, none⟩) 2 2] 25)).alloc (.cells #[.int .i64 2, .int .i64 0, .int .i64 3, .slice none 0 0, .slice none 0 0] 25)) := by
  have hf : NdR (w.alloc (.cells #[.int .u8 5, .int .u8 0, .int .u8 0, .int .u8 0, .int .u8 0, .int .u8 0, .int .u8 0, .int .u8 0] 5)) (some ⟨w.heap.size, 0, none⟩) 8 none 0 f14 := f14_here w _ rfl
  have hf3 : NdR (((w.alloc (.cells #[.int .u8 5, .int .u8 0, .int .u8 0, .int .u8 0, .int .u8 0, .int .u8 0, .int .u8 0, .int .u8 0] 5)).alloc (.cells #[.int .i64 1, .int .i64 0, .int .i64 0, .slice (some ⟨w.heap.size, 0, none⟩) 8 8, .slice none 0 0] 25)).alloc (.cells #[.int .i64 1, .int .i64 0, .int .i64 0, .slice none 0 0, .slice none 0 0] 25)) (some ⟨w.heap.size, 0, none⟩) 8 none 0 f14 := (NdR.on (NdR.on hf ((Below.refl _ _).alloc (Nat.le_refl _) _) (Nat.le_refl _)) ((Below.refl _ _).alloc (Nat.le_refl _) _) (Nat.le_refl _))
  have ht : NdR ((((w.alloc (.cells #[.int .u8 5, .int .u8 0, .int .u8 0, .int .u8 0, .int .u8 0, .int .u8 0, .int .u8 0, .int .u8 0] 5)).alloc (.cells #[.int .i64 1, .int .i64 0, .int .i64 0, .slice (some ⟨w.heap.size, 0, none⟩) 8 8, .slice none 0 0] 25)).alloc (.cells #[.int .i64 1, .int .i64 0, .int .i64 0, .slice none 0 0, .slice none 0 0] 25)).alloc (.cells #[.int .i64 1, .int .i64 0, .int .i64 0, .slice none 0 0, .slice none 0 0, .int .i64 1, .int .i64 0, .int .i64 0, .slice (some ⟨w.heap.size, 0, none⟩) 8 8, .slice none 0 0] 25)) none 0 (some ⟨w.heap.size + 1 + 1 + 1, 0, none⟩) 2 t14 := t14_here _ _ (by simp) _ hf3
  have hf5 : NdR (((((w.alloc (.cells #[.int .u8 5, .int .u8 0, .int .u8 0, .int .u8 0, .int .u8 0, .int .u8 0, .int .u8 0, .int .u8 0] 5)).alloc (.cells #[.int .i64 1, .int .i64 0, .int .i64 0, .slice (some ⟨w.heap.size, 0, none⟩) 8 8, .slice none 0 0] 25)).alloc (.cells #[.int .i64 1, .int .i64 0, .int .i64 0, .slice none 0 0, .slice none 0 0] 25)).alloc (.cells #[.int .i64 1, .int .i64 0, .int .i64 0, .slice none 0 0, .slice none 0 0, .int .i64 1, .int .i64 0, .int .i64 0, .slice (some ⟨w.heap.size, 0, none⟩) 8 8, .slice none 0 0] 25)).alloc (.cells #[.int .i64 1, .int .i64 0, .int .i64 0, .slice none 0 0, .slice (some ⟨w.heap.size + 1 + 1 + 1, 0, none⟩) 2 2] 25)) (some ⟨w.heap.size, 0, none⟩) 8 none 0 f14 := (NdR.on (NdR.on hf3 ((Below.refl _ _).alloc (Nat.le_refl _) _) (Nat.le_refl _)) ((Below.refl _ _).alloc (Nat.le_refl _) _) (Nat.le_refl _))
  have hc : NdR ((((((w.alloc (.cells #[.int .u8 5, .int .u8 0, .int .u8 0, .int .u8 0, .int .u8 0, .int .u8 0, .int .u8 0, .int .u8 0] 5)).alloc (.cells #[.int .i64 1, .int .i64 0, .int .i64 0, .slice (some ⟨w.heap.size, 0, none⟩) 8 8, .slice none 0 0] 25)).alloc (.cells #[.int .i64 1, .int .i64 0, .int .i64 0, .slice none 0 0, .slice none 0 0] 25)).alloc (.cells #[.int .i64 1, .int .i64 0, .int .i64 0, .slice none 0 0, .slice none 0 0, .int .i64 1, .int .i64 0, .int .i64 0, .slice (some ⟨w.heap.size, 0, none⟩) 8 8, .slice none 0 0] 25)).alloc (.cells #[.int .i64 1, .int .i64 0, .int .i64 0, .slice none 0 0, .slice (some ⟨w.heap.size + 1 + 1 + 1, 0, none⟩) 2 2] 25)).alloc (.cells #[.int .i64 1, .int .i64 0, .int .i64 0, .slice none 0 0, .slice none 0 0, .int .i64 1, .int .i64 0, .int .i64 0, .slice (some ⟨w.heap.size, 0, none⟩) 8 8, .slice none 0 0] 25)) none 0 (some ⟨w.heap.size + 1 + 1 + 1 + 1 + 1, 0, none⟩) 2 c14 := c14_here _ _ (by simp) _ hf5
  refine ⟨?_, ?_, ?_, ?_, ?_, ?_, ?_, ?_, ?_, ?_, ?_, ?_⟩
  · exact (((((((Blk.new (by simp)).alloc _).alloc _).alloc _).alloc _).alloc _).alloc _)
  · exact ((((((Blk.new (by simp)).alloc _).alloc _).alloc _).alloc _).alloc _)
  · exact ((((Blk.new (by simp)).alloc _).alloc _).alloc _)
  · exact ((Blk.new (by simp)).alloc _)
  · exact (Blk.new (by simp))
  · exact (NdR.on (NdR.on (NdR.on hf5 ((Below.refl _ _).alloc (Nat.le_refl _) _) (Nat.le_refl _)) ((Below.refl _ _).alloc (Nat.le_refl _) _) (Nat.le_refl _)) ((Below.refl _ _).alloc (Nat.le_refl _) _) (Nat.le_refl _))
  · exact (e14_here _)
  · exact (nd0_here _ 0 (by decide))
  · exact (NdR.on (NdR.on (NdR.on (NdR.on ht ((Below.refl _ _).alloc (Nat.le_refl _) _) (Nat.le_refl _)) ((Below.refl _ _).alloc (Nat.le_refl _) _) (Nat.le_refl _)) ((Below.refl _ _).alloc (Nat.le_refl _) _) (Nat.le_refl _)) ((Below.refl _ _).alloc (Nat.le_refl _) _) (Nat.le_refl _))
  · exact (NdR.on (NdR.on hc ((Below.refl _ _).alloc (Nat.le_refl _) _) (Nat.le_refl _)) ((Below.refl _ _).alloc (Nat.le_refl _) _) (Nat.le_refl _))
  · exact (v14_here _)
  · exact (((((((((Below.refl w.heap.size w).alloc (by first | exact Nat.le_refl _ | (simp; done) | (simp; omega)) _).alloc (by first | exact Nat.le_refl _ | (simp; done) | (simp; omega)) _).alloc (by first | exact Nat.le_refl _ | (simp; done) | (simp; omega)) _).alloc (by first | exact Nat.le_refl _ | (simp; done) | (simp; omega)) _).alloc (by first | exact Nat.le_refl _ | (simp; done) | (simp; omega)) _).alloc (by first | exact Nat.le_refl _ | (simp; done) | (simp; omega)) _).alloc (by first | exact Nat.le_refl _ | (simp; done) | (simp; omega)) _).alloc (by first | exact Nat.le_refl _ | (simp; done) | (simp; omega)) _)
theorem ok_f14 : validN f14 = true ∧ trimmedN f14 = true ∧ writeF f14 = [4294967296, 5] ∧ canN f14 ≤ 268435455 ∧ sizeN f14 ≤ 1048576 := ⟨by decide +kernel, by decide +kernel, by decide +kernel, by decide +kernel, by decide +kernel⟩
theorem ok_e14 : validN e14 = true ∧ trimmedN e14 = true ∧ writeF e14 = [4294967292] ∧ canN e14 ≤ 268435455 ∧ sizeN e14 ≤ 1048576 := ⟨by decide +kernel, by decide +kernel, by decide +kernel, by decide +kernel, by decide +kernel⟩
theorem ok_nd0 : validN nd0 = true ∧ trimmedN nd0 = true ∧ writeF nd0 = [0] ∧ canN nd0 ≤ 268435455 ∧ sizeN nd0 ≤ 1048576 := ⟨by decide +kernel, by decide +kernel, by decide +kernel, by decide +kernel, by decide +kernel⟩
theorem ok_t14 : validN t14 = true ∧ trimmedN t14 = true ∧ writeF t14 = [562949953421312, 4294967292, 4294967296, 5] ∧ canN t14 ≤ 268435455 ∧ sizeN t14 ≤ 1048576 := ⟨by decide +kernel, by decide +kernel, by decide +kernel, by decide +kernel, by decide +kernel⟩
theorem ok_c14 : validN c14 = true ∧ trimmedN c14 = true ∧ writeF c14 = [98784247809, 4294967304, 0, 5] ∧ canN c14 ≤ 268435455 ∧ sizeN c14 ≤ 1048576 := ⟨by decide +kernel, by decide +kernel, by decide +kernel, by decide +kernel, by decide +kernel⟩
theorem ok_v14 : validN v14 = true ∧ trimmedN v14 = true ∧ writeF v14 = [103079215105] ∧ canN v14 ≤ 268435455 ∧ sizeN v14 ≤ 1048576 := ⟨by decide +kernel, by decide +kernel, by decide +kernel, by decide +kernel, by decide +kernel⟩
set_option maxHeartbeats 4000000 in
set_option maxRecDepth 100000 in
theorem awake14_any (w : World) (hT : TabOK w) : Calls Tryd.prog 7 #[] w fun e w' => e = .returned (.bool true) ∧ Below w.heap.size w w' := by
  have HT := Lib.hid hT
  clear hT
  go_enter Tryd.func7, Tryd.ntmps7
  go_wp2_with fail
  refine abs_world (F := M14 w) (m14_new w) ?_
  intro W0 M0
  have M := Lib.hid M0
  clear M0
  refine (CWrite_w f14 [4294967296, 5] 2 (some ⟨w.heap.size, 0, none⟩) 8 none 0 _ (HT.out.on M.out.hb) M.out.n0 ok_f14.2.2.2.2 ok_f14.1 ok_f14.2.1 ok_f14.2.2.2.1 ok_f14.2.2.1 rfl 1 0 0 8 0 rfl rfl rfl rfl rfl).mono ?_
  rintro r wa ⟨A', c', rfl, -, hr, -, -, -, hb⟩
  have M1 := Lib.hid (M.out.on hb)
  have HR := Lib.hid (hr.alloc (.cells #[.int .u64 4294967296, .int .u64 5] 32))
  have HA := Lib.hid ((Below.refl wa.heap.size wa).alloc (Nat.le_refl _) (.cells #[.int .u64 4294967296, .int .u64 5] 32))
  clear hb M hr
  have M := M1
  clear M1
  go_wp2_with fail
  refine (SameWords_w A' (some ⟨wa.heap.size, 0, none⟩) c' 2 [4294967296, 5] [4294967296, 5] 2 2 true _ HR.out (Ri.lit wa .u64 [4294967296, 5] 32) rfl rfl (by decide) (by decide) (by decide)).mono ?_
  rintro r wb ⟨rfl, hb⟩
  have M1 := Lib.hid (M.out.on (bel_on HA.out hb))
  clear hb M HR HA
  have M := M1
  clear M1
  obtain ⟨x0, y0, z0⟩ := M.out.t0
  obtain ⟨x1, y1, z1⟩ := M.out.t1
  obtain ⟨x3, y3, z3⟩ := M.out.t3
  obtain ⟨x4, y4, z4⟩ := M.out.t4
  obtain ⟨x5, y5, z5⟩ := M.out.t5
  go_wp2_with fail
  refine (CWrite_w e14 [4294967292] 1 none 0 none 0 _ (HT.out.on M.out.hb) M.out.n1 ok_e14.2.2.2.2 ok_e14.1 ok_e14.2.1 ok_e14.2.2.2.1 ok_e14.2.2.1 rfl 1 0 0 0 0 rfl rfl rfl rfl rfl).mono ?_
  rintro r wa ⟨A', c', rfl, -, hr, -, -, -, hb⟩
  have M1 := Lib.hid (M.out.on hb)
  have HR := Lib.hid (hr.alloc (.cells #[.int .u64 4294967292] 32))
  have HA := Lib.hid ((Below.refl wa.heap.size wa).alloc (Nat.le_refl _) (.cells #[.int .u64 4294967292] 32))
  clear hb M hr x0 y0 z0 x1 y1 z1 x3 y3 z3 x4 y4 z4 x5 y5 z5
  have M := M1
  clear M1
  go_wp2_with fail
  refine (SameWords_w A' (some ⟨wa.heap.size, 0, none⟩) c' 1 [4294967292] [4294967292] 1 1 true _ HR.out (Ri.lit wa .u64 [4294967292] 32) rfl rfl (by decide) (by decide) (by decide)).mono ?_
  rintro r wb ⟨rfl, hb⟩
  have M1 := Lib.hid (M.out.on (bel_on HA.out hb))
  clear hb M HR HA
  have M := M1
  clear M1
  obtain ⟨x0, y0, z0⟩ := M.out.t0
  obtain ⟨x1, y1, z1⟩ := M.out.t1
  obtain ⟨x3, y3, z3⟩ := M.out.t3
  obtain ⟨x4, y4, z4⟩ := M.out.t4
  obtain ⟨x5, y5, z5⟩ := M.out.t5
  go_wp2_with fail
  refine (CWrite_w nd0 [0] 1 none 0 none 0 _ (HT.out.on M.out.hb) M.out.n2 ok_nd0.2.2.2.2 ok_nd0.1 ok_nd0.2.1 ok_nd0.2.2.2.1 ok_nd0.2.2.1 rfl 0 0 0 0 0 rfl rfl rfl rfl rfl).mono ?_
  rintro r wa ⟨A', c', rfl, -, hr, -, -, -, hb⟩
  have M1 := Lib.hid (M.out.on hb)
  have HR := Lib.hid (hr.alloc (.cells #[.int .u64 0] 32))
  have HA := Lib.hid ((Below.refl wa.heap.size wa).alloc (Nat.le_refl _) (.cells #[.int .u64 0] 32))
  clear hb M hr x0 y0 z0 x1 y1 z1 x3 y3 z3 x4 y4 z4 x5 y5 z5
  have M := M1
  clear M1
  go_wp2_with fail
  refine (SameWords_w A' (some ⟨wa.heap.size, 0, none⟩) c' 1 [0] [0] 1 1 true _ HR.out (Ri.lit wa .u64 [0] 32) rfl rfl (by decide) (by decide) (by decide)).mono ?_
  rintro r wb ⟨rfl, hb⟩
  have M1 := Lib.hid (M.out.on (bel_on HA.out hb))
  clear hb M HR HA
  have M := M1
  clear M1
  obtain ⟨x0, y0, z0⟩ := M.out.t0
  obtain ⟨x1, y1, z1⟩ := M.out.t1
  obtain ⟨x3, y3, z3⟩ := M.out.t3
  obtain ⟨x4, y4, z4⟩ := M.out.t4
  obtain ⟨x5, y5, z5⟩ := M.out.t5
  go_wp2_with fail
  refine (CWrite_w t14 [562949953421312, 4294967292, 4294967296, 5] 4 none 0 (some ⟨w.heap.size + 1 + 1 + 1, 0, none⟩) 2 _ (HT.out.on M.out.hb) M.out.n3 ok_t14.2.2.2.2 ok_t14.1 ok_t14.2.1 ok_t14.2.2.2.1 ok_t14.2.2.1 rfl 1 0 0 0 2 rfl rfl rfl rfl rfl).mono ?_
  rintro r wa ⟨A', c', rfl, -, hr, -, -, -, hb⟩
  have M1 := Lib.hid (M.out.on hb)
  have HR := Lib.hid (hr.alloc (.cells #[.int .u64 562949953421312, .int .u64 4294967292, .int .u64 4294967296, .int .u64 5] 32))
  have HA := Lib.hid ((Below.refl wa.heap.size wa).alloc (Nat.le_refl _) (.cells #[.int .u64 562949953421312, .int .u64 4294967292, .int .u64 4294967296, .int .u64 5] 32))
  clear hb M hr x0 y0 z0 x1 y1 z1 x3 y3 z3 x4 y4 z4 x5 y5 z5
  have M := M1
  clear M1
  go_wp2_with fail
  refine (SameWords_w A' (some ⟨wa.heap.size, 0, none⟩) c' 4 [562949953421312, 4294967292, 4294967296, 5] [562949953421312, 4294967292, 4294967296, 5] 4 4 true _ HR.out (Ri.lit wa .u64 [562949953421312, 4294967292, 4294967296, 5] 32) rfl rfl (by decide) (by decide) (by decide)).mono ?_
  rintro r wb ⟨rfl, hb⟩
  have M1 := Lib.hid (M.out.on (bel_on HA.out hb))
  clear hb M HR HA
  have M := M1
  clear M1
  obtain ⟨x0, y0, z0⟩ := M.out.t0
  obtain ⟨x1, y1, z1⟩ := M.out.t1
  obtain ⟨x3, y3, z3⟩ := M.out.t3
  obtain ⟨x4, y4, z4⟩ := M.out.t4
  obtain ⟨x5, y5, z5⟩ := M.out.t5
  go_wp2_with fail
  refine (CWrite_w c14 [98784247809, 4294967304, 0, 5] 4 none 0 (some ⟨w.heap.size + 1 + 1 + 1 + 1 + 1, 0, none⟩) 2 _ (HT.out.on M.out.hb) M.out.n4 ok_c14.2.2.2.2 ok_c14.1 ok_c14.2.1 ok_c14.2.2.2.1 ok_c14.2.2.1 rfl 2 7 2 0 2 rfl rfl rfl rfl rfl).mono ?_
  rintro r wa ⟨A', c', rfl, -, hr, -, -, -, hb⟩
  have M1 := Lib.hid (M.out.on hb)
  have HR := Lib.hid (hr.alloc (.cells #[.int .u64 98784247809, .int .u64 4294967304, .int .u64 0, .int .u64 5] 32))
  have HA := Lib.hid ((Below.refl wa.heap.size wa).alloc (Nat.le_refl _) (.cells #[.int .u64 98784247809, .int .u64 4294967304, .int .u64 0, .int .u64 5] 32))
  clear hb M hr x0 y0 z0 x1 y1 z1 x3 y3 z3 x4 y4 z4 x5 y5 z5
  have M := M1
  clear M1
  go_wp2_with fail
  refine (SameWords_w A' (some ⟨wa.heap.size, 0, none⟩) c' 4 [98784247809, 4294967304, 0, 5] [98784247809, 4294967304, 0, 5] 4 4 true _ HR.out (Ri.lit wa .u64 [98784247809, 4294967304, 0, 5] 32) rfl rfl (by decide) (by decide) (by decide)).mono ?_
  rintro r wb ⟨rfl, hb⟩
  have M1 := Lib.hid (M.out.on (bel_on HA.out hb))
  clear hb M HR HA
  have M := M1
  clear M1
  obtain ⟨x0, y0, z0⟩ := M.out.t0
  obtain ⟨x1, y1, z1⟩ := M.out.t1
  obtain ⟨x3, y3, z3⟩ := M.out.t3
  obtain ⟨x4, y4, z4⟩ := M.out.t4
  obtain ⟨x5, y5, z5⟩ := M.out.t5
  go_wp2_with fail
  refine (CWrite_w v14 [103079215105] 1 none 0 none 0 _ (HT.out.on M.out.hb) M.out.n5 ok_v14.2.2.2.2 ok_v14.1 ok_v14.2.1 ok_v14.2.2.2.1 ok_v14.2.2.1 rfl 2 0 3 0 0 rfl rfl rfl rfl rfl).mono ?_
  rintro r wa ⟨A', c', rfl, -, hr, -, -, -, hb⟩
  have M1 := Lib.hid (M.out.on hb)
  have HR := Lib.hid (hr.alloc (.cells #[.int .u64 103079215105] 32))
  have HA := Lib.hid ((Below.refl wa.heap.size wa).alloc (Nat.le_refl _) (.cells #[.int .u64 103079215105] 32))
  clear hb M hr x0 y0 z0 x1 y1 z1 x3 y3 z3 x4 y4 z4 x5 y5 z5
  have M := M1
  clear M1
  go_wp2_with fail
  refine (SameWords_w A' (some ⟨wa.heap.size, 0, none⟩) c' 1 [103079215105] [103079215105] 1 1 true _ HR.out (Ri.lit wa .u64 [103079215105] 32) rfl rfl (by decide) (by decide) (by decide)).mono ?_
  rintro r wb ⟨rfl, hb⟩
  have M1 := Lib.hid (M.out.on (bel_on HA.out hb))
  clear hb M HR HA
  have M := M1
  clear M1
  obtain ⟨x0, y0, z0⟩ := M.out.t0
  obtain ⟨x1, y1, z1⟩ := M.out.t1
  obtain ⟨x3, y3, z3⟩ := M.out.t3
  obtain ⟨x4, y4, z4⟩ := M.out.t4
  obtain ⟨x5, y5, z5⟩ := M.out.t5
  go_wp2
  go_ret
  exact ⟨rfl, M.out.hb⟩
end Go.Proofs.YtfigoblpkbpenaaDoor
