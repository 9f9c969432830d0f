/- The fixed examples of layer 13: 'awake' is true. -/
import Derived.Test.YtcmljjhnfpfcfaaDoorMg1
import Derived.Test.YtcmljjhnfpfcfaaDoorMg2
import Derived.Test.YtcmljjhnfpfcfaaDoorMg3
import Derived.Test.YtcmljjhnfpfcfaaDoorMg4
import Derived.Test.YtcmljjhnfpfcfaaDoorMg5
import Derived.Test.YtcmljjhnfpfcfaaDoorMg6
import Derived.Test.YtcmljjhnfpfcfaaDoorMg7
import Derived.Test.YtcmljjhnfpfcfaaDoorMg8
import Derived.Test.YtcmljjhnfpfcfaaDoorMg9
import Derived.Test.YtcmljjhnfpfcfaaDoorMg10
import Derived.Test.YtcmljjhnfpfcfaaDoorMg11
import Derived.Test.YtcmljjhnfpfcfaaDoorMg12
import Derived.Test.YtcmljjhnfpfcfaaDoorMg13
import Derived.Test.YtcmljjhnfpfcfaaDoorMg14
import Derived.Test.YtcmljjhnfpfcfaaDoorMg15
import Derived.Test.YtcmljjhnfpfcfaaDoorMg16
import Derived.Test.YtcmljjhnfpfcfaaDoorMg17
import Derived.Lib.SliceRun
namespace Go.Proofs.YtcmljjhnfpfcfaaDoor
open Go.ChangeShapes Go.WideShapes Go.ChangeAt Go.RowKit
set_option linter.unusedVariables false
set_option linter.unusedSimpArgs false
set_option maxRecDepth 100000

def b13 : Nd := .mk 2 2 9 [0, 0, 0, 0, 0, 0, 0, 0, 0] []
def s13 : Nd := .mk 1 0 0 [1, 0, 0, 0, 0, 0, 0, 0] [b13]
def e13 : Nd := .mk 1 0 0 [] []
def c13 : Nd := .mk 2 7 2 [] [s13, e13]
def v13 : Nd := .mk 2 0 1048576 [] []
theorem makeB9_13 (w : World) : (Instr.makeSlice 22 (.int .i64 9) (.int .i64 9)).run Tryd.prog w = .ok (.slice (some ⟨w.heap.size, 0, none⟩) 9 9) (w.alloc (.cells #[.int .u8 0, .int .u8 0, .int .u8 0, .int .u8 0, .int .u8 0, .int .u8 0, .int .u8 0, .int .u8 0, .int .u8 0] 5)) := by
  obtain ⟨i0, hi, hz0, hz1, hz2⟩ := info_parts int8_info
  have h := run_make (P := Tryd.prog) w 22 5 i0 (.int .u8 0) Tryd.underlying22 hi hz0 .i64 .i64 9 9 (by decide) (by decide) (by rw [hz2]; decide) (by decide)
  rw [hz1] at h
  rw [show madeCells (Value.int .u8 0).cells ((9 : Int).toNat * 1) = #[.int .u8 0, .int .u8 0, .int .u8 0, .int .u8 0, .int .u8 0, .int .u8 0, .int .u8 0, .int .u8 0, .int .u8 0] by kernel_rfl] at h
  exact h
structure M13 (w : World) (W : World) : Prop where
  t1 : Blk W (w.heap.size + 1) #[.int .i64 2, .int .i64 2, .int .i64 9, .slice (some ⟨w.heap.size, 0, none⟩) 9 9, .slice none 0 0]
  t2 : Blk W (w.heap.size + 1 + 1 + 1 + 1) #[.int .i64 1, .int .i64 0, .int .i64 0, .slice (some ⟨w.heap.size + 1 + 1, 0, none⟩) 8 8, .slice (some ⟨w.heap.size + 1 + 1 + 1, 0, none⟩) 1 1]
  t3 : Blk W (w.heap.size + 1 + 1 + 1 + 1 + 1 + 1) #[.int .i64 2, .int .i64 7, .int .i64 2, .slice none 0 0, .slice (some ⟨w.heap.size + 1 + 1 + 1 + 1 + 1, 0, none⟩) 2 2]
  t4 : Blk W (w.heap.size + 1 + 1 + 1 + 1 + 1 + 1 + 1) #[.int .i64 2, .int .i64 0, .int .i64 1048576, .slice none 0 0, .slice none 0 0]
  n1 : NdR W (some ⟨w.heap.size, 0, none⟩) 9 none 0 b13
  n2 : NdR W (some ⟨w.heap.size + 1 + 1, 0, none⟩) 8 (some ⟨w.heap.size + 1 + 1 + 1, 0, none⟩) 1 s13
  n3 : NdR W none 0 (some ⟨w.heap.size + 1 + 1 + 1 + 1 + 1, 0, none⟩) 2 c13
  hb : Below w.heap.size w W
theorem M13.on {w W W' : World} (h : M13 w W) (hb : Below W.heap.size W W') : M13 w W' :=
  ⟨h.t1.below hb, h.t2.below hb, h.t3.below hb, h.t4.below hb, h.n1.on hb (Nat.le_refl _), h.n2.on hb (Nat.le_refl _), h.n3.on hb (Nat.le_refl _), bel_on h.hb hb⟩
theorem v13_here (W : World) : NdR W none 0 none 0 v13 := KsR.node (.inl rfl) ⟨by decide, by decide⟩ ⟨by decide, by decide⟩ ⟨by decide, by decide⟩ (Ri.nil _ _ _) (fun z hz => by cases hz) (by decide) (by unfold maxLen; omega) (fun _ => rfl) (by decide) (by unfold maxLen; omega) (fun _ => rfl)
theorem e13_here (W : World) : NdR W none 0 none 0 e13 := KsR.node (.inl rfl) ⟨by decide, by decide⟩ ⟨by decide, by decide⟩ ⟨by decide, by decide⟩ (Ri.nil _ _ _) (fun z hz => by cases hz) (by decide) (by unfold maxLen; omega) (fun _ => rfl) (by decide) (by unfold maxLen; omega) (fun _ => rfl)
set_option maxRecDepth 100000 in
theorem m13_new (w : World) : M13 w ((((((((w.alloc (.cells #[.int .u8 0, .int .u8 0, .int .u8 0, .int .u8 0, .int .u8 0, .int .u8 0, .int .u8 0, .int .u8 0, .int .u8 0] 5)).alloc (.cells #[.int .i64 2, .int .i64 2, .int .i64 9, .slice (some ⟨w.heap.size, 0, none⟩) 9 9, .slice none 0 0] 25)).alloc (.cells #[.int .u8 1, .int .u8 0, .int .u8 0, .int .u8 0, .int .u8 0, .int .u8 0, .int .u8 0, .int .u8 0] 5)).alloc (.cells #[.int .i64 2, .int .i64 2, .int .i64 9, .slice (some ⟨w.heap.size, 0, none⟩) 9 9, .slice none 0 0] 25)).alloc (.cells #[.int .i64 1, .int .i64 0, .int .i64 0, .slice (some ⟨w.heap.size + 1 + 1, 0, none⟩) 8 8, .slice (some ⟨w.heap.size + 1 + 1 + 1, 0, none⟩) 1 1] 25)).alloc (.cells #[.int .i64 1, .int .i64 0, .int .i64 0, .slice (some ⟨w.heap.size + 1 + 1, 0, none⟩) 8 8, .slice (some ⟨w.heap.size + 1 + 1 + 1, 0, none⟩) 1 1, .int .i64 1, .int .i64 0, .int .i64 0, .slice none 0 0, .slice none 0 0] 25)).alloc (.cells #[.int .i64 2, .int .i64 7, .int .i64 2, .slice none 0 0, .slice (some ⟨w.heap.size + 1 + 1 + 1 + 1 + 1, 0, none⟩) 2 2] 25)).alloc (.cells #[.int .i64 2, .int .i64 0, .int .i64 1048576, .slice none 0 0, .slice none 0 0] 25)) := by
  have z1 : ∀ a, (w.alloc a).heap.size = w.heap.size + 1 := fun a => by simp
  have z2 : ∀ a b, ((w.alloc a).alloc b).heap.size = w.heap.size + 1 + 1 := fun a b => by simp
  have z3 : ∀ a b c, (((w.alloc a).alloc b).alloc c).heap.size = w.heap.size + 1 + 1 + 1 := fun a b c => by simp
  have z4 : ∀ a b c d, ((((w.alloc a).alloc b).alloc c).alloc d).heap.size = w.heap.size + 1 + 1 + 1 + 1 := fun a b c d => by simp
  have z5 : ∀ a b c d e, (((((w.alloc a).alloc b).alloc c).alloc d).alloc e).heap.size = w.heap.size + 1 + 1 + 1 + 1 + 1 := fun a b c d e => by simp
  have z6 : ∀ a b c d e f, ((((((w.alloc a).alloc b).alloc c).alloc d).alloc e).alloc f).heap.size = w.heap.size + 1 + 1 + 1 + 1 + 1 + 1 := fun a b c d e f => by simp
  have z7 : ∀ a b c d e f g, (((((((w.alloc a).alloc b).alloc c).alloc d).alloc e).alloc f).alloc g).heap.size = w.heap.size + 1 + 1 + 1 + 1 + 1 + 1 + 1 := fun a b c d e f g => by simp
  have hb1 : NdR (w.alloc (.cells #[.int .u8 0, .int .u8 0, .int .u8 0, .int .u8 0, .int .u8 0, .int .u8 0, .int .u8 0, .int .u8 0, .int .u8 0] 5)) (some ⟨w.heap.size, 0, none⟩) 9 none 0 b13 := KsR.node (.inl rfl) ⟨by decide, by decide⟩ ⟨by decide, by decide⟩ ⟨by decide, by decide⟩ (Ri.lit w .u8 [0, 0, 0, 0, 0, 0, 0, 0, 0] 5) (by intro z hz; simp at hz; omega) (by decide) (by unfold maxLen; omega) (fun h => by cases h) (by decide) (by unfold maxLen; omega) (fun _ => rfl)
  have hb3 : NdR (((w.alloc (.cells #[.int .u8 0, .int .u8 0, .int .u8 0, .int .u8 0, .int .u8 0, .int .u8 0, .int .u8 0, .int .u8 0, .int .u8 0] 5)).alloc (.cells #[.int .i64 2, .int .i64 2, .int .i64 9, .slice (some ⟨w.heap.size, 0, none⟩) 9 9, .slice none 0 0] 25)).alloc (.cells #[.int .u8 1, .int .u8 0, .int .u8 0, .int .u8 0, .int .u8 0, .int .u8 0, .int .u8 0, .int .u8 0] 5)) (some ⟨w.heap.size, 0, none⟩) 9 none 0 b13 := (NdR.on (NdR.on hb1 ((Below.refl _ _).alloc (Nat.le_refl _) _) (Nat.le_refl _)) ((Below.refl _ _).alloc (Nat.le_refl _) _) (Nat.le_refl _))
  have hr3 := Ri.lit ((w.alloc (.cells #[.int .u8 0, .int .u8 0, .int .u8 0, .int .u8 0, .int .u8 0, .int .u8 0, .int .u8 0, .int .u8 0, .int .u8 0] 5)).alloc (.cells #[.int .i64 2, .int .i64 2, .int .i64 9, .slice (some ⟨w.heap.size, 0, none⟩) 9 9, .slice none 0 0] 25)) .u8 [1, 0, 0, 0, 0, 0, 0, 0] 5
  rw [z2] at hr3
  have hk4 := row1_new hb3 25
  rw [z3] at hk4
  have hs4 : NdR ((((w.alloc (.cells #[.int .u8 0, .int .u8 0, .int .u8 0, .int .u8 0, .int .u8 0, .int .u8 0, .int .u8 0, .int .u8 0, .int .u8 0] 5)).alloc (.cells #[.int .i64 2, .int .i64 2, .int .i64 9, .slice (some ⟨w.heap.size, 0, none⟩) 9 9, .slice none 0 0] 25)).alloc (.cells #[.int .u8 1, .int .u8 0, .int .u8 0, .int .u8 0, .int .u8 0, .int .u8 0, .int .u8 0, .int .u8 0] 5)).alloc (.cells #[.int .i64 2, .int .i64 2, .int .i64 9, .slice (some ⟨w.heap.size, 0, none⟩) 9 9, .slice none 0 0] 25)) (some ⟨w.heap.size + 1 + 1, 0, none⟩) 8 (some ⟨w.heap.size + 1 + 1 + 1, 0, none⟩) 1 s13 := KsR.node hk4 ⟨by decide, by decide⟩ ⟨by decide, by decide⟩ ⟨by decide, by decide⟩ (Ri.below hr3 ((Below.refl _ _).alloc (Nat.le_refl _) _) (Nat.le_refl _)) (by intro z hz; simp at hz; omega) (by decide) (by unfold maxLen; omega) (fun h => by cases h) (by decide) (by unfold maxLen; omega) (fun h => by cases h)
  have hs5 : NdR (((((w.alloc (.cells #[.int .u8 0, .int .u8 0, .int .u8 0, .int .u8 0, .int .u8 0, .int .u8 0, .int .u8 0, .int .u8 0, .int .u8 0] 5)).alloc (.cells #[.int .i64 2, .int .i64 2, .int .i64 9, .slice (some ⟨w.heap.size, 0, none⟩) 9 9, .slice none 0 0] 25)).alloc (.cells #[.int .u8 1, .int .u8 0, .int .u8 0, .int .u8 0, .int .u8 0, .int .u8 0, .int .u8 0, .int .u8 0] 5)).alloc (.cells #[.int .i64 2, .int .i64 2, .int .i64 9, .slice (some ⟨w.heap.size, 0, none⟩) 9 9, .slice none 0 0] 25)).alloc (.cells #[.int .i64 1, .int .i64 0, .int .i64 0, .slice (some ⟨w.heap.size + 1 + 1, 0, none⟩) 8 8, .slice (some ⟨w.heap.size + 1 + 1 + 1, 0, none⟩) 1 1] 25)) (some ⟨w.heap.size + 1 + 1, 0, none⟩) 8 (some ⟨w.heap.size + 1 + 1 + 1, 0, none⟩) 1 s13 := (NdR.on hs4 ((Below.refl _ _).alloc (Nat.le_refl _) _) (Nat.le_refl _))
  have hk6 := row2_new hs5 (e13_here _) 25
  rw [z5] at hk6
  have hc6 : NdR ((((((w.alloc (.cells #[.int .u8 0, .int .u8 0, .int .u8 0, .int .u8 0, .int .u8 0, .int .u8 0, .int .u8 0, .int .u8 0, .int .u8 0] 5)).alloc (.cells #[.int .i64 2, .int .i64 2, .int .i64 9, .slice (some ⟨w.heap.size, 0, none⟩) 9 9, .slice none 0 0] 25)).alloc (.cells #[.int .u8 1, .int .u8 0, .int .u8 0, .int .u8 0, .int .u8 0, .int .u8 0, .int .u8 0, .int .u8 0] 5)).alloc (.cells #[.int .i64 2, .int .i64 2, .int .i64 9, .slice (some ⟨w.heap.size, 0, none⟩) 9 9, .slice none 0 0] 25)).alloc (.cells #[.int .i64 1, .int .i64 0, .int .i64 0, .slice (some ⟨w.heap.size + 1 + 1, 0, none⟩) 8 8, .slice (some ⟨w.heap.size + 1 + 1 + 1, 0, none⟩) 1 1] 25)).alloc (.cells #[.int .i64 1, .int .i64 0, .int .i64 0, .slice (some ⟨w.heap.size + 1 + 1, 0, none⟩) 8 8, .slice (some ⟨w.heap.size + 1 + 1 + 1, 0, none⟩) 1 1, .int .i64 1, .int .i64 0, .int .i64 0, .slice none 0 0, .slice none 0 0] 25)) none 0 (some ⟨w.heap.size + 1 + 1 + 1 + 1 + 1, 0, none⟩) 2 c13 := KsR.node hk6 ⟨by decide, by decide⟩ ⟨by decide, by decide⟩ ⟨by decide, by decide⟩ (Ri.nil _ _ _) (fun z hz => by cases hz) (by decide) (by unfold maxLen; omega) (fun _ => rfl) (by decide) (by unfold maxLen; omega) (fun h => by cases h)
  refine ⟨?_, ?_, ?_, ?_, ?_, ?_, ?_, ?_⟩
  · exact (((((((Blk.new (by simp)).alloc _).alloc _).alloc _).alloc _).alloc _).alloc _)
  · exact ((((Blk.new (by simp)).alloc _).alloc _).alloc _)
  · exact ((Blk.new (by simp)).alloc _)
  · exact (Blk.new (by simp))
  · exact (NdR.on (NdR.on (NdR.on (NdR.on (NdR.on hb3 ((Below.refl _ _).alloc (Nat.le_refl _) _) (Nat.le_refl _)) ((Below.refl _ _).alloc (Nat.le_refl _) _) (Nat.le_refl _)) ((Below.refl _ _).alloc (Nat.le_refl _) _) (Nat.le_refl _)) ((Below.refl _ _).alloc (Nat.le_refl _) _) (Nat.le_refl _)) ((Below.refl _ _).alloc (Nat.le_refl _) _) (Nat.le_refl _))
  · exact (NdR.on (NdR.on (NdR.on hs5 ((Below.refl _ _).alloc (Nat.le_refl _) _) (Nat.le_refl _)) ((Below.refl _ _).alloc (Nat.le_refl _) _) (Nat.le_refl _)) ((Below.refl _ _).alloc (Nat.le_refl _) _) (Nat.le_refl _))
  · exact (NdR.on (NdR.on hc6 ((Below.refl _ _).alloc (Nat.le_refl _) _) (Nat.le_refl _)) ((Below.refl _ _).alloc (Nat.le_refl _) _) (Nat.le_refl _))
  · exact (((((((((Below.refl w.heap.size w).alloc (by first | exact Nat.le_refl _ | (simp; done) | (simp; omega)) _).alloc (by first | exact Nat.le_refl _ | (simp; done) | (simp; omega)) _).alloc (by first | exact Nat.le_refl _ | (simp; done) | (simp; omega)) _).alloc (by first | exact Nat.le_refl _ | (simp; done) | (simp; omega)) _).alloc (by first | exact Nat.le_refl _ | (simp; done) | (simp; omega)) _).alloc (by first | exact Nat.le_refl _ | (simp; done) | (simp; omega)) _).alloc (by first | exact Nat.le_refl _ | (simp; done) | (simp; omega)) _).alloc (by first | exact Nat.le_refl _ | (simp; done) | (simp; omega)) _)
theorem CObject_a (x : Nd) (A : Option Addr) (c : Nat) (B : Option Addr) (c2 : Nat) (v : Int) (xk xe xn : Int) (dl kl : Nat) (w : World) (hT : TabOK w) (hx : NdR w A c B c2 x) (hs : sizeN x ≤ 1099511627776) (hv : validN x = true) (ht : trimmedN x = true) (h : canO x = v) (h1 : x.k = xk) (h2 : x.e = xe) (h3 : x.n = xn) (h4 : x.d.length = dl) (h5 : x.ks.length = kl) :
    Calls Tryd.prog 10 #[.agg #[.int .i64 xk, .int .i64 xe, .int .i64 xn, .slice A dl c, .slice B kl c2]] w fun r w' => r = .returned (.int .i64 v) ∧ Below w.heap.size w w' := by
  subst h h1 h2 h3 h4 h5
  exact CObject_any x A c B c2 w hT hx hs hv ht
theorem CNode_a (x : Nd) (A : Option Addr) (c : Nat) (B : Option Addr) (c2 : Nat) (v : Int) (xk xe xn : Int) (dl kl : Nat) (w : World) (hT : TabOK w) (hx : NdR w A c B c2 x) (hs : sizeN x ≤ 1099511627776) (hv : validN x = true) (ht : trimmedN x = true) (h : canN x = v) (h1 : x.k = xk) (h2 : x.e = xe) (h3 : x.n = xn) (h4 : x.d.length = dl) (h5 : x.ks.length = kl) :
    Calls Tryd.prog 12 #[.agg #[.int .i64 xk, .int .i64 xe, .int .i64 xn, .slice A dl c, .slice B kl c2]] w fun r w' => r = .returned (.int .i64 v) ∧ Below w.heap.size w w' := by
  subst h h1 h2 h3 h4 h5
  exact CNode_any x A c B c2 w hT hx hs hv ht
theorem CTotal_a (x : Nd) (A : Option Addr) (c : Nat) (B : Option Addr) (c2 : Nat) (v : Int) (xk xe xn : Int) (dl kl : Nat) (w : World) (hT : TabOK w) (hx : NdR w A c B c2 x) (hs : sizeN x ≤ 1099511627776) (hv : validN x = true) (ht : trimmedN x = true) (h : canN x + 1 = v) (h1 : x.k = xk) (h2 : x.e = xe) (h3 : x.n = xn) (h4 : x.d.length = dl) (h5 : x.ks.length = kl) :
    Calls Tryd.prog 14 #[.agg #[.int .i64 xk, .int .i64 xe, .int .i64 xn, .slice A dl c, .slice B kl c2]] w fun r w' => r = .returned (.int .i64 v) ∧ Below w.heap.size w w' := by
  subst h h1 h2 h3 h4 h5
  exact CTotal_any x A c B c2 w hT hx hs hv ht
theorem ok_b13 : sizeN b13 ≤ 1099511627776 ∧ validN b13 = true ∧ trimmedN b13 = true := ⟨by decide, by decide +kernel, by decide +kernel⟩
theorem ok_s13 : sizeN s13 ≤ 1099511627776 ∧ validN s13 = true ∧ trimmedN s13 = true := ⟨by decide, by decide +kernel, by decide +kernel⟩
theorem ok_c13 : sizeN c13 ≤ 1099511627776 ∧ validN c13 = true ∧ trimmedN c13 = true := ⟨by decide, by decide +kernel, by decide +kernel⟩
theorem ok_v13 : sizeN v13 ≤ 1099511627776 ∧ validN v13 = true ∧ trimmedN v13 = true := ⟨by decide, by decide +kernel, by decide +kernel⟩
theorem ok_nd0 : sizeN nd0 ≤ 1099511627776 ∧ validN nd0 = true ∧ trimmedN nd0 = true := ⟨by decide, by decide +kernel, by decide +kernel⟩
set_option maxRecDepth 100000 in
set_option maxHeartbeats 4000000 in
theorem awake13_any (w : World) (hT : TabOK w) : Calls Tryd.prog 8 #[] w fun e w' => e = .returned (.bool true) ∧ Below w.heap.size w w' := by
  have HT := Lib.hid hT
  clear hT
  have m9 := makeB9_13
  go_enter Tryd.func8, Tryd.ntmps8
  go_wp2_with fail
  refine abs_world (F := M13 w) (m13_new w) ?_
  clear m9
  intro W0 M0
  have M := Lib.hid M0
  clear M0
  refine (CObject_a s13 (some ⟨w.heap.size + 1 + 1, 0, none⟩) 8 (some ⟨w.heap.size + 1 + 1 + 1, 0, none⟩) 1 2 1 0 0 8 1 _ (HT.out.on M.out.hb) M.out.n2 ok_s13.1 ok_s13.2.1 ok_s13.2.2 (by decide +kernel) rfl rfl rfl rfl rfl).mono ?_
  rintro r w1 ⟨rfl, hb⟩
  have M1 := Lib.hid (M.out.on hb)
  clear hb M
  have M := M1
  clear M1
  obtain ⟨x1, y1, z1⟩ := M.out.t1
  obtain ⟨x2, y2, z2⟩ := M.out.t2
  obtain ⟨x3, y3, z3⟩ := M.out.t3
  obtain ⟨x4, y4, z4⟩ := M.out.t4
  go_wp2_with fail
  refine (CNode_a s13 (some ⟨w.heap.size + 1 + 1, 0, none⟩) 8 (some ⟨w.heap.size + 1 + 1 + 1, 0, none⟩) 1 4 1 0 0 8 1 _ (HT.out.on M.out.hb) M.out.n2 ok_s13.1 ok_s13.2.1 ok_s13.2.2 (by decide +kernel) rfl rfl rfl rfl rfl).mono ?_
  rintro r w2 ⟨rfl, hb⟩
  have M1 := Lib.hid (M.out.on hb)
  clear hb M x1 y1 z1 x2 y2 z2 x3 y3 z3 x4 y4 z4
  have M := M1
  clear M1
  obtain ⟨x1, y1, z1⟩ := M.out.t1
  obtain ⟨x2, y2, z2⟩ := M.out.t2
  obtain ⟨x3, y3, z3⟩ := M.out.t3
  obtain ⟨x4, y4, z4⟩ := M.out.t4
  go_wp2_with fail
  refine (CTotal_a s13 (some ⟨w.heap.size + 1 + 1, 0, none⟩) 8 (some ⟨w.heap.size + 1 + 1 + 1, 0, none⟩) 1 5 1 0 0 8 1 _ (HT.out.on M.out.hb) M.out.n2 ok_s13.1 ok_s13.2.1 ok_s13.2.2 (by decide +kernel) rfl rfl rfl rfl rfl).mono ?_
  rintro r w3 ⟨rfl, hb⟩
  have M1 := Lib.hid (M.out.on hb)
  clear hb M x1 y1 z1 x2 y2 z2 x3 y3 z3 x4 y4 z4
  have M := M1
  clear M1
  obtain ⟨x1, y1, z1⟩ := M.out.t1
  obtain ⟨x2, y2, z2⟩ := M.out.t2
  obtain ⟨x3, y3, z3⟩ := M.out.t3
  obtain ⟨x4, y4, z4⟩ := M.out.t4
  go_wp2_with fail
  refine (CObject_a c13 none 0 (some ⟨w.heap.size + 1 + 1 + 1 + 1 + 1, 0, none⟩) 2 5 2 7 2 0 2 _ (HT.out.on M.out.hb) M.out.n3 ok_c13.1 ok_c13.2.1 ok_c13.2.2 (by decide +kernel) rfl rfl rfl rfl rfl).mono ?_
  rintro r w4 ⟨rfl, hb⟩
  have M1 := Lib.hid (M.out.on hb)
  clear hb M x1 y1 z1 x2 y2 z2 x3 y3 z3 x4 y4 z4
  have M := M1
  clear M1
  obtain ⟨x1, y1, z1⟩ := M.out.t1
  obtain ⟨x2, y2, z2⟩ := M.out.t2
  obtain ⟨x3, y3, z3⟩ := M.out.t3
  obtain ⟨x4, y4, z4⟩ := M.out.t4
  go_wp2_with fail
  refine (CNode_a c13 none 0 (some ⟨w.heap.size + 1 + 1 + 1 + 1 + 1, 0, none⟩) 2 7 2 7 2 0 2 _ (HT.out.on M.out.hb) M.out.n3 ok_c13.1 ok_c13.2.1 ok_c13.2.2 (by decide +kernel) rfl rfl rfl rfl rfl).mono ?_
  rintro r w5 ⟨rfl, hb⟩
  have M1 := Lib.hid (M.out.on hb)
  clear hb M x1 y1 z1 x2 y2 z2 x3 y3 z3 x4 y4 z4
  have M := M1
  clear M1
  obtain ⟨x1, y1, z1⟩ := M.out.t1
  obtain ⟨x2, y2, z2⟩ := M.out.t2
  obtain ⟨x3, y3, z3⟩ := M.out.t3
  obtain ⟨x4, y4, z4⟩ := M.out.t4
  go_wp2_with fail
  refine (CNode_a nd0 none 0 none 0 0 0 0 0 0 0 _ (HT.out.on M.out.hb) (nd0_here _ 0 (by decide)) ok_nd0.1 ok_nd0.2.1 ok_nd0.2.2 (by decide +kernel) rfl rfl rfl rfl rfl).mono ?_
  rintro r w6 ⟨rfl, hb⟩
  have M1 := Lib.hid (M.out.on hb)
  clear hb M x1 y1 z1 x2 y2 z2 x3 y3 z3 x4 y4 z4
  have M := M1
  clear M1
  obtain ⟨x1, y1, z1⟩ := M.out.t1
  obtain ⟨x2, y2, z2⟩ := M.out.t2
  obtain ⟨x3, y3, z3⟩ := M.out.t3
  obtain ⟨x4, y4, z4⟩ := M.out.t4
  go_wp2_with fail
  refine (CTotal_a v13 none 0 none 0 1 2 0 1048576 0 0 _ (HT.out.on M.out.hb) (v13_here _) ok_v13.1 ok_v13.2.1 ok_v13.2.2 (by decide +kernel) rfl rfl rfl rfl rfl).mono ?_
  rintro r w7 ⟨rfl, hb⟩
  have M1 := Lib.hid (M.out.on hb)
  clear hb M x1 y1 z1 x2 y2 z2 x3 y3 z3 x4 y4 z4
  have M := M1
  clear M1
  obtain ⟨x1, y1, z1⟩ := M.out.t1
  obtain ⟨x2, y2, z2⟩ := M.out.t2
  obtain ⟨x3, y3, z3⟩ := M.out.t3
  obtain ⟨x4, y4, z4⟩ := M.out.t4
  go_wp2_with fail
  refine (CObject_a b13 (some ⟨w.heap.size, 0, none⟩) 9 none 0 2 2 2 9 9 0 _ (HT.out.on M.out.hb) M.out.n1 ok_b13.1 ok_b13.2.1 ok_b13.2.2 (by decide +kernel) rfl rfl rfl rfl rfl).mono ?_
  rintro r w8 ⟨rfl, hb⟩
  have M1 := Lib.hid (M.out.on hb)
  clear hb M x1 y1 z1 x2 y2 z2 x3 y3 z3 x4 y4 z4
  have M := M1
  clear M1
  go_wp2
  go_ret
  exact ⟨rfl, M.out.hb⟩
end Go.Proofs.YtcmljjhnfpfcfaaDoor
