/- The fixed examples of layer 11 ('awake' is true). -/
import Derived.Test.YtgleanjfaecceaaTrimP
import Derived.Test.YtgleanjfaecceaaNodeF
namespace Go.Proofs.Ytgleanjfaecceaa
open Go.ChangeShapes Go.WideShapes Go.ChangeAt Go.RowKit
set_option linter.unusedVariables false
set_option linter.unusedSimpArgs false

def z11 : Nd := .mk 0 0 0 [] []
def s11 : Nd := .mk 1 0 0 [5, 0, 0, 0, 0, 0, 0, 0, 0, 0, 0, 0, 0, 0, 0, 0] [z11, z11]
def f11 : Nd := .mk 1 0 0 [0, 0, 0, 0, 0, 0, 0, 0] []
def g11 : Nd := .mk 1 0 0 [] []
def h11 : Nd := .mk 1 0 0 [5, 0, 0, 0, 0, 0, 0, 0] []
def e11 : Nd := .mk 1 0 0 [] [z11, f11, z11]
def l11 : Nd := .mk 2 7 2 [] [s11, g11]
theorem trim_s11 : trimN s11 = h11 := by rfl
theorem trim_e11 : trimN e11 = .mk 1 0 0 [] [z11, g11] := by rfl
theorem trim_l11 : trimN l11 = .mk 2 7 2 [] [h11, g11] := by rfl

theorem makeB8_11 (w : World) : (Instr.makeSlice 22 (.int .i64 8) (.int .i64 8)).run Try.prog w = .ok (.slice (some ⟨w.heap.size, 0, none⟩) 8 8) (w.alloc (.cells (([0, 0, 0, 0, 0, 0, 0, 0] : List Int).map (Value.int .u8)).toArray 5)) := by
  obtain ⟨i0, hi, hz0, hz1, hz2⟩ := info_parts int8_info
  have h := run_make (P := Try.prog) w 22 5 i0 (.int .u8 0) Try.underlying22 hi hz0 .i64 .i64 8 8 (by decide) (by decide) (by rw [hz2]; decide) (by decide)
  rw [hz1] at h
  rw [show madeCells (Value.int .u8 0).cells ((8 : Int).toNat * 1) = (([0, 0, 0, 0, 0, 0, 0, 0] : List Int).map (Value.int .u8)).toArray by kernel_rfl] at h
  exact h

theorem makeB16_11 (w : World) : (Instr.makeSlice 22 (.int .i64 16) (.int .i64 16)).run Try.prog w = .ok (.slice (some ⟨w.heap.size, 0, none⟩) 16 16) (w.alloc (.cells (([0, 0, 0, 0, 0, 0, 0, 0, 0, 0, 0, 0, 0, 0, 0, 0] : List Int).map (Value.int .u8)).toArray 5)) := by
  obtain ⟨i0, hi, hz0, hz1, hz2⟩ := info_parts int8_info
  have h := run_make (P := Try.prog) w 22 5 i0 (.int .u8 0) Try.underlying22 hi hz0 .i64 .i64 16 16 (by decide) (by decide) (by rw [hz2]; decide) (by decide)
  rw [hz1] at h
  rw [show madeCells (Value.int .u8 0).cells ((16 : Int).toNat * 1) = (([0, 0, 0, 0, 0, 0, 0, 0, 0, 0, 0, 0, 0, 0, 0, 0] : List Int).map (Value.int .u8)).toArray by kernel_rfl] at h
  exact h

theorem makeN2_11 (w : World) : (Instr.makeSlice 23 (.int .i64 2) (.int .i64 2)).run Try.prog w = .ok (.slice (some ⟨w.heap.size, 0, none⟩) 2 2) (w.alloc (.cells #[.int .i64 0, .int .i64 0, .int .i64 0, .slice none 0 0, .slice none 0 0, .int .i64 0, .int .i64 0, .int .i64 0, .slice none 0 0, .slice none 0 0] 25)) := by
  obtain ⟨i0, hi, hz0, hz1, hz2⟩ := info_parts node_info
  have h := run_make (P := Try.prog) w 23 25 i0 _ Try.underlying23 hi hz0 .i64 .i64 2 2 (by decide) (by decide) (by rw [hz2]; decide) (by decide)
  rw [hz1] at h
  rw [show madeCells (Value.agg #[.int .i64 0, .int .i64 0, .int .i64 0, .slice none 0 0, .slice none 0 0]).cells ((2 : Int).toNat * 5) = #[.int .i64 0, .int .i64 0, .int .i64 0, .slice none 0 0, .slice none 0 0, .int .i64 0, .int .i64 0, .int .i64 0, .slice none 0 0, .slice none 0 0] by kernel_rfl] at h
  exact h

theorem TTrim_a (x y : Nd) (A : Option Addr) (c : Nat) (B : Option Addr) (c2 : Nat) (w : World) (hT : TabOK w) (hx : NdR w A c B c2 x) (hs : sizeN x ≤ 1099511627776) (hv : validN x = true) (hy : trimN x = y) :
    Calls Try.prog 16 #[.agg #[.int .i64 x.k, .int .i64 x.e, .int .i64 x.n, .slice A x.d.length c, .slice B x.ks.length c2]] w fun r w' => ∃ v, r = .returned v ∧ NodF w.heap.size y v w' ∧ Below w.heap.size w w' := hy ▸ TTrim_any x A c B c2 w hT hx hs hv
/-- three nodes in a new block -/
theorem row3_new {w : World} {x y z : Nd} {A : Option Addr} {c : Nat} {B : Option Addr} {c2 : Nat} {A1 : Option Addr} {c3 : Nat} {B1 : Option Addr} {c4 : Nat} {A2 : Option Addr} {c5 : Nat} {B2 : Option Addr} {c6 : Nat} (h : NdR w A c B c2 x) (h2 : NdR w A1 c3 B1 c4 y) (h3 : NdR w A2 c5 B2 c6 z) (T : TypeId) :
    KsR (w.alloc (.cells #[.int .i64 x.k, .int .i64 x.e, .int .i64 x.n, .slice A x.d.length c, .slice B x.ks.length c2, .int .i64 y.k, .int .i64 y.e, .int .i64 y.n, .slice A1 y.d.length c3, .slice B1 y.ks.length c4, .int .i64 z.k, .int .i64 z.e, .int .i64 z.n, .slice A2 z.d.length c5, .slice B2 z.ks.length c6] T)) (some ⟨w.heap.size, 0, none⟩) [x, y, z] := by
  refine .inr ⟨_, 0, rfl, fun j hj => ?_⟩
  have hc := blk_new w #[.int .i64 x.k, .int .i64 x.e, .int .i64 x.n, .slice A x.d.length c, .slice B x.ks.length c2, .int .i64 y.k, .int .i64 y.e, .int .i64 y.n, .slice A1 y.d.length c3, .slice B1 y.ks.length c4, .int .i64 z.k, .int .i64 z.e, .int .i64 z.n, .slice A2 z.d.length c5, .slice B2 z.ks.length c6] T
  have hb := (Below.refl w.heap.size w).alloc (Nat.le_refl _) (.cells #[.int .i64 x.k, .int .i64 x.e, .int .i64 x.n, .slice A x.d.length c, .slice B x.ks.length c2, .int .i64 y.k, .int .i64 y.e, .int .i64 y.n, .slice A1 y.d.length c3, .slice B1 y.ks.length c4, .int .i64 z.k, .int .i64 z.e, .int .i64 z.n, .slice A2 z.d.length c5, .slice B2 z.ks.length c6] T)
  match j, hj with
  | 0, _ => exact ⟨A, c, B, c2, hc _, hc _, hc _, hc _, hc _, h.on hb (Nat.le_refl _)⟩
  | 1, _ => exact ⟨A1, c3, B1, c4, hc _, hc _, hc _, hc _, hc _, h2.on hb (Nat.le_refl _)⟩
  | 2, _ => exact ⟨A2, c5, B2, c6, hc _, hc _, hc _, hc _, hc _, h3.on hb (Nat.le_refl _)⟩
  | n + 3, h => simp at h; omega

/-- what lies in memory while the calls are made -/
structure M11 (w : World) (n : Nat) (W : World) : Prop where
  t1 : Blk W (n + 1 + 1) #[.int .i64 1, .int .i64 0, .int .i64 0, .slice (some ⟨n, 0, none⟩) 16 16, .slice (some ⟨n + 1, 0, none⟩) 2 2]
  n1 : NdR W (some ⟨n, 0, none⟩) 16 (some ⟨n + 1, 0, none⟩) 2 s11
  t2 : Blk W (n + 1 + 1 + 1 + 1 + 1) #[.int .i64 1, .int .i64 0, .int .i64 0, .slice none 0 0, .slice (some ⟨n + 1 + 1 + 1 + 1, 0, none⟩) 3 3]
  n2 : NdR W none 0 (some ⟨n + 1 + 1 + 1 + 1, 0, none⟩) 3 e11
  t3 : Blk W (n + 1 + 1 + 1 + 1 + 1 + 1 + 1) #[.int .i64 2, .int .i64 7, .int .i64 2, .slice none 0 0, .slice (some ⟨n + 1 + 1 + 1 + 1 + 1 + 1, 0, none⟩) 2 2]
  n3 : NdR W none 0 (some ⟨n + 1 + 1 + 1 + 1 + 1 + 1, 0, none⟩) 2 l11
  hb : Below w.heap.size w W
theorem M11.on {w : World} {n : Nat} {W W' : World} (h : M11 w n W) (hb : Below W.heap.size W W') : M11 w n W' :=
  ⟨h.t1.below hb, h.n1.on hb (Nat.le_refl _), h.t2.below hb, h.n2.on hb (Nat.le_refl _), h.t3.below hb, h.n3.on hb (Nat.le_refl _), bel_on h.hb hb⟩

theorem m11_new (w : World) : M11 w w.heap.size ((((((((w.alloc (.cells #[.int .u8 5, .int .u8 0, .int .u8 0, .int .u8 0, .int .u8 0, .int .u8 0, .int .u8 0, .int .u8 0, .int .u8 0, .int .u8 0, .int .u8 0, .int .u8 0, .int .u8 0, .int .u8 0, .int .u8 0, .int .u8 0] 5)).alloc (.cells #[.int .i64 0, .int .i64 0, .int .i64 0, .slice none 0 0, .slice none 0 0, .int .i64 0, .int .i64 0, .int .i64 0, .slice none 0 0, .slice none 0 0] 25)).alloc (.cells #[.int .i64 1, .int .i64 0, .int .i64 0, .slice (some ⟨w.heap.size, 0, none⟩) 16 16, .slice (some ⟨w.heap.size + 1, 0, none⟩) 2 2] 25)).alloc (.cells #[.int .u8 0, .int .u8 0, .int .u8 0, .int .u8 0, .int .u8 0, .int .u8 0, .int .u8 0, .int .u8 0] 5)).alloc (.cells #[.int .i64 0, .int .i64 0, .int .i64 0, .slice none 0 0, .slice none 0 0, .int .i64 1, .int .i64 0, .int .i64 0, .slice (some ⟨w.heap.size + 1 + 1 + 1, 0, none⟩) 8 8, .slice none 0 0, .int .i64 0, .int .i64 0, .int .i64 0, .slice none 0 0, .slice none 0 0] 25)).alloc (.cells #[.int .i64 1, .int .i64 0, .int .i64 0, .slice none 0 0, .slice (some ⟨w.heap.size + 1 + 1 + 1 + 1, 0, none⟩) 3 3] 25)).alloc (.cells #[.int .i64 1, .int .i64 0, .int .i64 0, .slice (some ⟨w.heap.size, 0, none⟩) 16 16, .slice (some ⟨w.heap.size + 1, 0, none⟩) 2 2, .int .i64 1, .int .i64 0, .int .i64 0, .slice none 0 0, .slice none 0 0] 25)).alloc (.cells #[.int .i64 2, .int .i64 7, .int .i64 2, .slice none 0 0, .slice (some ⟨w.heap.size + 1 + 1 + 1 + 1 + 1 + 1, 0, none⟩) 2 2] 25)) := by
  have z1 : ∀ a, (w.alloc a).heap.size = w.heap.size + 1 := fun a => by simp
  have z2 : ∀ a b, ((w.alloc a).alloc b).heap.size = w.heap.size + 1 + 1 := fun a b => by simp
  have z3 : ∀ a b c, (((w.alloc a).alloc b).alloc c).heap.size = w.heap.size + 1 + 1 + 1 := fun a b c => by simp
  have z4 : ∀ a b c d, ((((w.alloc a).alloc b).alloc c).alloc d).heap.size = w.heap.size + 1 + 1 + 1 + 1 := fun a b c d => by simp
  have z5 : ∀ a b c d e, (((((w.alloc a).alloc b).alloc c).alloc d).alloc e).heap.size = w.heap.size + 1 + 1 + 1 + 1 + 1 := fun a b c d e => by simp
  have z6 : ∀ a b c d e f, ((((((w.alloc a).alloc b).alloc c).alloc d).alloc e).alloc f).heap.size = w.heap.size + 1 + 1 + 1 + 1 + 1 + 1 := fun a b c d e f => by simp
  have z7 : ∀ a b c d e f g, (((((((w.alloc a).alloc b).alloc c).alloc d).alloc e).alloc f).alloc g).heap.size = w.heap.size + 1 + 1 + 1 + 1 + 1 + 1 + 1 := fun a b c d e f g => by simp
  have l16 := Ri.lit w .u8 [5, 0, 0, 0, 0, 0, 0, 0, 0, 0, 0, 0, 0, 0, 0, 0] 5
  have hz2 := row2_new (x := z11) (y := z11) (nd0_here (w.alloc (.cells #[.int .u8 5, .int .u8 0, .int .u8 0, .int .u8 0, .int .u8 0, .int .u8 0, .int .u8 0, .int .u8 0, .int .u8 0, .int .u8 0, .int .u8 0, .int .u8 0, .int .u8 0, .int .u8 0, .int .u8 0, .int .u8 0] 5)) 0 (by decide)) (nd0_here _ 0 (by decide)) 25
  rw [z1] at hz2
  have hs3 : NdR (((w.alloc (.cells #[.int .u8 5, .int .u8 0, .int .u8 0, .int .u8 0, .int .u8 0, .int .u8 0, .int .u8 0, .int .u8 0, .int .u8 0, .int .u8 0, .int .u8 0, .int .u8 0, .int .u8 0, .int .u8 0, .int .u8 0, .int .u8 0] 5)).alloc (.cells #[.int .i64 0, .int .i64 0, .int .i64 0, .slice none 0 0, .slice none 0 0, .int .i64 0, .int .i64 0, .int .i64 0, .slice none 0 0, .slice none 0 0] 25)).alloc (.cells #[.int .i64 1, .int .i64 0, .int .i64 0, .slice (some ⟨w.heap.size, 0, none⟩) 16 16, .slice (some ⟨w.heap.size + 1, 0, none⟩) 2 2] 25)) (some ⟨w.heap.size, 0, none⟩) 16 (some ⟨w.heap.size + 1, 0, none⟩) 2 s11 := (KsR.on hz2 ((Below.refl _ _).alloc (Nat.le_refl _) _) (Nat.le_refl _)).node ⟨by decide, by decide⟩ ⟨by decide, by decide⟩ ⟨by decide, by decide⟩ ((l16.alloc _).alloc _) (by unfold Bts; decide) (by decide) (by unfold maxLen; omega) (fun h => by cases h) (by decide) (by unfold maxLen; omega) (fun h => by cases h)
  have l8 := Ri.lit (((w.alloc (.cells #[.int .u8 5, .int .u8 0, .int .u8 0, .int .u8 0, .int .u8 0, .int .u8 0, .int .u8 0, .int .u8 0, .int .u8 0, .int .u8 0, .int .u8 0, .int .u8 0, .int .u8 0, .int .u8 0, .int .u8 0, .int .u8 0] 5)).alloc (.cells #[.int .i64 0, .int .i64 0, .int .i64 0, .slice none 0 0, .slice none 0 0, .int .i64 0, .int .i64 0, .int .i64 0, .slice none 0 0, .slice none 0 0] 25)).alloc (.cells #[.int .i64 1, .int .i64 0, .int .i64 0, .slice (some ⟨w.heap.size, 0, none⟩) 16 16, .slice (some ⟨w.heap.size + 1, 0, none⟩) 2 2] 25)) .u8 [0, 0, 0, 0, 0, 0, 0, 0] 5
  rw [z3] at l8
  have hf4 : NdR ((((w.alloc (.cells #[.int .u8 5, .int .u8 0, .int .u8 0, .int .u8 0, .int .u8 0, .int .u8 0, .int .u8 0, .int .u8 0, .int .u8 0, .int .u8 0, .int .u8 0, .int .u8 0, .int .u8 0, .int .u8 0, .int .u8 0, .int .u8 0] 5)).alloc (.cells #[.int .i64 0, .int .i64 0, .int .i64 0, .slice none 0 0, .slice none 0 0, .int .i64 0, .int .i64 0, .int .i64 0, .slice none 0 0, .slice none 0 0] 25)).alloc (.cells #[.int .i64 1, .int .i64 0, .int .i64 0, .slice (some ⟨w.heap.size, 0, none⟩) 16 16, .slice (some ⟨w.heap.size + 1, 0, none⟩) 2 2] 25)).alloc (.cells #[.int .u8 0, .int .u8 0, .int .u8 0, .int .u8 0, .int .u8 0, .int .u8 0, .int .u8 0, .int .u8 0] 5)) (some ⟨w.heap.size + 1 + 1 + 1, 0, none⟩) 8 none 0 f11 := (show KsR _ none [] from .inl rfl).node ⟨by decide, by decide⟩ ⟨by decide, by decide⟩ ⟨by decide, by decide⟩ l8 (by unfold Bts; decide) (by decide) (by unfold maxLen; omega) (fun h => by cases h) (by decide) (by unfold maxLen; omega) (fun _ => rfl)
  have hr5 := row3_new (x := z11) (z := z11) (nd0_here _ 0 (by decide)) hf4 (nd0_here _ 0 (by decide)) 25
  rw [z4] at hr5
  have he6 : NdR ((((((w.alloc (.cells #[.int .u8 5, .int .u8 0, .int .u8 0, .int .u8 0, .int .u8 0, .int .u8 0, .int .u8 0, .int .u8 0, .int .u8 0, .int .u8 0, .int .u8 0, .int .u8 0, .int .u8 0, .int .u8 0, .int .u8 0, .int .u8 0] 5)).alloc (.cells #[.int .i64 0, .int .i64 0, .int .i64 0, .slice none 0 0, .slice none 0 0, .int .i64 0, .int .i64 0, .int .i64 0, .slice none 0 0, .slice none 0 0] 25)).alloc (.cells #[.int .i64 1, .int .i64 0, .int .i64 0, .slice (some ⟨w.heap.size, 0, none⟩) 16 16, .slice (some ⟨w.heap.size + 1, 0, none⟩) 2 2] 25)).alloc (.cells #[.int .u8 0, .int .u8 0, .int .u8 0, .int .u8 0, .int .u8 0, .int .u8 0, .int .u8 0, .int .u8 0] 5)).alloc (.cells #[.int .i64 0, .int .i64 0, .int .i64 0, .slice none 0 0, .slice none 0 0, .int .i64 1, .int .i64 0, .int .i64 0, .slice (some ⟨w.heap.size + 1 + 1 + 1, 0, none⟩) 8 8, .slice none 0 0, .int .i64 0, .int .i64 0, .int .i64 0, .slice none 0 0, .slice none 0 0] 25)).alloc (.cells #[.int .i64 1, .int .i64 0, .int .i64 0, .slice none 0 0, .slice (some ⟨w.heap.size + 1 + 1 + 1 + 1, 0, none⟩) 3 3] 25)) none 0 (some ⟨w.heap.size + 1 + 1 + 1 + 1, 0, none⟩) 3 e11 := (KsR.on hr5 ((Below.refl _ _).alloc (Nat.le_refl _) _) (Nat.le_refl _)).node ⟨by decide, by decide⟩ ⟨by decide, by decide⟩ ⟨by decide, by decide⟩ (Ri.nil _ _ _) (fun z hz => by cases hz) (by decide) (by unfold maxLen; omega) (fun _ => rfl) (by decide) (by unfold maxLen; omega) (fun h => by cases h)
  have hs6 : NdR ((((((w.alloc (.cells #[.int .u8 5, .int .u8 0, .int .u8 0, .int .u8 0, .int .u8 0, .int .u8 0, .int .u8 0, .int .u8 0, .int .u8 0, .int .u8 0, .int .u8 0, .int .u8 0, .int .u8 0, .int .u8 0, .int .u8 0, .int .u8 0] 5)).alloc (.cells #[.int .i64 0, .int .i64 0, .int .i64 0, .slice none 0 0, .slice none 0 0, .int .i64 0, .int .i64 0, .int .i64 0, .slice none 0 0, .slice none 0 0] 25)).alloc (.cells #[.int .i64 1, .int .i64 0, .int .i64 0, .slice (some ⟨w.heap.size, 0, none⟩) 16 16, .slice (some ⟨w.heap.size + 1, 0, none⟩) 2 2] 25)).alloc (.cells #[.int .u8 0, .int .u8 0, .int .u8 0, .int .u8 0, .int .u8 0, .int .u8 0, .int .u8 0, .int .u8 0] 5)).alloc (.cells #[.int .i64 0, .int .i64 0, .int .i64 0, .slice none 0 0, .slice none 0 0, .int .i64 1, .int .i64 0, .int .i64 0, .slice (some ⟨w.heap.size + 1 + 1 + 1, 0, none⟩) 8 8, .slice none 0 0, .int .i64 0, .int .i64 0, .int .i64 0, .slice none 0 0, .slice none 0 0] 25)).alloc (.cells #[.int .i64 1, .int .i64 0, .int .i64 0, .slice none 0 0, .slice (some ⟨w.heap.size + 1 + 1 + 1 + 1, 0, none⟩) 3 3] 25)) (some ⟨w.heap.size, 0, none⟩) 16 (some ⟨w.heap.size + 1, 0, none⟩) 2 s11 := hs3.on ((((Below.refl _ _).alloc (Nat.le_refl _) _).alloc (by simp) _).alloc (by first | (simp; done) | (simp; omega)) _) (Nat.le_refl _)
  have hr7 := row2_new (y := g11) hs6 (nd0_here _ 1 (by decide)) 25
  rw [z6] at hr7
  refine ⟨?_, ?_, ?_, ?_, ?_, ?_, ?_⟩
  · exact (((((Blk.new (by simp)).alloc _).alloc _).alloc _).alloc _).alloc _
  · exact hs6.on (((Below.refl _ _).alloc (Nat.le_refl _) _).alloc (by simp) _) (Nat.le_refl _)
  · exact ((Blk.new (by simp)).alloc _).alloc _
  · exact he6.on (((Below.refl _ _).alloc (Nat.le_refl _) _).alloc (by simp) _) (Nat.le_refl _)
  · exact Blk.new (by simp)
  · exact (KsR.on hr7 ((Below.refl _ _).alloc (Nat.le_refl _) _) (Nat.le_refl _)).node ⟨by decide, by decide⟩ ⟨by decide, by decide⟩ ⟨by decide, by decide⟩ (Ri.nil _ _ _) (fun z hz => by cases hz) (by decide) (by unfold maxLen; omega) (fun _ => rfl) (by decide) (by unfold maxLen; omega) (fun h => by cases h)
  · exact ((((((((Below.refl _ _).alloc (Nat.le_refl _) _).alloc (by simp) _).alloc (by simp; omega) _).alloc (by simp; omega) _).alloc (by simp; omega) _).alloc (by simp; omega) _).alloc (by simp; omega) _).alloc (by simp; omega) _

/-- trimming with the result's fields written out -/
theorem TTrim_b (x y : Nd) (yk ye yn : Int) (dl kl : Nat) (A : Option Addr) (c : Nat) (B : Option Addr) (c2 : Nat) (w : World) (hT : TabOK w) (hx : NdR w A c B c2 x) (hs : sizeN x ≤ 1099511627776) (hv : validN x = true) (hy : trimN x = y) (h1 : y.k = yk) (h2 : y.e = ye) (h3 : y.n = yn) (h4 : y.d.length = dl) (h5 : y.ks.length = kl) :
    Calls Try.prog 16 #[.agg #[.int .i64 x.k, .int .i64 x.e, .int .i64 x.n, .slice A x.d.length c, .slice B x.ks.length c2]] w fun r w' => ∃ A' c' B' c2', r = .returned (.agg #[.int .i64 yk, .int .i64 ye, .int .i64 yn, .slice A' dl c', .slice B' kl c2']) ∧ NdR w' A' c' B' c2' y ∧ Below w.heap.size w w' := by
  subst hy h1 h2 h3 h4 h5
  refine (TTrim_any x A c B c2 w hT hx hs hv).mono ?_
  rintro r w' ⟨v, rfl, ⟨A', c', B', c2', hi, rfl, h1, h2⟩, hb⟩
  exact ⟨A', c', B', c2', rfl, h2.nd, hb⟩
theorem TUniform_a (x : Nd) (u v : Int) (A : Option Addr) (c : Nat) (B : Option Addr) (c2 : Nat) (w : World) (hT : TabOK w) (hx : NdR w A c B c2 x) (hs : sizeN x ≤ 1099511627776) (hv : validN x = true) (hk : x.k = 2) (he : x.e = 7) (hu : (uniD x.ks x.ks.length : Int) = u) (hw : (uniP x.ks x.ks.length : Int) = v) :
    Calls Try.prog 18 #[.agg #[.int .i64 x.k, .int .i64 x.e, .int .i64 x.n, .slice A x.d.length c, .slice B x.ks.length c2]] w fun r w' => r = .returned (.tuple #[.int .i64 u, .int .i64 v]) ∧ Below w.heap.size w w' := by
  subst hu hw
  exact TUniform_any x A c B c2 w hT hx hs hv hk he
theorem TWords_a (A : Option Addr) (c : Nat) (d : List Int) (v : Int) (w : World) (hT : TabOK w) (hr : Ri w .u8 A d) (hb : Bts d) (hm : d.length ≤ 1099511627776) (h8 : d.length % 8 = 0) (hc : d.length ≤ c) (hv : (wordsT d : Int) = v) :
    Calls Try.prog 11 #[.slice A d.length c] w fun r w' => r = .returned (.int .i64 v) ∧ Below w.heap.size w w' := hv ▸ TWords_any A c d w hT hr hb hm h8 hc
theorem TPointers_a (B : Option Addr) (c : Nat) (ks : List Nd) (v : Int) (w : World) (hT : TabOK w) (hr : KsR w B ks) (hm : ks.length ≤ 1099511627776) (hc : ks.length ≤ c) (hv : (ptrsT ks : Int) = v) :
    Calls Try.prog 13 #[.slice B ks.length c] w fun r w' => r = .returned (.int .i64 v) ∧ Below w.heap.size w w' := hv ▸ TPointers_any B c ks w hT hr hm hc


set_option maxHeartbeats 4000000 in
set_option maxRecDepth 100000 in
theorem awake11_any (w : World) (hT : TabOK w) : Calls Try.prog 8 #[] w fun e w' => e = .returned (.bool true) ∧ Below w.heap.size w w' := by
  have HT := Lib.hid hT
  clear hT
  have m2 := makeN2_11
  have m8 := makeB8_11
  have m16 := makeB16_11
  go_enter Try.func8, Try.ntmps8
  go_wp2_with fail
  refine abs_world (F := M11 w w.heap.size) (m11_new w) ?_
  clear m2 m8
  intro W3 M3
  have M := Lib.hid M3
  clear M3
  refine (TTrim_b s11 h11 1 0 0 8 0 _ _ _ _ _ (HT.out.on M.out.hb) M.out.n1 (by decide) (by decide +kernel) trim_s11 rfl rfl rfl rfl rfl).mono ?_
  rintro r w4 ⟨A4, c4, B4, e4, rfl, hn, hb⟩
  have M1 := M.out.on hb
  clear hb M
  have M := Lib.hid M1
  clear M1
  have N4 := Lib.hid hn
  clear hn
  have x1 := M.out.t1.cell
  have x2 := M.out.t2.cell
  have x3 := M.out.t3.cell
  have y2 := (M.out.t2.alloc (.cells #[.int .i64 1, .int .i64 0, .int .i64 0, .slice A4 8 c4, .slice B4 0 e4] 25)).cell
  have y3 := (M.out.t3.alloc (.cells #[.int .i64 1, .int .i64 0, .int .i64 0, .slice A4 8 c4, .slice B4 0 e4] 25)).cell
  go_wp2_with fail
  refine abs_world (F := fun W => M11 w w.heap.size W ∧ Blk W w4.heap.size #[.int .i64 1, .int .i64 0, .int .i64 0, .slice A4 8 c4, .slice B4 0 e4] ∧ NdR W A4 c4 B4 e4 h11) ⟨M.out.on ((Below.refl _ _).alloc (Nat.le_refl _) _), Blk.fresh _ _ _, N4.out.on ((Below.refl _ _).alloc (Nat.le_refl _) _) (Nat.le_refl _)⟩ ?_
  generalize w4.heap.size = p4 at *
  clear M N4 x1 x2 x3 y2 y3
  rintro W ⟨M1, T4n, N4n⟩
  have M := Lib.hid M1
  clear M1
  have T4 := Lib.hid T4n
  have N4 := Lib.hid N4n
  clear T4n N4n
  have x1 := M.out.t1.cell
  have x2 := M.out.t2.cell
  have x3 := M.out.t3.cell
  refine (TTrim_b e11 (.mk 1 0 0 [] [z11, g11]) 1 0 0 0 2 _ _ _ _ _ (HT.out.on M.out.hb) M.out.n2 (by decide) (by decide +kernel) trim_e11 rfl rfl rfl rfl rfl).mono ?_
  rintro r w5 ⟨A5, c5, B5, e5, rfl, hn, hb⟩
  have M1 := M.out.on hb
  have T4n := T4.out.below hb
  have N4n := N4.out.on hb (Nat.le_refl _)
  clear hb M T4 N4 x1 x2 x3
  have M := Lib.hid M1
  clear M1
  have T4 := Lib.hid T4n
  have N4 := Lib.hid N4n
  clear T4n N4n
  have N5 := Lib.hid hn
  clear hn
  have x1 := M.out.t1.cell
  have x2 := M.out.t2.cell
  have x3 := M.out.t3.cell
  have y2 := (M.out.t2.alloc (.cells #[.int .i64 1, .int .i64 0, .int .i64 0, .slice A5 0 c5, .slice B5 2 e5] 25)).cell
  have y3 := (M.out.t3.alloc (.cells #[.int .i64 1, .int .i64 0, .int .i64 0, .slice A5 0 c5, .slice B5 2 e5] 25)).cell
  go_wp2_with fail
  refine abs_world (F := fun W => M11 w w.heap.size W ∧ Blk W w5.heap.size #[.int .i64 1, .int .i64 0, .int .i64 0, .slice A5 0 c5, .slice B5 2 e5] ∧ NdR W A5 c5 B5 e5 (.mk 1 0 0 [] [z11, g11]) ∧ Blk W p4 #[.int .i64 1, .int .i64 0, .int .i64 0, .slice A4 8 c4, .slice B4 0 e4] ∧ NdR W A4 c4 B4 e4 h11) ⟨M.out.on ((Below.refl _ _).alloc (Nat.le_refl _) _), Blk.fresh _ _ _, N5.out.on ((Below.refl _ _).alloc (Nat.le_refl _) _) (Nat.le_refl _), T4.out.alloc _, N4.out.on ((Below.refl _ _).alloc (Nat.le_refl _) _) (Nat.le_refl _)⟩ ?_
  generalize w5.heap.size = p5 at *
  clear M T4 N4 N5 x1 x2 x3 y2 y3
  rintro W ⟨M1, T5n, N5n, T4n, N4n⟩
  have M := Lib.hid M1
  clear M1
  have T4 := Lib.hid T4n
  have N4 := Lib.hid N4n
  clear T4n N4n
  have T5 := Lib.hid T5n
  have N5 := Lib.hid N5n
  clear T5n N5n
  have x1 := M.out.t1.cell
  have x2 := M.out.t2.cell
  have x3 := M.out.t3.cell
  refine (TTrim_b l11 (.mk 2 7 2 [] [h11, g11]) 2 7 2 0 2 _ _ _ _ _ (HT.out.on M.out.hb) M.out.n3 (by decide) (by decide +kernel) trim_l11 rfl rfl rfl rfl rfl).mono ?_
  rintro r w6 ⟨A6, c6, B6, e6, rfl, hn, hb⟩
  have M1 := M.out.on hb
  have T4n := T4.out.below hb
  have N4n := N4.out.on hb (Nat.le_refl _)
  have T5n := T5.out.below hb
  have N5n := N5.out.on hb (Nat.le_refl _)
  clear hb M T4 N4 T5 N5 x1 x2 x3
  have M := Lib.hid M1
  clear M1
  have T4 := Lib.hid T4n
  have N4 := Lib.hid N4n
  clear T4n N4n
  have T5 := Lib.hid T5n
  have N5 := Lib.hid N5n
  clear T5n N5n
  have N6 := Lib.hid hn
  clear hn
  have x1 := M.out.t1.cell
  have x2 := M.out.t2.cell
  have x3 := M.out.t3.cell
  have y2 := (M.out.t2.alloc (.cells #[.int .i64 2, .int .i64 7, .int .i64 2, .slice A6 0 c6, .slice B6 2 e6] 25)).cell
  have y3 := (M.out.t3.alloc (.cells #[.int .i64 2, .int .i64 7, .int .i64 2, .slice A6 0 c6, .slice B6 2 e6] 25)).cell
  go_wp2_with fail
  refine abs_world (F := fun W => M11 w w.heap.size W ∧ Blk W w6.heap.size #[.int .i64 2, .int .i64 7, .int .i64 2, .slice A6 0 c6, .slice B6 2 e6] ∧ NdR W A6 c6 B6 e6 (.mk 2 7 2 [] [h11, g11]) ∧ Blk W p4 #[.int .i64 1, .int .i64 0, .int .i64 0, .slice A4 8 c4, .slice B4 0 e4] ∧ NdR W A4 c4 B4 e4 h11 ∧ Blk W p5 #[.int .i64 1, .int .i64 0, .int .i64 0, .slice A5 0 c5, .slice B5 2 e5] ∧ NdR W A5 c5 B5 e5 (.mk 1 0 0 [] [z11, g11])) ⟨M.out.on ((Below.refl _ _).alloc (Nat.le_refl _) _), Blk.fresh _ _ _, N6.out.on ((Below.refl _ _).alloc (Nat.le_refl _) _) (Nat.le_refl _), T4.out.alloc _, N4.out.on ((Below.refl _ _).alloc (Nat.le_refl _) _) (Nat.le_refl _), T5.out.alloc _, N5.out.on ((Below.refl _ _).alloc (Nat.le_refl _) _) (Nat.le_refl _)⟩ ?_
  generalize w6.heap.size = p6 at *
  clear M T4 N4 T5 N5 N6 x1 x2 x3 y2 y3
  rintro W ⟨M1, T6n, N6n, T4n, N4n, T5n, N5n⟩
  have M := Lib.hid M1
  clear M1
  have T4 := Lib.hid T4n
  have N4 := Lib.hid N4n
  clear T4n N4n
  have T5 := Lib.hid T5n
  have N5 := Lib.hid N5n
  clear T5n N5n
  have T6 := Lib.hid T6n
  have N6 := Lib.hid N6n
  clear T6n N6n
  have x1 := M.out.t1.cell
  have x2 := M.out.t2.cell
  have x3 := M.out.t3.cell
  refine (TUniform_a l11 2 2 _ _ _ _ _ (HT.out.on M.out.hb) M.out.n3 (by decide) (by decide +kernel) rfl rfl (by decide +kernel) (by decide +kernel)).mono ?_
  rintro r w7 ⟨rfl, hb⟩
  have M1 := M.out.on hb
  have T4n := T4.out.below hb
  have N4n := N4.out.on hb (Nat.le_refl _)
  have T5n := T5.out.below hb
  have N5n := N5.out.on hb (Nat.le_refl _)
  have T6n := T6.out.below hb
  have N6n := N6.out.on hb (Nat.le_refl _)
  clear hb M T4 N4 T5 N5 T6 N6 x1 x2 x3
  have M := Lib.hid M1
  clear M1
  have T4 := Lib.hid T4n
  have N4 := Lib.hid N4n
  clear T4n N4n
  have T5 := Lib.hid T5n
  have N5 := Lib.hid N5n
  clear T5n N5n
  have T6 := Lib.hid T6n
  have N6 := Lib.hid N6n
  clear T6n N6n
  have x1 := M.out.t1.cell
  have x2 := M.out.t2.cell
  have x3 := M.out.t3.cell
  obtain ⟨a4, ao, rfl, h4⟩ := N4.out.open.2.2.2.1.at (i := 0) (by decide)
  have h40 := h4 0 (by decide)
  rw [Nat.add_zero, show zat [5, 0, 0, 0, 0, 0, 0, 0] 0 = 5 from rfl] at h40
  obtain ⟨b5, bo, A51, c51, B51, e51, rfl, g0, -, -, g3, -, -⟩ := N5.out.kid (j := 1) (by decide)
  obtain ⟨b6, co, A60, c60, B60, e60, rfl, -, -, -, k3, -, -⟩ := N6.out.kid (j := 0) (by decide)
  obtain ⟨b6', co', A61, c61, B61, e61, hb6, -, -, -, l3, -, -⟩ := N6.out.kid (j := 1) (by decide)
  injection hb6 with hb6
  injection hb6 with hb6 hb7
  subst hb6 hb7
  have x4 := T4.out.cell
  have x5 := T5.out.cell
  have x6 := T6.out.cell
  go_wp2_with fail
  refine (TWords_a _ _ [0, 0, 0, 0, 0, 0, 0, 0, 0, 0, 0, 0, 0, 0, 0, 0] 0 _ (HT.out.on (M.out.hb.alloc M.out.hb.size _)) (Ri.lit w7 .u8 [0, 0, 0, 0, 0, 0, 0, 0, 0, 0, 0, 0, 0, 0, 0, 0] 5) (by unfold Bts; decide) (by decide) (by decide) (by decide) (by decide +kernel)).mono ?_
  rintro r w8 ⟨rfl, hb⟩
  have M1 := (M.out.on ((Below.refl _ _).alloc (Nat.le_refl _) _)).on hb
  clear hb M T4 T5 T6 N4 N5 N6 x1 x2 x3 x4 x5 x6 h4 h40 g0 g3 k3 l3
  have M := Lib.hid M1
  clear M1
  go_wp2_with fail
  refine (TWords_a _ _ [0, 0, 0, 0, 0, 0, 0, 1] 1 _ (HT.out.on (M.out.hb.alloc M.out.hb.size _)) (Ri.lit w8 .u8 [0, 0, 0, 0, 0, 0, 0, 1] 5) (by unfold Bts; decide) (by decide) (by decide) (by decide) (by decide +kernel)).mono ?_
  rintro r w9 ⟨rfl, hb⟩
  have M1 := (M.out.on ((Below.refl _ _).alloc (Nat.le_refl _) _)).on hb
  clear hb M
  have M := Lib.hid M1
  clear M1
  have x2 := M.out.t2.cell
  go_wp2_with fail
  refine (TPointers_a _ _ e11.ks 2 _ (HT.out.on M.out.hb) M.out.n2.kids (by decide) (by decide) (by decide +kernel)).mono ?_
  rintro r w10 ⟨rfl, hb⟩
  have HB := Lib.hid (bel_on M.out.hb hb)
  clear hb
  go_wp2
  go_ret
  exact ⟨rfl, HB.out⟩

end Go.Proofs.Ytgleanjfaecceaa
