/- The fixed examples of layer 1: 'awake' is true. -/
import Derived.Test.YtlfaincapinpfaaRef01
import Derived.Test.YtlfaincapinpfaaRegion
namespace Go.Proofs.Ytlfaincapinpfaa
open Go.ChangeShapes Go.WideShapes Go.ChangeAt Go.RowKit
set_option linter.unusedVariables false

def bb : List Int := [1, 2, 0, 0, 0, 0, 0, 128, 9]
def b8 : List Int := [1, 2, 0, 0, 0, 0, 0, 128]
theorem bb_bts : Bts bb := by unfold Bts bb; decide
theorem b8_bts : Bts b8 := by unfold Bts b8; decide

theorem g0 : getW bb 0 = 9223372036854776321 := by decide +kernel
theorem g0b : hasW bb 0 = true := by decide +kernel
theorem g1 : getW bb 1 = 0 := by decide +kernel
theorem g1b : hasW bb 1 = false := by decide +kernel
theorem gn : getW bb (-1) = 0 := by decide +kernel
theorem gnb : hasW bb (-1) = false := by decide +kernel
theorem Get_0 (A : Option Addr) (w : World) (hr : Ri w .u8 A bb) :
    Calls Try.prog 9 #[.slice A 9 9, .int .i64 0] w fun e w' => e = .returned (.tuple #[.int .u64 9223372036854776321, .bool true]) ∧ w = w' :=
  (Get_any A 9 bb 0 w hr bb_bts (by decide) (by decide) (by decide) (by decide) (by decide)).mono fun e w' ⟨h1, h2⟩ => ⟨h1.trans (by rw [g0, g0b]), h2⟩
theorem Get_1 (A : Option Addr) (w : World) (hr : Ri w .u8 A bb) :
    Calls Try.prog 9 #[.slice A 9 9, .int .i64 1] w fun e w' => e = .returned (.tuple #[.int .u64 0, .bool false]) ∧ w = w' :=
  (Get_any A 9 bb 1 w hr bb_bts (by decide) (by decide) (by decide) (by decide) (by decide)).mono fun e w' ⟨h1, h2⟩ => ⟨h1.trans (by rw [g1, g1b]), h2⟩
theorem Get_n (A : Option Addr) (w : World) (hr : Ri w .u8 A bb) :
    Calls Try.prog 9 #[.slice A 9 9, .int .i64 (-1)] w fun e w' => e = .returned (.tuple #[.int .u64 0, .bool false]) ∧ w = w' :=
  (Get_any A 9 bb (-1) w hr bb_bts (by decide) (by decide) (by decide) (by decide) (by decide)).mono fun e w' ⟨h1, h2⟩ => ⟨h1.trans (by rw [gn, gnb]), h2⟩

theorem w8 : wordsOf b8 = [9223372036854776321] := by decide +kernel
theorem Words_8 (A : Option Addr) (w : World) (hr : Ri w .u8 A b8) :
    Calls Try.prog 11 #[.slice A 8 9] w fun e w' => ∃ A' c', e = .returned (.tuple #[.slice A' 1 c', .bool true]) ∧ Ri w' .u64 A' [9223372036854776321] ∧ Below w.heap.size w w' :=
  (Words_yes A 9 b8 w hr b8_bts (by decide) (by decide) (by decide) (by decide)).mono fun e w' ⟨v, h1, h2, h3⟩ => by
    rw [w8] at h2
    obtain ⟨A', c', rfl, _, _, h4⟩ := h2.slice
    exact ⟨A', c', h1, h4, h3⟩

theorem SameW_1 (A B : Option Addr) (c d : Nat) (w : World) (h1 : Ri w .u64 A [9223372036854776321]) (h2 : Ri w .u64 B [9223372036854776321]) :
    Calls Try.prog 14 #[.slice A 1 c, .slice B 1 d] w fun e w' => e = .returned (.bool true) ∧ ∃ m, w' = w.drewN m :=
  (SameWords_any A B c d _ _ w h1 h2 (by decide) (by decide)).mono fun e w' ⟨h3, h4⟩ => ⟨h3.trans (by rw [sameB_self]), h4⟩

theorem Same_8 (A B : Option Addr) (c d : Nat) (w : World) (h1 : Ri w .u8 A b8) (h2 : Ri w .u8 B b8) :
    Calls Try.prog 15 #[.slice A 8 c, .slice B 8 d] w fun e w' => e = .returned (.bool true) ∧ ∃ m, w' = w.drewN m :=
  (Same_any A B c d _ _ w h1 h2 (by decide) (by decide)).mono fun e w' ⟨h3, h4⟩ => ⟨h3.trans (by rw [sameB_self]), h4⟩

theorem y8 : bytesOf [9223372036854776321] = b8 := by decide +kernel
theorem wx : Wds [9223372036854776321] := by unfold Wds; decide
theorem Bytes_1 (A : Option Addr) (c : Nat) (w : World) (hr : Ri w .u64 A [9223372036854776321]) :
    Calls Try.prog 16 #[.slice A 1 c] w fun e w' => ∃ A' c', e = .returned (.slice A' 8 c') ∧ Ri w' .u8 A' b8 ∧ Below w.heap.size w w' :=
  (Bytes_any A c [9223372036854776321] w hr wx (by decide)).mono fun e w' ⟨v, h1, h2, h3⟩ => by
    rw [y8] at h2
    obtain ⟨A', c', rfl, _, _, h4⟩ := h2.slice
    exact ⟨A', c', h1, h4, h3⟩

theorem Field_8 (w : World) : Calls Try.prog 18 #[.int .u64 9223372036854776321, .int .i64 8, .int .i64 8] w fun e w' => e = .returned (.int .u64 2) ∧ w = w' :=
  (Field_any _ _ _ w (by decide) (by decide) (by decide) (by decide) (by decide)).mono fun e w' ⟨h1, h2⟩ => ⟨h1.trans (by rw [show fld 9223372036854776321 8 8 = 2 by decide +kernel]), h2⟩
theorem Field_64 (w : World) : Calls Try.prog 18 #[.int .u64 9223372036854776321, .int .i64 0, .int .i64 64] w fun e w' => e = .returned (.int .u64 9223372036854776321) ∧ w = w' :=
  (Field_any _ _ _ w (by decide) (by decide) (by decide) (by decide) (by decide)).mono fun e w' ⟨h1, h2⟩ => ⟨h1.trans (by rw [show fld 9223372036854776321 0 64 = 9223372036854776321 by decide +kernel]), h2⟩
theorem Signed_c (w : World) : Calls Try.prog 20 #[.int .u64 12, .int .i64 2, .int .i64 2] w fun e w' => e = .returned (.int .i64 (-1)) ∧ w = w' :=
  (Signed_any _ _ _ w (by decide) (by decide) (by decide) (by decide) (by decide)).mono fun e w' ⟨h1, h2⟩ => ⟨h1.trans (by rw [show sgn 12 2 2 = -1 by decide +kernel]), h2⟩
theorem Signed_4 (w : World) : Calls Try.prog 20 #[.int .u64 4, .int .i64 2, .int .i64 2] w fun e w' => e = .returned (.int .i64 1) ∧ w = w' :=
  (Signed_any _ _ _ w (by decide) (by decide) (by decide) (by decide) (by decide)).mono fun e w' ⟨h1, h2⟩ => ⟨h1.trans (by rw [show sgn 4 2 2 = 1 by decide +kernel]), h2⟩
theorem Insert_f (w : World) : Calls Try.prog 22 #[.int .u64 255, .int .i64 2, .int .i64 2, .int .u64 4] w fun e w' => e = .returned (.int .u64 243) ∧ w = w' :=
  (Insert_any _ _ _ _ w (by decide) (by decide) (by decide) (by decide) (by decide) (by decide) (by decide)).mono fun e w' ⟨h1, h2⟩ => ⟨h1.trans (by rw [show ins 255 2 2 4 = 243 by decide +kernel]), h2⟩

def Sl (k : IntKind) (zs : List Int) (n : Nat) : Fact := fun v w => ∃ A c, v = .slice A n c ∧ Ri w k A zs
theorem stable_sl (k : IntKind) (zs : List Int) (n : Nat) : stable (Sl k zs n) := fun v w w' ⟨A, c, h1, h2⟩ hb => ⟨A, c, h1, h2.below hb (Nat.le_refl _)⟩

attribute [local simp] AllK KnowsV look Is

set_option maxHeartbeats 4000000 in
theorem awake_any (w : World) : Calls Try.prog 8 #[] w fun e w' => e = .returned (.bool true) ∧ Below w.heap.size w w' := by
  have hlit := Ri.lit w .u8 bb 5
  go_enter Try.func8, Try.ntmps8
  go_wp2_with fail
  refine (Get_0 _ _ hlit).mono ?_
  rintro e w' ⟨rfl, rfl⟩
  go_wp2_with fail
  refine (Get_1 _ _ hlit).mono ?_
  rintro e w' ⟨rfl, rfl⟩
  go_wp2_with fail
  refine (Get_n _ _ hlit).mono ?_
  rintro e w' ⟨rfl, rfl⟩
  go_wp2_with fail
  refine (Words_no _ _ _ _ (by decide) (by decide)).mono ?_
  rintro e w' ⟨rfl, rfl⟩
  go_wp2_with fail
  refine (Words_8 _ _ (hlit.take 8)).mono ?_
  rintro e w1 ⟨A', c', rfl, hr1, hb1⟩
  have hrb := hlit.below hb1 (Nat.le_refl _)
  have hb0 : Below w.heap.size w w1 := ((Below.refl _ _).alloc (Nat.le_refl _) _).trans (hb1.mono (by simp))
  have hz : w.heap.size < w1.heap.size := by have := hb1.size; simp at this; omega
  have HB1 := Lib.hid hb1
  clear hb1 hlit
  go_wp2_with fail
  rename_i K hK
  refine wp_region_chain (by kernel_rfl) (by kernel_rfl) ?_
  refine chain_val (u := ?_) [2] rfl (by kernel_rfl) trivial (fun ρ w hb hc hk => ?_) ?_; rotate_left
  · obtain ⟨hc, -⟩ := hc
    simp at hk
    go_simp
    rfl
  refine chain_val (u := ?_) [39] rfl (by kernel_rfl) trivial (fun ρ w hb hc hk => ?_) ?_; rotate_left
  · obtain ⟨hc, -⟩ := hc
    simp at hk
    go_simp
    rfl
  refine chain_val (u := ?_) [40] rfl (by kernel_rfl) trivial (fun ρ w hb hc hk => ?_) ?_; rotate_left
  · obtain ⟨hc, -⟩ := hc
    simp at hk
    go_simp
    rfl
  refine chain_val (u := ?_) [3] rfl (by kernel_rfl) ⟨41, by decide +kernel, rfl, fun w x hx => by simpa using hx⟩ (fun ρ w hb hc hk => ?_) ?_; rotate_left
  · obtain ⟨hc, -⟩ := hc
    simp at hk
    go_simp
    rfl
  refine chain_val (u := ?_) [41, 42] rfl (by kernel_rfl) trivial (fun ρ w hb hc hk => ?_) ?_; rotate_left
  · obtain ⟨hc, -⟩ := hc
    simp at hk
    go_simp
    rfl
  refine chain_val (u := ?_) [43] rfl (by kernel_rfl) trivial (fun ρ w hb hc hk => ?_) ?_; rotate_left
  · obtain ⟨hc, -⟩ := hc
    simp at hk
    go_simp
    rfl
  refine chain_val (u := ?_) [5] rfl (by kernel_rfl) ⟨44, by decide +kernel, rfl, fun w x hx => by simpa using hx⟩ (fun ρ w hb hc hk => ?_) ?_; rotate_left
  · obtain ⟨hc, -⟩ := hc
    simp at hk
    go_simp
    rfl
  refine chain_val (u := ?_) [45] rfl (by kernel_rfl) ⟨44, by decide +kernel, rfl, fun w x hx => by simpa using hx⟩ (fun ρ w hb hc hk => ?_) ?_; rotate_left
  · obtain ⟨hc, -⟩ := hc
    simp at hk
    go_simp
    rfl
  refine chain_val (u := ?_) [44, 46] rfl (by kernel_rfl) trivial (fun ρ w hb hc hk => ?_) ?_; rotate_left
  · obtain ⟨hc, -⟩ := hc
    simp at hk
    go_simp
    rfl
  refine chain_val (u := ?_) [47] rfl (by kernel_rfl) trivial (fun ρ w hb hc hk => ?_) ?_; rotate_left
  · obtain ⟨hc, -⟩ := hc
    simp at hk
    go_simp
    rfl
  refine chain_val (u := ?_) [7] rfl (by kernel_rfl) ⟨48, by decide +kernel, rfl, fun w x hx => by simpa using hx⟩ (fun ρ w hb hc hk => ?_) ?_; rotate_left
  · obtain ⟨hc, -⟩ := hc
    simp at hk
    go_simp
    rfl
  refine chain_val (u := ?_) [49] rfl (by kernel_rfl) ⟨48, by decide +kernel, rfl, fun w x hx => by simpa using hx⟩ (fun ρ w hb hc hk => ?_) ?_; rotate_left
  · obtain ⟨hc, -⟩ := hc
    simp at hk
    go_simp
    rfl
  refine chain_val (u := ?_) [48, 50] rfl (by kernel_rfl) trivial (fun ρ w hb hc hk => ?_) ?_; rotate_left
  · obtain ⟨hc, -⟩ := hc
    simp at hk
    go_simp
    rfl
  refine chain_val (u := ?_) [51] rfl (by kernel_rfl) trivial (fun ρ w hb hc hk => ?_) ?_; rotate_left
  · obtain ⟨hc, -⟩ := hc
    simp at hk
    go_simp
    rfl
  refine chain_val (u := ?_) [9] rfl (by kernel_rfl) ⟨52, by decide +kernel, rfl, fun w x hx => by simpa using hx⟩ (fun ρ w hb hc hk => ?_) ?_; rotate_left
  · obtain ⟨hc, -⟩ := hc
    simp at hk
    go_simp
    rfl
  refine chain_val (u := ?_) [53] rfl (by kernel_rfl) ⟨52, by decide +kernel, rfl, fun w x hx => by simpa using hx⟩ (fun ρ w hb hc hk => ?_) ?_; rotate_left
  · obtain ⟨hc, -⟩ := hc
    simp at hk
    go_simp
    rfl
  refine chain_val (u := ?_) [52, 54] rfl (by kernel_rfl) trivial (fun ρ w hb hc hk => ?_) ?_; rotate_left
  · obtain ⟨hc, -⟩ := hc
    simp at hk
    go_simp
    rfl
  refine chain_val (u := ?_) [55] rfl (by kernel_rfl) trivial (fun ρ w hb hc hk => ?_) ?_; rotate_left
  · obtain ⟨hc, -⟩ := hc
    simp at hk
    go_simp
    rfl
  refine chain_val (u := ?_) [11] rfl (by kernel_rfl) ⟨56, by decide +kernel, rfl, fun w x hx => by simpa using hx⟩ (fun ρ w hb hc hk => ?_) ?_; rotate_left
  · obtain ⟨hc, -⟩ := hc
    simp at hk
    go_simp
    rfl
  refine chain_val (u := ?_) [56, 57] rfl (by kernel_rfl) trivial (fun ρ w hb hc hk => ?_) ?_; rotate_left
  · obtain ⟨hc, -⟩ := hc
    simp at hk
    go_simp
    rfl
  refine chain_val (u := ?_) [58] rfl (by kernel_rfl) trivial (fun ρ w hb hc hk => ?_) ?_; rotate_left
  · obtain ⟨hc, -⟩ := hc
    simp at hk
    go_simp
    rfl
  refine chain_val (u := ?_) [10] rfl (by kernel_rfl) ⟨59, by decide +kernel, rfl, fun w x hx => by simpa using hx⟩ (fun ρ w hb hc hk => ?_) ?_; rotate_left
  · obtain ⟨hc, -⟩ := hc
    simp at hk
    go_simp
    rfl
  refine chain_val (u := ?_) [2] rfl (by kernel_rfl) ⟨59, by decide +kernel, rfl, fun w x hx => by simpa using hx⟩ (fun ρ w hb hc hk => ?_) ?_; rotate_left
  · obtain ⟨hc, -⟩ := hc
    simp at hk
    go_simp
    rfl
  refine chain_new (T := Sl .u64 [9223372036854776321] 1) [61] rfl (by kernel_rfl) ⟨59, by decide +kernel, rfl, fun w x hx => by simpa using hx⟩ (stable_sl _ _ _) (fun ρ w hb hc hk => ?_) ?_
  · obtain ⟨hc, hf⟩ := hc
    simp at hk
    refine ⟨.slice (some ⟨w.heap.size, 0, none⟩) 1 1, w.alloc (.cells #[.int .u64 9223372036854776321] 24), by go_simp, ⟨_, _, rfl, Ri.lit _ .u64 [9223372036854776321] _⟩, (Below.refl _ _).alloc (Nat.le_refl _) _⟩
  refine chain_call (T := Is (.bool true)) 14 [60, 62] rfl (by kernel_rfl) ⟨59, by decide +kernel, rfl, fun w x hx => by simpa using hx⟩ (stable_is _) (fun ρ w hb hc hk => ?_) ?_
  · obtain ⟨hc, hf⟩ := hc
    simp at hk
    obtain ⟨hk1, A, c, hk2, hr⟩ := hk
    refine ⟨_, by go_simp; rfl, ?_⟩
    refine (SameW_1 _ _ _ _ _ (hr1.drew.below hb (Nat.le_refl _)) hr).mono ?_
    rintro e w' ⟨rfl, m, rfl⟩
    exact ⟨_, rfl, rfl, bel_drewN (Below.refl _ _) m⟩
  refine chain_val (u := ?_) [59, 63] rfl (by kernel_rfl) trivial (fun ρ w hb hc hk => ?_) ?_; rotate_left
  · obtain ⟨hc, -⟩ := hc
    simp at hk
    go_simp
    rfl
  refine chain_val (u := ?_) [64] rfl (by kernel_rfl) trivial (fun ρ w hb hc hk => ?_) ?_; rotate_left
  · obtain ⟨hc, -⟩ := hc
    simp at hk
    go_simp
    rfl
  refine chain_val (u := ?_) [10] rfl (by kernel_rfl) ⟨65, by decide +kernel, rfl, fun w x hx => by simpa using hx⟩ (fun ρ w hb hc hk => ?_) ?_; rotate_left
  · obtain ⟨hc, -⟩ := hc
    simp at hk
    go_simp
    rfl
  refine chain_call (T := Sl .u8 b8 8) 16 [66] rfl (by kernel_rfl) ⟨65, by decide +kernel, rfl, fun w x hx => by simpa using hx⟩ (stable_sl _ _ _) (fun ρ w hb hc hk => ?_) ?_
  · obtain ⟨hc, hf⟩ := hc
    simp at hk
    refine ⟨_, by go_simp; rfl, ?_⟩
    refine (Bytes_1 _ _ _ (hr1.drew.below hb (Nat.le_refl _))).mono ?_
    rintro e w' ⟨A2, c2, rfl, hr2, hb2⟩
    exact ⟨_, rfl, ⟨_, _, rfl, hr2⟩, hb2⟩
  refine chain_val (u := ?_) [1] rfl (by kernel_rfl) ⟨65, by decide +kernel, rfl, fun w x hx => by simpa using hx⟩ (fun ρ w hb hc hk => ?_) ?_; rotate_left
  · obtain ⟨hc, -⟩ := hc
    simp at hk
    go_simp
    rfl
  refine chain_val (u := ?_) [68] rfl (by kernel_rfl) ⟨65, by decide +kernel, rfl, fun w x hx => by simpa using hx⟩ (fun ρ w hb hc hk => ?_) ?_; rotate_left
  · obtain ⟨hc, -⟩ := hc
    simp at hk
    go_simp
    rfl
  refine chain_call (T := Is (.bool true)) 15 [67, 69] rfl (by kernel_rfl) ⟨65, by decide +kernel, rfl, fun w x hx => by simpa using hx⟩ (stable_is _) (fun ρ w hb hc hk => ?_) ?_
  · obtain ⟨hc, hf⟩ := hc
    simp at hk
    obtain ⟨⟨A, c, hk1, hr⟩, hk2⟩ := hk
    refine ⟨_, by go_simp; rfl, ?_⟩
    refine (Same_8 _ _ _ _ _ hr ((hrb.drew.below hb (Nat.le_refl _)).take 8)).mono ?_
    rintro e w' ⟨rfl, m, rfl⟩
    exact ⟨_, rfl, rfl, bel_drewN (Below.refl _ _) m⟩
  refine chain_val (u := ?_) [65, 70] rfl (by kernel_rfl) trivial (fun ρ w hb hc hk => ?_) ?_; rotate_left
  · obtain ⟨hc, -⟩ := hc
    simp at hk
    go_simp
    rfl
  refine chain_val (u := ?_) [71] rfl (by kernel_rfl) trivial (fun ρ w hb hc hk => ?_) ?_; rotate_left
  · obtain ⟨hc, -⟩ := hc
    simp at hk
    go_simp
    rfl
  refine chain_val (u := ?_) [2] rfl (by kernel_rfl) ⟨72, by decide +kernel, rfl, fun w x hx => by simpa using hx⟩ (fun ρ w hb hc hk => ?_) ?_; rotate_left
  · obtain ⟨hc, -⟩ := hc
    simp at hk
    go_simp
    rfl
  refine chain_call (T := Is (.int .u64 2)) 18 [73] rfl (by kernel_rfl) ⟨72, by decide +kernel, rfl, fun w x hx => by simpa using hx⟩ (stable_is _) (fun ρ w hb hc hk => ?_) ?_
  · obtain ⟨hc, hf⟩ := hc
    simp at hk
    refine ⟨_, by go_simp; rfl, ?_⟩
    refine (Field_8 _).mono ?_
    rintro e w' ⟨rfl, rfl⟩
    exact ⟨_, rfl, rfl, Below.refl _ _⟩
  refine chain_val (u := ?_) [74] rfl (by kernel_rfl) ⟨72, by decide +kernel, rfl, fun w x hx => by simpa using hx⟩ (fun ρ w hb hc hk => ?_) ?_; rotate_left
  · obtain ⟨hc, -⟩ := hc
    simp at hk
    go_simp
    rfl
  refine chain_val (u := ?_) [72, 75] rfl (by kernel_rfl) trivial (fun ρ w hb hc hk => ?_) ?_; rotate_left
  · obtain ⟨hc, -⟩ := hc
    simp at hk
    go_simp
    rfl
  refine chain_val (u := ?_) [76] rfl (by kernel_rfl) trivial (fun ρ w hb hc hk => ?_) ?_; rotate_left
  · obtain ⟨hc, -⟩ := hc
    simp at hk
    go_simp
    rfl
  refine chain_val (u := ?_) [2] rfl (by kernel_rfl) ⟨77, by decide +kernel, rfl, fun w x hx => by simpa using hx⟩ (fun ρ w hb hc hk => ?_) ?_; rotate_left
  · obtain ⟨hc, -⟩ := hc
    simp at hk
    go_simp
    rfl
  refine chain_call (T := Is (.int .u64 9223372036854776321)) 18 [78] rfl (by kernel_rfl) ⟨77, by decide +kernel, rfl, fun w x hx => by simpa using hx⟩ (stable_is _) (fun ρ w hb hc hk => ?_) ?_
  · obtain ⟨hc, hf⟩ := hc
    simp at hk
    refine ⟨_, by go_simp; rfl, ?_⟩
    refine (Field_64 _).mono ?_
    rintro e w' ⟨rfl, rfl⟩
    exact ⟨_, rfl, rfl, Below.refl _ _⟩
  refine chain_val (u := ?_) [2] rfl (by kernel_rfl) ⟨77, by decide +kernel, rfl, fun w x hx => by simpa using hx⟩ (fun ρ w hb hc hk => ?_) ?_; rotate_left
  · obtain ⟨hc, -⟩ := hc
    simp at hk
    go_simp
    rfl
  refine chain_val (u := ?_) [79, 80] rfl (by kernel_rfl) ⟨77, by decide +kernel, rfl, fun w x hx => by simpa using hx⟩ (fun ρ w hb hc hk => ?_) ?_; rotate_left
  · obtain ⟨hc, -⟩ := hc
    simp at hk
    go_simp
    rfl
  refine chain_val (u := ?_) [77, 81] rfl (by kernel_rfl) trivial (fun ρ w hb hc hk => ?_) ?_; rotate_left
  · obtain ⟨hc, -⟩ := hc
    simp at hk
    go_simp
    rfl
  refine chain_val (u := ?_) [82] rfl (by kernel_rfl) trivial (fun ρ w hb hc hk => ?_) ?_; rotate_left
  · obtain ⟨hc, -⟩ := hc
    simp at hk
    go_simp
    rfl
  refine chain_call (T := Is (.int .i64 (-1))) 20 [] rfl (by kernel_rfl) ⟨83, by decide +kernel, rfl, fun w x hx => by simpa using hx⟩ (stable_is _) (fun ρ w hb hc hk => ?_) ?_
  · obtain ⟨hc, hf⟩ := hc
    refine ⟨_, by go_simp; rfl, ?_⟩
    refine (Signed_c _).mono ?_
    rintro e w' ⟨rfl, rfl⟩
    exact ⟨_, rfl, rfl, Below.refl _ _⟩
  refine chain_val (u := ?_) [84] rfl (by kernel_rfl) ⟨83, by decide +kernel, rfl, fun w x hx => by simpa using hx⟩ (fun ρ w hb hc hk => ?_) ?_; rotate_left
  · obtain ⟨hc, -⟩ := hc
    simp at hk
    go_simp
    rfl
  refine chain_val (u := ?_) [83, 85] rfl (by kernel_rfl) trivial (fun ρ w hb hc hk => ?_) ?_; rotate_left
  · obtain ⟨hc, -⟩ := hc
    simp at hk
    go_simp
    rfl
  refine chain_val (u := ?_) [86] rfl (by kernel_rfl) trivial (fun ρ w hb hc hk => ?_) ?_; rotate_left
  · obtain ⟨hc, -⟩ := hc
    simp at hk
    go_simp
    rfl
  refine chain_call (T := Is (.int .i64 1)) 20 [] rfl (by kernel_rfl) ⟨87, by decide +kernel, rfl, fun w x hx => by simpa using hx⟩ (stable_is _) (fun ρ w hb hc hk => ?_) ?_
  · obtain ⟨hc, hf⟩ := hc
    refine ⟨_, by go_simp; rfl, ?_⟩
    refine (Signed_4 _).mono ?_
    rintro e w' ⟨rfl, rfl⟩
    exact ⟨_, rfl, rfl, Below.refl _ _⟩
  refine chain_val (u := ?_) [88] rfl (by kernel_rfl) ⟨87, by decide +kernel, rfl, fun w x hx => by simpa using hx⟩ (fun ρ w hb hc hk => ?_) ?_; rotate_left
  · obtain ⟨hc, -⟩ := hc
    simp at hk
    go_simp
    rfl
  refine chain_val (u := ?_) [87, 89] rfl (by kernel_rfl) trivial (fun ρ w hb hc hk => ?_) ?_; rotate_left
  · obtain ⟨hc, -⟩ := hc
    simp at hk
    go_simp
    rfl
  refine chain_val (u := ?_) [90] rfl (by kernel_rfl) trivial (fun ρ w hb hc hk => ?_) ?_; rotate_left
  · obtain ⟨hc, -⟩ := hc
    simp at hk
    go_simp
    rfl
  refine chain_call (T := Is (.int .u64 243)) 22 [] rfl (by kernel_rfl) ⟨91, by decide +kernel, rfl, fun w x hx => by simpa using hx⟩ (stable_is _) (fun ρ w hb hc hk => ?_) ?_
  · obtain ⟨hc, hf⟩ := hc
    refine ⟨_, by go_simp; rfl, ?_⟩
    refine (Insert_f _).mono ?_
    rintro e w' ⟨rfl, rfl⟩
    exact ⟨_, rfl, rfl, Below.refl _ _⟩
  refine chain_val (u := ?_) [92] rfl (by kernel_rfl) ⟨91, by decide +kernel, rfl, fun w x hx => by simpa using hx⟩ (fun ρ w hb hc hk => ?_) ?_; rotate_left
  · obtain ⟨hc, -⟩ := hc
    simp at hk
    go_simp
    rfl
  refine chain_val (u := ?_) [91, 93] rfl (by kernel_rfl) trivial (fun ρ w hb hc hk => ?_) ?_; rotate_left
  · obtain ⟨hc, -⟩ := hc
    simp at hk
    go_simp
    rfl
  refine chain_val (u := ?_) [94] rfl (by kernel_rfl) trivial (fun ρ w hb hc hk => ?_) ?_; rotate_left
  · obtain ⟨hc, -⟩ := hc
    simp at hk
    go_simp
    rfl
  refine chain_end (fun a w' hb hd hk => ?_)
  obtain ⟨tm, df⟩ := a
  have h0 : tm.getD 0 undef = .bool true := hk 0 (by simp)
  simp at hd
  subst hd
  refine hK _ _ ?_
  have HB := Lib.hid (bel_on hb0.drew hb)
  have H0 := Lib.hid h0
  clear hk hb h0
  go_wp2
  go_ret
  exact ⟨congrArg Ending.returned H0.out, HB.out⟩
end Go.Proofs.Ytlfaincapinpfaa
