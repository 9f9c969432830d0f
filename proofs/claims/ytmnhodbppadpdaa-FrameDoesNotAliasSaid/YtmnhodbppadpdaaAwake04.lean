/- The fixed examples of layer 4: 'awake' is true. -/
import Derived.Test.YtmnhodbppadpdaaFrame4
import Derived.Test.YtmnhodbppadpdaaMsgLit
namespace Go.Proofs.Ytmnhodbppadpdaa
open Go.ChangeShapes Go.WideShapes Go.ChangeAt Go.RowKit
set_option linter.unusedVariables false
set_option linter.unusedSimpArgs false

def msg3 : List (List Int) := [[5], [], [6, 7]]
def l40 : List Int := [2, 0, 0, 0, 1, 0, 0, 0, 0, 0, 0, 0, 2, 0, 0, 0, 5, 0, 0, 0, 0, 0, 0, 0, 6, 0, 0, 0, 0, 0, 0, 0, 7, 0, 0, 0, 0, 0, 0, 0]
def z08 : List Int := [0, 0, 0, 0, 0, 0, 0, 0]
def p16 : List Int := [1, 0, 0, 0, 0, 0, 0, 0, 0, 0, 0, 0, 1, 0, 0, 0]
theorem l40_bts : Bts l40 := by unfold Bts l40; decide
theorem p16_bts : Bts p16 := by unfold Bts p16; decide
theorem t41_bts : Bts (l40 ++ [0]) := by unfold Bts l40; decide

theorem sg_msg3 (w : World) (T : TypeId) : Sg ((((w.alloc (.cells #[.int .u64 5] 43)).alloc (.cells #[] 43)).alloc (.cells #[.int .u64 6, .int .u64 7] 43)).alloc
    (.cells #[.slice (some ⟨w.heap.size, 0, none⟩) 1 1, .slice (some ⟨w.heap.size + 1, 0, none⟩) 0 0, .slice (some ⟨w.heap.size + 2, 0, none⟩) 2 2] T)) (some ⟨w.heap.size + 3, 0, none⟩) msg3 := by
  have h1 := Holds.lit w [5] 43 1 rfl (by decide)
  have h2 := Holds.lit (w.alloc (.cells #[.int .u64 5] 43)) [] 43 0 rfl (by decide)
  have h3 := Holds.lit ((w.alloc (.cells #[.int .u64 5] 43)).alloc (.cells #[] 43)) [6, 7] 43 2 rfl (by decide)
  have k1 := (h1.alloc (.cells #[] 43)).alloc (.cells #[.int .u64 6, .int .u64 7] 43)
  have k2 := h2.alloc (.cells #[.int .u64 6, .int .u64 7] 43)
  have s1 : (w.alloc (.cells #[.int .u64 5] 43)).heap.size = w.heap.size + 1 := by simp
  have s2 : ((w.alloc (.cells #[.int .u64 5] 43)).alloc (.cells #[] 43)).heap.size = w.heap.size + 2 := by simp
  have s3 : (((w.alloc (.cells #[.int .u64 5] 43)).alloc (.cells #[] 43)).alloc (.cells #[.int .u64 6, .int .u64 7] 43)).heap.size = w.heap.size + 3 := by simp
  rw [s1] at k2
  rw [s2] at h3
  have := Sg.lit (w := ((w.alloc (.cells #[.int .u64 5] 43)).alloc (.cells #[] 43)).alloc (.cells #[.int .u64 6, .int .u64 7] 43))
    [.slice (some ⟨w.heap.size, 0, none⟩) 1 1, .slice (some ⟨w.heap.size + 1, 0, none⟩) 0 0, .slice (some ⟨w.heap.size + 2, 0, none⟩) 2 2] msg3 T (by
    intro j hj
    match j, hj with
    | 0, _ => exact ⟨_, rfl, k1⟩
    | 1, _ => exact ⟨_, rfl, k2⟩
    | 2, _ => exact ⟨_, rfl, h3⟩
    | n + 3, h => exact absurd h (by simp [msg3]))
  rw [s3] at this
  exact this
theorem sg_msg1 (w : World) (T : TypeId) : Sg ((w.alloc (.cells #[] 43)).alloc (.cells #[.slice (some ⟨w.heap.size, 0, none⟩) 0 0] T)) (some ⟨w.heap.size + 1, 0, none⟩) [[]] := by
  have h1 := Holds.lit w [] 43 0 rfl (by decide)
  have s1 : (w.alloc (.cells #[] 43)).heap.size = w.heap.size + 1 := by simp
  have := Sg.lit (w := w.alloc (.cells #[] 43)) [.slice (some ⟨w.heap.size, 0, none⟩) 0 0] [[]] T (by
    intro j hj
    match j, hj with
    | 0, _ => exact ⟨_, rfl, h1⟩
    | n + 1, h => exact absurd h (by simp))
  rw [s1] at this
  exact this

theorem sg_msg3' (w : World) (T : TypeId) (n : Nat) (hn : w.heap.size = n) : Sg ((((w.alloc (.cells #[.int .u64 5] 43)).alloc (.cells #[] 43)).alloc (.cells #[.int .u64 6, .int .u64 7] 43)).alloc
    (.cells #[.slice (some ⟨n, 0, none⟩) 1 1, .slice (some ⟨n + 1, 0, none⟩) 0 0, .slice (some ⟨n + 1 + 1, 0, none⟩) 2 2] T)) (some ⟨n + 1 + 1 + 1, 0, none⟩) msg3 := by
  subst hn
  exact sg_msg3 w T
theorem wd_msg3 : Wd2 msg3 := by unfold Wd2 Wds msg3; decide
theorem fits_msg3 (j : Nat) : (seg msg3 j).length ≤ 536870911 := by
  match j with
  | 0 => decide
  | 1 => decide
  | 2 => decide
  | n + 3 => rw [seg_out (by simp [msg3])]; simp
theorem fits_msg1 (j : Nat) : (seg [[]] j).length ≤ 536870911 := by
  match j with
  | 0 => decide
  | n + 1 => rw [seg_out (by simp)]; simp

/-- Serialize at a message whose encoding is known -/
theorem Ser_c (A : Option Addr) (n m : Nat) (ls : List (List Int)) (L : List Int) (x : Int) (w : World) (hA : A ≠ none) (hs : Sg w A ls) (hw : Wd2 ls) (hf : ∀ j, (seg ls j).length ≤ 536870911) (hn : n = ls.length) (hm : n ≤ 1000) (hL : serR ls = L) (hx : errS ls = x) (hl : L.length = m) :
    Calls Try.prog 12 #[.slice A n n] w fun e w' => ∃ A' c', e = .returned (.tuple #[.slice A' m c', .int .i64 x]) ∧ Ri w' .u8 A' L ∧ (A' = none → c' = 0) ∧ m ≤ c' ∧ c' ≤ 9223372036854775807 ∧ Below w.heap.size w w' := by
  subst hn; subst hL; subst hx; subst hl
  refine (FSer_any A _ ls w hs hw hf (fun h => absurd h hA) (Nat.le_refl _) (by omega) (by omega)).mono ?_
  rintro e w' ⟨v, rfl, hg, hb⟩
  obtain ⟨A', c', rfl, h1, h2, h3, h4⟩ := hg.full
  exact ⟨A', c', rfl, h3, h4, h1, by unfold maxLen at h2; omega, hb⟩
theorem Parse_c (A : Option Addr) (n c : Nat) (b : List Int) (x : Int) (w : World) (hA : A ≠ none) (hr : Ri w .u8 A b) (hb : Bts b) (hn : n = b.length) (hm : n ≤ 1000) (hc : n ≤ c) (hc2 : c ≤ 9223372036854775807) (hx : errF b = x) :
    Calls Try.prog 10 #[.slice A n c] w fun e w' => ∃ A' c', e = .returned (.tuple #[.slice A' (resF b).length c', .int .i64 x]) ∧ Sg w' A' (resF b) ∧ Below w.heap.size w w' := by
  subst hn; subst hx
  refine (FParse_any A c b w hr hb (fun h => absurd h hA) (by omega) hc hc2).mono ?_
  rintro e w' ⟨v, rfl, hg, hbl⟩
  obtain ⟨A', c', rfl, _, _, hs⟩ := hg.slice
  exact ⟨A', c', rfl, hs, hbl⟩

theorem v_ser1 : serR [[]] = z08 := by decide +kernel
theorem v_err1 : errS [[]] = 0 := by decide +kernel
theorem v_ser3 : serR msg3 = l40 := by decide +kernel
theorem v_err3 : errS msg3 = 0 := by decide +kernel
theorem v_ser0 : serR [] = [] := by decide +kernel
theorem v_err0 : errS [] = 1 := by decide +kernel
theorem v_res : resF l40 = msg3 := by decide +kernel
theorem v_p0 : errF l40 = 0 := by decide +kernel
theorem v_p1 : errF (l40 ++ [0]) = 1 := by decide +kernel
theorem v_p2 : errF (l40.take 39) = 1 := by decide +kernel
theorem v_p3 : errF p16 = 1 := by decide +kernel

theorem n_39 : (l40.take 39).length = 39 := rfl
theorem t39_bts : Bts (l40.take 39) := fun z hz => l40_bts z (List.mem_of_mem_take hz)
theorem c40_0 : zat l40 0 = 2 := rfl
theorem c40_4 : zat l40 4 = 1 := rfl
theorem c40_12 : zat l40 12 = 2 := rfl
theorem c40_16 : zat l40 16 = 5 := rfl
theorem p16_lit : p16 = [1, 0, 0, 0, 0, 0, 0, 0, 0, 0, 0, 0, 1, 0, 0, 0] := rfl
theorem z08_rep : z08 = List.replicate 8 0 := rfl
theorem make8 (w : World) : (Instr.makeSlice 22 (.int .i64 8) (.int .i64 8)).run Try.prog w = .ok (.slice (some ⟨w.heap.size, 0, none⟩) 8 8) (w.alloc (.cells (z08.map (Value.int .u8)).toArray 5)) := by
  obtain ⟨i0, hi, hz0, hz1, hz2⟩ := info_parts int8_info
  have h := run_make (P := Try.prog) w 22 5 i0 (.int .u8 0) Try.underlying22 hi hz0 .i64 .i64 8 8 (by decide) (by decide) (by rw [hz2]; decide) (by decide)
  rw [hz1] at h
  have e : madeCells (Value.int .u8 0).cells ((8 : Int).toNat * 1) = (z08.map (Value.int .u8)).toArray := by
    apply Array.ext'
    rw [show (8 : Int).toNat * 1 = 8 from rfl]
    exact toList_madeCells_one _ _
  rw [e] at h
  exact h
theorem n_z08 : z08.length = 8 := rfl
theorem n_l40 : l40.length = 40 := rfl
theorem n_p16 : p16.length = 16 := rfl
theorem n_msg3 : msg3.length = 3 := rfl

attribute [local irreducible] l40 msg3 z08 p16

set_option maxRecDepth 100000 in
set_option maxHeartbeats 2000000 in
theorem awake_any (w : World) : Calls Try.prog 8 #[] w fun e w' => e = .returned (.bool true) ∧ Below w.heap.size w w' := by
  obtain ⟨i0, hi, hz0, hz1, hz2⟩ := info_parts int8_info
  go_enter Try.func8, Try.ntmps8
  go_wp2_with fail
  refine (Ser_c _ 1 8 [[]] z08 0 _ (by simp) (sg_msg1 w _) (by unfold Wd2 Wds; decide) fits_msg1 rfl (by decide) v_ser1 v_err1 n_z08).mono ?_
  rintro e w1 ⟨A1, c1, rfl, hr1, _, _, _, hb1⟩
  have hB1 : Below w.heap.size w w1 := (((Below.refl _ _).alloc (Nat.le_refl _) _).alloc (by simp) _).trans (hb1.mono (by simp; omega))
  have HR1 := Lib.hid hr1
  have HB1 := Lib.hid hB1
  clear hb1 hr1 hB1
  go_wp2_with fail
  refine (Ser_c _ 3 40 msg3 l40 0 _ (by simp) (sg_msg3 w1 _) wd_msg3 fits_msg3 n_msg3.symm (by decide) v_ser3 v_err3 n_l40).mono ?_
  rintro e w2 ⟨A2, c2, rfl, hr2, hn2, hc2, hm2, hb2⟩
  have hB2 : Below w1.heap.size w1 w2 := (((((Below.refl _ _).alloc (Nat.le_refl _) _).alloc (by simp) _).alloc (by simp; omega) _).alloc (by simp; omega) _).trans (hb2.mono (by simp; omega))
  have HR1 := Lib.hid (HR1.out.below hB2 (Nat.le_refl _))
  have HB2 := Lib.hid (bel_on HB1.out hB2)
  obtain ⟨g2, o2, rfl, hcells⟩ := hr2.at (i := 0) (by rw [n_l40]; decide)
  have HR2 := Lib.hid hr2
  clear hb2 hr2 hB2 HB1 hcells
  go_wp2_with fail
  refine (Ser_c _ 0 0 [] [] 1 _ (by simp) (Sg.nil _ _) (by intro l hl; cases hl) (fun j => by rw [seg_out (by simp)]; simp) rfl (by decide) v_ser0 v_err0 rfl).mono ?_
  rintro e w3 ⟨A3, c3, rfl, _, _, _, _, hb3⟩
  have hB3 : Below w2.heap.size w2 w3 := ((Below.refl _ _).alloc (Nat.le_refl _) _).trans (hb3.mono (by simp))
  have HR1 := Lib.hid (HR1.out.below hB3 (Nat.le_refl _))
  have HR2 := Lib.hid (HR2.out.below hB3 (Nat.le_refl _))
  have HB3 := Lib.hid (bel_on HB2.out hB3)
  clear hb3 hB3 HB2
  go_wp2_with fail
  refine (Parse_c _ 40 c2 l40 0 _ (by simp) HR2.out l40_bts n_l40.symm (by decide) hc2 hm2 v_p0).mono ?_
  rintro e w4 ⟨A4, c4, rfl, hs4, hb4⟩
  rw [v_res] at hs4
  have el : (resF l40).length = 3 := by rw [v_res]; exact n_msg3
  rw [el]
  have HS4 := Lib.hid hs4
  have HR1 := Lib.hid (HR1.out.below hb4 (Nat.le_refl _))
  have HR2 := Lib.hid (HR2.out.below hb4 (Nat.le_refl _))
  have HB4 := Lib.hid (bel_on HB3.out hb4)
  clear hs4 hb4 HB3 el
  have HX := Lib.hid (HR2.out.alloc (.cells #[] 5))
  go_wp2_with (first
    | (at_builtin; refine wpList_app1 rfl (.tmp 45) (.tmp 46) 22 rfl Try.underlying22 hi hz0 hz1 hz2 rfl HG5.out rfl (by rw [n_l40]; unfold maxLen; omega) (by rw [n_l40]; omega) (Nat.le_trans (by simp) HB5.out.size) ?_; intro v6 w6 hg6 hb6)
    | (at_builtin; refine wpList_appNn 40 rfl (.tmp 43) (.tmp 44) 22 rfl Try.underlying22 hi hz0 hz1 hz2 n_l40.symm rfl (Got.empty_made w4 5 .u8 (base := w4.heap.size) (Nat.le_refl _)) rfl HX.out (fun h => by cases h) (by unfold maxLen; simp only [List.length_nil]; omega) (by simp only [List.length_nil]; omega) (by simp) ?_; intro v5 w5 hg5 hb5; rw [List.nil_append] at hg5; obtain ⟨A5, c5, he5, -⟩ := hg5.slice; rw [n_l40] at he5; subst he5; have HG5 := Lib.hid hg5; have HB5 := Lib.hid hb5; clear hg5 hb5))
  obtain ⟨A6, c6, rfl, hc6, hm6, hr6⟩ := hg6.slice
  have e41 : (l40 ++ [0]).length = 41 := by rw [List.length_append, n_l40]; rfl
  have hB6 : Below w4.heap.size w4 w6 := (((Below.refl _ _).alloc (Nat.le_refl _) _).trans HB5.out).trans hb6
  have HR1 := Lib.hid (HR1.out.below hB6 (Nat.le_refl _))
  have HR2 := Lib.hid (HR2.out.below hB6 (Nat.le_refl _))
  have HS4 := Lib.hid (HS4.out.below hB6 (Nat.le_refl _))
  have HB6 := Lib.hid (bel_on HB4.out hB6)
  obtain ⟨g6, rfl, _, _, _⟩ := hg6.addr (by rw [e41]; decide)
  rw [e41] at hc6 ⊢
  have HR6 := Lib.hid hr6
  have hm6' : c6 ≤ 9223372036854775807 := by unfold maxLen at hm6; omega
  clear hg6 hb6 hB6 hr6 HG5 HB5 HB4 hm6 HX
  refine (Parse_c _ 41 c6 _ 1 _ (by simp) HR6.out t41_bts e41.symm (by decide) hc6 hm6' v_p1).mono ?_
  rintro e w7 ⟨A7, c7, rfl, _, hb7⟩
  have HR1 := Lib.hid (HR1.out.below hb7 (Nat.le_refl _))
  have HR2 := Lib.hid (HR2.out.below hb7 (Nat.le_refl _))
  have HS4 := Lib.hid (HS4.out.below hb7 (Nat.le_refl _))
  have HB7 := Lib.hid (bel_on HB6.out hb7)
  clear hb7 HB6 HR6
  go_wp2_with fail
  refine (Parse_c _ 39 c2 _ 1 _ (by simp) (HR2.out.take 39) t39_bts n_39.symm (by decide) (by omega) hm2 v_p2).mono ?_
  rintro e w8 ⟨A8, c8, rfl, _, hb8⟩
  have HR1 := Lib.hid (HR1.out.below hb8 (Nat.le_refl _))
  have HR2 := Lib.hid (HR2.out.below hb8 (Nat.le_refl _))
  have HS4 := Lib.hid (HS4.out.below hb8 (Nat.le_refl _))
  have HB8 := Lib.hid (bel_on HB7.out hb8)
  clear hb8 HB7
  have HP := Lib.hid (Ri.lit w8 .u8 p16 5)
  rw [p16_lit] at HP
  go_wp2_with fail
  refine (Parse_c _ 16 16 [1, 0, 0, 0, 0, 0, 0, 0, 0, 0, 0, 0, 1, 0, 0, 0] 1 _ (by simp) HP.out (p16_lit ▸ p16_bts) rfl (by decide) (by decide) (by decide) (p16_lit ▸ v_p3)).mono ?_
  rintro e w9 ⟨A9, c9, rfl, _, hb9⟩
  have hB9 : Below w8.heap.size w8 w9 := ((Below.refl _ _).alloc (Nat.le_refl _) _).trans (hb9.mono (by simp))
  have hr2 := HR2.out.below hB9 (Nat.le_refl _)
  have HR1 := Lib.hid (HR1.out.below hB9 (Nat.le_refl _))
  have HS4' := Lib.hid (HS4.out.below hB9 (Nat.le_refl _))
  have HB9 := Lib.hid (bel_on HB8.out hB9)
  obtain ⟨g2', o2', e2, hcell⟩ := hr2.at (i := 0) (by rw [n_l40]; decide)
  injection e2 with e2
  injection e2 with e2 e3
  subst e2
  subst e3
  rw [n_l40] at hcell
  have q0 := hcell 0 (by decide)
  have q4 := hcell 4 (by decide)
  have q12 := hcell 12 (by decide)
  have q16 := hcell 16 (by decide)
  rw [c40_0] at q0
  rw [c40_4] at q4
  rw [c40_12] at q12
  rw [c40_16] at q16
  rw [Nat.add_zero] at q0
  have l2 : g2 < w9.heap.size := World.block_lt_of_cell? w9 ⟨g2, o2, none⟩ q0
  clear hb9 hB9 HB8 HP HR2 hr2 hcell
  have hmk := make8
  have hb10 : Below w9.heap.size w9 (w9.alloc (.cells (z08.map (Value.int .u8)).toArray 5)) := (Below.refl _ _).alloc (Nat.le_refl _) _
  have hr10 := Ri.lit w9 .u8 z08 5
  have HS := Lib.hid (Same_any A1 _ c1 8 z08 z08 _ (HR1.out.below hb10 (Nat.le_refl _)) hr10 (by rw [n_z08]; decide) (by rw [n_z08]; decide))
  rw [n_z08, sameB_self] at HS
  have k0 := (hb10.cell (p := ⟨g2, o2, none⟩) l2).trans q0
  have k4 := (hb10.cell (p := ⟨g2, o2 + 4, none⟩) l2).trans q4
  have k12 := (hb10.cell (p := ⟨g2, o2 + 12, none⟩) l2).trans q12
  have k16 := (hb10.cell (p := ⟨g2, o2 + 16, none⟩) l2).trans q16
  clear hb10 hr10 HR1 q0 q4 q12 q16
  go_wp2_with fail
  refine HS.out.mono ?_
  rintro e w' ⟨rfl, m1, rfl⟩
  go_wp2_with fail
  have hbx : Below w9.heap.size w9 (((((w9.alloc (.cells (z08.map (Value.int .u8)).toArray 5)).drewN m1).alloc (.cells #[.int .u64 5] 43)).alloc (.cells #[] 43)).alloc (.cells #[.int .u64 6, .int .u64 7] 43)) :=
    ((((bel_drewN ((Below.refl _ _).alloc (Nat.le_refl _) _) m1).alloc (by simp) _).alloc (by simp; omega) _).alloc (by simp; omega) _)
  have hby := hbx.alloc (by simp; omega) (.cells #[.slice (some ⟨w9.heap.size + 1, 0, none⟩) 1 1, .slice (some ⟨w9.heap.size + 1 + 1, 0, none⟩) 0 0, .slice (some ⟨w9.heap.size + 1 + 1 + 1, 0, none⟩) 2 2] 41)
  have HZ := Lib.hid (bel_on HB9.out hby)
  have HS9 := Lib.hid (HS4'.out.below hby (Nat.le_refl _))
  have HQ := Lib.hid (Same4_any A4 _ c4 3 msg3 msg3 _ HS9.out (sg_msg3' ((w9.alloc (.cells (z08.map (Value.int .u8)).toArray 5)).drewN m1) 41 (w9.heap.size + 1) (by simp)) (by rw [n_msg3]; decide) (by rw [n_msg3]; decide))
  rw [n_msg3, sameS_self] at HQ
  clear hbx hby
  refine HQ.out.mono ?_
  rintro e w' ⟨rfl, m2, rfl⟩
  have tb1 : tbl 1 = 8 := rfl
  have tb2 : tbl 2 = 16 := rfl
  have tb3 : tbl 3 = 16 := rfl
  go_wp2_with fail
  refine (FTable_any 1 _ (by decide) (by decide)).mono ?_
  rw [tb1]
  rintro e w' ⟨rfl, rfl⟩
  go_wp2_with fail
  refine (FTable_any 2 _ (by decide) (by decide)).mono ?_
  rw [tb2]
  rintro e w' ⟨rfl, rfl⟩
  go_wp2_with fail
  refine (FTable_any 3 _ (by decide) (by decide)).mono ?_
  rw [tb3]
  rintro e w' ⟨rfl, rfl⟩
  go_wp2
  go_ret
  exact ⟨rfl, bel_drewN HZ.out _⟩
end Go.Proofs.Ytmnhodbppadpdaa
