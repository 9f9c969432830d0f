/- The texts PtrRun (what is wanted of them), one after the other. -/
import Derived.Test.YtfigoblpkbpenaaDoorMg1
import Derived.Test.YtfigoblpkbpenaaDoorMg2
import Derived.Test.YtfigoblpkbpenaaDoorMg3
import Derived.Test.YtfigoblpkbpenaaDoorMg7
import Derived.Test.YtfigoblpkbpenaaDoorMg10
import Derived.Test.YtfigoblpkbpenaaDoorMg17
/- Packages pointer's functions, each by a contract. -/
namespace Go.Proofs.YtfigoblpkbpenaaDoor
set_option linter.unusedVariables false
set_option linter.unusedSimpArgs false
set_option maxRecDepth 100000
open Go.ChangeShapes Go.WideShapes Go.ChangeAt Go.RowKit

theorem lay_map : Tryd.prog.underlying 80 = some (.map 3 78) := by kernel_rfl
theorem lay_key : Tryd.prog.underlying 3 = some (.int .i64) := by kernel_rfl

/-- the four entries of the map of layouts -/
def ents : Array MapEntry := #[{ key := .int .i64 0, val := .func (.func 67) #[] #[], born := 0 }, { key := .int .i64 1, val := .func (.func 69) #[] #[], born := 1 },
  { key := .int .i64 2, val := .func (.func 70) #[] #[], born := 2 }, { key := .int .i64 3, val := .func (.func 73) #[] #[], born := 3 }]

theorem layouts_any (w : World) : Calls Tryd.prog 64 #[] w fun e w' => e = .returned (.map (some w.heap.size)) ∧ w' = w.alloc (.map ents 4) := by
  have hmm := @run_makeMap Tryd.prog
  have h0 : (Instr.mapUpdate 80 (.map (some w.heap.size)) (.int .i64 0) (.func (.func 67) #[] #[])).run Tryd.prog (w.alloc (.map #[] 0)) = .ok () (w.alloc (.map #[{ key := .int .i64 0, val := .func (.func 67) #[] #[], born := 0 }] 1)) :=
    run_insert_new w _ _ _ _ _ _ _ lay_map lay_key (by rfl)
  have h1 : (Instr.mapUpdate 80 (.map (some w.heap.size)) (.int .i64 1) (.func (.func 69) #[] #[])).run Tryd.prog (w.alloc (.map #[{ key := .int .i64 0, val := .func (.func 67) #[] #[], born := 0 }] 1)) = .ok () (w.alloc (.map #[{ key := .int .i64 0, val := .func (.func 67) #[] #[], born := 0 }, { key := .int .i64 1, val := .func (.func 69) #[] #[], born := 1 }] 2)) :=
    run_insert_new w _ _ _ _ _ _ _ lay_map lay_key (by rfl)
  have h2 : (Instr.mapUpdate 80 (.map (some w.heap.size)) (.int .i64 2) (.func (.func 70) #[] #[])).run Tryd.prog (w.alloc (.map #[{ key := .int .i64 0, val := .func (.func 67) #[] #[], born := 0 }, { key := .int .i64 1, val := .func (.func 69) #[] #[], born := 1 }] 2)) = .ok () (w.alloc (.map #[{ key := .int .i64 0, val := .func (.func 67) #[] #[], born := 0 }, { key := .int .i64 1, val := .func (.func 69) #[] #[], born := 1 }, { key := .int .i64 2, val := .func (.func 70) #[] #[], born := 2 }] 3)) :=
    run_insert_new w _ _ _ _ _ _ _ lay_map lay_key (by rfl)
  have h3 : (Instr.mapUpdate 80 (.map (some w.heap.size)) (.int .i64 3) (.func (.func 73) #[] #[])).run Tryd.prog (w.alloc (.map #[{ key := .int .i64 0, val := .func (.func 67) #[] #[], born := 0 }, { key := .int .i64 1, val := .func (.func 69) #[] #[], born := 1 }, { key := .int .i64 2, val := .func (.func 70) #[] #[], born := 2 }] 3)) = .ok () (w.alloc (.map #[{ key := .int .i64 0, val := .func (.func 67) #[] #[], born := 0 }, { key := .int .i64 1, val := .func (.func 69) #[] #[], born := 1 }, { key := .int .i64 2, val := .func (.func 70) #[] #[], born := 2 }, { key := .int .i64 3, val := .func (.func 73) #[] #[], born := 3 }] 4)) :=
    run_insert_new w _ _ _ _ _ _ _ lay_map lay_key (by rfl)
  go_enter Tryd.func64, Tryd.ntmps64
  go_wp2
  go_ret
  exact ⟨rfl, rfl⟩

theorem IsMap.stab (es : Array MapEntry) (n : Nat) : stable (IsMap es n) := fun v w w' h hb => h.below hb

attribute [local simp] AllK KnowsV look Is

/-- the look-up of a layout -/
def Lays (K : Int) (fv : Value) (ok : Bool) : Prop := ∀ (w : World) (r : Nat), w.heap[r]? = some (.map ents 4) → (Instr.lookup 80 (.map (some r)) (.int .i64 K) true).run Tryd.prog w = .ok (.tuple #[fv, .bool ok]) w
theorem lays0 : Lays 0 (.func (.func 67) #[] #[]) true := fun w r h => run_lookup_yes w _ _ _ r _ _ 0 0 _ lay_map lay_key h (by rfl)
theorem lays1 : Lays 1 (.func (.func 69) #[] #[]) true := fun w r h => run_lookup_yes w _ _ _ r _ _ 1 1 _ lay_map lay_key h (by rfl)
theorem lays2 : Lays 2 (.func (.func 70) #[] #[]) true := fun w r h => run_lookup_yes w _ _ _ r _ _ 2 2 _ lay_map lay_key h (by rfl)
theorem lays3 : Lays 3 (.func (.func 73) #[] #[]) true := fun w r h => run_lookup_yes w _ _ _ r _ _ 3 3 _ lay_map lay_key h (by rfl)
theorem find_no (K : Int) (h : K < 0 ∨ 3 < K) : Instr.findNow (.int .i64) (.int .i64 K) ents.toList 0 = some none := by
  have h0 : (K == 0) = false := by rw [beq_eq_false_iff_ne]; omega
  have h1 : (K == 1) = false := by rw [beq_eq_false_iff_ne]; omega
  have h2 : (K == 2) = false := by rw [beq_eq_false_iff_ne]; omega
  have h3 : (K == 3) = false := by rw [beq_eq_false_iff_ne]; omega
  simp [ents, Instr.findNow, Instr.sameNow, h0, h1, h2, h3]
theorem laysN (K : Int) (h : K < 0 ∨ 3 < K) : Lays K .nilFunc false := fun w r hr => run_lookup_no w _ _ _ r _ _ K _ lay_map lay_key hr (find_no K h) (by kernel_rfl)
-- RUN
set_option maxHeartbeats 1000000 in
theorem run_dec0 (x : Int) (w : World) (h5 : 0 ≤ x) (h6 : x < 18446744073709551616) (hk : x % 4 = 0) :
    Calls Tryd.prog 59 #[.agg #[.int .u64 x, .int .i64 0, .int .i64 0, .int .i64 0, .int .i64 0, .int .i64 0, .int .i64 0, .bool false, .int .i64 0, .int .u32 0, .int .u32 0, .bool false]] w fun e w' => e = .returned (.tuple #[.agg #[.int .u64 x, .int .i64 0, .int .i64 (sgn x 2 30), .int .i64 (fld x 32 16), .int .i64 (fld x 48 16), .int .i64 0, .int .i64 0, .bool false, .int .i64 0, .int .u32 0, .int .u32 0, .bool false], .bool true]) ∧ Below w.heap.size w w' := by
  have HK := Lib.hid ((f_0_2 x h5).trans hk)
  clear hk
  go_enter Tryd.func59, Tryd.ntmps59
  go_wp2_with fail
  refine (unsigned_dec w.heap.size 1 x 0 0 2 _ (by go_simp) (by go_simp) (by go_simp) (by go_simp) (by omega) (by omega) (by omega) (by omega) h5 h6).mono ?_
  rintro e w' ⟨rfl, rfl⟩
  rw [HK.out]
  go_wp2_with fail
  rename_i KK hKK
  refine wp_region_chain (by kernel_rfl) (by kernel_rfl) ?_
  refine chain_call (T := IsMap ents 4) 64 [] rfl (by kernel_rfl) trivial (IsMap.stab _ _) (fun ρ w1 hb hc hk => ?_) ?_
  · obtain ⟨hc, hfn⟩ := hc
    refine ⟨_, by go_simp; rfl, ?_⟩
    refine (layouts_any _).mono ?_
    rintro e w' ⟨rfl, rfl⟩
    exact ⟨_, rfl, ⟨_, rfl, by unfold World.alloc; simp⟩, (Below.refl _ _).alloc (Nat.le_refl _) _⟩
  refine chain_val (u := ?_) [1] rfl (by kernel_rfl) trivial (fun ρ w1 hb hc hk => ?_) ?_; rotate_left
  · obtain ⟨hc, hfn⟩ := hc
    simp at hk
    go_simp
    rfl
  refine chain_val (u := ?_) [11] rfl (by kernel_rfl) trivial (fun ρ w1 hb hc hk => ?_) ?_; rotate_left
  · obtain ⟨hc, hfn⟩ := hc
    simp at hk
    go_simp
    rfl
  refine chain_val (u := .int .i64 0) [12] rfl (by kernel_rfl) trivial (fun ρ w1 hb hc hk => ?_) ?_
  · obtain ⟨hc, hfn⟩ := hc
    simp at hk
    have hcell := hb.cell (p := ⟨w.heap.size, 1, none⟩) (by simp; omega)
    simp at hcell
    go_simp
  refine chain_val (u := ?_) [10, 13] rfl (by kernel_rfl) trivial (fun ρ w1 hb hc hk => ?_) ?_; rotate_left
  · obtain ⟨hc, hfn⟩ := hc
    simp at hk
    obtain ⟨⟨r, hk1, hk3⟩, hk2⟩ := hk
    have hl := lays0 w1 r hk3
    go_simp
    rfl
  refine chain_val (u := ?_) [14] rfl (by kernel_rfl) trivial (fun ρ w1 hb hc hk => ?_) ?_; rotate_left
  · obtain ⟨hc, hfn⟩ := hc
    simp at hk
    go_simp
    rfl
  refine chain_val (u := ?_) [9] rfl (by kernel_rfl) trivial (fun ρ w1 hb hc hk => ?_) ?_; rotate_left
  · obtain ⟨hc, hfn⟩ := hc
    simp at hk
    go_simp
    rfl
  refine chain_val (u := ?_) [9] rfl (by kernel_rfl) trivial (fun ρ w1 hb hc hk => ?_) ?_; rotate_left
  · obtain ⟨hc, hfn⟩ := hc
    simp at hk
    go_simp
    rfl
  refine chain_val (u := ?_) [15] rfl (by kernel_rfl) trivial (fun ρ w1 hb hc hk => ?_) ?_; rotate_left
  · obtain ⟨hc, hfn⟩ := hc
    simp at hk
    go_simp
    rfl
  refine chain_val (u := ?_) [16] rfl (by kernel_rfl) trivial (fun ρ w1 hb hc hk => ?_) ?_; rotate_left
  · obtain ⟨hc, hfn⟩ := hc
    simp at hk
    go_simp
    rfl
  refine chain_end_lit 23 rfl (fun ff w1 hb hk => ?_)
  refine hKK _ _ ?_
  clear hKK KK
  simp [AllN] at hk
  simp only [frameL, hk]
  obtain ⟨hc, hf⟩ := bcell hb
  have hz : w.heap.size + 1 < w1.heap.size := by have := hb.size; simp at this; omega
  have HB := Lib.hid hb
  clear hb hk
  simp at hc hf
  go_wp2_with fail
  refine (layout1_dec x 0 0 0 0 0 0 0 0 0 false w1 h5 h6).mono ?_
  rintro e w2 ⟨rfl, hb2⟩
  have hz2 : w.heap.size + 1 < w2.heap.size := by have := hb2.size; omega
  obtain ⟨hc2, hf2⟩ := bcell hb2
  have HB2 := Lib.hid hb2
  clear hb2
  go_wp2
  refine bodyPost_ret (v := .tuple #[.agg #[.int .u64 x, .int .i64 0, .int .i64 (sgn x 2 30), .int .i64 (fld x 32 16), .int .i64 (fld x 48 16), .int .i64 0, .int .i64 0, .bool false, .int .i64 0, .int .u32 0, .int .u32 0, .bool false], .bool true]) (by simp [results, Tryd.results59, go_sem, hc2, hc, hz, hz2]) rfl ⟨rfl, ?_⟩
  have b1 : Below w.heap.size w w1 := by
    refine Below.trans ?_ (HB.out.mono (by simp; omega))
    repeat (first | refine bel_drew ?_ | refine Below.setCell ?_ (by simp) _)
    exact ((Below.refl _ _).alloc (Nat.le_refl _) _).alloc (by simp) _
  have b2 : Below w.heap.size w w2 := b1.trans (HB2.out.mono (by omega))
  repeat (refine Below.setCell ?_ (by simp) _)
  exact b2

set_option maxHeartbeats 1000000 in
theorem run_dec1 (x : Int) (w : World) (h5 : 0 ≤ x) (h6 : x < 18446744073709551616) (hk : x % 4 = 1) :
    Calls Tryd.prog 59 #[.agg #[.int .u64 x, .int .i64 0, .int .i64 0, .int .i64 0, .int .i64 0, .int .i64 0, .int .i64 0, .bool false, .int .i64 0, .int .u32 0, .int .u32 0, .bool false]] w fun e w' => e = .returned (.tuple #[.agg #[.int .u64 x, .int .i64 1, .int .i64 (sgn x 2 30), .int .i64 0, .int .i64 0, .int .i64 (fld x 32 3), .int .i64 (fld x 35 29), .bool false, .int .i64 0, .int .u32 0, .int .u32 0, .bool false], .bool true]) ∧ Below w.heap.size w w' := by
  have HK := Lib.hid ((f_0_2 x h5).trans hk)
  clear hk
  go_enter Tryd.func59, Tryd.ntmps59
  go_wp2_with fail
  refine (unsigned_dec w.heap.size 1 x 0 0 2 _ (by go_simp) (by go_simp) (by go_simp) (by go_simp) (by omega) (by omega) (by omega) (by omega) h5 h6).mono ?_
  rintro e w' ⟨rfl, rfl⟩
  rw [HK.out]
  go_wp2_with fail
  rename_i KK hKK
  refine wp_region_chain (by kernel_rfl) (by kernel_rfl) ?_
  refine chain_call (T := IsMap ents 4) 64 [] rfl (by kernel_rfl) trivial (IsMap.stab _ _) (fun ρ w1 hb hc hk => ?_) ?_
  · obtain ⟨hc, hfn⟩ := hc
    refine ⟨_, by go_simp; rfl, ?_⟩
    refine (layouts_any _).mono ?_
    rintro e w' ⟨rfl, rfl⟩
    exact ⟨_, rfl, ⟨_, rfl, by unfold World.alloc; simp⟩, (Below.refl _ _).alloc (Nat.le_refl _) _⟩
  refine chain_val (u := ?_) [1] rfl (by kernel_rfl) trivial (fun ρ w1 hb hc hk => ?_) ?_; rotate_left
  · obtain ⟨hc, hfn⟩ := hc
    simp at hk
    go_simp
    rfl
  refine chain_val (u := ?_) [11] rfl (by kernel_rfl) trivial (fun ρ w1 hb hc hk => ?_) ?_; rotate_left
  · obtain ⟨hc, hfn⟩ := hc
    simp at hk
    go_simp
    rfl
  refine chain_val (u := .int .i64 1) [12] rfl (by kernel_rfl) trivial (fun ρ w1 hb hc hk => ?_) ?_
  · obtain ⟨hc, hfn⟩ := hc
    simp at hk
    have hcell := hb.cell (p := ⟨w.heap.size, 1, none⟩) (by simp; omega)
    simp at hcell
    go_simp
  refine chain_val (u := ?_) [10, 13] rfl (by kernel_rfl) trivial (fun ρ w1 hb hc hk => ?_) ?_; rotate_left
  · obtain ⟨hc, hfn⟩ := hc
    simp at hk
    obtain ⟨⟨r, hk1, hk3⟩, hk2⟩ := hk
    have hl := lays1 w1 r hk3
    go_simp
    rfl
  refine chain_val (u := ?_) [14] rfl (by kernel_rfl) trivial (fun ρ w1 hb hc hk => ?_) ?_; rotate_left
  · obtain ⟨hc, hfn⟩ := hc
    simp at hk
    go_simp
    rfl
  refine chain_val (u := ?_) [9] rfl (by kernel_rfl) trivial (fun ρ w1 hb hc hk => ?_) ?_; rotate_left
  · obtain ⟨hc, hfn⟩ := hc
    simp at hk
    go_simp
    rfl
  refine chain_val (u := ?_) [9] rfl (by kernel_rfl) trivial (fun ρ w1 hb hc hk => ?_) ?_; rotate_left
  · obtain ⟨hc, hfn⟩ := hc
    simp at hk
    go_simp
    rfl
  refine chain_val (u := ?_) [15] rfl (by kernel_rfl) trivial (fun ρ w1 hb hc hk => ?_) ?_; rotate_left
  · obtain ⟨hc, hfn⟩ := hc
    simp at hk
    go_simp
    rfl
  refine chain_val (u := ?_) [16] rfl (by kernel_rfl) trivial (fun ρ w1 hb hc hk => ?_) ?_; rotate_left
  · obtain ⟨hc, hfn⟩ := hc
    simp at hk
    go_simp
    rfl
  refine chain_end_lit 23 rfl (fun ff w1 hb hk => ?_)
  refine hKK _ _ ?_
  clear hKK KK
  simp [AllN] at hk
  simp only [frameL, hk]
  obtain ⟨hc, hf⟩ := bcell hb
  have hz : w.heap.size + 1 < w1.heap.size := by have := hb.size; simp at this; omega
  have HB := Lib.hid hb
  clear hb hk
  simp at hc hf
  go_wp2_with fail
  refine (layout2_dec x 1 0 0 0 0 0 0 0 0 false w1 h5 h6).mono ?_
  rintro e w2 ⟨rfl, hb2⟩
  have hz2 : w.heap.size + 1 < w2.heap.size := by have := hb2.size; omega
  obtain ⟨hc2, hf2⟩ := bcell hb2
  have HB2 := Lib.hid hb2
  clear hb2
  go_wp2
  refine bodyPost_ret (v := .tuple #[.agg #[.int .u64 x, .int .i64 1, .int .i64 (sgn x 2 30), .int .i64 0, .int .i64 0, .int .i64 (fld x 32 3), .int .i64 (fld x 35 29), .bool false, .int .i64 0, .int .u32 0, .int .u32 0, .bool false], .bool true]) (by simp [results, Tryd.results59, go_sem, hc2, hc, hz, hz2]) rfl ⟨rfl, ?_⟩
  have b1 : Below w.heap.size w w1 := by
    refine Below.trans ?_ (HB.out.mono (by simp; omega))
    repeat (first | refine bel_drew ?_ | refine Below.setCell ?_ (by simp) _)
    exact ((Below.refl _ _).alloc (Nat.le_refl _) _).alloc (by simp) _
  have b2 : Below w.heap.size w w2 := b1.trans (HB2.out.mono (by omega))
  repeat (refine Below.setCell ?_ (by simp) _)
  exact b2

set_option maxHeartbeats 1000000 in
theorem run_dec2 (x : Int) (w : World) (h5 : 0 ≤ x) (h6 : x < 18446744073709551616) (hk : x % 4 = 2) :
    Calls Tryd.prog 59 #[.agg #[.int .u64 x, .int .i64 0, .int .i64 0, .int .i64 0, .int .i64 0, .int .i64 0, .int .i64 0, .bool false, .int .i64 0, .int .u32 0, .int .u32 0, .bool false]] w fun e w' => e = .returned (.tuple #[.agg #[.int .u64 x, .int .i64 2, .int .i64 0, .int .i64 0, .int .i64 0, .int .i64 0, .int .i64 0, .bool (fld x 2 1 == 1), .int .i64 (fld x 3 29), .int .u32 (fld x 32 32), .int .u32 0, .bool false], .bool true]) ∧ Below w.heap.size w w' := by
  have HK := Lib.hid ((f_0_2 x h5).trans hk)
  clear hk
  go_enter Tryd.func59, Tryd.ntmps59
  go_wp2_with fail
  refine (unsigned_dec w.heap.size 1 x 0 0 2 _ (by go_simp) (by go_simp) (by go_simp) (by go_simp) (by omega) (by omega) (by omega) (by omega) h5 h6).mono ?_
  rintro e w' ⟨rfl, rfl⟩
  rw [HK.out]
  go_wp2_with fail
  rename_i KK hKK
  refine wp_region_chain (by kernel_rfl) (by kernel_rfl) ?_
  refine chain_call (T := IsMap ents 4) 64 [] rfl (by kernel_rfl) trivial (IsMap.stab _ _) (fun ρ w1 hb hc hk => ?_) ?_
  · obtain ⟨hc, hfn⟩ := hc
    refine ⟨_, by go_simp; rfl, ?_⟩
    refine (layouts_any _).mono ?_
    rintro e w' ⟨rfl, rfl⟩
    exact ⟨_, rfl, ⟨_, rfl, by unfold World.alloc; simp⟩, (Below.refl _ _).alloc (Nat.le_refl _) _⟩
  refine chain_val (u := ?_) [1] rfl (by kernel_rfl) trivial (fun ρ w1 hb hc hk => ?_) ?_; rotate_left
  · obtain ⟨hc, hfn⟩ := hc
    simp at hk
    go_simp
    rfl
  refine chain_val (u := ?_) [11] rfl (by kernel_rfl) trivial (fun ρ w1 hb hc hk => ?_) ?_; rotate_left
  · obtain ⟨hc, hfn⟩ := hc
    simp at hk
    go_simp
    rfl
  refine chain_val (u := .int .i64 2) [12] rfl (by kernel_rfl) trivial (fun ρ w1 hb hc hk => ?_) ?_
  · obtain ⟨hc, hfn⟩ := hc
    simp at hk
    have hcell := hb.cell (p := ⟨w.heap.size, 1, none⟩) (by simp; omega)
    simp at hcell
    go_simp
  refine chain_val (u := ?_) [10, 13] rfl (by kernel_rfl) trivial (fun ρ w1 hb hc hk => ?_) ?_; rotate_left
  · obtain ⟨hc, hfn⟩ := hc
    simp at hk
    obtain ⟨⟨r, hk1, hk3⟩, hk2⟩ := hk
    have hl := lays2 w1 r hk3
    go_simp
    rfl
  refine chain_val (u := ?_) [14] rfl (by kernel_rfl) trivial (fun ρ w1 hb hc hk => ?_) ?_; rotate_left
  · obtain ⟨hc, hfn⟩ := hc
    simp at hk
    go_simp
    rfl
  refine chain_val (u := ?_) [9] rfl (by kernel_rfl) trivial (fun ρ w1 hb hc hk => ?_) ?_; rotate_left
  · obtain ⟨hc, hfn⟩ := hc
    simp at hk
    go_simp
    rfl
  refine chain_val (u := ?_) [9] rfl (by kernel_rfl) trivial (fun ρ w1 hb hc hk => ?_) ?_; rotate_left
  · obtain ⟨hc, hfn⟩ := hc
    simp at hk
    go_simp
    rfl
  refine chain_val (u := ?_) [15] rfl (by kernel_rfl) trivial (fun ρ w1 hb hc hk => ?_) ?_; rotate_left
  · obtain ⟨hc, hfn⟩ := hc
    simp at hk
    go_simp
    rfl
  refine chain_val (u := ?_) [16] rfl (by kernel_rfl) trivial (fun ρ w1 hb hc hk => ?_) ?_; rotate_left
  · obtain ⟨hc, hfn⟩ := hc
    simp at hk
    go_simp
    rfl
  refine chain_end_lit 23 rfl (fun ff w1 hb hk => ?_)
  refine hKK _ _ ?_
  clear hKK KK
  simp [AllN] at hk
  simp only [frameL, hk]
  obtain ⟨hc, hf⟩ := bcell hb
  have hz : w.heap.size + 1 < w1.heap.size := by have := hb.size; simp at this; omega
  have HB := Lib.hid hb
  clear hb hk
  simp at hc hf
  go_wp2_with fail
  refine (layout3_dec x 2 0 0 0 0 0 0 0 0 false w1 h5 h6).mono ?_
  rintro e w2 ⟨rfl, hb2⟩
  have hz2 : w.heap.size + 1 < w2.heap.size := by have := hb2.size; omega
  obtain ⟨hc2, hf2⟩ := bcell hb2
  have HB2 := Lib.hid hb2
  clear hb2
  go_wp2
  refine bodyPost_ret (v := .tuple #[.agg #[.int .u64 x, .int .i64 2, .int .i64 0, .int .i64 0, .int .i64 0, .int .i64 0, .int .i64 0, .bool (fld x 2 1 == 1), .int .i64 (fld x 3 29), .int .u32 (fld x 32 32), .int .u32 0, .bool false], .bool true]) (by simp [results, Tryd.results59, go_sem, hc2, hc, hz, hz2]) rfl ⟨rfl, ?_⟩
  have b1 : Below w.heap.size w w1 := by
    refine Below.trans ?_ (HB.out.mono (by simp; omega))
    repeat (first | refine bel_drew ?_ | refine Below.setCell ?_ (by simp) _)
    exact ((Below.refl _ _).alloc (Nat.le_refl _) _).alloc (by simp) _
  have b2 : Below w.heap.size w w2 := b1.trans (HB2.out.mono (by omega))
  repeat (refine Below.setCell ?_ (by simp) _)
  exact b2

set_option maxHeartbeats 1000000 in
theorem run_dec3 (x : Int) (w : World) (h5 : 0 ≤ x) (h6 : x < 18446744073709551616) (hk : x % 4 = 3) :
    Calls Tryd.prog 59 #[.agg #[.int .u64 x, .int .i64 0, .int .i64 0, .int .i64 0, .int .i64 0, .int .i64 0, .int .i64 0, .bool false, .int .i64 0, .int .u32 0, .int .u32 0, .bool false]] w fun e w' => e = .returned (.tuple #[.agg #[.int .u64 x, .int .i64 3, .int .i64 0, .int .i64 0, .int .i64 0, .int .i64 0, .int .i64 0, .bool false, .int .i64 0, .int .u32 (fld x 32 32), .int .u32 (fld x 2 30), .bool false], .bool true]) ∧ Below w.heap.size w w' := by
  have HK := Lib.hid ((f_0_2 x h5).trans hk)
  clear hk
  go_enter Tryd.func59, Tryd.ntmps59
  go_wp2_with fail
  refine (unsigned_dec w.heap.size 1 x 0 0 2 _ (by go_simp) (by go_simp) (by go_simp) (by go_simp) (by omega) (by omega) (by omega) (by omega) h5 h6).mono ?_
  rintro e w' ⟨rfl, rfl⟩
  rw [HK.out]
  go_wp2_with fail
  rename_i KK hKK
  refine wp_region_chain (by kernel_rfl) (by kernel_rfl) ?_
  refine chain_call (T := IsMap ents 4) 64 [] rfl (by kernel_rfl) trivial (IsMap.stab _ _) (fun ρ w1 hb hc hk => ?_) ?_
  · obtain ⟨hc, hfn⟩ := hc
    refine ⟨_, by go_simp; rfl, ?_⟩
    refine (layouts_any _).mono ?_
    rintro e w' ⟨rfl, rfl⟩
    exact ⟨_, rfl, ⟨_, rfl, by unfold World.alloc; simp⟩, (Below.refl _ _).alloc (Nat.le_refl _) _⟩
  refine chain_val (u := ?_) [1] rfl (by kernel_rfl) trivial (fun ρ w1 hb hc hk => ?_) ?_; rotate_left
  · obtain ⟨hc, hfn⟩ := hc
    simp at hk
    go_simp
    rfl
  refine chain_val (u := ?_) [11] rfl (by kernel_rfl) trivial (fun ρ w1 hb hc hk => ?_) ?_; rotate_left
  · obtain ⟨hc, hfn⟩ := hc
    simp at hk
    go_simp
    rfl
  refine chain_val (u := .int .i64 3) [12] rfl (by kernel_rfl) trivial (fun ρ w1 hb hc hk => ?_) ?_
  · obtain ⟨hc, hfn⟩ := hc
    simp at hk
    have hcell := hb.cell (p := ⟨w.heap.size, 1, none⟩) (by simp; omega)
    simp at hcell
    go_simp
  refine chain_val (u := ?_) [10, 13] rfl (by kernel_rfl) trivial (fun ρ w1 hb hc hk => ?_) ?_; rotate_left
  · obtain ⟨hc, hfn⟩ := hc
    simp at hk
    obtain ⟨⟨r, hk1, hk3⟩, hk2⟩ := hk
    have hl := lays3 w1 r hk3
    go_simp
    rfl
  refine chain_val (u := ?_) [14] rfl (by kernel_rfl) trivial (fun ρ w1 hb hc hk => ?_) ?_; rotate_left
  · obtain ⟨hc, hfn⟩ := hc
    simp at hk
    go_simp
    rfl
  refine chain_val (u := ?_) [9] rfl (by kernel_rfl) trivial (fun ρ w1 hb hc hk => ?_) ?_; rotate_left
  · obtain ⟨hc, hfn⟩ := hc
    simp at hk
    go_simp
    rfl
  refine chain_val (u := ?_) [9] rfl (by kernel_rfl) trivial (fun ρ w1 hb hc hk => ?_) ?_; rotate_left
  · obtain ⟨hc, hfn⟩ := hc
    simp at hk
    go_simp
    rfl
  refine chain_val (u := ?_) [15] rfl (by kernel_rfl) trivial (fun ρ w1 hb hc hk => ?_) ?_; rotate_left
  · obtain ⟨hc, hfn⟩ := hc
    simp at hk
    go_simp
    rfl
  refine chain_val (u := ?_) [16] rfl (by kernel_rfl) trivial (fun ρ w1 hb hc hk => ?_) ?_; rotate_left
  · obtain ⟨hc, hfn⟩ := hc
    simp at hk
    go_simp
    rfl
  refine chain_end_lit 23 rfl (fun ff w1 hb hk => ?_)
  refine hKK _ _ ?_
  clear hKK KK
  simp [AllN] at hk
  simp only [frameL, hk]
  obtain ⟨hc, hf⟩ := bcell hb
  have hz : w.heap.size + 1 < w1.heap.size := by have := hb.size; simp at this; omega
  have HB := Lib.hid hb
  clear hb hk
  simp at hc hf
  go_wp2_with fail
  refine (layout4_dec x 3 0 0 0 0 0 0 0 0 false w1 h5 h6).mono ?_
  rintro e w2 ⟨rfl, hb2⟩
  have hz2 : w.heap.size + 1 < w2.heap.size := by have := hb2.size; omega
  obtain ⟨hc2, hf2⟩ := bcell hb2
  have HB2 := Lib.hid hb2
  clear hb2
  go_wp2
  refine bodyPost_ret (v := .tuple #[.agg #[.int .u64 x, .int .i64 3, .int .i64 0, .int .i64 0, .int .i64 0, .int .i64 0, .int .i64 0, .bool false, .int .i64 0, .int .u32 (fld x 32 32), .int .u32 (fld x 2 30), .bool false], .bool true]) (by simp [results, Tryd.results59, go_sem, hc2, hc, hz, hz2]) rfl ⟨rfl, ?_⟩
  have b1 : Below w.heap.size w w1 := by
    refine Below.trans ?_ (HB.out.mono (by simp; omega))
    repeat (first | refine bel_drew ?_ | refine Below.setCell ?_ (by simp) _)
    exact ((Below.refl _ _).alloc (Nat.le_refl _) _).alloc (by simp) _
  have b2 : Below w.heap.size w w2 := b1.trans (HB2.out.mono (by omega))
  repeat (refine Below.setCell ?_ (by simp) _)
  exact b2

set_option maxHeartbeats 1000000 in
theorem run_enc0 (o d p el c pa sg lo : Int) (db : Bool) (w : World) :
    Calls Tryd.prog 59 #[.agg #[.int .u64 0, .int .i64 0, .int .i64 o, .int .i64 d, .int .i64 p, .int .i64 el, .int .i64 c, .bool db, .int .i64 pa, .int .u32 sg, .int .u32 lo, .bool true]] w fun e w' => e = .returned (.tuple #[.agg #[.int .u64 (ins (ins (ins 0 2 30 (IntKind.u64.wrap o)) 32 16 (IntKind.u64.wrap d)) 48 16 (IntKind.u64.wrap p)), .int .i64 0, .int .i64 o, .int .i64 d, .int .i64 p, .int .i64 el, .int .i64 c, .bool db, .int .i64 pa, .int .u32 sg, .int .u32 lo, .bool true], .bool true]) ∧ Below w.heap.size w w' := by
  have HI := Lib.hid (i_0_2 0)
  go_enter Tryd.func59, Tryd.ntmps59
  go_wp2_with fail
  refine (unsigned_enc w.heap.size 1 0 0 0 2 _ (by go_simp) (by go_simp) (by go_simp) (by go_simp) (by omega) (by omega) (by omega) (by omega) (by omega)).mono ?_
  rintro e w' ⟨rfl, rfl⟩
  rw [HI.out]
  simp only [show (0 : Int) % 4 = 0 by decide]
  go_wp2_with fail
  rename_i KK hKK
  refine wp_region_chain (by kernel_rfl) (by kernel_rfl) ?_
  refine chain_call (T := IsMap ents 4) 64 [] rfl (by kernel_rfl) trivial (IsMap.stab _ _) (fun ρ w1 hb hc hk => ?_) ?_
  · obtain ⟨hc, hfn⟩ := hc
    refine ⟨_, by go_simp; rfl, ?_⟩
    refine (layouts_any _).mono ?_
    rintro e w' ⟨rfl, rfl⟩
    exact ⟨_, rfl, ⟨_, rfl, by unfold World.alloc; simp⟩, (Below.refl _ _).alloc (Nat.le_refl _) _⟩
  refine chain_val (u := ?_) [1] rfl (by kernel_rfl) trivial (fun ρ w1 hb hc hk => ?_) ?_; rotate_left
  · obtain ⟨hc, hfn⟩ := hc
    simp at hk
    go_simp
    rfl
  refine chain_val (u := ?_) [11] rfl (by kernel_rfl) trivial (fun ρ w1 hb hc hk => ?_) ?_; rotate_left
  · obtain ⟨hc, hfn⟩ := hc
    simp at hk
    go_simp
    rfl
  refine chain_val (u := .int .i64 0) [12] rfl (by kernel_rfl) trivial (fun ρ w1 hb hc hk => ?_) ?_
  · obtain ⟨hc, hfn⟩ := hc
    simp at hk
    have hcell := hb.cell (p := ⟨w.heap.size, 1, none⟩) (by simp; omega)
    simp at hcell
    go_simp
  refine chain_val (u := ?_) [10, 13] rfl (by kernel_rfl) trivial (fun ρ w1 hb hc hk => ?_) ?_; rotate_left
  · obtain ⟨hc, hfn⟩ := hc
    simp at hk
    obtain ⟨⟨r, hk1, hk3⟩, hk2⟩ := hk
    have hl := lays0 w1 r hk3
    go_simp
    rfl
  refine chain_val (u := ?_) [14] rfl (by kernel_rfl) trivial (fun ρ w1 hb hc hk => ?_) ?_; rotate_left
  · obtain ⟨hc, hfn⟩ := hc
    simp at hk
    go_simp
    rfl
  refine chain_val (u := ?_) [9] rfl (by kernel_rfl) trivial (fun ρ w1 hb hc hk => ?_) ?_; rotate_left
  · obtain ⟨hc, hfn⟩ := hc
    simp at hk
    go_simp
    rfl
  refine chain_val (u := ?_) [9] rfl (by kernel_rfl) trivial (fun ρ w1 hb hc hk => ?_) ?_; rotate_left
  · obtain ⟨hc, hfn⟩ := hc
    simp at hk
    go_simp
    rfl
  refine chain_val (u := ?_) [15] rfl (by kernel_rfl) trivial (fun ρ w1 hb hc hk => ?_) ?_; rotate_left
  · obtain ⟨hc, hfn⟩ := hc
    simp at hk
    go_simp
    rfl
  refine chain_val (u := ?_) [16] rfl (by kernel_rfl) trivial (fun ρ w1 hb hc hk => ?_) ?_; rotate_left
  · obtain ⟨hc, hfn⟩ := hc
    simp at hk
    go_simp
    rfl
  refine chain_end_lit 23 rfl (fun ff w1 hb hk => ?_)
  refine hKK _ _ ?_
  clear hKK KK
  simp [AllN] at hk
  simp only [frameL, hk]
  obtain ⟨hc, hf⟩ := bcell hb
  have hz : w.heap.size + 1 < w1.heap.size := by have := hb.size; simp at this; omega
  have HB := Lib.hid hb
  clear hb hk
  simp at hc hf
  go_wp2_with fail
  refine (layout1_enc 0 0 o d p el c pa sg lo w1 (by omega) (by omega) db).mono ?_
  rintro e w2 ⟨rfl, hb2⟩
  have hz2 : w.heap.size + 1 < w2.heap.size := by have := hb2.size; omega
  obtain ⟨hc2, hf2⟩ := bcell hb2
  have HB2 := Lib.hid hb2
  clear hb2
  go_wp2
  refine bodyPost_ret (v := .tuple #[.agg #[.int .u64 (ins (ins (ins 0 2 30 (IntKind.u64.wrap o)) 32 16 (IntKind.u64.wrap d)) 48 16 (IntKind.u64.wrap p)), .int .i64 0, .int .i64 o, .int .i64 d, .int .i64 p, .int .i64 el, .int .i64 c, .bool db, .int .i64 pa, .int .u32 sg, .int .u32 lo, .bool true], .bool true]) (by simp [results, Tryd.results59, go_sem, hc2, hc, hz, hz2]) rfl ⟨rfl, ?_⟩
  have b1 : Below w.heap.size w w1 := by
    refine Below.trans ?_ (HB.out.mono (by simp; omega))
    repeat (first | refine bel_drew ?_ | refine Below.setCell ?_ (by simp) _)
    exact ((Below.refl _ _).alloc (Nat.le_refl _) _).alloc (by simp) _
  have b2 : Below w.heap.size w w2 := b1.trans (HB2.out.mono (by omega))
  repeat (refine Below.setCell ?_ (by simp) _)
  exact b2

set_option maxHeartbeats 1000000 in
theorem run_enc1 (o d p el c pa sg lo : Int) (db : Bool) (w : World) :
    Calls Tryd.prog 59 #[.agg #[.int .u64 0, .int .i64 1, .int .i64 o, .int .i64 d, .int .i64 p, .int .i64 el, .int .i64 c, .bool db, .int .i64 pa, .int .u32 sg, .int .u32 lo, .bool true]] w fun e w' => e = .returned (.tuple #[.agg #[.int .u64 (ins (ins (ins 1 2 30 (IntKind.u64.wrap o)) 32 3 (IntKind.u64.wrap el)) 35 29 (IntKind.u64.wrap c)), .int .i64 1, .int .i64 o, .int .i64 d, .int .i64 p, .int .i64 el, .int .i64 c, .bool db, .int .i64 pa, .int .u32 sg, .int .u32 lo, .bool true], .bool true]) ∧ Below w.heap.size w w' := by
  have HI := Lib.hid (i_0_2 1)
  go_enter Tryd.func59, Tryd.ntmps59
  go_wp2_with fail
  refine (unsigned_enc w.heap.size 1 0 1 0 2 _ (by go_simp) (by go_simp) (by go_simp) (by go_simp) (by omega) (by omega) (by omega) (by omega) (by omega)).mono ?_
  rintro e w' ⟨rfl, rfl⟩
  rw [HI.out]
  simp only [show (1 : Int) % 4 = 1 by decide]
  go_wp2_with fail
  rename_i KK hKK
  refine wp_region_chain (by kernel_rfl) (by kernel_rfl) ?_
  refine chain_call (T := IsMap ents 4) 64 [] rfl (by kernel_rfl) trivial (IsMap.stab _ _) (fun ρ w1 hb hc hk => ?_) ?_
  · obtain ⟨hc, hfn⟩ := hc
    refine ⟨_, by go_simp; rfl, ?_⟩
    refine (layouts_any _).mono ?_
    rintro e w' ⟨rfl, rfl⟩
    exact ⟨_, rfl, ⟨_, rfl, by unfold World.alloc; simp⟩, (Below.refl _ _).alloc (Nat.le_refl _) _⟩
  refine chain_val (u := ?_) [1] rfl (by kernel_rfl) trivial (fun ρ w1 hb hc hk => ?_) ?_; rotate_left
  · obtain ⟨hc, hfn⟩ := hc
    simp at hk
    go_simp
    rfl
  refine chain_val (u := ?_) [11] rfl (by kernel_rfl) trivial (fun ρ w1 hb hc hk => ?_) ?_; rotate_left
  · obtain ⟨hc, hfn⟩ := hc
    simp at hk
    go_simp
    rfl
  refine chain_val (u := .int .i64 1) [12] rfl (by kernel_rfl) trivial (fun ρ w1 hb hc hk => ?_) ?_
  · obtain ⟨hc, hfn⟩ := hc
    simp at hk
    have hcell := hb.cell (p := ⟨w.heap.size, 1, none⟩) (by simp; omega)
    simp at hcell
    go_simp
  refine chain_val (u := ?_) [10, 13] rfl (by kernel_rfl) trivial (fun ρ w1 hb hc hk => ?_) ?_; rotate_left
  · obtain ⟨hc, hfn⟩ := hc
    simp at hk
    obtain ⟨⟨r, hk1, hk3⟩, hk2⟩ := hk
    have hl := lays1 w1 r hk3
    go_simp
    rfl
  refine chain_val (u := ?_) [14] rfl (by kernel_rfl) trivial (fun ρ w1 hb hc hk => ?_) ?_; rotate_left
  · obtain ⟨hc, hfn⟩ := hc
    simp at hk
    go_simp
    rfl
  refine chain_val (u := ?_) [9] rfl (by kernel_rfl) trivial (fun ρ w1 hb hc hk => ?_) ?_; rotate_left
  · obtain ⟨hc, hfn⟩ := hc
    simp at hk
    go_simp
    rfl
  refine chain_val (u := ?_) [9] rfl (by kernel_rfl) trivial (fun ρ w1 hb hc hk => ?_) ?_; rotate_left
  · obtain ⟨hc, hfn⟩ := hc
    simp at hk
    go_simp
    rfl
  refine chain_val (u := ?_) [15] rfl (by kernel_rfl) trivial (fun ρ w1 hb hc hk => ?_) ?_; rotate_left
  · obtain ⟨hc, hfn⟩ := hc
    simp at hk
    go_simp
    rfl
  refine chain_val (u := ?_) [16] rfl (by kernel_rfl) trivial (fun ρ w1 hb hc hk => ?_) ?_; rotate_left
  · obtain ⟨hc, hfn⟩ := hc
    simp at hk
    go_simp
    rfl
  refine chain_end_lit 23 rfl (fun ff w1 hb hk => ?_)
  refine hKK _ _ ?_
  clear hKK KK
  simp [AllN] at hk
  simp only [frameL, hk]
  obtain ⟨hc, hf⟩ := bcell hb
  have hz : w.heap.size + 1 < w1.heap.size := by have := hb.size; simp at this; omega
  have HB := Lib.hid hb
  clear hb hk
  simp at hc hf
  go_wp2_with fail
  refine (layout2_enc 1 1 o d p el c pa sg lo w1 (by omega) (by omega) db).mono ?_
  rintro e w2 ⟨rfl, hb2⟩
  have hz2 : w.heap.size + 1 < w2.heap.size := by have := hb2.size; omega
  obtain ⟨hc2, hf2⟩ := bcell hb2
  have HB2 := Lib.hid hb2
  clear hb2
  go_wp2
  refine bodyPost_ret (v := .tuple #[.agg #[.int .u64 (ins (ins (ins 1 2 30 (IntKind.u64.wrap o)) 32 3 (IntKind.u64.wrap el)) 35 29 (IntKind.u64.wrap c)), .int .i64 1, .int .i64 o, .int .i64 d, .int .i64 p, .int .i64 el, .int .i64 c, .bool db, .int .i64 pa, .int .u32 sg, .int .u32 lo, .bool true], .bool true]) (by simp [results, Tryd.results59, go_sem, hc2, hc, hz, hz2]) rfl ⟨rfl, ?_⟩
  have b1 : Below w.heap.size w w1 := by
    refine Below.trans ?_ (HB.out.mono (by simp; omega))
    repeat (first | refine bel_drew ?_ | refine Below.setCell ?_ (by simp) _)
    exact ((Below.refl _ _).alloc (Nat.le_refl _) _).alloc (by simp) _
  have b2 : Below w.heap.size w w2 := b1.trans (HB2.out.mono (by omega))
  repeat (refine Below.setCell ?_ (by simp) _)
  exact b2

set_option maxHeartbeats 1000000 in
theorem run_enc2_true (o d p el c pa sg lo : Int) (w : World) :
    Calls Tryd.prog 59 #[.agg #[.int .u64 0, .int .i64 2, .int .i64 o, .int .i64 d, .int .i64 p, .int .i64 el, .int .i64 c, .bool true, .int .i64 pa, .int .u32 sg, .int .u32 lo, .bool true]] w fun e w' => e = .returned (.tuple #[.agg #[.int .u64 (ins (ins (ins 2 2 1 1) 3 29 (IntKind.u64.wrap pa)) 32 32 (IntKind.u64.wrap sg)), .int .i64 2, .int .i64 o, .int .i64 d, .int .i64 p, .int .i64 el, .int .i64 c, .bool true, .int .i64 pa, .int .u32 sg, .int .u32 lo, .bool true], .bool true]) ∧ Below w.heap.size w w' := by
  have HI := Lib.hid (i_0_2 2)
  go_enter Tryd.func59, Tryd.ntmps59
  go_wp2_with fail
  refine (unsigned_enc w.heap.size 1 0 2 0 2 _ (by go_simp) (by go_simp) (by go_simp) (by go_simp) (by omega) (by omega) (by omega) (by omega) (by omega)).mono ?_
  rintro e w' ⟨rfl, rfl⟩
  rw [HI.out]
  simp only [show (2 : Int) % 4 = 2 by decide]
  go_wp2_with fail
  rename_i KK hKK
  refine wp_region_chain (by kernel_rfl) (by kernel_rfl) ?_
  refine chain_call (T := IsMap ents 4) 64 [] rfl (by kernel_rfl) trivial (IsMap.stab _ _) (fun ρ w1 hb hc hk => ?_) ?_
  · obtain ⟨hc, hfn⟩ := hc
    refine ⟨_, by go_simp; rfl, ?_⟩
    refine (layouts_any _).mono ?_
    rintro e w' ⟨rfl, rfl⟩
    exact ⟨_, rfl, ⟨_, rfl, by unfold World.alloc; simp⟩, (Below.refl _ _).alloc (Nat.le_refl _) _⟩
  refine chain_val (u := ?_) [1] rfl (by kernel_rfl) trivial (fun ρ w1 hb hc hk => ?_) ?_; rotate_left
  · obtain ⟨hc, hfn⟩ := hc
    simp at hk
    go_simp
    rfl
  refine chain_val (u := ?_) [11] rfl (by kernel_rfl) trivial (fun ρ w1 hb hc hk => ?_) ?_; rotate_left
  · obtain ⟨hc, hfn⟩ := hc
    simp at hk
    go_simp
    rfl
  refine chain_val (u := .int .i64 2) [12] rfl (by kernel_rfl) trivial (fun ρ w1 hb hc hk => ?_) ?_
  · obtain ⟨hc, hfn⟩ := hc
    simp at hk
    have hcell := hb.cell (p := ⟨w.heap.size, 1, none⟩) (by simp; omega)
    simp at hcell
    go_simp
  refine chain_val (u := ?_) [10, 13] rfl (by kernel_rfl) trivial (fun ρ w1 hb hc hk => ?_) ?_; rotate_left
  · obtain ⟨hc, hfn⟩ := hc
    simp at hk
    obtain ⟨⟨r, hk1, hk3⟩, hk2⟩ := hk
    have hl := lays2 w1 r hk3
    go_simp
    rfl
  refine chain_val (u := ?_) [14] rfl (by kernel_rfl) trivial (fun ρ w1 hb hc hk => ?_) ?_; rotate_left
  · obtain ⟨hc, hfn⟩ := hc
    simp at hk
    go_simp
    rfl
  refine chain_val (u := ?_) [9] rfl (by kernel_rfl) trivial (fun ρ w1 hb hc hk => ?_) ?_; rotate_left
  · obtain ⟨hc, hfn⟩ := hc
    simp at hk
    go_simp
    rfl
  refine chain_val (u := ?_) [9] rfl (by kernel_rfl) trivial (fun ρ w1 hb hc hk => ?_) ?_; rotate_left
  · obtain ⟨hc, hfn⟩ := hc
    simp at hk
    go_simp
    rfl
  refine chain_val (u := ?_) [15] rfl (by kernel_rfl) trivial (fun ρ w1 hb hc hk => ?_) ?_; rotate_left
  · obtain ⟨hc, hfn⟩ := hc
    simp at hk
    go_simp
    rfl
  refine chain_val (u := ?_) [16] rfl (by kernel_rfl) trivial (fun ρ w1 hb hc hk => ?_) ?_; rotate_left
  · obtain ⟨hc, hfn⟩ := hc
    simp at hk
    go_simp
    rfl
  refine chain_end_lit 23 rfl (fun ff w1 hb hk => ?_)
  refine hKK _ _ ?_
  clear hKK KK
  simp [AllN] at hk
  simp only [frameL, hk]
  obtain ⟨hc, hf⟩ := bcell hb
  have hz : w.heap.size + 1 < w1.heap.size := by have := hb.size; simp at this; omega
  have HB := Lib.hid hb
  clear hb hk
  simp at hc hf
  go_wp2_with fail
  refine (layout3_enc_true 2 2 o d p el c pa sg lo w1 (by omega) (by omega)).mono ?_
  rintro e w2 ⟨rfl, hb2⟩
  have hz2 : w.heap.size + 1 < w2.heap.size := by have := hb2.size; omega
  obtain ⟨hc2, hf2⟩ := bcell hb2
  have HB2 := Lib.hid hb2
  clear hb2
  go_wp2
  refine bodyPost_ret (v := .tuple #[.agg #[.int .u64 (ins (ins (ins 2 2 1 1) 3 29 (IntKind.u64.wrap pa)) 32 32 (IntKind.u64.wrap sg)), .int .i64 2, .int .i64 o, .int .i64 d, .int .i64 p, .int .i64 el, .int .i64 c, .bool true, .int .i64 pa, .int .u32 sg, .int .u32 lo, .bool true], .bool true]) (by simp [results, Tryd.results59, go_sem, hc2, hc, hz, hz2]) rfl ⟨rfl, ?_⟩
  have b1 : Below w.heap.size w w1 := by
    refine Below.trans ?_ (HB.out.mono (by simp; omega))
    repeat (first | refine bel_drew ?_ | refine Below.setCell ?_ (by simp) _)
    exact ((Below.refl _ _).alloc (Nat.le_refl _) _).alloc (by simp) _
  have b2 : Below w.heap.size w w2 := b1.trans (HB2.out.mono (by omega))
  repeat (refine Below.setCell ?_ (by simp) _)
  exact b2

set_option maxHeartbeats 1000000 in
theorem run_enc2_false (o d p el c pa sg lo : Int) (w : World) :
    Calls Tryd.prog 59 #[.agg #[.int .u64 0, .int .i64 2, .int .i64 o, .int .i64 d, .int .i64 p, .int .i64 el, .int .i64 c, .bool false, .int .i64 pa, .int .u32 sg, .int .u32 lo, .bool true]] w fun e w' => e = .returned (.tuple #[.agg #[.int .u64 (ins (ins 2 3 29 (IntKind.u64.wrap pa)) 32 32 (IntKind.u64.wrap sg)), .int .i64 2, .int .i64 o, .int .i64 d, .int .i64 p, .int .i64 el, .int .i64 c, .bool false, .int .i64 pa, .int .u32 sg, .int .u32 lo, .bool true], .bool true]) ∧ Below w.heap.size w w' := by
  have HI := Lib.hid (i_0_2 2)
  go_enter Tryd.func59, Tryd.ntmps59
  go_wp2_with fail
  refine (unsigned_enc w.heap.size 1 0 2 0 2 _ (by go_simp) (by go_simp) (by go_simp) (by go_simp) (by omega) (by omega) (by omega) (by omega) (by omega)).mono ?_
  rintro e w' ⟨rfl, rfl⟩
  rw [HI.out]
  simp only [show (2 : Int) % 4 = 2 by decide]
  go_wp2_with fail
  rename_i KK hKK
  refine wp_region_chain (by kernel_rfl) (by kernel_rfl) ?_
  refine chain_call (T := IsMap ents 4) 64 [] rfl (by kernel_rfl) trivial (IsMap.stab _ _) (fun ρ w1 hb hc hk => ?_) ?_
  · obtain ⟨hc, hfn⟩ := hc
    refine ⟨_, by go_simp; rfl, ?_⟩
    refine (layouts_any _).mono ?_
    rintro e w' ⟨rfl, rfl⟩
    exact ⟨_, rfl, ⟨_, rfl, by unfold World.alloc; simp⟩, (Below.refl _ _).alloc (Nat.le_refl _) _⟩
  refine chain_val (u := ?_) [1] rfl (by kernel_rfl) trivial (fun ρ w1 hb hc hk => ?_) ?_; rotate_left
  · obtain ⟨hc, hfn⟩ := hc
    simp at hk
    go_simp
    rfl
  refine chain_val (u := ?_) [11] rfl (by kernel_rfl) trivial (fun ρ w1 hb hc hk => ?_) ?_; rotate_left
  · obtain ⟨hc, hfn⟩ := hc
    simp at hk
    go_simp
    rfl
  refine chain_val (u := .int .i64 2) [12] rfl (by kernel_rfl) trivial (fun ρ w1 hb hc hk => ?_) ?_
  · obtain ⟨hc, hfn⟩ := hc
    simp at hk
    have hcell := hb.cell (p := ⟨w.heap.size, 1, none⟩) (by simp; omega)
    simp at hcell
    go_simp
  refine chain_val (u := ?_) [10, 13] rfl (by kernel_rfl) trivial (fun ρ w1 hb hc hk => ?_) ?_; rotate_left
  · obtain ⟨hc, hfn⟩ := hc
    simp at hk
    obtain ⟨⟨r, hk1, hk3⟩, hk2⟩ := hk
    have hl := lays2 w1 r hk3
    go_simp
    rfl
  refine chain_val (u := ?_) [14] rfl (by kernel_rfl) trivial (fun ρ w1 hb hc hk => ?_) ?_; rotate_left
  · obtain ⟨hc, hfn⟩ := hc
    simp at hk
    go_simp
    rfl
  refine chain_val (u := ?_) [9] rfl (by kernel_rfl) trivial (fun ρ w1 hb hc hk => ?_) ?_; rotate_left
  · obtain ⟨hc, hfn⟩ := hc
    simp at hk
    go_simp
    rfl
  refine chain_val (u := ?_) [9] rfl (by kernel_rfl) trivial (fun ρ w1 hb hc hk => ?_) ?_; rotate_left
  · obtain ⟨hc, hfn⟩ := hc
    simp at hk
    go_simp
    rfl
  refine chain_val (u := ?_) [15] rfl (by kernel_rfl) trivial (fun ρ w1 hb hc hk => ?_) ?_; rotate_left
  · obtain ⟨hc, hfn⟩ := hc
    simp at hk
    go_simp
    rfl
  refine chain_val (u := ?_) [16] rfl (by kernel_rfl) trivial (fun ρ w1 hb hc hk => ?_) ?_; rotate_left
  · obtain ⟨hc, hfn⟩ := hc
    simp at hk
    go_simp
    rfl
  refine chain_end_lit 23 rfl (fun ff w1 hb hk => ?_)
  refine hKK _ _ ?_
  clear hKK KK
  simp [AllN] at hk
  simp only [frameL, hk]
  obtain ⟨hc, hf⟩ := bcell hb
  have hz : w.heap.size + 1 < w1.heap.size := by have := hb.size; simp at this; omega
  have HB := Lib.hid hb
  clear hb hk
  simp at hc hf
  go_wp2_with fail
  refine (layout3_enc_false 2 2 o d p el c pa sg lo w1 (by omega) (by omega)).mono ?_
  rintro e w2 ⟨rfl, hb2⟩
  have hz2 : w.heap.size + 1 < w2.heap.size := by have := hb2.size; omega
  obtain ⟨hc2, hf2⟩ := bcell hb2
  have HB2 := Lib.hid hb2
  clear hb2
  go_wp2
  refine bodyPost_ret (v := .tuple #[.agg #[.int .u64 (ins (ins 2 3 29 (IntKind.u64.wrap pa)) 32 32 (IntKind.u64.wrap sg)), .int .i64 2, .int .i64 o, .int .i64 d, .int .i64 p, .int .i64 el, .int .i64 c, .bool false, .int .i64 pa, .int .u32 sg, .int .u32 lo, .bool true], .bool true]) (by simp [results, Tryd.results59, go_sem, hc2, hc, hz, hz2]) rfl ⟨rfl, ?_⟩
  have b1 : Below w.heap.size w w1 := by
    refine Below.trans ?_ (HB.out.mono (by simp; omega))
    repeat (first | refine bel_drew ?_ | refine Below.setCell ?_ (by simp) _)
    exact ((Below.refl _ _).alloc (Nat.le_refl _) _).alloc (by simp) _
  have b2 : Below w.heap.size w w2 := b1.trans (HB2.out.mono (by omega))
  repeat (refine Below.setCell ?_ (by simp) _)
  exact b2

set_option maxHeartbeats 1000000 in
theorem run_enc3 (o d p el c pa sg lo : Int) (db : Bool) (w : World) :
    Calls Tryd.prog 59 #[.agg #[.int .u64 0, .int .i64 3, .int .i64 o, .int .i64 d, .int .i64 p, .int .i64 el, .int .i64 c, .bool db, .int .i64 pa, .int .u32 sg, .int .u32 lo, .bool true]] w fun e w' => e = .returned (.tuple #[.agg #[.int .u64 (ins (ins 3 2 30 (IntKind.u64.wrap lo)) 32 32 (IntKind.u64.wrap sg)), .int .i64 3, .int .i64 o, .int .i64 d, .int .i64 p, .int .i64 el, .int .i64 c, .bool db, .int .i64 pa, .int .u32 sg, .int .u32 lo, .bool true], .bool true]) ∧ Below w.heap.size w w' := by
  have HI := Lib.hid (i_0_2 3)
  go_enter Tryd.func59, Tryd.ntmps59
  go_wp2_with fail
  refine (unsigned_enc w.heap.size 1 0 3 0 2 _ (by go_simp) (by go_simp) (by go_simp) (by go_simp) (by omega) (by omega) (by omega) (by omega) (by omega)).mono ?_
  rintro e w' ⟨rfl, rfl⟩
  rw [HI.out]
  simp only [show (3 : Int) % 4 = 3 by decide]
  go_wp2_with fail
  rename_i KK hKK
  refine wp_region_chain (by kernel_rfl) (by kernel_rfl) ?_
  refine chain_call (T := IsMap ents 4) 64 [] rfl (by kernel_rfl) trivial (IsMap.stab _ _) (fun ρ w1 hb hc hk => ?_) ?_
  · obtain ⟨hc, hfn⟩ := hc
    refine ⟨_, by go_simp; rfl, ?_⟩
    refine (layouts_any _).mono ?_
    rintro e w' ⟨rfl, rfl⟩
    exact ⟨_, rfl, ⟨_, rfl, by unfold World.alloc; simp⟩, (Below.refl _ _).alloc (Nat.le_refl _) _⟩
  refine chain_val (u := ?_) [1] rfl (by kernel_rfl) trivial (fun ρ w1 hb hc hk => ?_) ?_; rotate_left
  · obtain ⟨hc, hfn⟩ := hc
    simp at hk
    go_simp
    rfl
  refine chain_val (u := ?_) [11] rfl (by kernel_rfl) trivial (fun ρ w1 hb hc hk => ?_) ?_; rotate_left
  · obtain ⟨hc, hfn⟩ := hc
    simp at hk
    go_simp
    rfl
  refine chain_val (u := .int .i64 3) [12] rfl (by kernel_rfl) trivial (fun ρ w1 hb hc hk => ?_) ?_
  · obtain ⟨hc, hfn⟩ := hc
    simp at hk
    have hcell := hb.cell (p := ⟨w.heap.size, 1, none⟩) (by simp; omega)
    simp at hcell
    go_simp
  refine chain_val (u := ?_) [10, 13] rfl (by kernel_rfl) trivial (fun ρ w1 hb hc hk => ?_) ?_; rotate_left
  · obtain ⟨hc, hfn⟩ := hc
    simp at hk
    obtain ⟨⟨r, hk1, hk3⟩, hk2⟩ := hk
    have hl := lays3 w1 r hk3
    go_simp
    rfl
  refine chain_val (u := ?_) [14] rfl (by kernel_rfl) trivial (fun ρ w1 hb hc hk => ?_) ?_; rotate_left
  · obtain ⟨hc, hfn⟩ := hc
    simp at hk
    go_simp
    rfl
  refine chain_val (u := ?_) [9] rfl (by kernel_rfl) trivial (fun ρ w1 hb hc hk => ?_) ?_; rotate_left
  · obtain ⟨hc, hfn⟩ := hc
    simp at hk
    go_simp
    rfl
  refine chain_val (u := ?_) [9] rfl (by kernel_rfl) trivial (fun ρ w1 hb hc hk => ?_) ?_; rotate_left
  · obtain ⟨hc, hfn⟩ := hc
    simp at hk
    go_simp
    rfl
  refine chain_val (u := ?_) [15] rfl (by kernel_rfl) trivial (fun ρ w1 hb hc hk => ?_) ?_; rotate_left
  · obtain ⟨hc, hfn⟩ := hc
    simp at hk
    go_simp
    rfl
  refine chain_val (u := ?_) [16] rfl (by kernel_rfl) trivial (fun ρ w1 hb hc hk => ?_) ?_; rotate_left
  · obtain ⟨hc, hfn⟩ := hc
    simp at hk
    go_simp
    rfl
  refine chain_end_lit 23 rfl (fun ff w1 hb hk => ?_)
  refine hKK _ _ ?_
  clear hKK KK
  simp [AllN] at hk
  simp only [frameL, hk]
  obtain ⟨hc, hf⟩ := bcell hb
  have hz : w.heap.size + 1 < w1.heap.size := by have := hb.size; simp at this; omega
  have HB := Lib.hid hb
  clear hb hk
  simp at hc hf
  go_wp2_with fail
  refine (layout4_enc 3 3 o d p el c pa sg lo w1 (by omega) (by omega) db).mono ?_
  rintro e w2 ⟨rfl, hb2⟩
  have hz2 : w.heap.size + 1 < w2.heap.size := by have := hb2.size; omega
  obtain ⟨hc2, hf2⟩ := bcell hb2
  have HB2 := Lib.hid hb2
  clear hb2
  go_wp2
  refine bodyPost_ret (v := .tuple #[.agg #[.int .u64 (ins (ins 3 2 30 (IntKind.u64.wrap lo)) 32 32 (IntKind.u64.wrap sg)), .int .i64 3, .int .i64 o, .int .i64 d, .int .i64 p, .int .i64 el, .int .i64 c, .bool db, .int .i64 pa, .int .u32 sg, .int .u32 lo, .bool true], .bool true]) (by simp [results, Tryd.results59, go_sem, hc2, hc, hz, hz2]) rfl ⟨rfl, ?_⟩
  have b1 : Below w.heap.size w w1 := by
    refine Below.trans ?_ (HB.out.mono (by simp; omega))
    repeat (first | refine bel_drew ?_ | refine Below.setCell ?_ (by simp) _)
    exact ((Below.refl _ _).alloc (Nat.le_refl _) _).alloc (by simp) _
  have b2 : Below w.heap.size w w2 := b1.trans (HB2.out.mono (by omega))
  repeat (refine Below.setCell ?_ (by simp) _)
  exact b2

set_option maxHeartbeats 1000000 in
theorem run_encN (k o d p el c pa sg lo : Int) (db : Bool) (w : World) (hk : k < 0 ∨ 3 < k) :
    Calls Tryd.prog 59 #[.agg #[.int .u64 0, .int .i64 k, .int .i64 o, .int .i64 d, .int .i64 p, .int .i64 el, .int .i64 c, .bool db, .int .i64 pa, .int .u32 sg, .int .u32 lo, .bool true]] w fun e w' => e = .returned (.tuple #[.agg #[.int .u64 (k % 4), .int .i64 k, .int .i64 o, .int .i64 d, .int .i64 p, .int .i64 el, .int .i64 c, .bool db, .int .i64 pa, .int .u32 sg, .int .u32 lo, .bool true], .bool false]) ∧ Below w.heap.size w w' := by
  have HI := Lib.hid (i_0_2 k)
  have m4 : 0 ≤ k % 4 ∧ k % 4 < 4 := by omega
  have HL := Lib.hid (laysN k hk)
  clear hk
  go_enter Tryd.func59, Tryd.ntmps59
  go_wp2_with fail
  refine (unsigned_enc w.heap.size 1 0 k 0 2 _ (by go_simp) (by go_simp) (by go_simp) (by go_simp) (by omega) (by omega) (by omega) (by omega) (by omega)).mono ?_
  rintro e w' ⟨rfl, rfl⟩
  rw [HI.out]
  go_wp2_with fail
  rename_i KK hKK
  refine wp_region_chain (by kernel_rfl) (by kernel_rfl) ?_
  refine chain_call (T := IsMap ents 4) 64 [] rfl (by kernel_rfl) trivial (IsMap.stab _ _) (fun ρ w1 hb hc hk => ?_) ?_
  · obtain ⟨hc, hfn⟩ := hc
    refine ⟨_, by go_simp; rfl, ?_⟩
    refine (layouts_any _).mono ?_
    rintro e w' ⟨rfl, rfl⟩
    exact ⟨_, rfl, ⟨_, rfl, by unfold World.alloc; simp⟩, (Below.refl _ _).alloc (Nat.le_refl _) _⟩
  refine chain_val (u := ?_) [1] rfl (by kernel_rfl) trivial (fun ρ w1 hb hc hk => ?_) ?_; rotate_left
  · obtain ⟨hc, hfn⟩ := hc
    simp at hk
    go_simp
    rfl
  refine chain_val (u := ?_) [11] rfl (by kernel_rfl) trivial (fun ρ w1 hb hc hk => ?_) ?_; rotate_left
  · obtain ⟨hc, hfn⟩ := hc
    simp at hk
    go_simp
    rfl
  refine chain_val (u := .int .i64 k) [12] rfl (by kernel_rfl) trivial (fun ρ w1 hb hc hk => ?_) ?_
  · obtain ⟨hc, hfn⟩ := hc
    simp at hk
    have hcell := hb.cell (p := ⟨w.heap.size, 1, none⟩) (by simp; omega)
    simp at hcell
    go_simp
  refine chain_val (u := ?_) [10, 13] rfl (by kernel_rfl) trivial (fun ρ w1 hb hc hk => ?_) ?_; rotate_left
  · obtain ⟨hc, hfn⟩ := hc
    simp at hk
    obtain ⟨⟨r, hk1, hk3⟩, hk2⟩ := hk
    have hl := HL.out w1 r hk3
    go_simp
    rfl
  refine chain_val (u := ?_) [14] rfl (by kernel_rfl) trivial (fun ρ w1 hb hc hk => ?_) ?_; rotate_left
  · obtain ⟨hc, hfn⟩ := hc
    simp at hk
    go_simp
    rfl
  refine chain_val (u := ?_) [9] rfl (by kernel_rfl) trivial (fun ρ w1 hb hc hk => ?_) ?_; rotate_left
  · obtain ⟨hc, hfn⟩ := hc
    simp at hk
    go_simp
    rfl
  refine chain_val (u := ?_) [9] rfl (by kernel_rfl) trivial (fun ρ w1 hb hc hk => ?_) ?_; rotate_left
  · obtain ⟨hc, hfn⟩ := hc
    simp at hk
    go_simp
    rfl
  refine chain_val (u := ?_) [15] rfl (by kernel_rfl) trivial (fun ρ w1 hb hc hk => ?_) ?_; rotate_left
  · obtain ⟨hc, hfn⟩ := hc
    simp at hk
    go_simp
    rfl
  refine chain_val (u := ?_) [16] rfl (by kernel_rfl) trivial (fun ρ w1 hb hc hk => ?_) ?_; rotate_left
  · obtain ⟨hc, hfn⟩ := hc
    simp at hk
    go_simp
    rfl
  refine chain_end_lit 23 rfl (fun ff w1 hb hk => ?_)
  refine hKK _ _ ?_
  clear hKK KK
  simp [AllN] at hk
  simp only [frameL, hk]
  obtain ⟨hc, hf⟩ := bcell hb
  have hz : w.heap.size + 1 < w1.heap.size := by have := hb.size; simp at this; omega
  have HB := Lib.hid hb
  clear hb hk
  simp at hc hf
  go_wp2
  refine bodyPost_ret (v := .tuple #[.agg #[.int .u64 (k % 4), .int .i64 k, .int .i64 o, .int .i64 d, .int .i64 p, .int .i64 el, .int .i64 c, .bool db, .int .i64 pa, .int .u32 sg, .int .u32 lo, .bool true], .bool false]) (by simp [results, Tryd.results59, go_sem, hc, hz]) rfl ⟨rfl, ?_⟩
  have b1 : Below w.heap.size w w1 := by
    refine Below.trans ?_ (HB.out.mono (by simp; omega))
    repeat (first | refine bel_drew ?_ | refine Below.setCell ?_ (by simp) _)
    exact ((Below.refl _ _).alloc (Nat.le_refl _) _).alloc (by simp) _
  repeat (refine Below.setCell ?_ (by simp) _)
  exact b1

theorem run_dec (x : Int) (w : World) (h5 : 0 ≤ x) (h6 : x < 18446744073709551616) :
    Calls Tryd.prog 59 #[.agg #[.int .u64 x, .int .i64 0, .int .i64 0, .int .i64 0, .int .i64 0, .int .i64 0, .int .i64 0, .bool false, .int .i64 0, .int .u32 0, .int .u32 0, .bool false]] w fun e w' => e = .returned (.tuple #[.agg #[.int .u64 x, .int .i64 (decP x).k, .int .i64 (decP x).o, .int .i64 (decP x).d, .int .i64 (decP x).p, .int .i64 (decP x).el, .int .i64 (decP x).c, .bool (decP x).db, .int .i64 (decP x).pa, .int .u32 (decP x).sg, .int .u32 (decP x).lo, .bool false], .bool true]) ∧ Below w.heap.size w w' := by
  have c4 : x % 4 = 0 ∨ x % 4 = 1 ∨ x % 4 = 2 ∨ x % 4 = 3 := by omega
  rcases c4 with c | c | c | c
  · refine (run_dec0 x w h5 h6 c).mono fun e w' ⟨he, hb⟩ => ⟨he.trans ?_, hb⟩
    rw [s_2_30 x h5, f_32_16 x h5, f_48_16 x h5]
    simp [decP, c]
  · refine (run_dec1 x w h5 h6 c).mono fun e w' ⟨he, hb⟩ => ⟨he.trans ?_, hb⟩
    rw [s_2_30 x h5, f_32_3 x h5, f_35_29 x h5]
    simp [decP, c]
  · refine (run_dec2 x w h5 h6 c).mono fun e w' ⟨he, hb⟩ => ⟨he.trans ?_, hb⟩
    rw [f_2_1 x h5, f_3_29 x h5, f_32_32 x h5]
    simp [decP, c]
  · refine (run_dec3 x w h5 h6 c).mono fun e w' ⟨he, hb⟩ => ⟨he.trans ?_, hb⟩
    rw [f_2_30 x h5, f_32_32 x h5]
    simp [decP, c]

theorem run_enc (k o d p el c pa sg lo : Int) (db : Bool) (w : World) (h0 : 0 ≤ k) (h3 : k ≤ 3) :
    Calls Tryd.prog 59 #[.agg #[.int .u64 0, .int .i64 k, .int .i64 o, .int .i64 d, .int .i64 p, .int .i64 el, .int .i64 c, .bool db, .int .i64 pa, .int .u32 sg, .int .u32 lo, .bool true]] w fun e w' => e = .returned (.tuple #[.agg #[.int .u64 (encW ⟨k, o, d, p, el, c, db, pa, sg, lo⟩), .int .i64 k, .int .i64 o, .int .i64 d, .int .i64 p, .int .i64 el, .int .i64 c, .bool db, .int .i64 pa, .int .u32 sg, .int .u32 lo, .bool true], .bool true]) ∧ Below w.heap.size w w' := by
  have c4 : k = 0 ∨ k = 1 ∨ k = 2 ∨ k = 3 := by omega
  rcases c4 with rfl | rfl | rfl | rfl
  · refine (run_enc0 o d p el c pa sg lo db w).mono fun e w' ⟨he, hb⟩ => ⟨he.trans ?_, hb⟩
    rw [i_2_30 _ _ (by omega) (by omega), i_32_16 _ _ (by omega) (by omega), i_48_16 _ _ (by omega) (by omega)]
    simp [encW]
  · refine (run_enc1 o d p el c pa sg lo db w).mono fun e w' ⟨he, hb⟩ => ⟨he.trans ?_, hb⟩
    rw [i_2_30 _ _ (by omega) (by omega), i_32_3 _ _ (by omega) (by omega), i_35_29 _ _ (by omega) (by omega)]
    simp [encW]
  · cases db
    · refine (run_enc2_false o d p el c pa sg lo w).mono fun e w' ⟨he, hb⟩ => ⟨he.trans ?_, hb⟩
      rw [i_3_29 _ _ (by omega) (by omega), i_32_32 _ _ (by omega) (by omega)]
      simp [encW]
    · refine (run_enc2_true o d p el c pa sg lo w).mono fun e w' ⟨he, hb⟩ => ⟨he.trans ?_, hb⟩
      rw [i_2_1 _ (by omega) (by omega), i_3_29 _ _ (by omega) (by omega), i_32_32 _ _ (by omega) (by omega)]
      simp [encW]
  · refine (run_enc3 o d p el c pa sg lo db w).mono fun e w' ⟨he, hb⟩ => ⟨he.trans ?_, hb⟩
    rw [i_2_30 _ _ (by omega) (by omega), i_32_32 _ _ (by omega) (by omega)]
    simp [encW]
end Go.Proofs.YtfigoblpkbpenaaDoor
