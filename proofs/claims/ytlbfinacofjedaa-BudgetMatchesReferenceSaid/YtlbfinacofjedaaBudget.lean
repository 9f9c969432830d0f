/- What the functions of package budget do, each by a contract (by the code at fb21aa3). -/
import Derived.Test.YtlbfinacofjedaaRef09
import Derived.Test.YtlbfinacofjedaaBlk
import Derived.Test.YtlbfinacofjedaaRegion
namespace Go.Proofs.Ytlbfinacofjedaa
open Go.ChangeShapes Go.WideShapes Go.ChangeAt Go.RowKit
set_option linter.unusedVariables false
set_option linter.unusedSimpArgs false
attribute [local simp] AllK KnowsV look Is

theorem BStart_any (d x o : Int) (w : World) : Calls Try.prog 12 #[.agg #[.int .i64 d, .int .i64 x, .int .i64 o]] w fun e w' => e = .returned (.agg #[.int .i64 (startI x)]) ∧ Below w.heap.size w w' := by
  by_cases h : x < 0
  · have HS : Hid (startI x = 0) := Lib.hid (by simp [startI, h])
    go_enter Try.func12, Try.ntmps12
    go_wp2
    all_goals first
      | (exfalso; omega)
      | (refine bodyPost_ret (v := .agg #[.int .i64 0]) (by simp [results, Try.results12, go_sem]) rfl ⟨by rw [HS.out], ?_⟩
         exact ((Below.refl _ _).alloc (Nat.le_refl _) _).alloc (by simp) _)
  · have HS : Hid (startI x = x) := Lib.hid (by simp [startI, h])
    go_enter Try.func12, Try.ntmps12
    go_wp2
    all_goals first
      | (exfalso; omega)
      | (have h0 : x = 0 := by omega
         subst h0
         refine bodyPost_ret (v := .agg #[.int .i64 0]) (by simp [results, Try.results12, go_sem]) rfl ⟨by rw [HS.out], ?_⟩
         exact ((Below.refl _ _).alloc (Nat.le_refl _) _).alloc (by simp) _)
      | (refine bodyPost_ret (v := .agg #[.int .i64 x]) (by simp [results, Try.results12, go_sem]) rfl ⟨by rw [HS.out], ?_⟩
         exact ((Below.refl _ _).alloc (Nat.le_refl _) _).alloc (by simp) _)

theorem BEnter_any (dep x o d : Int) (w : World) : Calls Try.prog 10 #[.agg #[.int .i64 dep, .int .i64 x, .int .i64 o], .int .i64 d] w fun e w' => e = .returned (.int .i64 (enterI dep d)) ∧ Below w.heap.size w w' := by
  by_cases h : d ≤ dep
  · have HS : Hid (enterI dep d = 0) := Lib.hid (by simp [enterI, h])
    go_enter Try.func10, Try.ntmps10
    go_wp2
    go_ret
    exact ⟨by rw [HS.out]; rfl, (Below.refl _ _).alloc (Nat.le_refl _) _⟩
  · have HS : Hid (enterI dep d = 7) := Lib.hid (by simp [enterI, h])
    go_enter Try.func10, Try.ntmps10
    go_wp2
    go_ret
    exact ⟨by rw [HS.out]; rfl, (Below.refl _ _).alloc (Nat.le_refl _) _⟩

theorem BTake_no (b : Nat) (m c : Int) (w : World) (hb : Blk w b #[.int .i64 m]) (h : m < c) :
    Calls Try.prog 15 #[.pointer (some ⟨b, 0, none⟩), .int .i64 c] w fun e w' => e = .returned (.bool false) ∧ w = w' := by
  have hc := hb.cell
  have hf := hb.free
  go_enter Try.func15, Try.ntmps15
  go_wp2
  go_ret
  exact ⟨rfl, rfl⟩

theorem BTake_yes (b : Nat) (m c : Int) (w : World) (hb : Blk w b #[.int .i64 m]) (h : ¬ m < c) (hm1 : m ≤ 9223372036854775807) (hc0 : 0 ≤ c) (hm0 : -9223372036854775808 ≤ m) :
    Calls Try.prog 15 #[.pointer (some ⟨b, 0, none⟩), .int .i64 c] w fun e w' => e = .returned (.bool true) ∧ w' = w.setCell ⟨b, 0, none⟩ (.int .i64 (m - c)) := by
  have hc := hb.cell
  have hf := hb.free
  go_enter Try.func15, Try.ntmps15
  go_wp2
  go_ret
  exact ⟨rfl, rfl⟩

theorem BCharge_any (m c : Int) (w : World) (hm0 : -9223372036854775808 ≤ m) (hm1 : m ≤ 9223372036854775807) (hc : 0 ≤ c) :
    Calls Try.prog 8 #[.agg #[.int .i64 m], .int .i64 c] w fun e w' => e = .returned (.tuple #[.agg #[.int .i64 (chargeI m c)], .int .i64 (chargeE m c)]) ∧ Below w.heap.size w w' := by
  by_cases h : m < c
  · have HS : Hid (chargeI m c = m) := Lib.hid (by simp [chargeI, h])
    have HE : Hid (chargeE m c = 8) := Lib.hid (by simp [chargeE, h])
    go_enter Try.func8, Try.ntmps8
    go_wp2_with fail
    refine (BTake_no _ m c _ (Blk.new (by simp)) h).mono ?_
    rintro e w' ⟨rfl, rfl⟩
    go_wp2
    refine bodyPost_ret (v := .tuple #[.agg #[.int .i64 m], .int .i64 8]) (by simp [results, Try.results8, go_sem]) rfl ⟨by rw [HS.out, HE.out], ?_⟩
    exact (((Below.refl _ _).alloc (Nat.le_refl _) _).alloc (by simp) _).alloc (by simp; omega) _
  · have HS : Hid (chargeI m c = m - c) := Lib.hid (by simp [chargeI, h])
    have HE : Hid (chargeE m c = 0) := Lib.hid (by simp [chargeE, h])
    go_enter Try.func8, Try.ntmps8
    go_wp2_with fail
    refine (BTake_yes _ m c _ (Blk.new (by simp)) (by omega) hm1 hc hm0).mono ?_
    rintro e w' ⟨rfl, rfl⟩
    go_wp2
    refine bodyPost_ret (v := .tuple #[.agg #[.int .i64 (m - c)], .int .i64 0]) (by simp [results, Try.results8, go_sem]) rfl ⟨by rw [HS.out, HE.out], ?_⟩
    exact (((Below.refl _ _).alloc (Nat.le_refl _) _).alloc (by simp) _).alloc (by simp; omega) _

theorem BUsed_any (d x o m : Int) (w : World) (hm0 : 0 ≤ m) (hm1 : m ≤ 9223372036854775807) (hx : -9223372036854775808 ≤ x) (hx2 : x ≤ 9223372036854775807) :
    Calls Try.prog 14 #[.agg #[.int .i64 d, .int .i64 x, .int .i64 o], .agg #[.int .i64 m]] w fun e w' => e = .returned (.int .i64 (startI x - m)) ∧ Below w.heap.size w w' := by
  have hs0 : 0 ≤ startI x := by unfold startI; split <;> omega
  have hs1 : startI x ≤ 9223372036854775807 := by unfold startI; split <;> omega
  go_enter Try.func14, Try.ntmps14
  go_wp2_with fail
  have z0 := blk_alloc (blk_new w #[.int .i64 d, .int .i64 x, .int .i64 o] 23) (by simp) (.cells #[.int .i64 m] 25)
  have z1 := blk_new (w.alloc (.cells #[.int .i64 d, .int .i64 x, .int .i64 o] 23)) #[.int .i64 m] 25
  have B1 : Below w.heap.size w ((w.alloc (.cells #[.int .i64 d, .int .i64 x, .int .i64 o] 23)).alloc (.cells #[.int .i64 m] 25)) := ((Below.refl _ _).alloc (Nat.le_refl _) _).alloc (by simp) _
  have HB1 := Lib.hid B1
  clear B1
  rename_i KK hKK
  refine wp_region_chain (by kernel_rfl) (by kernel_rfl) ?_
  refine chain_val (u := ?_) [2] rfl (by kernel_rfl) trivial (fun ρ wc hbc hcn hk => ?_) ?_; rotate_left
  · obtain ⟨hcn, -⟩ := hcn
    simp at hk
    obtain ⟨hcc, -⟩ := bcell hbc
    simp at hcc
    go_simp
    rfl
  refine chain_call (T := Is ?_) 12 [5] rfl (by kernel_rfl) trivial (stable_is _) (fun ρ wc hbc hcn hk => ?_) ?_; rotate_left
  · obtain ⟨hcn, hfn⟩ := hcn
    simp at hk
    refine ⟨_, by go_simp; rfl, ?_⟩
    refine (BStart_any _ _ _ _).mono ?_
    rintro e w' ⟨rfl, hbq⟩
    refine ⟨_, rfl, ?_, hbq⟩
    unfold Is
    rfl
  refine chain_val (u := ?_) [6] rfl (by kernel_rfl) trivial (fun ρ wc hbc hcn hk => ?_) ?_; rotate_left
  · obtain ⟨hcn, -⟩ := hcn
    simp at hk
    go_simp
    rfl
  refine chain_val (u := ?_) [3] rfl (by kernel_rfl) trivial (fun ρ wc hbc hcn hk => ?_) ?_; rotate_left
  · obtain ⟨hcn, -⟩ := hcn
    simp at hk
    go_simp
    rfl
  refine chain_val (u := ?_) [8] rfl (by kernel_rfl) trivial (fun ρ wc hbc hcn hk => ?_) ?_; rotate_left
  · obtain ⟨hcn, -⟩ := hcn
    simp at hk
    obtain ⟨hcc, -⟩ := bcell hbc
    simp at hcc
    go_simp
    rfl
  refine chain_val (u := ?_) [7, 9] rfl (by kernel_rfl) trivial (fun ρ wc hbc hcn hk => ?_) ?_; rotate_left
  · obtain ⟨hcn, -⟩ := hcn
    simp at hk
    go_simp
    rfl
  refine chain_val (u := ?_) [10] rfl (by kernel_rfl) trivial (fun ρ wc hbc hcn hk => ?_) ?_; rotate_left
  · obtain ⟨hcn, -⟩ := hcn
    simp at hk
    go_simp
    rfl
  refine chain_end_lit 11 rfl (fun ff w5 hb5 hk => ?_)
  refine hKK _ _ ?_
  clear hKK KK
  simp [AllN] at hk
  simp only [frameL, hk]
  have HB5 := Lib.hid hb5
  clear hb5 hk
  go_wp2
  go_ret
  have hw : IntKind.i64.wrap (startI x - m) = startI x - m := by rw [IntKind.wrap_i64]; omega
  exact ⟨by simp [hw], (bel_drew HB1.out).trans (HB5.out.mono (bel_drew HB1.out).size)⟩
end Go.Proofs.Ytlbfinacofjedaa
