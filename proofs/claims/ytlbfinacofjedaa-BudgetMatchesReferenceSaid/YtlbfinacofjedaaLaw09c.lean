/- The law of layer 9 that all functions return what the reference returns. -/
import Derived.Test.YtlbfinacofjedaaLaw09
import Derived.Test.YtlbfinacofjedaaRegion
namespace Go.Proofs.Ytlbfinacofjedaa
open Go.ChangeShapes Go.WideShapes Go.ChangeAt Go.RowKit
set_option linter.unusedVariables false
set_option linter.unusedSimpArgs false
attribute [local simp] AllK KnowsV look Is
attribute [local irreducible] chargeI chargeE startI enterI

theorem blk_drw {w : World} {b : Nat} {cs : Array Value} (h : ∀ o, w.cell? ⟨b, o, none⟩ = cs[o]?) : ∀ o, w.drew.cell? ⟨b, o, none⟩ = cs[o]? := h
theorem RefCharge_is (m c r k : Int) (w : World) (hr : chargeI m c = r ∧ chargeE m c = k) (hm0 : -9223372036854775808 ≤ m) (hm1 : m ≤ 9223372036854775807) (hc : 0 ≤ c) :
    Calls Try.prog 9 #[.agg #[.int .i64 m], .int .i64 c] w fun e w' => e = .returned (.tuple #[.agg #[.int .i64 r], .int .i64 k]) ∧ Below w.heap.size w w' := by
  obtain ⟨rfl, rfl⟩ := hr
  exact RefCharge_any m c w hm0 hm1 hc
theorem Charge_is' (m c r k : Int) (w : World) (hr : chargeI m c = r ∧ chargeE m c = k) (hm0 : -9223372036854775808 ≤ m) (hm1 : m ≤ 9223372036854775807) (hc : 0 ≤ c) :
    Calls Try.prog 8 #[.agg #[.int .i64 m], .int .i64 c] w fun e w' => e = .returned (.tuple #[.agg #[.int .i64 r], .int .i64 k]) ∧ Below w.heap.size w w' := by
  obtain ⟨rfl, rfl⟩ := hr
  exact BCharge_any m c w hm0 hm1 hc
theorem Enter_is (dep x o d r : Int) (w : World) (hr : enterI dep d = r) : Calls Try.prog 10 #[.agg #[.int .i64 dep, .int .i64 x, .int .i64 o], .int .i64 d] w fun e w' => e = .returned (.int .i64 r) ∧ Below w.heap.size w w' := by
  subst hr
  exact BEnter_any dep x o d w
theorem RefEnter_is (dep x o d r : Int) (w : World) (hr : enterI dep d = r) : Calls Try.prog 11 #[.agg #[.int .i64 dep, .int .i64 x, .int .i64 o], .int .i64 d] w fun e w' => e = .returned (.int .i64 r) ∧ Below w.heap.size w w' := by
  subst hr
  exact RefEnter_any dep x o d w
theorem RefStart_is (d x o r : Int) (w : World) (hr : startI x = r) : Calls Try.prog 13 #[.agg #[.int .i64 d, .int .i64 x, .int .i64 o]] w fun e w' => e = .returned (.agg #[.int .i64 r]) ∧ Below w.heap.size w w' := by
  subst hr
  exact RefStart_any d x o w


set_option maxHeartbeats 4000000 in
set_option maxRecDepth 100000 in
theorem MR9_1 (w : World) (dep lw o m d c x k k2 p : Int) (l0 : -9223372036854775808 ≤ lw) (l1 : lw ≤ 9223372036854775807) (m0 : -9223372036854775808 ≤ m) (m1 : m ≤ 9223372036854775807) (c0 : 0 ≤ c) (c1 : c < 4294967296)
    (d0 : -9223372036854775808 ≤ d) (d1 : d ≤ 9223372036854775807) (p0 : 0 ≤ p) (p1 : p ≤ 9223372036854775807) (HS : Hid (startI lw = p)) (HE : Hid (enterI dep d = k2)) (H1 : Hid (chargeI m c = x ∧ chargeE m c = k)) (hm : m < 0) :
    Calls Try.prog 3 #[.agg #[.int .i64 dep, .int .i64 lw, .int .i64 o], .agg #[.int .i64 m], .int .i64 d, .int .u32 c] w fun e w' => e = .returned (.bool true) ∧ Below w.heap.size w w' := by
  have t1 : decide (m < 0) = true := decide_eq_true hm
  go_enter Try.func3, Try.ntmps3
  go_wp2_with fail
  refine (awake_any _).mono ?_
  rintro e w1 ⟨rfl, hb1⟩
  have hz1 := hb1.size
  try simp at hz1
  have xl1 := blk_below (blk_alloc (blk_new w #[.int .i64 dep, .int .i64 lw, .int .i64 o] 23) (by first | omega | (simp; done) | (simp; omega)) _) hb1 (by first | omega | (simp; done) | (simp; omega))
  have xm1 := blk_below (blk_new (w.alloc (.cells #[.int .i64 dep, .int .i64 lw, .int .i64 o] 23)) #[.int .i64 m] 25) hb1 (by first | omega | (simp; done) | (simp; omega))
  rw [show (w.alloc (.cells #[.int .i64 dep, .int .i64 lw, .int .i64 o] 23)).heap.size = w.heap.size + 1 from by simp] at xm1
  have B1 : Below w.heap.size w w1 := (((Below.refl w.heap.size w).alloc (by first | omega | (simp; done) | (simp; omega)) _).alloc (by first | omega | (simp; done) | (simp; omega)) _).trans (hb1.mono (by first | omega | (simp; done) | (simp; omega)))
  clear hb1 
  go_wp2_with fail
  refine (Charge_is' m c x k _ H1.out (by omega) (by omega) (by omega)).mono ?_
  rintro e w2 ⟨rfl, hb2⟩
  have hz2 := hb2.size
  try simp at hz2
  have xl2 := blk_below xl1 hb2 (by first | omega | (simp; done) | (simp; omega))
  have xm2 := blk_below xm1 hb2 (by first | omega | (simp; done) | (simp; omega))
  have B2 : Below w.heap.size w w2 := B1.trans (hb2.mono (by first | omega | (simp; done) | (simp; omega)))
  clear hb2 xl1 xm1
  have yl3 := (blk_alloc xl2 (by first | omega | (simp; done) | (simp; omega)) (.cells #[.int .i64 x] 25))
  have ym3 := (blk_alloc xm2 (by first | omega | (simp; done) | (simp; omega)) (.cells #[.int .i64 x] 25))
  go_wp2_with fail
  refine (RefCharge_is m c x k _ H1.out (by omega) (by omega) (by omega)).mono ?_
  rintro e w3 ⟨rfl, hb3⟩
  have hz3 := hb3.size
  try simp at hz3
  have xl3 := blk_below (blk_alloc xl2 (by first | omega | (simp; done) | (simp; omega)) _) hb3 (by first | omega | (simp; done) | (simp; omega))
  have xm3 := blk_below (blk_alloc xm2 (by first | omega | (simp; done) | (simp; omega)) _) hb3 (by first | omega | (simp; done) | (simp; omega))
  have xx3 := blk_below (blk_new w2 #[.int .i64 x] 25) hb3 (by first | omega | (simp; done) | (simp; omega))
  have B3 : Below w.heap.size w w3 := (B2.alloc (by first | omega | (simp; done) | (simp; omega)) _).trans (hb3.mono (by first | omega | (simp; done) | (simp; omega)))
  clear hb3 xl2 xm2 yl3 ym3
  have zl := (blk_alloc xl3 (by first | omega | (simp; done) | (simp; omega)) (.cells #[.int .i64 x] 25))
  have zm := (blk_alloc xm3 (by first | omega | (simp; done) | (simp; omega)) (.cells #[.int .i64 x] 25))
  have zx := (blk_alloc xx3 (by first | omega | (simp; done) | (simp; omega)) (.cells #[.int .i64 x] 25))
  have zy := blk_new w3 #[.int .i64 x] 25
  have B4 := (B3.alloc (by first | omega | (simp; done) | (simp; omega)) (.cells #[.int .i64 x] 25))
  have HB4 := Lib.hid B4
  clear B4 B3 xl3 xm3 xx3
  go_wp2_with fail
  rename_i KK hKK
  refine wp_region_chain (by kernel_rfl) (by kernel_rfl) ?_
  refine chain_val (u := ?_) [9] rfl (by kernel_rfl) trivial (fun ρ wc hbc hcn hk => ?_) ?_; rotate_left
  · obtain ⟨hcn, -⟩ := hcn
    simp at hk
    have hxx := blk_below (blk_drw zx) hbc (by first | omega | (simp; done) | (simp; omega))
    go_simp
    rfl
  refine chain_val (u := ?_) [11] rfl (by kernel_rfl) trivial (fun ρ wc hbc hcn hk => ?_) ?_; rotate_left
  · obtain ⟨hcn, -⟩ := hcn
    simp at hk
    have hxx := blk_below (blk_drw zy) hbc (by first | omega | (simp; done) | (simp; omega))
    go_simp
    rfl
  refine chain_val (u := ?_) [29, 30] rfl (by kernel_rfl) trivial (fun ρ wc hbc hcn hk => ?_) ?_; rotate_left
  · obtain ⟨hcn, -⟩ := hcn
    simp at hk
    go_simp
    rfl
  refine chain_val (u := ?_) [31] rfl (by kernel_rfl) trivial (fun ρ wc hbc hcn hk => ?_) ?_; rotate_left
  · obtain ⟨hcn, -⟩ := hcn
    simp at hk
    go_simp
    rfl
  refine chain_val (u := ?_) [10] rfl (by kernel_rfl) ⟨32, by decide +kernel, rfl, fun w x hx => by simpa using hx⟩ (fun ρ wc hbc hcn hk => ?_) ?_; rotate_left
  · obtain ⟨hcn, -⟩ := hcn
    simp at hk
    go_simp
    rfl
  refine chain_val (u := ?_) [12] rfl (by kernel_rfl) ⟨32, by decide +kernel, rfl, fun w x hx => by simpa using hx⟩ (fun ρ wc hbc hcn hk => ?_) ?_; rotate_left
  · obtain ⟨hcn, -⟩ := hcn
    simp at hk
    go_simp
    rfl
  refine chain_val (u := ?_) [33, 34] rfl (by kernel_rfl) ⟨32, by decide +kernel, rfl, fun w x hx => by simpa using hx⟩ (fun ρ wc hbc hcn hk => ?_) ?_; rotate_left
  · obtain ⟨hcn, -⟩ := hcn
    simp at hk
    go_simp
    rfl
  refine chain_val (u := ?_) [32, 35] rfl (by kernel_rfl) trivial (fun ρ wc hbc hcn hk => ?_) ?_; rotate_left
  · obtain ⟨hcn, -⟩ := hcn
    simp at hk
    go_simp
    rfl
  refine chain_val (u := ?_) [36] rfl (by kernel_rfl) trivial (fun ρ wc hbc hcn hk => ?_) ?_; rotate_left
  · obtain ⟨hcn, -⟩ := hcn
    simp at hk
    go_simp
    rfl
  refine chain_val (u := ?_) [4] rfl (by kernel_rfl) ⟨37, by decide +kernel, rfl, fun w x hx => by simpa using hx⟩ (fun ρ wc hbc hcn hk => ?_) ?_; rotate_left
  · obtain ⟨hcn, -⟩ := hcn
    simp at hk
    have hxx := blk_below (blk_drw zl) hbc (by first | omega | (simp; done) | (simp; omega))
    go_simp
    rfl
  refine chain_val (u := ?_) [2] rfl (by kernel_rfl) ⟨37, by decide +kernel, rfl, fun w x hx => by simpa using hx⟩ (fun ρ wc hbc hcn hk => ?_) ?_; rotate_left
  · obtain ⟨hcn, -⟩ := hcn
    simp at hk
    go_simp
    rfl
  refine chain_call (T := Is ?_) 10 [38, 39] rfl (by kernel_rfl) ⟨37, by decide +kernel, rfl, fun w x hx => by simpa using hx⟩ (stable_is _) (fun ρ wc hbc hcn hk => ?_) ?_; rotate_left
  · obtain ⟨hcn, hfn⟩ := hcn
    simp at hk
    refine ⟨_, by go_simp; rfl, ?_⟩
    refine (Enter_is dep lw o d k2 wc HE.out).mono ?_
    rintro e w' ⟨rfl, hbq⟩
    refine ⟨_, rfl, ?_, hbq⟩
    unfold Is
    rfl
  refine chain_val (u := ?_) [4] rfl (by kernel_rfl) ⟨37, by decide +kernel, rfl, fun w x hx => by simpa using hx⟩ (fun ρ wc hbc hcn hk => ?_) ?_; rotate_left
  · obtain ⟨hcn, -⟩ := hcn
    simp at hk
    have hxx := blk_below (blk_drw zl) hbc (by first | omega | (simp; done) | (simp; omega))
    go_simp
    rfl
  refine chain_val (u := ?_) [2] rfl (by kernel_rfl) ⟨37, by decide +kernel, rfl, fun w x hx => by simpa using hx⟩ (fun ρ wc hbc hcn hk => ?_) ?_; rotate_left
  · obtain ⟨hcn, -⟩ := hcn
    simp at hk
    go_simp
    rfl
  refine chain_call (T := Is ?_) 11 [41, 42] rfl (by kernel_rfl) ⟨37, by decide +kernel, rfl, fun w x hx => by simpa using hx⟩ (stable_is _) (fun ρ wc hbc hcn hk => ?_) ?_; rotate_left
  · obtain ⟨hcn, hfn⟩ := hcn
    simp at hk
    refine ⟨_, by go_simp; rfl, ?_⟩
    refine (RefEnter_is dep lw o d k2 wc HE.out).mono ?_
    rintro e w' ⟨rfl, hbq⟩
    refine ⟨_, rfl, ?_, hbq⟩
    unfold Is
    rfl
  refine chain_val (u := ?_) [40, 43] rfl (by kernel_rfl) ⟨37, by decide +kernel, rfl, fun w x hx => by simpa using hx⟩ (fun ρ wc hbc hcn hk => ?_) ?_; rotate_left
  · obtain ⟨hcn, -⟩ := hcn
    simp at hk
    go_simp
    rfl
  refine chain_val (u := ?_) [37, 44] rfl (by kernel_rfl) trivial (fun ρ wc hbc hcn hk => ?_) ?_; rotate_left
  · obtain ⟨hcn, -⟩ := hcn
    simp at hk
    go_simp
    rfl
  refine chain_val (u := ?_) [45] rfl (by kernel_rfl) trivial (fun ρ wc hbc hcn hk => ?_) ?_; rotate_left
  · obtain ⟨hcn, -⟩ := hcn
    simp at hk
    go_simp
    rfl
  refine chain_val (u := ?_) [4] rfl (by kernel_rfl) ⟨46, by decide +kernel, rfl, fun w x hx => by simpa using hx⟩ (fun ρ wc hbc hcn hk => ?_) ?_; rotate_left
  · obtain ⟨hcn, -⟩ := hcn
    simp at hk
    have hxx := blk_below (blk_drw zl) hbc (by first | omega | (simp; done) | (simp; omega))
    go_simp
    rfl
  refine chain_call (T := Is ?_) 12 [47] rfl (by kernel_rfl) ⟨46, by decide +kernel, rfl, fun w x hx => by simpa using hx⟩ (stable_is _) (fun ρ wc hbc hcn hk => ?_) ?_; rotate_left
  · obtain ⟨hcn, hfn⟩ := hcn
    simp at hk
    refine ⟨_, by go_simp; rfl, ?_⟩
    refine (Start_is dep lw o p wc HS.out).mono ?_
    rintro e w' ⟨rfl, hbq⟩
    refine ⟨_, rfl, ?_, hbq⟩
    unfold Is
    rfl
  refine chain_val (u := ?_) [4] rfl (by kernel_rfl) ⟨46, by decide +kernel, rfl, fun w x hx => by simpa using hx⟩ (fun ρ wc hbc hcn hk => ?_) ?_; rotate_left
  · obtain ⟨hcn, -⟩ := hcn
    simp at hk
    have hxx := blk_below (blk_drw zl) hbc (by first | omega | (simp; done) | (simp; omega))
    go_simp
    rfl
  refine chain_call (T := Is ?_) 13 [49] rfl (by kernel_rfl) ⟨46, by decide +kernel, rfl, fun w x hx => by simpa using hx⟩ (stable_is _) (fun ρ wc hbc hcn hk => ?_) ?_; rotate_left
  · obtain ⟨hcn, hfn⟩ := hcn
    simp at hk
    refine ⟨_, by go_simp; rfl, ?_⟩
    refine (RefStart_is dep lw o p wc HS.out).mono ?_
    rintro e w' ⟨rfl, hbq⟩
    refine ⟨_, rfl, ?_, hbq⟩
    unfold Is
    rfl
  refine chain_val (u := ?_) [48, 50] rfl (by kernel_rfl) ⟨46, by decide +kernel, rfl, fun w x hx => by simpa using hx⟩ (fun ρ wc hbc hcn hk => ?_) ?_; rotate_left
  · obtain ⟨hcn, -⟩ := hcn
    simp at hk
    go_simp
    rfl
  refine chain_val (u := ?_) [46, 51] rfl (by kernel_rfl) trivial (fun ρ wc hbc hcn hk => ?_) ?_; rotate_left
  · obtain ⟨hcn, -⟩ := hcn
    simp at hk
    go_simp
    rfl
  refine chain_end_lit 73 rfl (fun ff w5 hb5 hk => ?_)
  refine hKK _ _ ?_
  clear hKK KK
  simp [AllN] at hk
  simp only [frameL, hk]
  have xl5 := blk_below (blk_drw zl) hb5 (by simp; omega)
  have xm5 := blk_below (blk_drw zm) hb5 (by simp; omega)
  have HB5 := Lib.hid hb5
  have hz5 := hb5.size
  try simp at hz5
  clear hb5 hk zl zm zx zy
  go_wp2_with fail
  rename_i KK hKK
  refine wp_region_chain (by kernel_rfl) (by kernel_rfl) ?_
  refine chain_val (u := ?_) [5] rfl (by kernel_rfl) trivial (fun ρ wc hbc hcn hk => ?_) ?_; rotate_left
  · obtain ⟨hcn, -⟩ := hcn
    simp at hk
    go_simp
    rfl
  refine chain_val (u := ?_) [53] rfl (by kernel_rfl) trivial (fun ρ wc hbc hcn hk => ?_) ?_; rotate_left
  · obtain ⟨hcn, -⟩ := hcn
    simp at hk
    have hxx := blk_below (blk_drw xm5) hbc (by first | omega | (simp; done) | (simp; omega))
    go_simp
    rfl
  refine chain_val (u := ?_) [54] rfl (by kernel_rfl) trivial (fun ρ wc hbc hcn hk => ?_) ?_; rotate_left
  · obtain ⟨hcn, -⟩ := hcn
    simp at hk
    go_simp
    rfl
  refine chain_val (u := ?_) [55] rfl (by kernel_rfl) trivial (fun ρ wc hbc hcn hk => ?_) ?_; rotate_left
  · obtain ⟨hcn, -⟩ := hcn
    simp at hk
    go_simp
    rfl
  refine chain_skip (s := 56) (c := true) rfl rfl (by decide +kernel) rfl rfl (fun w x hx => by simpa using hx) ?_
  refine chain_skip (s := 56) (c := true) rfl rfl (by decide +kernel) rfl rfl (fun w x hx => by simpa using hx) ?_
  refine chain_skip (s := 56) (c := true) rfl rfl (by decide +kernel) rfl rfl (fun w x hx => by simpa using hx) ?_
  refine chain_val (u := ?_) [56, 59] rfl (by kernel_rfl) trivial (fun ρ wc hbc hcn hk => ?_) ?_; rotate_left
  · obtain ⟨hcn, -⟩ := hcn
    simp at hk
    go_simp
    rfl
  refine chain_val (u := ?_) [60] rfl (by kernel_rfl) trivial (fun ρ wc hbc hcn hk => ?_) ?_; rotate_left
  · obtain ⟨hcn, -⟩ := hcn
    simp at hk
    go_simp
    rfl
  refine chain_skip (s := 61) (c := true) rfl rfl (by decide +kernel) rfl rfl (fun w x hx => by simpa using hx) ?_
  refine chain_skip (s := 61) (c := true) rfl rfl (by decide +kernel) rfl rfl (fun w x hx => by simpa using hx) ?_
  refine chain_skip (s := 61) (c := true) rfl rfl (by decide +kernel) rfl rfl (fun w x hx => by simpa using hx) ?_
  refine chain_skip (s := 61) (c := true) rfl rfl (by decide +kernel) rfl rfl (fun w x hx => by simpa using hx) ?_
  refine chain_skip (s := 61) (c := true) rfl rfl (by decide +kernel) rfl rfl (fun w x hx => by simpa using hx) ?_
  refine chain_skip (s := 61) (c := true) rfl rfl (by decide +kernel) rfl rfl (fun w x hx => by simpa using hx) ?_
  refine chain_skip (s := 61) (c := true) rfl rfl (by decide +kernel) rfl rfl (fun w x hx => by simpa using hx) ?_
  refine chain_skip (s := 61) (c := true) rfl rfl (by decide +kernel) rfl rfl (fun w x hx => by simpa using hx) ?_
  refine chain_skip (s := 61) (c := true) rfl rfl (by decide +kernel) rfl rfl (fun w x hx => by simpa using hx) ?_
  refine chain_skip (s := 61) (c := true) rfl rfl (by decide +kernel) rfl rfl (fun w x hx => by simpa using hx) ?_
  refine chain_val (u := ?_) [61, 71] rfl (by kernel_rfl) trivial (fun ρ wc hbc hcn hk => ?_) ?_; rotate_left
  · obtain ⟨hcn, -⟩ := hcn
    simp at hk
    go_simp
    rfl
  refine chain_val (u := ?_) [72] rfl (by kernel_rfl) trivial (fun ρ wc hbc hcn hk => ?_) ?_; rotate_left
  · obtain ⟨hcn, -⟩ := hcn
    simp at hk
    go_simp
    rfl
  refine chain_end_lit 73 rfl (fun ff w6 hb6 hk => ?_)
  refine hKK _ _ ?_
  clear hKK KK
  simp [AllN] at hk
  simp only [frameL, hk]
  have HB6 := Lib.hid hb6
  clear hb6 hk
  have F5 : Below w.heap.size w w5 := (bel_drew HB4.out).trans (HB5.out.mono (bel_drew HB4.out).size)
  have F6 : Below w.heap.size w w6 := (bel_drew F5).trans (HB6.out.mono (bel_drew F5).size)
  have HF := Lib.hid F6
  clear F5 F6
  go_wp2
  go_ret
  exact ⟨rfl, HF.out⟩

set_option maxHeartbeats 4000000 in
set_option maxRecDepth 100000 in
theorem MR9_2 (w : World) (dep lw o m d c x k k2 p : Int) (l0 : -9223372036854775808 ≤ lw) (l1 : lw ≤ 9223372036854775807) (m0 : -9223372036854775808 ≤ m) (m1 : m ≤ 9223372036854775807) (c0 : 0 ≤ c) (c1 : c < 4294967296)
    (d0 : -9223372036854775808 ≤ d) (d1 : d ≤ 9223372036854775807) (p0 : 0 ≤ p) (p1 : p ≤ 9223372036854775807) (HS : Hid (startI lw = p)) (HE : Hid (enterI dep d = k2)) (H1 : Hid (chargeI m c = x ∧ chargeE m c = k)) (hm : 1152921504606846976 < m) :
    Calls Try.prog 3 #[.agg #[.int .i64 dep, .int .i64 lw, .int .i64 o], .agg #[.int .i64 m], .int .i64 d, .int .u32 c] w fun e w' => e = .returned (.bool true) ∧ Below w.heap.size w w' := by
  have t1 : decide (m < 0) = false := by rw [decide_eq_false_iff_not]; omega
  have t2 : decide (1152921504606846976 < m) = true := decide_eq_true hm
  go_enter Try.func3, Try.ntmps3
  go_wp2_with fail
  refine (awake_any _).mono ?_
  rintro e w1 ⟨rfl, hb1⟩
  have hz1 := hb1.size
  try simp at hz1
  have xl1 := blk_below (blk_alloc (blk_new w #[.int .i64 dep, .int .i64 lw, .int .i64 o] 23) (by first | omega | (simp; done) | (simp; omega)) _) hb1 (by first | omega | (simp; done) | (simp; omega))
  have xm1 := blk_below (blk_new (w.alloc (.cells #[.int .i64 dep, .int .i64 lw, .int .i64 o] 23)) #[.int .i64 m] 25) hb1 (by first | omega | (simp; done) | (simp; omega))
  rw [show (w.alloc (.cells #[.int .i64 dep, .int .i64 lw, .int .i64 o] 23)).heap.size = w.heap.size + 1 from by simp] at xm1
  have B1 : Below w.heap.size w w1 := (((Below.refl w.heap.size w).alloc (by first | omega | (simp; done) | (simp; omega)) _).alloc (by first | omega | (simp; done) | (simp; omega)) _).trans (hb1.mono (by first | omega | (simp; done) | (simp; omega)))
  clear hb1 
  go_wp2_with fail
  refine (Charge_is' m c x k _ H1.out (by omega) (by omega) (by omega)).mono ?_
  rintro e w2 ⟨rfl, hb2⟩
  have hz2 := hb2.size
  try simp at hz2
  have xl2 := blk_below xl1 hb2 (by first | omega | (simp; done) | (simp; omega))
  have xm2 := blk_below xm1 hb2 (by first | omega | (simp; done) | (simp; omega))
  have B2 : Below w.heap.size w w2 := B1.trans (hb2.mono (by first | omega | (simp; done) | (simp; omega)))
  clear hb2 xl1 xm1
  have yl3 := (blk_alloc xl2 (by first | omega | (simp; done) | (simp; omega)) (.cells #[.int .i64 x] 25))
  have ym3 := (blk_alloc xm2 (by first | omega | (simp; done) | (simp; omega)) (.cells #[.int .i64 x] 25))
  go_wp2_with fail
  refine (RefCharge_is m c x k _ H1.out (by omega) (by omega) (by omega)).mono ?_
  rintro e w3 ⟨rfl, hb3⟩
  have hz3 := hb3.size
  try simp at hz3
  have xl3 := blk_below (blk_alloc xl2 (by first | omega | (simp; done) | (simp; omega)) _) hb3 (by first | omega | (simp; done) | (simp; omega))
  have xm3 := blk_below (blk_alloc xm2 (by first | omega | (simp; done) | (simp; omega)) _) hb3 (by first | omega | (simp; done) | (simp; omega))
  have xx3 := blk_below (blk_new w2 #[.int .i64 x] 25) hb3 (by first | omega | (simp; done) | (simp; omega))
  have B3 : Below w.heap.size w w3 := (B2.alloc (by first | omega | (simp; done) | (simp; omega)) _).trans (hb3.mono (by first | omega | (simp; done) | (simp; omega)))
  clear hb3 xl2 xm2 yl3 ym3
  have zl := (blk_alloc xl3 (by first | omega | (simp; done) | (simp; omega)) (.cells #[.int .i64 x] 25))
  have zm := (blk_alloc xm3 (by first | omega | (simp; done) | (simp; omega)) (.cells #[.int .i64 x] 25))
  have zx := (blk_alloc xx3 (by first | omega | (simp; done) | (simp; omega)) (.cells #[.int .i64 x] 25))
  have zy := blk_new w3 #[.int .i64 x] 25
  have B4 := (B3.alloc (by first | omega | (simp; done) | (simp; omega)) (.cells #[.int .i64 x] 25))
  have HB4 := Lib.hid B4
  clear B4 B3 xl3 xm3 xx3
  go_wp2_with fail
  rename_i KK hKK
  refine wp_region_chain (by kernel_rfl) (by kernel_rfl) ?_
  refine chain_val (u := ?_) [9] rfl (by kernel_rfl) trivial (fun ρ wc hbc hcn hk => ?_) ?_; rotate_left
  · obtain ⟨hcn, -⟩ := hcn
    simp at hk
    have hxx := blk_below (blk_drw zx) hbc (by first | omega | (simp; done) | (simp; omega))
    go_simp
    rfl
  refine chain_val (u := ?_) [11] rfl (by kernel_rfl) trivial (fun ρ wc hbc hcn hk => ?_) ?_; rotate_left
  · obtain ⟨hcn, -⟩ := hcn
    simp at hk
    have hxx := blk_below (blk_drw zy) hbc (by first | omega | (simp; done) | (simp; omega))
    go_simp
    rfl
  refine chain_val (u := ?_) [29, 30] rfl (by kernel_rfl) trivial (fun ρ wc hbc hcn hk => ?_) ?_; rotate_left
  · obtain ⟨hcn, -⟩ := hcn
    simp at hk
    go_simp
    rfl
  refine chain_val (u := ?_) [31] rfl (by kernel_rfl) trivial (fun ρ wc hbc hcn hk => ?_) ?_; rotate_left
  · obtain ⟨hcn, -⟩ := hcn
    simp at hk
    go_simp
    rfl
  refine chain_val (u := ?_) [10] rfl (by kernel_rfl) ⟨32, by decide +kernel, rfl, fun w x hx => by simpa using hx⟩ (fun ρ wc hbc hcn hk => ?_) ?_; rotate_left
  · obtain ⟨hcn, -⟩ := hcn
    simp at hk
    go_simp
    rfl
  refine chain_val (u := ?_) [12] rfl (by kernel_rfl) ⟨32, by decide +kernel, rfl, fun w x hx => by simpa using hx⟩ (fun ρ wc hbc hcn hk => ?_) ?_; rotate_left
  · obtain ⟨hcn, -⟩ := hcn
    simp at hk
    go_simp
    rfl
  refine chain_val (u := ?_) [33, 34] rfl (by kernel_rfl) ⟨32, by decide +kernel, rfl, fun w x hx => by simpa using hx⟩ (fun ρ wc hbc hcn hk => ?_) ?_; rotate_left
  · obtain ⟨hcn, -⟩ := hcn
    simp at hk
    go_simp
    rfl
  refine chain_val (u := ?_) [32, 35] rfl (by kernel_rfl) trivial (fun ρ wc hbc hcn hk => ?_) ?_; rotate_left
  · obtain ⟨hcn, -⟩ := hcn
    simp at hk
    go_simp
    rfl
  refine chain_val (u := ?_) [36] rfl (by kernel_rfl) trivial (fun ρ wc hbc hcn hk => ?_) ?_; rotate_left
  · obtain ⟨hcn, -⟩ := hcn
    simp at hk
    go_simp
    rfl
  refine chain_val (u := ?_) [4] rfl (by kernel_rfl) ⟨37, by decide +kernel, rfl, fun w x hx => by simpa using hx⟩ (fun ρ wc hbc hcn hk => ?_) ?_; rotate_left
  · obtain ⟨hcn, -⟩ := hcn
    simp at hk
    have hxx := blk_below (blk_drw zl) hbc (by first | omega | (simp; done) | (simp; omega))
    go_simp
    rfl
  refine chain_val (u := ?_) [2] rfl (by kernel_rfl) ⟨37, by decide +kernel, rfl, fun w x hx => by simpa using hx⟩ (fun ρ wc hbc hcn hk => ?_) ?_; rotate_left
  · obtain ⟨hcn, -⟩ := hcn
    simp at hk
    go_simp
    rfl
  refine chain_call (T := Is ?_) 10 [38, 39] rfl (by kernel_rfl) ⟨37, by decide +kernel, rfl, fun w x hx => by simpa using hx⟩ (stable_is _) (fun ρ wc hbc hcn hk => ?_) ?_; rotate_left
  · obtain ⟨hcn, hfn⟩ := hcn
    simp at hk
    refine ⟨_, by go_simp; rfl, ?_⟩
    refine (Enter_is dep lw o d k2 wc HE.out).mono ?_
    rintro e w' ⟨rfl, hbq⟩
    refine ⟨_, rfl, ?_, hbq⟩
    unfold Is
    rfl
  refine chain_val (u := ?_) [4] rfl (by kernel_rfl) ⟨37, by decide +kernel, rfl, fun w x hx => by simpa using hx⟩ (fun ρ wc hbc hcn hk => ?_) ?_; rotate_left
  · obtain ⟨hcn, -⟩ := hcn
    simp at hk
    have hxx := blk_below (blk_drw zl) hbc (by first | omega | (simp; done) | (simp; omega))
    go_simp
    rfl
  refine chain_val (u := ?_) [2] rfl (by kernel_rfl) ⟨37, by decide +kernel, rfl, fun w x hx => by simpa using hx⟩ (fun ρ wc hbc hcn hk => ?_) ?_; rotate_left
  · obtain ⟨hcn, -⟩ := hcn
    simp at hk
    go_simp
    rfl
  refine chain_call (T := Is ?_) 11 [41, 42] rfl (by kernel_rfl) ⟨37, by decide +kernel, rfl, fun w x hx => by simpa using hx⟩ (stable_is _) (fun ρ wc hbc hcn hk => ?_) ?_; rotate_left
  · obtain ⟨hcn, hfn⟩ := hcn
    simp at hk
    refine ⟨_, by go_simp; rfl, ?_⟩
    refine (RefEnter_is dep lw o d k2 wc HE.out).mono ?_
    rintro e w' ⟨rfl, hbq⟩
    refine ⟨_, rfl, ?_, hbq⟩
    unfold Is
    rfl
  refine chain_val (u := ?_) [40, 43] rfl (by kernel_rfl) ⟨37, by decide +kernel, rfl, fun w x hx => by simpa using hx⟩ (fun ρ wc hbc hcn hk => ?_) ?_; rotate_left
  · obtain ⟨hcn, -⟩ := hcn
    simp at hk
    go_simp
    rfl
  refine chain_val (u := ?_) [37, 44] rfl (by kernel_rfl) trivial (fun ρ wc hbc hcn hk => ?_) ?_; rotate_left
  · obtain ⟨hcn, -⟩ := hcn
    simp at hk
    go_simp
    rfl
  refine chain_val (u := ?_) [45] rfl (by kernel_rfl) trivial (fun ρ wc hbc hcn hk => ?_) ?_; rotate_left
  · obtain ⟨hcn, -⟩ := hcn
    simp at hk
    go_simp
    rfl
  refine chain_val (u := ?_) [4] rfl (by kernel_rfl) ⟨46, by decide +kernel, rfl, fun w x hx => by simpa using hx⟩ (fun ρ wc hbc hcn hk => ?_) ?_; rotate_left
  · obtain ⟨hcn, -⟩ := hcn
    simp at hk
    have hxx := blk_below (blk_drw zl) hbc (by first | omega | (simp; done) | (simp; omega))
    go_simp
    rfl
  refine chain_call (T := Is ?_) 12 [47] rfl (by kernel_rfl) ⟨46, by decide +kernel, rfl, fun w x hx => by simpa using hx⟩ (stable_is _) (fun ρ wc hbc hcn hk => ?_) ?_; rotate_left
  · obtain ⟨hcn, hfn⟩ := hcn
    simp at hk
    refine ⟨_, by go_simp; rfl, ?_⟩
    refine (Start_is dep lw o p wc HS.out).mono ?_
    rintro e w' ⟨rfl, hbq⟩
    refine ⟨_, rfl, ?_, hbq⟩
    unfold Is
    rfl
  refine chain_val (u := ?_) [4] rfl (by kernel_rfl) ⟨46, by decide +kernel, rfl, fun w x hx => by simpa using hx⟩ (fun ρ wc hbc hcn hk => ?_) ?_; rotate_left
  · obtain ⟨hcn, -⟩ := hcn
    simp at hk
    have hxx := blk_below (blk_drw zl) hbc (by first | omega | (simp; done) | (simp; omega))
    go_simp
    rfl
  refine chain_call (T := Is ?_) 13 [49] rfl (by kernel_rfl) ⟨46, by decide +kernel, rfl, fun w x hx => by simpa using hx⟩ (stable_is _) (fun ρ wc hbc hcn hk => ?_) ?_; rotate_left
  · obtain ⟨hcn, hfn⟩ := hcn
    simp at hk
    refine ⟨_, by go_simp; rfl, ?_⟩
    refine (RefStart_is dep lw o p wc HS.out).mono ?_
    rintro e w' ⟨rfl, hbq⟩
    refine ⟨_, rfl, ?_, hbq⟩
    unfold Is
    rfl
  refine chain_val (u := ?_) [48, 50] rfl (by kernel_rfl) ⟨46, by decide +kernel, rfl, fun w x hx => by simpa using hx⟩ (fun ρ wc hbc hcn hk => ?_) ?_; rotate_left
  · obtain ⟨hcn, -⟩ := hcn
    simp at hk
    go_simp
    rfl
  refine chain_val (u := ?_) [46, 51] rfl (by kernel_rfl) trivial (fun ρ wc hbc hcn hk => ?_) ?_; rotate_left
  · obtain ⟨hcn, -⟩ := hcn
    simp at hk
    go_simp
    rfl
  refine chain_end_lit 73 rfl (fun ff w5 hb5 hk => ?_)
  refine hKK _ _ ?_
  clear hKK KK
  simp [AllN] at hk
  simp only [frameL, hk]
  have xl5 := blk_below (blk_drw zl) hb5 (by simp; omega)
  have xm5 := blk_below (blk_drw zm) hb5 (by simp; omega)
  have HB5 := Lib.hid hb5
  have hz5 := hb5.size
  try simp at hz5
  clear hb5 hk zl zm zx zy
  go_wp2_with fail
  rename_i KK hKK
  refine wp_region_chain (by kernel_rfl) (by kernel_rfl) ?_
  refine chain_val (u := ?_) [5] rfl (by kernel_rfl) trivial (fun ρ wc hbc hcn hk => ?_) ?_; rotate_left
  · obtain ⟨hcn, -⟩ := hcn
    simp at hk
    go_simp
    rfl
  refine chain_val (u := ?_) [53] rfl (by kernel_rfl) trivial (fun ρ wc hbc hcn hk => ?_) ?_; rotate_left
  · obtain ⟨hcn, -⟩ := hcn
    simp at hk
    have hxx := blk_below (blk_drw xm5) hbc (by first | omega | (simp; done) | (simp; omega))
    go_simp
    rfl
  refine chain_val (u := ?_) [54] rfl (by kernel_rfl) trivial (fun ρ wc hbc hcn hk => ?_) ?_; rotate_left
  · obtain ⟨hcn, -⟩ := hcn
    simp at hk
    go_simp
    rfl
  refine chain_val (u := ?_) [55] rfl (by kernel_rfl) trivial (fun ρ wc hbc hcn hk => ?_) ?_; rotate_left
  · obtain ⟨hcn, -⟩ := hcn
    simp at hk
    go_simp
    rfl
  refine chain_val (u := ?_) [5] rfl (by kernel_rfl) ⟨56, by decide +kernel, rfl, fun w x hx => by simpa using hx⟩ (fun ρ wc hbc hcn hk => ?_) ?_; rotate_left
  · obtain ⟨hcn, -⟩ := hcn
    simp at hk
    go_simp
    rfl
  refine chain_val (u := ?_) [57] rfl (by kernel_rfl) ⟨56, by decide +kernel, rfl, fun w x hx => by simpa using hx⟩ (fun ρ wc hbc hcn hk => ?_) ?_; rotate_left
  · obtain ⟨hcn, -⟩ := hcn
    simp at hk
    have hxx := blk_below (blk_drw xm5) hbc (by first | omega | (simp; done) | (simp; omega))
    go_simp
    rfl
  refine chain_val (u := ?_) [58] rfl (by kernel_rfl) ⟨56, by decide +kernel, rfl, fun w x hx => by simpa using hx⟩ (fun ρ wc hbc hcn hk => ?_) ?_; rotate_left
  · obtain ⟨hcn, -⟩ := hcn
    simp at hk
    go_simp
    rfl
  refine chain_val (u := ?_) [56, 59] rfl (by kernel_rfl) trivial (fun ρ wc hbc hcn hk => ?_) ?_; rotate_left
  · obtain ⟨hcn, -⟩ := hcn
    simp at hk
    go_simp
    rfl
  refine chain_val (u := ?_) [60] rfl (by kernel_rfl) trivial (fun ρ wc hbc hcn hk => ?_) ?_; rotate_left
  · obtain ⟨hcn, -⟩ := hcn
    simp at hk
    go_simp
    rfl
  refine chain_skip (s := 61) (c := true) rfl rfl (by decide +kernel) rfl rfl (fun w x hx => by simpa using hx) ?_
  refine chain_skip (s := 61) (c := true) rfl rfl (by decide +kernel) rfl rfl (fun w x hx => by simpa using hx) ?_
  refine chain_skip (s := 61) (c := true) rfl rfl (by decide +kernel) rfl rfl (fun w x hx => by simpa using hx) ?_
  refine chain_skip (s := 61) (c := true) rfl rfl (by decide +kernel) rfl rfl (fun w x hx => by simpa using hx) ?_
  refine chain_skip (s := 61) (c := true) rfl rfl (by decide +kernel) rfl rfl (fun w x hx => by simpa using hx) ?_
  refine chain_skip (s := 61) (c := true) rfl rfl (by decide +kernel) rfl rfl (fun w x hx => by simpa using hx) ?_
  refine chain_skip (s := 61) (c := true) rfl rfl (by decide +kernel) rfl rfl (fun w x hx => by simpa using hx) ?_
  refine chain_skip (s := 61) (c := true) rfl rfl (by decide +kernel) rfl rfl (fun w x hx => by simpa using hx) ?_
  refine chain_skip (s := 61) (c := true) rfl rfl (by decide +kernel) rfl rfl (fun w x hx => by simpa using hx) ?_
  refine chain_skip (s := 61) (c := true) rfl rfl (by decide +kernel) rfl rfl (fun w x hx => by simpa using hx) ?_
  refine chain_val (u := ?_) [61, 71] rfl (by kernel_rfl) trivial (fun ρ wc hbc hcn hk => ?_) ?_; rotate_left
  · obtain ⟨hcn, -⟩ := hcn
    simp at hk
    go_simp
    rfl
  refine chain_val (u := ?_) [72] rfl (by kernel_rfl) trivial (fun ρ wc hbc hcn hk => ?_) ?_; rotate_left
  · obtain ⟨hcn, -⟩ := hcn
    simp at hk
    go_simp
    rfl
  refine chain_end_lit 73 rfl (fun ff w6 hb6 hk => ?_)
  refine hKK _ _ ?_
  clear hKK KK
  simp [AllN] at hk
  simp only [frameL, hk]
  have HB6 := Lib.hid hb6
  clear hb6 hk
  have F5 : Below w.heap.size w w5 := (bel_drew HB4.out).trans (HB5.out.mono (bel_drew HB4.out).size)
  have F6 : Below w.heap.size w w6 := (bel_drew F5).trans (HB6.out.mono (bel_drew F5).size)
  have HF := Lib.hid F6
  clear F5 F6
  go_wp2
  go_ret
  exact ⟨rfl, HF.out⟩

set_option maxHeartbeats 4000000 in
set_option maxRecDepth 100000 in
theorem MR9_3 (w : World) (dep lw o m d c x k k2 p : Int) (l0 : -9223372036854775808 ≤ lw) (l1 : lw ≤ 9223372036854775807) (m0 : -9223372036854775808 ≤ m) (m1 : m ≤ 9223372036854775807) (c0 : 0 ≤ c) (c1 : c < 4294967296)
    (d0 : -9223372036854775808 ≤ d) (d1 : d ≤ 9223372036854775807) (p0 : 0 ≤ p) (p1 : p ≤ 9223372036854775807) (HS : Hid (startI lw = p)) (HE : Hid (enterI dep d = k2)) (H1 : Hid (chargeI m c = x ∧ chargeE m c = k)) (hm : 0 ≤ m) (hm' : m ≤ 1152921504606846976) :
    Calls Try.prog 3 #[.agg #[.int .i64 dep, .int .i64 lw, .int .i64 o], .agg #[.int .i64 m], .int .i64 d, .int .u32 c] w fun e w' => e = .returned (.bool true) ∧ Below w.heap.size w w' := by
  have t1 : decide (m < 0) = false := by rw [decide_eq_false_iff_not]; omega
  have t2 : decide (1152921504606846976 < m) = false := by rw [decide_eq_false_iff_not]; omega
  go_enter Try.func3, Try.ntmps3
  go_wp2_with fail
  refine (awake_any _).mono ?_
  rintro e w1 ⟨rfl, hb1⟩
  have hz1 := hb1.size
  try simp at hz1
  have xl1 := blk_below (blk_alloc (blk_new w #[.int .i64 dep, .int .i64 lw, .int .i64 o] 23) (by first | omega | (simp; done) | (simp; omega)) _) hb1 (by first | omega | (simp; done) | (simp; omega))
  have xm1 := blk_below (blk_new (w.alloc (.cells #[.int .i64 dep, .int .i64 lw, .int .i64 o] 23)) #[.int .i64 m] 25) hb1 (by first | omega | (simp; done) | (simp; omega))
  rw [show (w.alloc (.cells #[.int .i64 dep, .int .i64 lw, .int .i64 o] 23)).heap.size = w.heap.size + 1 from by simp] at xm1
  have B1 : Below w.heap.size w w1 := (((Below.refl w.heap.size w).alloc (by first | omega | (simp; done) | (simp; omega)) _).alloc (by first | omega | (simp; done) | (simp; omega)) _).trans (hb1.mono (by first | omega | (simp; done) | (simp; omega)))
  clear hb1 
  go_wp2_with fail
  refine (Charge_is' m c x k _ H1.out (by omega) (by omega) (by omega)).mono ?_
  rintro e w2 ⟨rfl, hb2⟩
  have hz2 := hb2.size
  try simp at hz2
  have xl2 := blk_below xl1 hb2 (by first | omega | (simp; done) | (simp; omega))
  have xm2 := blk_below xm1 hb2 (by first | omega | (simp; done) | (simp; omega))
  have B2 : Below w.heap.size w w2 := B1.trans (hb2.mono (by first | omega | (simp; done) | (simp; omega)))
  clear hb2 xl1 xm1
  have yl3 := (blk_alloc xl2 (by first | omega | (simp; done) | (simp; omega)) (.cells #[.int .i64 x] 25))
  have ym3 := (blk_alloc xm2 (by first | omega | (simp; done) | (simp; omega)) (.cells #[.int .i64 x] 25))
  go_wp2_with fail
  refine (RefCharge_is m c x k _ H1.out (by omega) (by omega) (by omega)).mono ?_
  rintro e w3 ⟨rfl, hb3⟩
  have hz3 := hb3.size
  try simp at hz3
  have xl3 := blk_below (blk_alloc xl2 (by first | omega | (simp; done) | (simp; omega)) _) hb3 (by first | omega | (simp; done) | (simp; omega))
  have xm3 := blk_below (blk_alloc xm2 (by first | omega | (simp; done) | (simp; omega)) _) hb3 (by first | omega | (simp; done) | (simp; omega))
  have xx3 := blk_below (blk_new w2 #[.int .i64 x] 25) hb3 (by first | omega | (simp; done) | (simp; omega))
  have B3 : Below w.heap.size w w3 := (B2.alloc (by first | omega | (simp; done) | (simp; omega)) _).trans (hb3.mono (by first | omega | (simp; done) | (simp; omega)))
  clear hb3 xl2 xm2 yl3 ym3
  have zl := (blk_alloc xl3 (by first | omega | (simp; done) | (simp; omega)) (.cells #[.int .i64 x] 25))
  have zm := (blk_alloc xm3 (by first | omega | (simp; done) | (simp; omega)) (.cells #[.int .i64 x] 25))
  have zx := (blk_alloc xx3 (by first | omega | (simp; done) | (simp; omega)) (.cells #[.int .i64 x] 25))
  have zy := blk_new w3 #[.int .i64 x] 25
  have B4 := (B3.alloc (by first | omega | (simp; done) | (simp; omega)) (.cells #[.int .i64 x] 25))
  have HB4 := Lib.hid B4
  clear B4 B3 xl3 xm3 xx3
  go_wp2_with fail
  rename_i KK hKK
  refine wp_region_chain (by kernel_rfl) (by kernel_rfl) ?_
  refine chain_val (u := ?_) [9] rfl (by kernel_rfl) trivial (fun ρ wc hbc hcn hk => ?_) ?_; rotate_left
  · obtain ⟨hcn, -⟩ := hcn
    simp at hk
    have hxx := blk_below (blk_drw zx) hbc (by first | omega | (simp; done) | (simp; omega))
    go_simp
    rfl
  refine chain_val (u := ?_) [11] rfl (by kernel_rfl) trivial (fun ρ wc hbc hcn hk => ?_) ?_; rotate_left
  · obtain ⟨hcn, -⟩ := hcn
    simp at hk
    have hxx := blk_below (blk_drw zy) hbc (by first | omega | (simp; done) | (simp; omega))
    go_simp
    rfl
  refine chain_val (u := ?_) [29, 30] rfl (by kernel_rfl) trivial (fun ρ wc hbc hcn hk => ?_) ?_; rotate_left
  · obtain ⟨hcn, -⟩ := hcn
    simp at hk
    go_simp
    rfl
  refine chain_val (u := ?_) [31] rfl (by kernel_rfl) trivial (fun ρ wc hbc hcn hk => ?_) ?_; rotate_left
  · obtain ⟨hcn, -⟩ := hcn
    simp at hk
    go_simp
    rfl
  refine chain_val (u := ?_) [10] rfl (by kernel_rfl) ⟨32, by decide +kernel, rfl, fun w x hx => by simpa using hx⟩ (fun ρ wc hbc hcn hk => ?_) ?_; rotate_left
  · obtain ⟨hcn, -⟩ := hcn
    simp at hk
    go_simp
    rfl
  refine chain_val (u := ?_) [12] rfl (by kernel_rfl) ⟨32, by decide +kernel, rfl, fun w x hx => by simpa using hx⟩ (fun ρ wc hbc hcn hk => ?_) ?_; rotate_left
  · obtain ⟨hcn, -⟩ := hcn
    simp at hk
    go_simp
    rfl
  refine chain_val (u := ?_) [33, 34] rfl (by kernel_rfl) ⟨32, by decide +kernel, rfl, fun w x hx => by simpa using hx⟩ (fun ρ wc hbc hcn hk => ?_) ?_; rotate_left
  · obtain ⟨hcn, -⟩ := hcn
    simp at hk
    go_simp
    rfl
  refine chain_val (u := ?_) [32, 35] rfl (by kernel_rfl) trivial (fun ρ wc hbc hcn hk => ?_) ?_; rotate_left
  · obtain ⟨hcn, -⟩ := hcn
    simp at hk
    go_simp
    rfl
  refine chain_val (u := ?_) [36] rfl (by kernel_rfl) trivial (fun ρ wc hbc hcn hk => ?_) ?_; rotate_left
  · obtain ⟨hcn, -⟩ := hcn
    simp at hk
    go_simp
    rfl
  refine chain_val (u := ?_) [4] rfl (by kernel_rfl) ⟨37, by decide +kernel, rfl, fun w x hx => by simpa using hx⟩ (fun ρ wc hbc hcn hk => ?_) ?_; rotate_left
  · obtain ⟨hcn, -⟩ := hcn
    simp at hk
    have hxx := blk_below (blk_drw zl) hbc (by first | omega | (simp; done) | (simp; omega))
    go_simp
    rfl
  refine chain_val (u := ?_) [2] rfl (by kernel_rfl) ⟨37, by decide +kernel, rfl, fun w x hx => by simpa using hx⟩ (fun ρ wc hbc hcn hk => ?_) ?_; rotate_left
  · obtain ⟨hcn, -⟩ := hcn
    simp at hk
    go_simp
    rfl
  refine chain_call (T := Is ?_) 10 [38, 39] rfl (by kernel_rfl) ⟨37, by decide +kernel, rfl, fun w x hx => by simpa using hx⟩ (stable_is _) (fun ρ wc hbc hcn hk => ?_) ?_; rotate_left
  · obtain ⟨hcn, hfn⟩ := hcn
    simp at hk
    refine ⟨_, by go_simp; rfl, ?_⟩
    refine (Enter_is dep lw o d k2 wc HE.out).mono ?_
    rintro e w' ⟨rfl, hbq⟩
    refine ⟨_, rfl, ?_, hbq⟩
    unfold Is
    rfl
  refine chain_val (u := ?_) [4] rfl (by kernel_rfl) ⟨37, by decide +kernel, rfl, fun w x hx => by simpa using hx⟩ (fun ρ wc hbc hcn hk => ?_) ?_; rotate_left
  · obtain ⟨hcn, -⟩ := hcn
    simp at hk
    have hxx := blk_below (blk_drw zl) hbc (by first | omega | (simp; done) | (simp; omega))
    go_simp
    rfl
  refine chain_val (u := ?_) [2] rfl (by kernel_rfl) ⟨37, by decide +kernel, rfl, fun w x hx => by simpa using hx⟩ (fun ρ wc hbc hcn hk => ?_) ?_; rotate_left
  · obtain ⟨hcn, -⟩ := hcn
    simp at hk
    go_simp
    rfl
  refine chain_call (T := Is ?_) 11 [41, 42] rfl (by kernel_rfl) ⟨37, by decide +kernel, rfl, fun w x hx => by simpa using hx⟩ (stable_is _) (fun ρ wc hbc hcn hk => ?_) ?_; rotate_left
  · obtain ⟨hcn, hfn⟩ := hcn
    simp at hk
    refine ⟨_, by go_simp; rfl, ?_⟩
    refine (RefEnter_is dep lw o d k2 wc HE.out).mono ?_
    rintro e w' ⟨rfl, hbq⟩
    refine ⟨_, rfl, ?_, hbq⟩
    unfold Is
    rfl
  refine chain_val (u := ?_) [40, 43] rfl (by kernel_rfl) ⟨37, by decide +kernel, rfl, fun w x hx => by simpa using hx⟩ (fun ρ wc hbc hcn hk => ?_) ?_; rotate_left
  · obtain ⟨hcn, -⟩ := hcn
    simp at hk
    go_simp
    rfl
  refine chain_val (u := ?_) [37, 44] rfl (by kernel_rfl) trivial (fun ρ wc hbc hcn hk => ?_) ?_; rotate_left
  · obtain ⟨hcn, -⟩ := hcn
    simp at hk
    go_simp
    rfl
  refine chain_val (u := ?_) [45] rfl (by kernel_rfl) trivial (fun ρ wc hbc hcn hk => ?_) ?_; rotate_left
  · obtain ⟨hcn, -⟩ := hcn
    simp at hk
    go_simp
    rfl
  refine chain_val (u := ?_) [4] rfl (by kernel_rfl) ⟨46, by decide +kernel, rfl, fun w x hx => by simpa using hx⟩ (fun ρ wc hbc hcn hk => ?_) ?_; rotate_left
  · obtain ⟨hcn, -⟩ := hcn
    simp at hk
    have hxx := blk_below (blk_drw zl) hbc (by first | omega | (simp; done) | (simp; omega))
    go_simp
    rfl
  refine chain_call (T := Is ?_) 12 [47] rfl (by kernel_rfl) ⟨46, by decide +kernel, rfl, fun w x hx => by simpa using hx⟩ (stable_is _) (fun ρ wc hbc hcn hk => ?_) ?_; rotate_left
  · obtain ⟨hcn, hfn⟩ := hcn
    simp at hk
    refine ⟨_, by go_simp; rfl, ?_⟩
    refine (Start_is dep lw o p wc HS.out).mono ?_
    rintro e w' ⟨rfl, hbq⟩
    refine ⟨_, rfl, ?_, hbq⟩
    unfold Is
    rfl
  refine chain_val (u := ?_) [4] rfl (by kernel_rfl) ⟨46, by decide +kernel, rfl, fun w x hx => by simpa using hx⟩ (fun ρ wc hbc hcn hk => ?_) ?_; rotate_left
  · obtain ⟨hcn, -⟩ := hcn
    simp at hk
    have hxx := blk_below (blk_drw zl) hbc (by first | omega | (simp; done) | (simp; omega))
    go_simp
    rfl
  refine chain_call (T := Is ?_) 13 [49] rfl (by kernel_rfl) ⟨46, by decide +kernel, rfl, fun w x hx => by simpa using hx⟩ (stable_is _) (fun ρ wc hbc hcn hk => ?_) ?_; rotate_left
  · obtain ⟨hcn, hfn⟩ := hcn
    simp at hk
    refine ⟨_, by go_simp; rfl, ?_⟩
    refine (RefStart_is dep lw o p wc HS.out).mono ?_
    rintro e w' ⟨rfl, hbq⟩
    refine ⟨_, rfl, ?_, hbq⟩
    unfold Is
    rfl
  refine chain_val (u := ?_) [48, 50] rfl (by kernel_rfl) ⟨46, by decide +kernel, rfl, fun w x hx => by simpa using hx⟩ (fun ρ wc hbc hcn hk => ?_) ?_; rotate_left
  · obtain ⟨hcn, -⟩ := hcn
    simp at hk
    go_simp
    rfl
  refine chain_val (u := ?_) [46, 51] rfl (by kernel_rfl) trivial (fun ρ wc hbc hcn hk => ?_) ?_; rotate_left
  · obtain ⟨hcn, -⟩ := hcn
    simp at hk
    go_simp
    rfl
  refine chain_end_lit 73 rfl (fun ff w5 hb5 hk => ?_)
  refine hKK _ _ ?_
  clear hKK KK
  simp [AllN] at hk
  simp only [frameL, hk]
  have xl5 := blk_below (blk_drw zl) hb5 (by simp; omega)
  have xm5 := blk_below (blk_drw zm) hb5 (by simp; omega)
  have HB5 := Lib.hid hb5
  have hz5 := hb5.size
  try simp at hz5
  clear hb5 hk zl zm zx zy
  go_wp2_with fail
  rename_i KK hKK
  refine wp_region_chain (by kernel_rfl) (by kernel_rfl) ?_
  refine chain_val (u := ?_) [5] rfl (by kernel_rfl) trivial (fun ρ wc hbc hcn hk => ?_) ?_; rotate_left
  · obtain ⟨hcn, -⟩ := hcn
    simp at hk
    go_simp
    rfl
  refine chain_val (u := ?_) [53] rfl (by kernel_rfl) trivial (fun ρ wc hbc hcn hk => ?_) ?_; rotate_left
  · obtain ⟨hcn, -⟩ := hcn
    simp at hk
    have hxx := blk_below (blk_drw xm5) hbc (by first | omega | (simp; done) | (simp; omega))
    go_simp
    rfl
  refine chain_val (u := ?_) [54] rfl (by kernel_rfl) trivial (fun ρ wc hbc hcn hk => ?_) ?_; rotate_left
  · obtain ⟨hcn, -⟩ := hcn
    simp at hk
    go_simp
    rfl
  refine chain_val (u := ?_) [55] rfl (by kernel_rfl) trivial (fun ρ wc hbc hcn hk => ?_) ?_; rotate_left
  · obtain ⟨hcn, -⟩ := hcn
    simp at hk
    go_simp
    rfl
  refine chain_val (u := ?_) [5] rfl (by kernel_rfl) ⟨56, by decide +kernel, rfl, fun w x hx => by simpa using hx⟩ (fun ρ wc hbc hcn hk => ?_) ?_; rotate_left
  · obtain ⟨hcn, -⟩ := hcn
    simp at hk
    go_simp
    rfl
  refine chain_val (u := ?_) [57] rfl (by kernel_rfl) ⟨56, by decide +kernel, rfl, fun w x hx => by simpa using hx⟩ (fun ρ wc hbc hcn hk => ?_) ?_; rotate_left
  · obtain ⟨hcn, -⟩ := hcn
    simp at hk
    have hxx := blk_below (blk_drw xm5) hbc (by first | omega | (simp; done) | (simp; omega))
    go_simp
    rfl
  refine chain_val (u := ?_) [58] rfl (by kernel_rfl) ⟨56, by decide +kernel, rfl, fun w x hx => by simpa using hx⟩ (fun ρ wc hbc hcn hk => ?_) ?_; rotate_left
  · obtain ⟨hcn, -⟩ := hcn
    simp at hk
    go_simp
    rfl
  refine chain_val (u := ?_) [56, 59] rfl (by kernel_rfl) trivial (fun ρ wc hbc hcn hk => ?_) ?_; rotate_left
  · obtain ⟨hcn, -⟩ := hcn
    simp at hk
    go_simp
    rfl
  refine chain_val (u := ?_) [60] rfl (by kernel_rfl) trivial (fun ρ wc hbc hcn hk => ?_) ?_; rotate_left
  · obtain ⟨hcn, -⟩ := hcn
    simp at hk
    go_simp
    rfl
  refine chain_val (u := ?_) [4] rfl (by kernel_rfl) ⟨61, by decide +kernel, rfl, fun w x hx => by simpa using hx⟩ (fun ρ wc hbc hcn hk => ?_) ?_; rotate_left
  · obtain ⟨hcn, -⟩ := hcn
    simp at hk
    have hxx := blk_below (blk_drw xl5) hbc (by first | omega | (simp; done) | (simp; omega))
    go_simp
    rfl
  refine chain_val (u := ?_) [5] rfl (by kernel_rfl) ⟨61, by decide +kernel, rfl, fun w x hx => by simpa using hx⟩ (fun ρ wc hbc hcn hk => ?_) ?_; rotate_left
  · obtain ⟨hcn, -⟩ := hcn
    simp at hk
    have hxx := blk_below (blk_drw xm5) hbc (by first | omega | (simp; done) | (simp; omega))
    go_simp
    rfl
  refine chain_call (T := Is ?_) 14 [62, 63] rfl (by kernel_rfl) ⟨61, by decide +kernel, rfl, fun w x hx => by simpa using hx⟩ (stable_is _) (fun ρ wc hbc hcn hk => ?_) ?_; rotate_left
  · obtain ⟨hcn, hfn⟩ := hcn
    simp at hk
    refine ⟨_, by go_simp; rfl, ?_⟩
    refine (Used_is dep lw o m (p - m) wc (by rw [HS.out]) (by omega) (by omega) (by omega) (by omega)).mono ?_
    rintro e w' ⟨rfl, hbq⟩
    refine ⟨_, rfl, ?_, hbq⟩
    unfold Is
    rfl
  refine chain_val (u := ?_) [4] rfl (by kernel_rfl) ⟨61, by decide +kernel, rfl, fun w x hx => by simpa using hx⟩ (fun ρ wc hbc hcn hk => ?_) ?_; rotate_left
  · obtain ⟨hcn, -⟩ := hcn
    simp at hk
    have hxx := blk_below (blk_drw xl5) hbc (by first | omega | (simp; done) | (simp; omega))
    go_simp
    rfl
  refine chain_call (T := Is ?_) 13 [65] rfl (by kernel_rfl) ⟨61, by decide +kernel, rfl, fun w x hx => by simpa using hx⟩ (stable_is _) (fun ρ wc hbc hcn hk => ?_) ?_; rotate_left
  · obtain ⟨hcn, hfn⟩ := hcn
    simp at hk
    refine ⟨_, by go_simp; rfl, ?_⟩
    refine (RefStart_is dep lw o p wc HS.out).mono ?_
    rintro e w' ⟨rfl, hbq⟩
    refine ⟨_, rfl, ?_, hbq⟩
    unfold Is
    rfl
  refine chain_val (u := ?_) [66] rfl (by kernel_rfl) ⟨61, by decide +kernel, rfl, fun w x hx => by simpa using hx⟩ (fun ρ wc hbc hcn hk => ?_) ?_; rotate_left
  · obtain ⟨hcn, -⟩ := hcn
    simp at hk
    go_simp
    rfl
  refine chain_val (u := ?_) [5] rfl (by kernel_rfl) ⟨61, by decide +kernel, rfl, fun w x hx => by simpa using hx⟩ (fun ρ wc hbc hcn hk => ?_) ?_; rotate_left
  · obtain ⟨hcn, -⟩ := hcn
    simp at hk
    go_simp
    rfl
  refine chain_val (u := ?_) [68] rfl (by kernel_rfl) ⟨61, by decide +kernel, rfl, fun w x hx => by simpa using hx⟩ (fun ρ wc hbc hcn hk => ?_) ?_; rotate_left
  · obtain ⟨hcn, -⟩ := hcn
    simp at hk
    have hxx := blk_below (blk_drw xm5) hbc (by first | omega | (simp; done) | (simp; omega))
    go_simp
    rfl
  refine chain_val (u := .int .i64 (p - m)) [67, 69] rfl (by kernel_rfl) ⟨61, by decide +kernel, rfl, fun w x hx => by simpa using hx⟩ (fun ρ wc hbc hcn hk => ?_) ?_
  · obtain ⟨hcn, -⟩ := hcn
    simp at hk
    go_simp
    rw [IntKind.wrap_i64]
    omega
  refine chain_val (u := ?_) [64, 70] rfl (by kernel_rfl) ⟨61, by decide +kernel, rfl, fun w x hx => by simpa using hx⟩ (fun ρ wc hbc hcn hk => ?_) ?_; rotate_left
  · obtain ⟨hcn, -⟩ := hcn
    simp at hk
    go_simp
    rfl
  refine chain_val (u := ?_) [61, 71] rfl (by kernel_rfl) trivial (fun ρ wc hbc hcn hk => ?_) ?_; rotate_left
  · obtain ⟨hcn, -⟩ := hcn
    simp at hk
    go_simp
    rfl
  refine chain_val (u := ?_) [72] rfl (by kernel_rfl) trivial (fun ρ wc hbc hcn hk => ?_) ?_; rotate_left
  · obtain ⟨hcn, -⟩ := hcn
    simp at hk
    go_simp
    rfl
  refine chain_end_lit 73 rfl (fun ff w6 hb6 hk => ?_)
  refine hKK _ _ ?_
  clear hKK KK
  simp [AllN] at hk
  simp only [frameL, hk]
  have HB6 := Lib.hid hb6
  clear hb6 hk
  have F5 : Below w.heap.size w w5 := (bel_drew HB4.out).trans (HB5.out.mono (bel_drew HB4.out).size)
  have F6 : Below w.heap.size w w6 := (bel_drew F5).trans (HB6.out.mono (bel_drew F5).size)
  have HF := Lib.hid F6
  clear F5 F6
  go_wp2
  go_ret
  exact ⟨rfl, HF.out⟩

theorem MR9_walk (w : World) (dep lw o m d c : Int) (l0 : -9223372036854775808 ≤ lw) (l1 : lw ≤ 9223372036854775807) (m0 : -9223372036854775808 ≤ m) (m1 : m ≤ 9223372036854775807) (c0 : 0 ≤ c) (c1 : c < 4294967296)
    (d0 : -9223372036854775808 ≤ d) (d1 : d ≤ 9223372036854775807) :
    Calls Try.prog 3 #[.agg #[.int .i64 dep, .int .i64 lw, .int .i64 o], .agg #[.int .i64 m], .int .i64 d, .int .u32 c] w fun e w' => e = .returned (.bool true) ∧ Below w.heap.size w w' := by
  obtain ⟨p0, p1⟩ := start_bd lw l1
  by_cases h1 : m < 0
  · exact MR9_1 w dep lw o m d c _ _ _ _ l0 l1 m0 m1 c0 c1 d0 d1 p0 p1 (Lib.hid rfl) (Lib.hid rfl) (Lib.hid ⟨rfl, rfl⟩) h1
  · by_cases h2 : 1152921504606846976 < m
    · exact MR9_2 w dep lw o m d c _ _ _ _ l0 l1 m0 m1 c0 c1 d0 d1 p0 p1 (Lib.hid rfl) (Lib.hid rfl) (Lib.hid ⟨rfl, rfl⟩) h2
    · exact MR9_3 w dep lw o m d c _ _ _ _ l0 l1 m0 m1 c0 c1 d0 d1 p0 p1 (Lib.hid rfl) (Lib.hid rfl) (Lib.hid ⟨rfl, rfl⟩) (by omega) (by omega)
end Go.Proofs.Ytlbfinacofjedaa
