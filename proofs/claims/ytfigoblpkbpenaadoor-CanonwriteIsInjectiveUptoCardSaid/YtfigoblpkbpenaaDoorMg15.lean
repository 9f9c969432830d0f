/- The texts Ref11c (what is wanted of them), one after the other. -/
import Derived.Test.YtfigoblpkbpenaaDoorMg1
import Derived.Test.YtfigoblpkbpenaaDoorMg2
import Derived.Test.YtfigoblpkbpenaaDoorMg3
import Derived.Test.YtfigoblpkbpenaaDoorMg4
import Derived.Test.YtfigoblpkbpenaaDoorMg5
import Derived.Test.YtfigoblpkbpenaaDoorMg6
import Derived.Test.YtfigoblpkbpenaaDoorMg9
import Derived.Test.YtfigoblpkbpenaaDoorMg10
import Derived.Test.YtfigoblpkbpenaaDoorMg12
import Derived.Test.YtfigoblpkbpenaaDoorMg13
import Derived.Test.YtfigoblpkbpenaaDoorMg14
/- What the reference's Trimmed says of a node. -/
namespace Go.Proofs.YtfigoblpkbpenaaDoor
open Go.ChangeShapes Go.WideShapes Go.ChangeAt Go.RowKit
set_option linter.unusedVariables false
set_option linter.unusedSimpArgs false
set_option maxRecDepth 100000
attribute [local simp] AllK KnowsV look Is

theorem wrap64_small {x : Int} (h0 : -9223372036854775808 ≤ x) (h1 : x ≤ 9223372036854775807) : IntKind.i64.wrap x = x := by rw [IntKind.wrap_i64]; omega
set_option maxHeartbeats 8000000 in
set_option maxRecDepth 100000 in
theorem RefTrimmed11_node : ∀ (x : Nd) (A : Option Addr) (c : Nat) (B : Option Addr) (c2 : Nat) (w : World), NdR w A c B c2 x → sizeN x ≤ 1099511627776 →
    Calls Tryd.prog 16 #[.agg #[.int .i64 x.k, .int .i64 x.e, .int .i64 x.n, .slice A x.d.length c, .slice B x.ks.length c2]] w fun r w' => r = .returned (.bool (trimmedN x)) ∧ Below w.heap.size w w' := by
  refine Nd.ind ?_
  intro k e n d ks ih A c B c2 w hx hs
  simp only [Nd.k, Nd.e, Nd.n, Nd.d, Nd.ks]
  have HX := Lib.hid hx
  have HI := Lib.hid ih
  have hso : sizeN (.mk k e n d ks) = 1 + d.length + sizeK ks := by simp only [sizeN]
  rw [hso] at hs
  have hkl := sizeK_length ks
  have hdl : d.length ≤ 1099511627776 := by omega
  have HD := Lib.hid hx.open.2.2.2.1
  have HBT := Lib.hid hx.open.2.2.2.2.1
  have HWD := Lib.hid (fun w' (hb : Below w.heap.size w w') => RefWords11_any A c d w' (HD.out.below hb (Nat.le_refl _)) HBT.out hdl)
  have HPT := Lib.hid (fun w' (hb : Below w.heap.size w w') => RefPointers11_any B c2 ks w' (HX.out.kids.on hb (Nat.le_refl _)) (by omega))
  have HTD : Hid (trimmedN (.mk k e n d ks) = (decide (k = 1 → 8 * wordsT d = d.length ∧ ptrsT ks = ks.length) && trimmedK ks)) := Lib.hid (by simp only [trimmedN])
  have hwb : wordsT d ≤ 1099511627776 := by have := wordsF_le d d.length; unfold wordsT; omega
  have hpb := ptrsT_le ks
  clear hx ih hso
  generalize trimmedN (.mk k e n d ks) = T at *
  go_enter Tryd.func16, Tryd.ntmps16
  have hcase : (k ≠ 1) ∨ (k = 1 ∧ 8 * wordsT d ≠ d.length) ∨ (k = 1 ∧ 8 * wordsT d = d.length ∧ ptrsT ks ≠ ks.length) ∨ (k = 1 ∧ 8 * wordsT d = d.length ∧ ptrsT ks = ks.length) := by
    by_cases h1 : k = 1 <;> by_cases h2 : 8 * wordsT d = d.length <;> by_cases h3 : ptrsT ks = ks.length <;> simp [h1, h2, h3]
  rcases hcase with h1 | ⟨h1, h2⟩ | ⟨h1, h2, h3⟩ | ⟨h1, h2, h3⟩
  · have HYES : Hid (T = trimmedK ks) := Lib.hid (by rw [HTD.out, decide_eq_true (fun h => absurd h h1), Bool.true_and])
    have t1 : (k == 1) = false := by simpa using h1
    have H1 := Lib.hid h1
    clear h1
    go_wp2_with fail
    refine abs_code10 (F := fun W => Blk W w.heap.size #[.int .i64 k, .int .i64 e, .int .i64 n, .slice A d.length c, .slice B ks.length c2] ∧ Below w.heap.size w W) ⟨Blk.fresh _ _ _, (Below.refl _ _).alloc (Nat.le_refl _) _⟩ ?_
    rintro w1 ⟨h2, hb⟩
    have H2 := Lib.hid h2
    have HB := Lib.hid hb
    clear h2 hb
    rename_i KK hKK
    refine wp_region_chain (by kernel_rfl) (by kernel_rfl) ?_
    refine chain_val (u := ?_) [1] rfl (by kernel_rfl) trivial (fun ρ wc hbc hcn hk => ?_) ?_; rotate_left
    · obtain ⟨hcn, -⟩ := hcn
      simp at hk
      go_simp
      rfl
    refine chain_val (u := ?_) [4] rfl (by kernel_rfl) trivial (fun ρ wc hbc hcn hk => ?_) ?_; rotate_left
    · obtain ⟨hcn, -⟩ := hcn
      simp at hk
      obtain ⟨x2, y2, z2⟩ := H2.out.drew.below hbc
      go_simp
      rfl
    refine chain_val (u := ?_) [5] rfl (by kernel_rfl) trivial (fun ρ wc hbc hcn hk => ?_) ?_; rotate_left
    · obtain ⟨hcn, -⟩ := hcn
      simp at hk
      go_simp
      rfl
    refine chain_val (u := ?_) [6] rfl (by kernel_rfl) trivial (fun ρ wc hbc hcn hk => ?_) ?_; rotate_left
    · obtain ⟨hcn, -⟩ := hcn
      simp at hk
      go_simp
      rfl
    refine chain_skip (s := 7) (c := false) rfl rfl (by decide +kernel) rfl rfl (fun w x hx => by simpa using hx) ?_
    refine chain_skip (s := 7) (c := false) rfl rfl (by decide +kernel) rfl rfl (fun w x hx => by simpa using hx) ?_
    refine chain_skip (s := 7) (c := false) rfl rfl (by decide +kernel) rfl rfl (fun w x hx => by simpa using hx) ?_
    refine chain_skip (s := 7) (c := false) rfl rfl (by decide +kernel) rfl rfl (fun w x hx => by simpa using hx) ?_
    refine chain_skip (s := 7) (c := false) rfl rfl (by decide +kernel) rfl rfl (fun w x hx => by simpa using hx) ?_
    refine chain_skip (s := 7) (c := false) rfl rfl (by decide +kernel) rfl rfl (fun w x hx => by simpa using hx) ?_
    refine chain_skip (s := 7) (c := false) rfl rfl (by decide +kernel) rfl rfl (fun w x hx => by simpa using hx) ?_
    refine chain_skip (s := 7) (c := false) rfl rfl (by decide +kernel) rfl rfl (fun w x hx => by simpa using hx) ?_
    refine chain_skip (s := 7) (c := false) rfl rfl (by decide +kernel) rfl rfl (fun w x hx => by simpa using hx) ?_
    refine chain_skipU (s := 16) rfl rfl (by decide +kernel) rfl (fun w x hx => by simpa using hx) ?_
    refine chain_skipU (s := 16) rfl rfl (by decide +kernel) rfl (fun w x hx => by simpa using hx) ?_
    refine chain_skipU (s := 16) rfl rfl (by decide +kernel) rfl (fun w x hx => by simpa using hx) ?_
    refine chain_skipU (s := 16) rfl rfl (by decide +kernel) rfl (fun w x hx => by simpa using hx) ?_
    refine chain_skipU (s := 16) rfl rfl (by decide +kernel) rfl (fun w x hx => by simpa using hx) ?_
    refine chain_skipU (s := 16) rfl rfl (by decide +kernel) rfl (fun w x hx => by simpa using hx) ?_
    refine chain_skipU (s := 16) rfl rfl (by decide +kernel) rfl (fun w x hx => by simpa using hx) ?_
    refine chain_skip (s := 7) (c := false) rfl rfl (by decide +kernel) rfl rfl (fun w x hx => by simpa using hx) ?_
    refine chain_val (u := ?_) [7, 24] rfl (by kernel_rfl) trivial (fun ρ wc hbc hcn hk => ?_) ?_; rotate_left
    · obtain ⟨hcn, -⟩ := hcn
      simp at hk
      go_simp
      rfl
    refine chain_end_lit 40 rfl (fun ff w7 hb7 hk => ?_)
    refine hKK _ _ ?_
    simp [AllN] at hk
    simp only [frameL, hk]
    have hb7' : Below w1.heap.size w1 w7 := ⟨hb7.os, hb7.tape, hb7.output, hb7.size, hb7.block⟩
    have G2 := Lib.hid (H2.out.below hb7')
    have GB := Lib.hid (bel_on HB.out hb7')
    clear hb7 hb7' hk H2 HB
    obtain ⟨x2, y2, z2⟩ := G2.out
    go_wp2
    go_loopw [3] (fun i wr => ∃ j : Nat, j ≤ ks.length ∧ i = .int .i64 j ∧ trimmedK (ks.take j) = true ∧ Blk wr w.heap.size #[.int .i64 k, .int .i64 e, .int .i64 n, .slice A d.length c, .slice B ks.length c2] ∧ Below w.heap.size w wr) (fun i _ => ks.length - (intOf i).toNat)
    case atStart => exact ⟨0, by omega, rfl, by simp [trimmedK], G2.out, GB.out⟩
    case round =>
      obtain ⟨j, hj, rfl, htk, hB, hbr⟩ := hrel
      have HB := Lib.hid hB
      have HR := Lib.hid hbr
      have HTK := Lib.hid htk
      clear hbr htk x2 y2 z2
      obtain ⟨x1, y1, z1⟩ := hB
      by_cases hlt : j < ks.length
      · obtain ⟨b, off, Aa, ca, Ba, cb, rfl, k0, k1, k2, k3, k4, hsub⟩ := HX.out.kids.atIn HR.out (Nat.le_refl _) hlt
        have hz := sizeN_kid (List.getElem_mem hlt)
        have HC := Lib.hid (HI.out ks[j] (List.getElem_mem hlt) Aa ca Ba cb wr (hsub.on HR.out (Nat.le_refl _)) (by omega))
        have HT := Lib.hid (trimmedK_take ks j hlt)
        have HN := Lib.hid (trimmedK_no ks j hlt)
        clear hsub
        generalize ks[j] = kx at *
        go_wp2_with fail
        refine HC.out.mono ?_
        rintro r w9 ⟨rfl, hb9⟩
        have HB9 : Hid (Below w.heap.size w w9) := Lib.hid (bel_on HR.out hb9)
        have B9 := Lib.hid (HB.out.below hb9)
        clear hb9 x1 y1 z1 k0 k1 k2 k3 k4 HB HR
        obtain ⟨x1, y1, z1⟩ := B9.out
        cases hvx : trimmedN kx with
        | false =>
          have HRR : Hid (T = false) := Lib.hid (by rw [HTD.out, HN.out hvx, Bool.and_false])
          clear hvx
          go_wp2
          go_ret
          exact ⟨by rw [HRR.out]; rfl, HB9.out⟩
        | true =>
          have HT2 : Hid (trimmedK (ks.take (j + 1)) = true) := Lib.hid (by rw [HT.out, HTK.out, hvx]; rfl)
          clear hvx
          go_wp2
          go_roundw
          case rel => exact ⟨j + 1, by omega, by go_num, HT2.out, B9.out, HB9.out⟩
          case measure => simp [intOf]; omega
      · obtain rfl : j = ks.length := by omega
        go_wp2
        go_ret
        exact ⟨by rw [HYES.out, ← HTK.out, List.take_length]; rfl, HR.out⟩
  · have HNO : Hid (T = false) := Lib.hid (by rw [HTD.out, decide_eq_false (fun h => h2 (h h1).1), Bool.false_and])
    have t1 : (k == 1) = true := by simpa using h1
    have t2 : ((8 * (wordsT d : Int)) != (d.length : Int)) = true := bne_iff_ne.2 (by omega)
    have H1 := Lib.hid h1
    have HH2 := Lib.hid h2
    clear h1 h2
    go_wp2_with fail
    refine abs_code10 (F := fun W => Blk W w.heap.size #[.int .i64 k, .int .i64 e, .int .i64 n, .slice A d.length c, .slice B ks.length c2] ∧ Below w.heap.size w W) ⟨Blk.fresh _ _ _, (Below.refl _ _).alloc (Nat.le_refl _) _⟩ ?_
    rintro w1 ⟨h2, hb⟩
    have H2 := Lib.hid h2
    have HB := Lib.hid hb
    clear h2 hb
    rename_i KK hKK
    refine wp_region_chain (by kernel_rfl) (by kernel_rfl) ?_
    refine chain_val (u := ?_) [1] rfl (by kernel_rfl) trivial (fun ρ wc hbc hcn hk => ?_) ?_; rotate_left
    · obtain ⟨hcn, -⟩ := hcn
      simp at hk
      go_simp
      rfl
    refine chain_val (u := ?_) [4] rfl (by kernel_rfl) trivial (fun ρ wc hbc hcn hk => ?_) ?_; rotate_left
    · obtain ⟨hcn, -⟩ := hcn
      simp at hk
      obtain ⟨x2, y2, z2⟩ := H2.out.drew.below hbc
      go_simp
      rfl
    refine chain_val (u := ?_) [5] rfl (by kernel_rfl) trivial (fun ρ wc hbc hcn hk => ?_) ?_; rotate_left
    · obtain ⟨hcn, -⟩ := hcn
      simp at hk
      go_simp
      rfl
    refine chain_val (u := ?_) [6] rfl (by kernel_rfl) trivial (fun ρ wc hbc hcn hk => ?_) ?_; rotate_left
    · obtain ⟨hcn, -⟩ := hcn
      simp at hk
      go_simp
      rfl
    refine chain_val (u := ?_) [1] rfl (by kernel_rfl) ⟨7, by decide +kernel, rfl, fun w x hx => by simpa using hx⟩ (fun ρ wc hbc hcn hk => ?_) ?_; rotate_left
    · obtain ⟨hcn, -⟩ := hcn
      simp at hk
      go_simp
      rfl
    refine chain_val (u := ?_) [8] rfl (by kernel_rfl) ⟨7, by decide +kernel, rfl, fun w x hx => by simpa using hx⟩ (fun ρ wc hbc hcn hk => ?_) ?_; rotate_left
    · obtain ⟨hcn, -⟩ := hcn
      simp at hk
      obtain ⟨x2, y2, z2⟩ := H2.out.drew.below hbc
      go_simp
      rfl
    refine chain_call (T := Is ?_) 26 [9] rfl (by kernel_rfl) ⟨7, by decide +kernel, rfl, fun w x hx => by simpa using hx⟩ (stable_is _) (fun ρ wc hbc hcn hk => ?_) ?_; rotate_left
    · obtain ⟨hcn, hfn⟩ := hcn
      simp at hk
      refine ⟨_, by go_simp; rfl, ?_⟩
      refine (HWD.out wc (bel_on (bel_drew HB.out) hbc)).mono ?_
      rintro e w' ⟨rfl, rfl⟩
      refine ⟨_, rfl, ?_, Below.refl _ _⟩
      unfold Is
      rfl
    refine chain_val (u := .int .i64 (8 * (wordsT d : Int))) [10] rfl (by kernel_rfl) ⟨7, by decide +kernel, rfl, fun w x hx => by simpa using hx⟩ (fun ρ wc hbc hcn hk => ?_) ?_
    · obtain ⟨hcn, -⟩ := hcn
      simp at hk
      go_simp
      first | rfl | (rw [wrap64_small (by omega) (by omega)]) | (congr 3; rw [IntKind.wrap_i64]; omega)
    refine chain_val (u := ?_) [1] rfl (by kernel_rfl) ⟨7, by decide +kernel, rfl, fun w x hx => by simpa using hx⟩ (fun ρ wc hbc hcn hk => ?_) ?_; rotate_left
    · obtain ⟨hcn, -⟩ := hcn
      simp at hk
      go_simp
      rfl
    refine chain_val (u := ?_) [12] rfl (by kernel_rfl) ⟨7, by decide +kernel, rfl, fun w x hx => by simpa using hx⟩ (fun ρ wc hbc hcn hk => ?_) ?_; rotate_left
    · obtain ⟨hcn, -⟩ := hcn
      simp at hk
      obtain ⟨x2, y2, z2⟩ := H2.out.drew.below hbc
      go_simp
      rfl
    refine chain_val (u := ?_) [13] rfl (by kernel_rfl) ⟨7, by decide +kernel, rfl, fun w x hx => by simpa using hx⟩ (fun ρ wc hbc hcn hk => ?_) ?_; rotate_left
    · obtain ⟨hcn, -⟩ := hcn
      simp at hk
      go_simp
      rfl
    refine chain_val (u := ?_) [11, 14] rfl (by kernel_rfl) ⟨7, by decide +kernel, rfl, fun w x hx => by simpa using hx⟩ (fun ρ wc hbc hcn hk => ?_) ?_; rotate_left
    · obtain ⟨hcn, -⟩ := hcn
      simp at hk
      go_simp
      rfl
    refine chain_val (u := ?_) [15] rfl (by kernel_rfl) ⟨7, by decide +kernel, rfl, fun w x hx => by simpa using hx⟩ (fun ρ wc hbc hcn hk => ?_) ?_; rotate_left
    · obtain ⟨hcn, -⟩ := hcn
      simp at hk
      go_simp
      rfl
    refine chain_skip (s := 16) (c := true) rfl rfl (by decide +kernel) rfl rfl (fun w x hx => by simpa using hx) ?_
    refine chain_skip (s := 16) (c := true) rfl rfl (by decide +kernel) rfl rfl (fun w x hx => by simpa using hx) ?_
    refine chain_skip (s := 16) (c := true) rfl rfl (by decide +kernel) rfl rfl (fun w x hx => by simpa using hx) ?_
    refine chain_skip (s := 16) (c := true) rfl rfl (by decide +kernel) rfl rfl (fun w x hx => by simpa using hx) ?_
    refine chain_skip (s := 16) (c := true) rfl rfl (by decide +kernel) rfl rfl (fun w x hx => by simpa using hx) ?_
    refine chain_skip (s := 16) (c := true) rfl rfl (by decide +kernel) rfl rfl (fun w x hx => by simpa using hx) ?_
    refine chain_skip (s := 16) (c := true) rfl rfl (by decide +kernel) rfl rfl (fun w x hx => by simpa using hx) ?_
    refine chain_val (u := ?_) [16, 23] rfl (by kernel_rfl) ⟨7, by decide +kernel, rfl, fun w x hx => by simpa using hx⟩ (fun ρ wc hbc hcn hk => ?_) ?_; rotate_left
    · obtain ⟨hcn, -⟩ := hcn
      simp at hk
      go_simp
      rfl
    refine chain_val (u := ?_) [7, 24] rfl (by kernel_rfl) trivial (fun ρ wc hbc hcn hk => ?_) ?_; rotate_left
    · obtain ⟨hcn, -⟩ := hcn
      simp at hk
      go_simp
      rfl
    refine chain_end_lit 40 rfl (fun ff w7 hb7 hk => ?_)
    refine hKK _ _ ?_
    simp [AllN] at hk
    simp only [frameL, hk]
    have hb7' : Below w1.heap.size w1 w7 := ⟨hb7.os, hb7.tape, hb7.output, hb7.size, hb7.block⟩
    have G2 := Lib.hid (H2.out.below hb7')
    have GB := Lib.hid (bel_on HB.out hb7')
    clear hb7 hb7' hk H2 HB
    obtain ⟨x2, y2, z2⟩ := G2.out
    go_wp2
    go_ret
    exact ⟨by rw [HNO.out]; rfl, GB.out⟩
  · have HNO : Hid (T = false) := Lib.hid (by rw [HTD.out, decide_eq_false (fun h => h3 (h h1).2), Bool.false_and])
    have t1 : (k == 1) = true := by simpa using h1
    have t2 : ((8 * (wordsT d : Int)) != (d.length : Int)) = false := bne_eq_false_iff_eq.2 (by omega)
    have t3 : ((ptrsT ks : Int) != (ks.length : Int)) = true := bne_iff_ne.2 (by omega)
    have t3' : (ptrsT ks != ks.length) = true := bne_iff_ne.2 h3
    have H1 := Lib.hid h1
    have HH2 := Lib.hid h2
    have HH3 := Lib.hid h3
    clear h1 h2 h3
    go_wp2_with fail
    refine abs_code10 (F := fun W => Blk W w.heap.size #[.int .i64 k, .int .i64 e, .int .i64 n, .slice A d.length c, .slice B ks.length c2] ∧ Below w.heap.size w W) ⟨Blk.fresh _ _ _, (Below.refl _ _).alloc (Nat.le_refl _) _⟩ ?_
    rintro w1 ⟨h2, hb⟩
    have H2 := Lib.hid h2
    have HB := Lib.hid hb
    clear h2 hb
    rename_i KK hKK
    refine wp_region_chain (by kernel_rfl) (by kernel_rfl) ?_
    refine chain_val (u := ?_) [1] rfl (by kernel_rfl) trivial (fun ρ wc hbc hcn hk => ?_) ?_; rotate_left
    · obtain ⟨hcn, -⟩ := hcn
      simp at hk
      go_simp
      rfl
    refine chain_val (u := ?_) [4] rfl (by kernel_rfl) trivial (fun ρ wc hbc hcn hk => ?_) ?_; rotate_left
    · obtain ⟨hcn, -⟩ := hcn
      simp at hk
      obtain ⟨x2, y2, z2⟩ := H2.out.drew.below hbc
      go_simp
      rfl
    refine chain_val (u := ?_) [5] rfl (by kernel_rfl) trivial (fun ρ wc hbc hcn hk => ?_) ?_; rotate_left
    · obtain ⟨hcn, -⟩ := hcn
      simp at hk
      go_simp
      rfl
    refine chain_val (u := ?_) [6] rfl (by kernel_rfl) trivial (fun ρ wc hbc hcn hk => ?_) ?_; rotate_left
    · obtain ⟨hcn, -⟩ := hcn
      simp at hk
      go_simp
      rfl
    refine chain_val (u := ?_) [1] rfl (by kernel_rfl) ⟨7, by decide +kernel, rfl, fun w x hx => by simpa using hx⟩ (fun ρ wc hbc hcn hk => ?_) ?_; rotate_left
    · obtain ⟨hcn, -⟩ := hcn
      simp at hk
      go_simp
      rfl
    refine chain_val (u := ?_) [8] rfl (by kernel_rfl) ⟨7, by decide +kernel, rfl, fun w x hx => by simpa using hx⟩ (fun ρ wc hbc hcn hk => ?_) ?_; rotate_left
    · obtain ⟨hcn, -⟩ := hcn
      simp at hk
      obtain ⟨x2, y2, z2⟩ := H2.out.drew.below hbc
      go_simp
      rfl
    refine chain_call (T := Is ?_) 26 [9] rfl (by kernel_rfl) ⟨7, by decide +kernel, rfl, fun w x hx => by simpa using hx⟩ (stable_is _) (fun ρ wc hbc hcn hk => ?_) ?_; rotate_left
    · obtain ⟨hcn, hfn⟩ := hcn
      simp at hk
      refine ⟨_, by go_simp; rfl, ?_⟩
      refine (HWD.out wc (bel_on (bel_drew HB.out) hbc)).mono ?_
      rintro e w' ⟨rfl, rfl⟩
      refine ⟨_, rfl, ?_, Below.refl _ _⟩
      unfold Is
      rfl
    refine chain_val (u := .int .i64 (8 * (wordsT d : Int))) [10] rfl (by kernel_rfl) ⟨7, by decide +kernel, rfl, fun w x hx => by simpa using hx⟩ (fun ρ wc hbc hcn hk => ?_) ?_
    · obtain ⟨hcn, -⟩ := hcn
      simp at hk
      go_simp
      first | rfl | (rw [wrap64_small (by omega) (by omega)]) | (congr 3; rw [IntKind.wrap_i64]; omega)
    refine chain_val (u := ?_) [1] rfl (by kernel_rfl) ⟨7, by decide +kernel, rfl, fun w x hx => by simpa using hx⟩ (fun ρ wc hbc hcn hk => ?_) ?_; rotate_left
    · obtain ⟨hcn, -⟩ := hcn
      simp at hk
      go_simp
      rfl
    refine chain_val (u := ?_) [12] rfl (by kernel_rfl) ⟨7, by decide +kernel, rfl, fun w x hx => by simpa using hx⟩ (fun ρ wc hbc hcn hk => ?_) ?_; rotate_left
    · obtain ⟨hcn, -⟩ := hcn
      simp at hk
      obtain ⟨x2, y2, z2⟩ := H2.out.drew.below hbc
      go_simp
      rfl
    refine chain_val (u := ?_) [13] rfl (by kernel_rfl) ⟨7, by decide +kernel, rfl, fun w x hx => by simpa using hx⟩ (fun ρ wc hbc hcn hk => ?_) ?_; rotate_left
    · obtain ⟨hcn, -⟩ := hcn
      simp at hk
      go_simp
      rfl
    refine chain_val (u := ?_) [11, 14] rfl (by kernel_rfl) ⟨7, by decide +kernel, rfl, fun w x hx => by simpa using hx⟩ (fun ρ wc hbc hcn hk => ?_) ?_; rotate_left
    · obtain ⟨hcn, -⟩ := hcn
      simp at hk
      go_simp
      rfl
    refine chain_val (u := ?_) [15] rfl (by kernel_rfl) ⟨7, by decide +kernel, rfl, fun w x hx => by simpa using hx⟩ (fun ρ wc hbc hcn hk => ?_) ?_; rotate_left
    · obtain ⟨hcn, -⟩ := hcn
      simp at hk
      go_simp
      rfl
    refine chain_val (u := ?_) [1] rfl (by kernel_rfl) ⟨16, by decide +kernel, rfl, fun w x hx => by simpa using hx⟩ (fun ρ wc hbc hcn hk => ?_) ?_; rotate_left
    · obtain ⟨hcn, -⟩ := hcn
      simp at hk
      go_simp
      rfl
    refine chain_val (u := ?_) [17] rfl (by kernel_rfl) ⟨16, by decide +kernel, rfl, fun w x hx => by simpa using hx⟩ (fun ρ wc hbc hcn hk => ?_) ?_; rotate_left
    · obtain ⟨hcn, -⟩ := hcn
      simp at hk
      obtain ⟨x2, y2, z2⟩ := H2.out.drew.below hbc
      go_simp
      rfl
    refine chain_call (T := Is ?_) 27 [18] rfl (by kernel_rfl) ⟨16, by decide +kernel, rfl, fun w x hx => by simpa using hx⟩ (stable_is _) (fun ρ wc hbc hcn hk => ?_) ?_; rotate_left
    · obtain ⟨hcn, hfn⟩ := hcn
      simp at hk
      refine ⟨_, by go_simp; rfl, ?_⟩
      refine (HPT.out wc (bel_on (bel_drew HB.out) hbc)).mono ?_
      rintro e w' ⟨rfl, rfl⟩
      refine ⟨_, rfl, ?_, Below.refl _ _⟩
      unfold Is
      rfl
    refine chain_val (u := ?_) [1] rfl (by kernel_rfl) ⟨16, by decide +kernel, rfl, fun w x hx => by simpa using hx⟩ (fun ρ wc hbc hcn hk => ?_) ?_; rotate_left
    · obtain ⟨hcn, -⟩ := hcn
      simp at hk
      go_simp
      rfl
    refine chain_val (u := ?_) [20] rfl (by kernel_rfl) ⟨16, by decide +kernel, rfl, fun w x hx => by simpa using hx⟩ (fun ρ wc hbc hcn hk => ?_) ?_; rotate_left
    · obtain ⟨hcn, -⟩ := hcn
      simp at hk
      obtain ⟨x2, y2, z2⟩ := H2.out.drew.below hbc
      go_simp
      rfl
    refine chain_val (u := ?_) [21] rfl (by kernel_rfl) ⟨16, by decide +kernel, rfl, fun w x hx => by simpa using hx⟩ (fun ρ wc hbc hcn hk => ?_) ?_; rotate_left
    · obtain ⟨hcn, -⟩ := hcn
      simp at hk
      go_simp
      rfl
    refine chain_val (u := ?_) [19, 22] rfl (by kernel_rfl) ⟨16, by decide +kernel, rfl, fun w x hx => by simpa using hx⟩ (fun ρ wc hbc hcn hk => ?_) ?_; rotate_left
    · obtain ⟨hcn, -⟩ := hcn
      simp at hk
      go_simp
      rfl
    refine chain_val (u := ?_) [16, 23] rfl (by kernel_rfl) ⟨7, by decide +kernel, rfl, fun w x hx => by simpa using hx⟩ (fun ρ wc hbc hcn hk => ?_) ?_; rotate_left
    · obtain ⟨hcn, -⟩ := hcn
      simp at hk
      go_simp
      rfl
    refine chain_val (u := ?_) [7, 24] rfl (by kernel_rfl) trivial (fun ρ wc hbc hcn hk => ?_) ?_; rotate_left
    · obtain ⟨hcn, -⟩ := hcn
      simp at hk
      go_simp
      rfl
    refine chain_end_lit 40 rfl (fun ff w7 hb7 hk => ?_)
    refine hKK _ _ ?_
    simp [AllN] at hk
    simp only [frameL, hk]
    have hb7' : Below w1.heap.size w1 w7 := ⟨hb7.os, hb7.tape, hb7.output, hb7.size, hb7.block⟩
    have G2 := Lib.hid (H2.out.below hb7')
    have GB := Lib.hid (bel_on HB.out hb7')
    clear hb7 hb7' hk H2 HB
    obtain ⟨x2, y2, z2⟩ := G2.out
    go_wp2
    go_ret
    exact ⟨by rw [HNO.out]; rfl, GB.out⟩
  · have HYES : Hid (T = trimmedK ks) := Lib.hid (by rw [HTD.out, decide_eq_true (fun _ => ⟨h2, h3⟩), Bool.true_and])
    have t1 : (k == 1) = true := by simpa using h1
    have t2 : ((8 * (wordsT d : Int)) != (d.length : Int)) = false := bne_eq_false_iff_eq.2 (by omega)
    have t3 : ((ptrsT ks : Int) != (ks.length : Int)) = false := bne_eq_false_iff_eq.2 (by omega)
    have t3' : (ptrsT ks != ks.length) = false := by simpa using h3
    have H1 := Lib.hid h1
    have HH2 := Lib.hid h2
    have HH3 := Lib.hid h3
    clear h1 h2 h3
    go_wp2_with fail
    refine abs_code10 (F := fun W => Blk W w.heap.size #[.int .i64 k, .int .i64 e, .int .i64 n, .slice A d.length c, .slice B ks.length c2] ∧ Below w.heap.size w W) ⟨Blk.fresh _ _ _, (Below.refl _ _).alloc (Nat.le_refl _) _⟩ ?_
    rintro w1 ⟨h2, hb⟩
    have H2 := Lib.hid h2
    have HB := Lib.hid hb
    clear h2 hb
    rename_i KK hKK
    refine wp_region_chain (by kernel_rfl) (by kernel_rfl) ?_
    refine chain_val (u := ?_) [1] rfl (by kernel_rfl) trivial (fun ρ wc hbc hcn hk => ?_) ?_; rotate_left
    · obtain ⟨hcn, -⟩ := hcn
      simp at hk
      go_simp
      rfl
    refine chain_val (u := ?_) [4] rfl (by kernel_rfl) trivial (fun ρ wc hbc hcn hk => ?_) ?_; rotate_left
    · obtain ⟨hcn, -⟩ := hcn
      simp at hk
      obtain ⟨x2, y2, z2⟩ := H2.out.drew.below hbc
      go_simp
      rfl
    refine chain_val (u := ?_) [5] rfl (by kernel_rfl) trivial (fun ρ wc hbc hcn hk => ?_) ?_; rotate_left
    · obtain ⟨hcn, -⟩ := hcn
      simp at hk
      go_simp
      rfl
    refine chain_val (u := ?_) [6] rfl (by kernel_rfl) trivial (fun ρ wc hbc hcn hk => ?_) ?_; rotate_left
    · obtain ⟨hcn, -⟩ := hcn
      simp at hk
      go_simp
      rfl
    refine chain_val (u := ?_) [1] rfl (by kernel_rfl) ⟨7, by decide +kernel, rfl, fun w x hx => by simpa using hx⟩ (fun ρ wc hbc hcn hk => ?_) ?_; rotate_left
    · obtain ⟨hcn, -⟩ := hcn
      simp at hk
      go_simp
      rfl
    refine chain_val (u := ?_) [8] rfl (by kernel_rfl) ⟨7, by decide +kernel, rfl, fun w x hx => by simpa using hx⟩ (fun ρ wc hbc hcn hk => ?_) ?_; rotate_left
    · obtain ⟨hcn, -⟩ := hcn
      simp at hk
      obtain ⟨x2, y2, z2⟩ := H2.out.drew.below hbc
      go_simp
      rfl
    refine chain_call (T := Is ?_) 26 [9] rfl (by kernel_rfl) ⟨7, by decide +kernel, rfl, fun w x hx => by simpa using hx⟩ (stable_is _) (fun ρ wc hbc hcn hk => ?_) ?_; rotate_left
    · obtain ⟨hcn, hfn⟩ := hcn
      simp at hk
      refine ⟨_, by go_simp; rfl, ?_⟩
      refine (HWD.out wc (bel_on (bel_drew HB.out) hbc)).mono ?_
      rintro e w' ⟨rfl, rfl⟩
      refine ⟨_, rfl, ?_, Below.refl _ _⟩
      unfold Is
      rfl
    refine chain_val (u := .int .i64 (8 * (wordsT d : Int))) [10] rfl (by kernel_rfl) ⟨7, by decide +kernel, rfl, fun w x hx => by simpa using hx⟩ (fun ρ wc hbc hcn hk => ?_) ?_
    · obtain ⟨hcn, -⟩ := hcn
      simp at hk
      go_simp
      first | rfl | (rw [wrap64_small (by omega) (by omega)]) | (congr 3; rw [IntKind.wrap_i64]; omega)
    refine chain_val (u := ?_) [1] rfl (by kernel_rfl) ⟨7, by decide +kernel, rfl, fun w x hx => by simpa using hx⟩ (fun ρ wc hbc hcn hk => ?_) ?_; rotate_left
    · obtain ⟨hcn, -⟩ := hcn
      simp at hk
      go_simp
      rfl
    refine chain_val (u := ?_) [12] rfl (by kernel_rfl) ⟨7, by decide +kernel, rfl, fun w x hx => by simpa using hx⟩ (fun ρ wc hbc hcn hk => ?_) ?_; rotate_left
    · obtain ⟨hcn, -⟩ := hcn
      simp at hk
      obtain ⟨x2, y2, z2⟩ := H2.out.drew.below hbc
      go_simp
      rfl
    refine chain_val (u := ?_) [13] rfl (by kernel_rfl) ⟨7, by decide +kernel, rfl, fun w x hx => by simpa using hx⟩ (fun ρ wc hbc hcn hk => ?_) ?_; rotate_left
    · obtain ⟨hcn, -⟩ := hcn
      simp at hk
      go_simp
      rfl
    refine chain_val (u := ?_) [11, 14] rfl (by kernel_rfl) ⟨7, by decide +kernel, rfl, fun w x hx => by simpa using hx⟩ (fun ρ wc hbc hcn hk => ?_) ?_; rotate_left
    · obtain ⟨hcn, -⟩ := hcn
      simp at hk
      go_simp
      rfl
    refine chain_val (u := ?_) [15] rfl (by kernel_rfl) ⟨7, by decide +kernel, rfl, fun w x hx => by simpa using hx⟩ (fun ρ wc hbc hcn hk => ?_) ?_; rotate_left
    · obtain ⟨hcn, -⟩ := hcn
      simp at hk
      go_simp
      rfl
    refine chain_val (u := ?_) [1] rfl (by kernel_rfl) ⟨16, by decide +kernel, rfl, fun w x hx => by simpa using hx⟩ (fun ρ wc hbc hcn hk => ?_) ?_; rotate_left
    · obtain ⟨hcn, -⟩ := hcn
      simp at hk
      go_simp
      rfl
    refine chain_val (u := ?_) [17] rfl (by kernel_rfl) ⟨16, by decide +kernel, rfl, fun w x hx => by simpa using hx⟩ (fun ρ wc hbc hcn hk => ?_) ?_; rotate_left
    · obtain ⟨hcn, -⟩ := hcn
      simp at hk
      obtain ⟨x2, y2, z2⟩ := H2.out.drew.below hbc
      go_simp
      rfl
    refine chain_call (T := Is ?_) 27 [18] rfl (by kernel_rfl) ⟨16, by decide +kernel, rfl, fun w x hx => by simpa using hx⟩ (stable_is _) (fun ρ wc hbc hcn hk => ?_) ?_; rotate_left
    · obtain ⟨hcn, hfn⟩ := hcn
      simp at hk
      refine ⟨_, by go_simp; rfl, ?_⟩
      refine (HPT.out wc (bel_on (bel_drew HB.out) hbc)).mono ?_
      rintro e w' ⟨rfl, rfl⟩
      refine ⟨_, rfl, ?_, Below.refl _ _⟩
      unfold Is
      rfl
    refine chain_val (u := ?_) [1] rfl (by kernel_rfl) ⟨16, by decide +kernel, rfl, fun w x hx => by simpa using hx⟩ (fun ρ wc hbc hcn hk => ?_) ?_; rotate_left
    · obtain ⟨hcn, -⟩ := hcn
      simp at hk
      go_simp
      rfl
    refine chain_val (u := ?_) [20] rfl (by kernel_rfl) ⟨16, by decide +kernel, rfl, fun w x hx => by simpa using hx⟩ (fun ρ wc hbc hcn hk => ?_) ?_; rotate_left
    · obtain ⟨hcn, -⟩ := hcn
      simp at hk
      obtain ⟨x2, y2, z2⟩ := H2.out.drew.below hbc
      go_simp
      rfl
    refine chain_val (u := ?_) [21] rfl (by kernel_rfl) ⟨16, by decide +kernel, rfl, fun w x hx => by simpa using hx⟩ (fun ρ wc hbc hcn hk => ?_) ?_; rotate_left
    · obtain ⟨hcn, -⟩ := hcn
      simp at hk
      go_simp
      rfl
    refine chain_val (u := ?_) [19, 22] rfl (by kernel_rfl) ⟨16, by decide +kernel, rfl, fun w x hx => by simpa using hx⟩ (fun ρ wc hbc hcn hk => ?_) ?_; rotate_left
    · obtain ⟨hcn, -⟩ := hcn
      simp at hk
      go_simp
      rfl
    refine chain_val (u := ?_) [16, 23] rfl (by kernel_rfl) ⟨7, by decide +kernel, rfl, fun w x hx => by simpa using hx⟩ (fun ρ wc hbc hcn hk => ?_) ?_; rotate_left
    · obtain ⟨hcn, -⟩ := hcn
      simp at hk
      go_simp
      rfl
    refine chain_val (u := ?_) [7, 24] rfl (by kernel_rfl) trivial (fun ρ wc hbc hcn hk => ?_) ?_; rotate_left
    · obtain ⟨hcn, -⟩ := hcn
      simp at hk
      go_simp
      rfl
    refine chain_end_lit 40 rfl (fun ff w7 hb7 hk => ?_)
    refine hKK _ _ ?_
    simp [AllN] at hk
    simp only [frameL, hk]
    have hb7' : Below w1.heap.size w1 w7 := ⟨hb7.os, hb7.tape, hb7.output, hb7.size, hb7.block⟩
    have G2 := Lib.hid (H2.out.below hb7')
    have GB := Lib.hid (bel_on HB.out hb7')
    clear hb7 hb7' hk H2 HB
    obtain ⟨x2, y2, z2⟩ := G2.out
    go_wp2
    go_loopw [3] (fun i wr => ∃ j : Nat, j ≤ ks.length ∧ i = .int .i64 j ∧ trimmedK (ks.take j) = true ∧ Blk wr w.heap.size #[.int .i64 k, .int .i64 e, .int .i64 n, .slice A d.length c, .slice B ks.length c2] ∧ Below w.heap.size w wr) (fun i _ => ks.length - (intOf i).toNat)
    case atStart => exact ⟨0, by omega, rfl, by simp [trimmedK], G2.out, GB.out⟩
    case round =>
      obtain ⟨j, hj, rfl, htk, hB, hbr⟩ := hrel
      have HB := Lib.hid hB
      have HR := Lib.hid hbr
      have HTK := Lib.hid htk
      clear hbr htk x2 y2 z2
      obtain ⟨x1, y1, z1⟩ := hB
      by_cases hlt : j < ks.length
      · obtain ⟨b, off, Aa, ca, Ba, cb, rfl, k0, k1, k2, k3, k4, hsub⟩ := HX.out.kids.atIn HR.out (Nat.le_refl _) hlt
        have hz := sizeN_kid (List.getElem_mem hlt)
        have HC := Lib.hid (HI.out ks[j] (List.getElem_mem hlt) Aa ca Ba cb wr (hsub.on HR.out (Nat.le_refl _)) (by omega))
        have HT := Lib.hid (trimmedK_take ks j hlt)
        have HN := Lib.hid (trimmedK_no ks j hlt)
        clear hsub
        generalize ks[j] = kx at *
        go_wp2_with fail
        refine HC.out.mono ?_
        rintro r w9 ⟨rfl, hb9⟩
        have HB9 : Hid (Below w.heap.size w w9) := Lib.hid (bel_on HR.out hb9)
        have B9 := Lib.hid (HB.out.below hb9)
        clear hb9 x1 y1 z1 k0 k1 k2 k3 k4 HB HR
        obtain ⟨x1, y1, z1⟩ := B9.out
        cases hvx : trimmedN kx with
        | false =>
          have HRR : Hid (T = false) := Lib.hid (by rw [HTD.out, HN.out hvx, Bool.and_false])
          clear hvx
          go_wp2
          go_ret
          exact ⟨by rw [HRR.out]; rfl, HB9.out⟩
        | true =>
          have HT2 : Hid (trimmedK (ks.take (j + 1)) = true) := Lib.hid (by rw [HT.out, HTK.out, hvx]; rfl)
          clear hvx
          go_wp2
          go_roundw
          case rel => exact ⟨j + 1, by omega, by go_num, HT2.out, B9.out, HB9.out⟩
          case measure => simp [intOf]; omega
      · obtain rfl : j = ks.length := by omega
        go_wp2
        go_ret
        exact ⟨by rw [HYES.out, ← HTK.out, List.take_length]; rfl, HR.out⟩
end Go.Proofs.YtfigoblpkbpenaaDoor
