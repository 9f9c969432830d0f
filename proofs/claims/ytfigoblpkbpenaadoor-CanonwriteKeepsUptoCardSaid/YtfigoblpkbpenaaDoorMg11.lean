/- The texts Ref10c (what is wanted of them), one after the other. -/
import Derived.Test.YtfigoblpkbpenaaDoorMg1
import Derived.Test.YtfigoblpkbpenaaDoorMg2
import Derived.Test.YtfigoblpkbpenaaDoorMg3
import Derived.Test.YtfigoblpkbpenaaDoorMg4
import Derived.Test.YtfigoblpkbpenaaDoorMg5
import Derived.Test.YtfigoblpkbpenaaDoorMg9
import Derived.Test.YtfigoblpkbpenaaDoorMg10
/- What the reference's Valid does to nodes. -/
namespace Go.Proofs.YtfigoblpkbpenaaDoor
open Go.ChangeShapes Go.WideShapes Go.ChangeAt Go.RowKit
set_option linter.unusedVariables false
set_option linter.unusedSimpArgs false
set_option maxRecDepth 100000
attribute [local simp] AllK KnowsV look Is
def GotB (base : Nat) (l : List Int) : Fact := fun v w => Got w base 5 .u8 v l
theorem stable_gotb (base : Nat) (l : List Int) : stable (GotB base l) := fun v w w' h hb => Got.below h hb (Nat.le_refl _)
theorem bytesI_bd (e c : Int) (h0 : 0 ≤ c) (h1 : c ≤ 536870911) : 0 ≤ bytesI e c ∧ bytesI e c ≤ 4294967296 := by
  have h := bitsI_mul e c h0
  unfold bytesI
  omega
theorem allN_at10 {P : Nat → Prop} : ∀ {n s : Nat}, AllN P n s → ∀ j, s ≤ j → j < s + n → P j
  | 0, _, _, _, _, h => by omega
  | n + 1, s, h, j, h1, h2 => by
    by_cases e : s = j
    · subst e; exact h.1
    · exact allN_at10 h.2 j (by omega) (by omega)
attribute [local irreducible] headB trimL bytesI

set_option maxHeartbeats 4000000 in
set_option maxRecDepth 100000 in
theorem RefValid_node : ∀ (x : Nd) (A : Option Addr) (c : Nat) (B : Option Addr) (c2 : Nat) (w : World), NdR w A c B c2 x → sizeN x ≤ 1099511627776 →
    Calls Tryd.prog 15 #[.agg #[.int .i64 x.k, .int .i64 x.e, .int .i64 x.n, .slice A x.d.length c, .slice B x.ks.length c2]] w fun r w' => r = .returned (.bool (validN x)) ∧ Below w.heap.size w w' := by
  refine Nd.ind ?_
  intro k e n d ks ih A c B c2 w hx hs
  simp only [Nd.k, Nd.e, Nd.n, Nd.d, Nd.ks]
  have HX := Lib.hid hx
  have HI := Lib.hid ih
  have HO := Lib.hid hx.open
  have hso : sizeN (.mk k e n d ks) = 1 + d.length + sizeK ks := by simp only [sizeN]
  rw [hso] at hs
  have hkl := sizeK_length ks
  have HV : Hid (validN (.mk k e n d ks) = (validK k e ks && headB k e n d ks)) := Lib.hid (by simp only [validN])
  have HDM : Hid (d.length ≤ 140737488355327) := Lib.hid (by omega)
  have HBT := Lib.hid hx.open.2.2.2.2.1
  have HL0 : Hid (((ks.length : Int) == 0) = decide (ks = [])) := Lib.hid (by cases ks <;> simp; omega)
  clear hx ih hso
  generalize validN (.mk k e n d ks) = V at *
  go_enter Tryd.func15, Tryd.ntmps15
  go_wp2
  go_loopw [3] (fun i wr => ∃ j : Nat, j ≤ ks.length ∧ i = .int .i64 j ∧ validK k e (ks.take j) = true ∧ Blk wr w.heap.size #[.int .i64 k, .int .i64 e, .int .i64 n, .slice A d.length c, .slice B ks.length c2] ∧ Below w.heap.size w wr) (fun i _ => ks.length - (intOf i).toNat)
  case atStart => exact ⟨0, by omega, rfl, by simp [validK], Blk.fresh _ _ _, (Below.refl _ _).alloc (Nat.le_refl _) _⟩
  case round =>
    obtain ⟨j, hj, rfl, hvk, hB, hbr⟩ := hrel
    have HB := Lib.hid hB
    have HR := Lib.hid hbr
    have HVK := Lib.hid hvk
    clear hbr hvk
    obtain ⟨x1, y1, z1⟩ := hB
    by_cases hlt : j < ks.length
    · obtain ⟨b, off, Aa, ca, Ba, cb, rfl, k0, k1, k2, k3, k4, hsub⟩ := HX.out.kids.atIn HR.out (Nat.le_refl _) hlt
      have hz := sizeN_kid (List.getElem_mem hlt)
      have HC := Lib.hid (HI.out ks[j] (List.getElem_mem hlt) Aa ca Ba cb wr (hsub.on HR.out (Nat.le_refl _)) (by omega))
      have HT := Lib.hid (validK_take k e ks j hlt)
      have HN := Lib.hid (validK_no k e ks j hlt)
      have hcc : ∀ w', Below wr.heap.size wr w' → w'.cell? ⟨b, off + j * 5, none⟩ = some (.int .i64 ks[j].k) := fun w' hb => (hb.cell (p := ⟨b, off + j * 5, none⟩) (World.block_lt_of_cell? wr ⟨b, off + j * 5, none⟩ k0)).trans k0
      have HCC := Lib.hid hcc
      clear hsub hcc
      generalize ks[j] = kx at *
      go_wp2_with fail
      refine HC.out.mono ?_
      rintro r w2 ⟨rfl, hb2⟩
      have k0' := HCC.out w2 hb2
      have HB2 : Hid (Below w.heap.size w w2) := Lib.hid (bel_on HR.out hb2)
      have B2 := HB.out.below hb2
      have HBB := Lib.hid B2
      clear hb2 x1 y1 z1 k0 k1 k2 k3 k4 HB HR
      obtain ⟨x1, y1, z1⟩ := B2
      cases hvx : validN kx with
      | false =>
        have HRR : Hid (V = false) := Lib.hid (by rw [HV.out, HN.out (by rw [hvx]; rfl)]; rfl)
        clear hvx
        go_wp2
        go_ret
        exact ⟨by rw [HRR.out]; rfl, HB2.out⟩
      | true =>
        by_cases hbad : k = 2 ∧ e = 7 ∧ kx.k ≠ 1
        · have HRR : Hid (V = false) := Lib.hid (by rw [HV.out, HN.out (by rw [hvx]; simp [hbad.1, hbad.2.1, hbad.2.2])]; rfl)
          obtain ⟨rfl, rfl, hk1⟩ := hbad
          have t1 : (kx.k != 1) = true := by simpa using hk1
          clear hvx hk1
          go_wp2
          go_ret
          exact ⟨by rw [HRR.out]; rfl, HB2.out⟩
        · have HOK : Hid (validK k e (ks.take (j + 1)) = true) := Lib.hid (by rw [HT.out, HVK.out, hvx]; simp [hbad])
          have hor : (k == 2) = false ∨ ((k == 2) = true ∧ (e == 7) = false) ∨ ((k == 2) = true ∧ (e == 7) = true ∧ (kx.k != 1) = false) := by
            by_cases h1 : k = 2
            · by_cases h2 : e = 7
              · right; right; exact ⟨by simpa using h1, by simpa using h2, by simp; exact Decidable.not_not.1 (fun h => hbad ⟨h1, h2, h⟩)⟩
              · right; left; exact ⟨by simpa using h1, by simpa using h2⟩
            · left; simpa using h1
          clear hbad hvx
          rcases hor with t1 | ⟨t1, t2⟩ | ⟨t1, t2, t3⟩ <;>
          ( go_wp2
            go_roundw
            case rel => exact ⟨j + 1, by omega, by go_num, HOK.out, HBB.out, HB2.out⟩
            case measure => simp [intOf]; omega)
    · obtain rfl : j = ks.length := by omega
      have HV2 : Hid (V = headB k e n d ks) := Lib.hid (by
        have h := HVK.out
        rw [List.take_length] at h
        rw [HV.out, h]
        rfl)
      clear HV HVK
      by_cases h0 : k = 0
      · have HH : Hid (headB k e n d ks = decide (e = 0 ∧ n = 0 ∧ d.length = 0 ∧ ks.length = 0)) := Lib.hid (by unfold headB; rw [if_pos h0])
        subst h0
        go_wp2
        all_goals
          go_ret
          refine ⟨?_, HR.out⟩
          rw [HV2.out, HH.out]
          congr 2
          first | (simp_all; done) | (have hl0 := HL0.out; simp_all; done) | (simp_all; first | omega | (intro hq; omega) | (rw [decide_eq_true (show d.length ≤ 524280 by omega), Bool.true_and, decide_eq_decide]; omega))
      by_cases h1 : k = 1
      · have HH : Hid (headB k e n d ks = decide (e = 0 ∧ n = 0 ∧ d.length % 8 = 0 ∧ d.length ≤ 524280 ∧ ks.length ≤ 65535)) := Lib.hid (by unfold headB; rw [if_neg h0, if_pos h1])
        subst h1
        have hd8 : ((d.length : Int) % 8 = 0) ↔ d.length % 8 = 0 := by omega
        go_wp2
        all_goals
          go_ret
          refine ⟨?_, HR.out⟩
          rw [HV2.out, HH.out]
          congr 2
          first | (simp_all; done) | (have hl0 := HL0.out; simp_all; done) | (simp_all; first | omega | (intro hq; omega) | (rw [decide_eq_true (show d.length ≤ 524280 by omega), Bool.true_and, decide_eq_decide]; omega))
      by_cases h2 : k = 2
      · have HH : Hid (headB k e n d ks = decide (0 ≤ n ∧ n ≤ 536870911 ∧ 0 ≤ e ∧ e ≤ 7 ∧ (6 ≤ e → d.length = 0 ∧ (ks.length : Int) = n) ∧ (e < 6 → ks.length = 0 ∧ (d.length : Int) = bytesI e n ∧ trimL d e n = d))) := Lib.hid (by unfold headB; rw [if_neg h0, if_neg h1, if_pos h2])
        clear h0 h1
        subst h2
        by_cases hr : 0 ≤ n ∧ n ≤ 536870911 ∧ 0 ≤ e ∧ e ≤ 7
        case neg =>
          have HF : Hid (V = false) := Lib.hid (by rw [HV2.out, HH.out, decide_eq_false_iff_not]; intro h; exact hr ⟨h.1, h.2.1, h.2.2.1, h.2.2.2.1⟩)
          have hor : n < 0 ∨ (0 ≤ n ∧ 536870911 < n) ∨ (0 ≤ n ∧ n ≤ 536870911 ∧ e < 0) ∨ (0 ≤ n ∧ n ≤ 536870911 ∧ 0 ≤ e ∧ 7 < e) := by omega
          clear hr
          rcases hor with hr | ⟨hr, hr2⟩ | ⟨hr, hr2, hr3⟩ | ⟨hr, hr2, hr3, hr4⟩ <;>
          ( go_wp2
            go_ret
            exact ⟨by rw [HF.out]; rfl, HR.out⟩)
        obtain ⟨hn0, hn1, he0, he1⟩ := hr
        by_cases he : 6 ≤ e
        · go_wp2
          all_goals
            go_ret
            refine ⟨?_, HR.out⟩
            rw [HV2.out, HH.out]
            congr 2
            first | (simp_all; done) | (have hl0 := HL0.out; simp_all; done) | (simp_all; first | omega | (rw [decide_eq_false (show ¬ e < 6 by omega)]; rw [Bool.eq_iff_iff]; simp))
        have he6 : e < 6 := by omega
        have HD : Hid (Ri w .u8 A d) := Lib.hid HO.out.2.2.2.1
        have HRD0 : Hid (Ri wr .u8 A d) := Lib.hid (HD.out.below HR.out (Nat.le_refl _))
        by_cases hk0 : ks.length = 0
        case neg =>
          have HF : Hid (V = false) := Lib.hid (by rw [HV2.out, HH.out, decide_eq_false_iff_not]; intro h; exact hk0 (h.2.2.2.2.2 he6).1)
          have t1 : ((ks.length : Int) != 0) = true := by simp; intro h; rw [h] at hk0; exact hk0 rfl
          clear hk0
          go_wp2_with fail
          rename_i KK hKK
          refine wp_region_chain (by kernel_rfl) (by kernel_rfl) ?_
          refine chain_val (u := ?_) [1] rfl (by kernel_rfl) trivial (fun ρ wc hbc hcn hk => ?_) ?_; rotate_left
          · obtain ⟨hcn, -⟩ := hcn
            simp at hk
            go_simp
            rfl
          refine chain_val (u := ?_) [125] rfl (by kernel_rfl) trivial (fun ρ wc hbc hcn hk => ?_) ?_; rotate_left
          · obtain ⟨hcn, -⟩ := hcn
            simp at hk
            obtain ⟨hcc, -⟩ := bcell hbc
            simp at hcc
            go_simp
            rfl
          refine chain_val (u := ?_) [126] rfl (by kernel_rfl) trivial (fun ρ wc hbc hcn hk => ?_) ?_; rotate_left
          · obtain ⟨hcn, -⟩ := hcn
            simp at hk
            go_simp
            rfl
          refine chain_val (u := ?_) [127] rfl (by kernel_rfl) trivial (fun ρ wc hbc hcn hk => ?_) ?_; rotate_left
          · obtain ⟨hcn, -⟩ := hcn
            simp at hk
            go_simp
            rfl
          refine chain_val (u := ?_) [128] rfl (by kernel_rfl) trivial (fun ρ wc hbc hcn hk => ?_) ?_; rotate_left
          · obtain ⟨hcn, -⟩ := hcn
            simp at hk
            go_simp
            rfl
          refine chain_skip (s := 129) (c := true) rfl rfl (by decide +kernel) rfl rfl (fun w x hx => by simpa using hx) ?_
          refine chain_skip (s := 129) (c := true) rfl rfl (by decide +kernel) rfl rfl (fun w x hx => by simpa using hx) ?_
          refine chain_skip (s := 129) (c := true) rfl rfl (by decide +kernel) rfl rfl (fun w x hx => by simpa using hx) ?_
          refine chain_skip (s := 129) (c := true) rfl rfl (by decide +kernel) rfl rfl (fun w x hx => by simpa using hx) ?_
          refine chain_skip (s := 129) (c := true) rfl rfl (by decide +kernel) rfl rfl (fun w x hx => by simpa using hx) ?_
          refine chain_skip (s := 129) (c := true) rfl rfl (by decide +kernel) rfl rfl (fun w x hx => by simpa using hx) ?_
          refine chain_skip (s := 129) (c := true) rfl rfl (by decide +kernel) rfl rfl (fun w x hx => by simpa using hx) ?_
          refine chain_skip (s := 129) (c := true) rfl rfl (by decide +kernel) rfl rfl (fun w x hx => by simpa using hx) ?_
          refine chain_skip (s := 129) (c := true) rfl rfl (by decide +kernel) rfl rfl (fun w x hx => by simpa using hx) ?_
          refine chain_val (u := ?_) [129, 138] rfl (by kernel_rfl) trivial (fun ρ wc hbc hcn hk => ?_) ?_; rotate_left
          · obtain ⟨hcn, -⟩ := hcn
            simp at hk
            go_simp
            rfl
          refine chain_end_lit 150 rfl (fun ff w7 hb7 hk => ?_)
          refine hKK _ _ ?_
          clear hKK KK
          simp [AllN] at hk
          simp only [frameL, hk]
          have HB7 : Hid (Below w.heap.size w w7) := Lib.hid (bel_on (bel_drew HR.out) hb7)
          clear hb7 hk
          go_wp2
          go_ret
          exact ⟨by rw [HF.out]; rfl, HB7.out⟩
        have t1 : ((ks.length : Int) != 0) = false := by simp; exact List.eq_nil_of_length_eq_zero hk0
        have hbb := bytesI_bd e n hn0 hn1
        go_wp2_with fail
        rename_i KK hKK
        refine wp_region_chain (by kernel_rfl) (by kernel_rfl) ?_
        refine chain_val (u := ?_) [1] rfl (by kernel_rfl) trivial (fun ρ wc hbc hcn hk => ?_) ?_; rotate_left
        · obtain ⟨hcn, -⟩ := hcn
          simp at hk
          go_simp
          rfl
        refine chain_val (u := ?_) [125] rfl (by kernel_rfl) trivial (fun ρ wc hbc hcn hk => ?_) ?_; rotate_left
        · obtain ⟨hcn, -⟩ := hcn
          simp at hk
          obtain ⟨hcc, -⟩ := bcell hbc
          simp at hcc
          go_simp
          rfl
        refine chain_val (u := ?_) [126] rfl (by kernel_rfl) trivial (fun ρ wc hbc hcn hk => ?_) ?_; rotate_left
        · obtain ⟨hcn, -⟩ := hcn
          simp at hk
          go_simp
          rfl
        refine chain_val (u := ?_) [127] rfl (by kernel_rfl) trivial (fun ρ wc hbc hcn hk => ?_) ?_; rotate_left
        · obtain ⟨hcn, -⟩ := hcn
          simp at hk
          go_simp
          rfl
        refine chain_val (u := ?_) [128] rfl (by kernel_rfl) trivial (fun ρ wc hbc hcn hk => ?_) ?_; rotate_left
        · obtain ⟨hcn, -⟩ := hcn
          simp at hk
          go_simp
          rfl
        refine chain_val (u := ?_) [1] rfl (by kernel_rfl) ⟨129, by decide +kernel, rfl, fun w x hx => by simpa using hx⟩ (fun ρ wc hbc hcn hk => ?_) ?_; rotate_left
        · obtain ⟨hcn, -⟩ := hcn
          simp at hk
          go_simp
          rfl
        refine chain_val (u := ?_) [130] rfl (by kernel_rfl) ⟨129, by decide +kernel, rfl, fun w x hx => by simpa using hx⟩ (fun ρ wc hbc hcn hk => ?_) ?_; rotate_left
        · obtain ⟨hcn, -⟩ := hcn
          simp at hk
          obtain ⟨hcc, -⟩ := bcell hbc
          simp at hcc
          go_simp
          rfl
        refine chain_val (u := ?_) [131] rfl (by kernel_rfl) ⟨129, by decide +kernel, rfl, fun w x hx => by simpa using hx⟩ (fun ρ wc hbc hcn hk => ?_) ?_; rotate_left
        · obtain ⟨hcn, -⟩ := hcn
          simp at hk
          go_simp
          rfl
        refine chain_val (u := ?_) [1] rfl (by kernel_rfl) ⟨129, by decide +kernel, rfl, fun w x hx => by simpa using hx⟩ (fun ρ wc hbc hcn hk => ?_) ?_; rotate_left
        · obtain ⟨hcn, -⟩ := hcn
          simp at hk
          go_simp
          rfl
        refine chain_val (u := ?_) [133] rfl (by kernel_rfl) ⟨129, by decide +kernel, rfl, fun w x hx => by simpa using hx⟩ (fun ρ wc hbc hcn hk => ?_) ?_; rotate_left
        · obtain ⟨hcn, -⟩ := hcn
          simp at hk
          obtain ⟨hcc, -⟩ := bcell hbc
          simp at hcc
          go_simp
          rfl
        refine chain_val (u := ?_) [1] rfl (by kernel_rfl) ⟨129, by decide +kernel, rfl, fun w x hx => by simpa using hx⟩ (fun ρ wc hbc hcn hk => ?_) ?_; rotate_left
        · obtain ⟨hcn, -⟩ := hcn
          simp at hk
          go_simp
          rfl
        refine chain_val (u := ?_) [135] rfl (by kernel_rfl) ⟨129, by decide +kernel, rfl, fun w x hx => by simpa using hx⟩ (fun ρ wc hbc hcn hk => ?_) ?_; rotate_left
        · obtain ⟨hcn, -⟩ := hcn
          simp at hk
          obtain ⟨hcc, -⟩ := bcell hbc
          simp at hcc
          go_simp
          rfl
        refine chain_call (T := Is ?_) 24 [134, 136] rfl (by kernel_rfl) ⟨129, by decide +kernel, rfl, fun w x hx => by simpa using hx⟩ (stable_is _) (fun ρ wc hbc hcn hk => ?_) ?_; rotate_left
        · obtain ⟨hcn, hfn⟩ := hcn
          simp at hk
          refine ⟨_, by go_simp; rfl, ?_⟩
          refine (RefBytes6_any _ _ _ hn0 hn1).mono ?_
          rintro e w' ⟨rfl, rfl⟩
          refine ⟨_, rfl, ?_, Below.refl _ _⟩
          unfold Is
          rfl
        refine chain_val (u := ?_) [132, 137] rfl (by kernel_rfl) ⟨129, by decide +kernel, rfl, fun w x hx => by simpa using hx⟩ (fun ρ wc hbc hcn hk => ?_) ?_; rotate_left
        · obtain ⟨hcn, -⟩ := hcn
          simp at hk
          go_simp
          rfl
        refine chain_val (u := ?_) [129, 138] rfl (by kernel_rfl) trivial (fun ρ wc hbc hcn hk => ?_) ?_; rotate_left
        · obtain ⟨hcn, -⟩ := hcn
          simp at hk
          go_simp
          rfl
        refine chain_end_lit 150 rfl (fun ff w7 hb7 hk => ?_)
        refine hKK _ _ ?_
        clear hKK KK
        simp [AllN] at hk
        simp only [frameL, hk]
        have HB7 : Hid (Below w.heap.size w w7) := Lib.hid (bel_on (bel_drew HR.out) hb7)
        have B7 := HB.out.drew.below hb7
        have hrd : Ri wr.drew .u8 A d := HRD0.out
        have HRD7 := Lib.hid (hrd.below hb7 (Nat.le_refl _))
        clear hb7 hk x1 y1 z1 hrd
        obtain ⟨x1, y1, z1⟩ := B7
        by_cases hbl : (d.length : Int) = bytesI e n
        case neg =>
          have HF : Hid (V = false) := Lib.hid (by rw [HV2.out, HH.out, decide_eq_false_iff_not]; intro h; exact hbl (h.2.2.2.2.2 he6).2.1)
          have t2 : ((d.length : Int) != bytesI e n) = true := by simpa using hbl
          clear hbl
          go_wp2
          go_ret
          exact ⟨by rw [HF.out]; rfl, HB7.out⟩
        have t2 : ((d.length : Int) != bytesI e n) = false := by simpa using hbl
        have HBL : Hid (bytesI e n ≤ d.length) := Lib.hid (by omega)
        have HF : Hid (V = sameB (trimL d e n) d) := Lib.hid (by
          rw [HV2.out, HH.out]
          unfold sameB
          rw [decide_eq_decide]
          exact ⟨fun h => (h.2.2.2.2.2 he6).2.2, fun h => ⟨hn0, hn1, he0, he1, fun h6 => absurd h6 (by omega), fun _ => ⟨hk0, hbl, h⟩⟩⟩)
        have HBLL := Lib.hid hbl
        clear hbl
        go_wp2_with fail
        rename_i KK hKK
        have HRD : Hid (Ri w7.drew .u8 A d) := Lib.hid HRD7.out
        refine wp_region_chain (by kernel_rfl) (by kernel_rfl) ?_
        refine chain_val (u := ?_) [1] rfl (by kernel_rfl) trivial (fun ρ wc hbc hcn hk => ?_) ?_; rotate_left
        · obtain ⟨hcn, -⟩ := hcn
          simp at hk
          go_simp
          rfl
        refine chain_val (u := ?_) [140] rfl (by kernel_rfl) trivial (fun ρ wc hbc hcn hk => ?_) ?_; rotate_left
        · obtain ⟨hcn, -⟩ := hcn
          simp at hk
          obtain ⟨hcc, -⟩ := bcell hbc
          simp at hcc
          go_simp
          rfl
        refine chain_val (u := ?_) [1] rfl (by kernel_rfl) trivial (fun ρ wc hbc hcn hk => ?_) ?_; rotate_left
        · obtain ⟨hcn, -⟩ := hcn
          simp at hk
          go_simp
          rfl
        refine chain_val (u := ?_) [142] rfl (by kernel_rfl) trivial (fun ρ wc hbc hcn hk => ?_) ?_; rotate_left
        · obtain ⟨hcn, -⟩ := hcn
          simp at hk
          obtain ⟨hcc, -⟩ := bcell hbc
          simp at hcc
          go_simp
          rfl
        refine chain_val (u := ?_) [1] rfl (by kernel_rfl) trivial (fun ρ wc hbc hcn hk => ?_) ?_; rotate_left
        · obtain ⟨hcn, -⟩ := hcn
          simp at hk
          go_simp
          rfl
        refine chain_val (u := ?_) [144] rfl (by kernel_rfl) trivial (fun ρ wc hbc hcn hk => ?_) ?_; rotate_left
        · obtain ⟨hcn, -⟩ := hcn
          simp at hk
          obtain ⟨hcc, -⟩ := bcell hbc
          simp at hcc
          go_simp
          rfl
        refine chain_call (T := GotB w7.heap.size (trimL d e n)) 25 [141, 143, 145] rfl (by kernel_rfl) trivial (stable_gotb _ _) (fun ρ wc hbc hcn hk => ?_) ?_
        · obtain ⟨hcn, hfn⟩ := hcn
          simp at hk
          refine ⟨_, by go_simp; rfl, ?_⟩
          refine (RefTrim_any A c d e n _ (HRD.out.below hbc (Nat.le_refl _)) HBT.out HDM.out hn0 hn1 HBL.out).mono ?_
          rintro r w' ⟨v, rfl, hg, hb⟩
          exact ⟨_, rfl, hg.mono hbc.size, hb⟩
        refine chain_val (u := ?_) [1] rfl (by kernel_rfl) trivial (fun ρ wc hbc hcn hk => ?_) ?_; rotate_left
        · obtain ⟨hcn, -⟩ := hcn
          simp at hk
          go_simp
          rfl
        refine chain_val (u := ?_) [147] rfl (by kernel_rfl) trivial (fun ρ wc hbc hcn hk => ?_) ?_; rotate_left
        · obtain ⟨hcn, -⟩ := hcn
          simp at hk
          obtain ⟨hcc, -⟩ := bcell hbc
          simp at hcc
          go_simp
          rfl
        refine chain_call (T := Is (.bool (sameB (trimL d e n) d))) 21 [146, 148] rfl (by kernel_rfl) trivial (stable_is _) (fun ρ wc hbc hcn hk => ?_) ?_
        · obtain ⟨hcn, hfn⟩ := hcn
          simp at hk
          obtain ⟨hk1, hk2⟩ := hk
          obtain ⟨Av, cv, hv, hv1, hv2, hvr⟩ := Got.slice hk1
          refine ⟨_, by go_simp; rfl, ?_⟩
          refine (Same_any Av A cv c (trimL d e n) d _ hvr (HRD.out.below hbc (Nat.le_refl _)) (by unfold maxLen at hv2; omega) (by have := HDM.out; omega)).mono ?_
          rintro r w' ⟨rfl, m, rfl⟩
          exact ⟨_, rfl, rfl, bel_drewN (Below.refl _ _) m⟩
        refine chain_val (u := ?_) [149] rfl (by kernel_rfl) trivial (fun ρ wc hbc hcn hk => ?_) ?_; rotate_left
        · obtain ⟨hcn, -⟩ := hcn
          simp at hk
          go_simp
          rfl
        refine chain_end_lit 150 rfl (fun ff w8 hb8 hk => ?_)
        refine hKK _ _ ?_
        clear hKK KK
        have h146 := allN_at10 hk 146 (by omega) (by omega)
        simp [AllN] at hk
        simp only [frameL, hk]
        have HB8 : Hid (Below w.heap.size w w8) := Lib.hid (bel_on (bel_drew HB7.out) hb8)
        clear hb8 hk h146 x1 y1 z1
        rw [← HF.out]
        go_wp2
        go_ret
        exact ⟨rfl, HB8.out⟩
      have HH : Hid (headB k e n d ks = false) := Lib.hid (by unfold headB; rw [if_neg h0, if_neg h1, if_neg h2])
      have t0 : (k == 0) = false := by simpa using h0
      have t1 : (k == 1) = false := by simpa using h1
      have t2 : (k == 2) = false := by simpa using h2
      clear h0 h1 h2
      go_wp2
      go_ret
      exact ⟨by rw [HV2.out, HH.out]; rfl, HR.out⟩
end Go.Proofs.YtfigoblpkbpenaaDoor
