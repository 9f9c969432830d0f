/- The texts Ref10 (what is wanted of them), one after the other. -/
import Derived.Test.YtcmljjhnfpfcfaaDoorMg1
import Derived.Test.YtcmljjhnfpfcfaaDoorMg2
import Derived.Test.YtcmljjhnfpfcfaaDoorMg3
import Derived.Test.YtcmljjhnfpfcfaaDoorMg4
/- What the reference functions of layer 10 do, each by a contract. -/
namespace Go.Proofs.YtcmljjhnfpfcfaaDoor
open Go.ChangeShapes Go.WideShapes Go.ChangeAt Go.RowKit
set_option linter.unusedVariables false
set_option linter.unusedSimpArgs false
set_option maxRecDepth 100000

set_option maxRecDepth 100000 in
theorem RefSize_node : ∀ (x : Nd) (A : Option Addr) (c : Nat) (B : Option Addr) (c2 : Nat) (w : World), NdR w A c B c2 x → sizeN x ≤ 1099511627776 →
    Calls Tryd.prog 35 #[.agg #[.int .i64 x.k, .int .i64 x.e, .int .i64 x.n, .slice A x.d.length c, .slice B x.ks.length c2]] w fun r w' => r = .returned (.int .i64 (sizeN x)) ∧ Below w.heap.size w w' := by
  refine Nd.ind ?_
  intro k e n d ks ih A c B c2 w hx hs
  simp only [Nd.k, Nd.e, Nd.n, Nd.d, Nd.ks]
  have HX := Lib.hid hx
  have HI := Lib.hid ih
  have hso : sizeN (.mk k e n d ks) = 1 + d.length + sizeK ks := by simp only [sizeN]
  have HSO := Lib.hid hso
  rw [hso] at hs
  have hkl := sizeK_length ks
  have HT : Hid (sizeK (ks.take ks.length) = sizeK ks) := Lib.hid (by rw [List.take_length])
  have HTL : Hid (∀ j, sizeK (ks.take j) ≤ sizeK ks) := Lib.hid (sizeK_take_le ks)
  clear hx ih hso
  go_enter Tryd.func35, Tryd.ntmps35
  go_wp2
  go_loopw [3, 4] (fun s i wr => ∃ j : Nat, j ≤ ks.length ∧ i = .int .i64 j ∧ s = .int .i64 ((1 + d.length + sizeK (ks.take j) : Nat) : Int) ∧ Blk wr w.heap.size #[.int .i64 k, .int .i64 e, .int .i64 n, .slice A d.length c, .slice B ks.length c2] ∧ Below w.heap.size w wr) (fun _ i _ => ks.length - (intOf i).toNat)
  case atStart => exact ⟨0, by omega, rfl, by simp [sizeK], Blk.fresh _ _ _, (Below.refl _ _).alloc (Nat.le_refl _) _⟩
  case round =>
    obtain ⟨j, hj, rfl, rfl, hB, hbr⟩ := hrel
    have HB := Lib.hid hB
    have HR := Lib.hid hbr
    obtain ⟨x1, y1, z1⟩ := hB
    clear hbr
    have hle := HTL.out j
    by_cases hlt : j < ks.length
    · obtain ⟨b, off, A', c', B', c2', rfl, k0, k1, k2, k3, k4, hsub⟩ := (HX.out.on HR.out (Nat.le_refl _)).kid hlt
      have HSUB := Lib.hid hsub
      have hz := sizeN_kid (List.getElem_mem hlt)
      have HST := Lib.hid (sizeK_take ks j hlt)
      have hle2 := HTL.out (j + 1)
      rw [HST.out] at hle2
      have HC := Lib.hid (HI.out ks[j] (List.getElem_mem hlt) A' c' B' c2' wr hsub (by omega))
      clear hsub
      go_wp2_with fail
      refine HC.out.mono ?_
      rintro r w' ⟨rfl, hb1⟩
      have HB1 := Lib.hid (bel_on HR.out hb1)
      have B1 := Lib.hid (HB.out.below hb1)
      have hsum : ((1 + d.length + sizeK (ks.take j) : Nat) : Int) + (sizeN ks[j] : Int) = ((1 + d.length + sizeK (ks.take (j + 1)) : Nat) : Int) := by rw [HST.out]; omega
      clear hb1 x1 y1 z1 k0 k1 k2 k3 k4
      go_wp2
      go_roundw
      case rel => exact ⟨j + 1, by omega, by go_num, by first | rfl | (rw [HST.out]; go_num), B1.out, HB1.out⟩
      case measure => simp [intOf]; omega
    · obtain rfl : j = ks.length := by omega
      go_wp2
      go_ret
      exact ⟨by rw [HSO.out, ← HT.out]; rfl, HR.out⟩
set_option maxRecDepth 100000 in
theorem RefNesting_node : ∀ (x : Nd) (A : Option Addr) (c : Nat) (B : Option Addr) (c2 : Nat) (w : World), NdR w A c B c2 x → sizeN x ≤ 1099511627776 →
    Calls Tryd.prog 36 #[.agg #[.int .i64 x.k, .int .i64 x.e, .int .i64 x.n, .slice A x.d.length c, .slice B x.ks.length c2]] w fun r w' => r = .returned (.int .i64 (nestN x)) ∧ Below w.heap.size w w' := by
  refine Nd.ind ?_
  intro k e n d ks ih A c B c2 w hx hs
  simp only [Nd.k, Nd.e, Nd.n, Nd.d, Nd.ks]
  have HX := Lib.hid hx
  have HI := Lib.hid ih
  have hso : nestN (.mk k e n d ks) = nestK ks + 1 := by simp only [nestN]
  have HSO := Lib.hid hso
  have hs2 : sizeN (.mk k e n d ks) = 1 + d.length + sizeK ks := by simp only [sizeN]
  rw [hs2] at hs
  have hnk : nestK ks ≤ sizeK ks := nestK_size ks
  have hkl := sizeK_length ks
  have HT : Hid (nestK (ks.take ks.length) = nestK ks) := Lib.hid (by rw [List.take_length])
  have HTL : Hid (∀ j, nestK (ks.take j) ≤ nestK ks) := Lib.hid (nestK_take_le ks)
  clear hx ih hso hs2
  go_enter Tryd.func36, Tryd.ntmps36
  go_wp2
  go_loopw [3, 4] (fun s i wr => ∃ j : Nat, j ≤ ks.length ∧ i = .int .i64 j ∧ s = .int .i64 ((nestK (ks.take j) : Nat) : Int) ∧ Blk wr w.heap.size #[.int .i64 k, .int .i64 e, .int .i64 n, .slice A d.length c, .slice B ks.length c2] ∧ Below w.heap.size w wr) (fun _ i _ => ks.length - (intOf i).toNat)
  case atStart => exact ⟨0, by omega, rfl, by simp [nestK], Blk.fresh _ _ _, (Below.refl _ _).alloc (Nat.le_refl _) _⟩
  case round =>
    obtain ⟨j, hj, rfl, rfl, hB, hbr⟩ := hrel
    have HB := Lib.hid hB
    have HR := Lib.hid hbr
    obtain ⟨x1, y1, z1⟩ := hB
    clear hbr
    have hle := HTL.out j
    by_cases hlt : j < ks.length
    · obtain ⟨b, off, A', c', B', c2', rfl, k0, k1, k2, k3, k4, hsub⟩ := (HX.out.on HR.out (Nat.le_refl _)).kid hlt
      have HSUB := Lib.hid hsub
      have hz := sizeN_kid (List.getElem_mem hlt)
      have HST := Lib.hid (nestK_take ks j hlt)
      have hnz := nest_size ks[j]
      have hle2 := HTL.out (j + 1)
      rw [HST.out] at hle2
      have HC := Lib.hid (HI.out ks[j] (List.getElem_mem hlt) A' c' B' c2' wr hsub (by omega))
      clear hsub
      go_wp2_with fail
      refine HC.out.mono ?_
      rintro r w' ⟨rfl, hb1⟩
      have HB1 := Lib.hid (bel_on HR.out hb1)
      have B1 := Lib.hid (HB.out.below hb1)
      have hsum : max ((nestK (ks.take j) : Nat) : Int) (nestN ks[j] : Int) = ((nestK (ks.take (j + 1)) : Nat) : Int) := by rw [HST.out]; omega
      clear hb1 x1 y1 z1 k0 k1 k2 k3 k4
      go_wp2
      go_roundw
      case rel => exact ⟨j + 1, by omega, by go_num, by first | rfl | (rw [HST.out]; go_num), B1.out, HB1.out⟩
      case measure => simp [intOf]; omega
    · obtain rfl : j = ks.length := by omega
      go_wp2
      go_ret
      exact ⟨by rw [HSO.out, ← HT.out]; rfl, HR.out⟩

def fewN (x : Nd) : Bool := decide (sizeN x ≤ 3000 ∧ nestN x ≤ 40)
theorem RefFew_node (x : Nd) (A : Option Addr) (c : Nat) (B : Option Addr) (c2 : Nat) (w : World) (hx : NdR w A c B c2 x) (hs : sizeN x ≤ 1099511627776) :
    Calls Tryd.prog 21 #[.agg #[.int .i64 x.k, .int .i64 x.e, .int .i64 x.n, .slice A x.d.length c, .slice B x.ks.length c2]] w fun r w' => r = .returned (.bool (fewN x)) ∧ Below w.heap.size w w' := by
  have HX := Lib.hid hx
  have hn := nest_size x
  clear hx
  go_enter Tryd.func21, Tryd.ntmps21
  go_wp2_with fail
  refine (RefSize_node x A c B c2 _ (HX.out.on ((Below.refl _ _).alloc (Nat.le_refl _) _) (Nat.le_refl _)) hs).mono ?_
  rintro r w1 ⟨rfl, hb1⟩
  have B1 := (Blk.fresh w _ _).below hb1
  have HB1 := Lib.hid (bel_on ((Below.refl w.heap.size w).alloc (Nat.le_refl _) _) (hb1.mono (Nat.le_refl _)))
  have hz := hb1.size
  clear hb1
  obtain ⟨x1, y1, z1⟩ := B1
  by_cases h1 : sizeN x ≤ 3000
  · go_wp2_with fail
    refine (RefNesting_node x A c B c2 _ (HX.out.on HB1.out (Nat.le_refl _)) hs).mono ?_
    rintro r w2 ⟨rfl, hb2⟩
    have HB2 := Lib.hid (bel_on HB1.out hb2)
    have HR : Hid (fewN x = decide (nestN x ≤ 40)) := Lib.hid (by unfold fewN; simp [h1])
    clear hb2
    go_wp2
    go_ret
    exact ⟨by rw [HR.out]; simp; omega, HB2.out⟩
  · have HR : Hid (fewN x = false) := Lib.hid (by unfold fewN; simp [h1])
    go_wp2
    go_ret
    exact ⟨by rw [HR.out]; rfl, HB1.out⟩

theorem targN_def (k e n : Int) (d : List Int) (ks : List Nd) : targN (.mk k e n d ks) = if k = 2 ∧ e = 7 then kk ks else ks := rfl

set_option maxRecDepth 100000 in
theorem RefTargets_node (x : Nd) (A : Option Addr) (c : Nat) (B : Option Addr) (c2 : Nat) (w : World) (hx : NdR w A c B c2 x) (hs : sizeN x ≤ 1099511627776) :
    Calls Tryd.prog 15 #[.agg #[.int .i64 x.k, .int .i64 x.e, .int .i64 x.n, .slice A x.d.length c, .slice B x.ks.length c2]] w fun r w' => ∃ B' c', r = .returned (.slice B' (targN x).length c') ∧ KsR w' B' (targN x) ∧ (targN x).length ≤ c' ∧ c' ≤ 9223372036854775807 ∧ Below w.heap.size w w' := by
  obtain ⟨k, e, n, d, ks⟩ := x
  simp only [Nd.k, Nd.e, Nd.n, Nd.d, Nd.ks]
  have HX := Lib.hid hx
  have HO := Lib.hid hx.open
  clear hx
  by_cases hke : k = 2 ∧ e = 7
  · have HT : Hid (targN (.mk k e n d ks) = kk ks) := Lib.hid (by rw [targN_def, if_pos hke])
    obtain ⟨rfl, rfl⟩ := hke
    have hs2 : sizeN (.mk 2 7 n d ks) = 1 + d.length + sizeK ks := by simp only [sizeN]
    rw [hs2] at hs
    have HKK : Hid (∀ j, (kk (ks.take j)).length ≤ sizeK ks) := Lib.hid (fun j => Nat.le_trans (kk_size _) (sizeK_take_le ks j))
    have hkl := sizeK_length ks
    rw [HT.out]
    clear hs2
    go_enter Tryd.func15, Tryd.ntmps15
    go_wp2
    go_loopw [3, 4] (fun s i wr => ∃ j : Nat, j ≤ ks.length ∧ i = .int .i64 j ∧ OwnK w wr (w.heap.size + 1) s (kk (ks.take j)) ∧ Blk wr w.heap.size #[.int .i64 2, .int .i64 7, .int .i64 n, .slice A d.length c, .slice B ks.length c2] ∧ Below w.heap.size w wr) (fun _ i _ => ks.length - (intOf i).toNat)
    case atStart => exact ⟨0, by omega, rfl, by simpa [kk] using OwnK.empty _ _ _, Blk.fresh _ _ _, (Below.refl _ _).alloc (Nat.le_refl _) _⟩
    case round =>
      obtain ⟨j, hj, rfl, hown, hB, hbr⟩ := hrel
      have HB := Lib.hid hB
      have HR := Lib.hid hbr
      have HOWN := Lib.hid hown
      obtain ⟨x1, y1, z1⟩ := hB
      clear hbr hown
      by_cases hlt : j < ks.length
      · obtain ⟨b, off, A', c', B', c2', rfl, k0, k1, k2, k3, k4, hsub⟩ := HX.out.kids.atIn HR.out (Nat.le_refl _) hlt
        have HKS := Lib.hid hsub.kidsX
        have HKT := Lib.hid (kk_take ks j hlt)
        have HN : Hid ((kk (ks.take j)).length + (ks[j]).ks.length ≤ 1099511627776) := Lib.hid (by
          have h := HKK.out (j + 1)
          rw [HKT.out, List.length_append] at h
          omega)
        clear hsub k0 k1 k2 k3
        go_wp2_with (at_builtin; refine wpList_appK (W0 := w) rfl (.tmp 22) (.tmp 28) 23 rfl Tryd.underlying23 rfl HOWN.out rfl HKS.out.1 HKS.out.2.1 HKS.out.2.2 (Nat.le_refl _) HR.out HN.out z1 ?_; intro v1 w1 hg1 hb1)
        have HB1 := Lib.hid (HR.out.trans (hb1.mono (Nat.le_succ _)))
        have B1 := Lib.hid (HB.out.belowN hb1 (Nat.lt_succ_self _))
        go_roundw
        case rel => exact ⟨j + 1, by omega, by go_num, by rw [HKT.out]; exact hg1, B1.out, HB1.out⟩
        case measure => simp [intOf]; omega
      · obtain rfl : j = ks.length := by omega
        go_wp2
        obtain ⟨B1, c1, rfl, s1, s2, s3, s4⟩ := HOWN.out.slice (Nat.le_refl _) HR.out
        go_ret
        rw [List.take_length] at *
        exact ⟨B1, c1, rfl, s1, s2, s3, HR.out⟩
  · have HT : Hid (targN (.mk k e n d ks) = ks) := Lib.hid (by rw [targN_def, if_neg hke])
    have hor : ((k != 2) = true) ∨ ((k != 2) = false ∧ (e != 7) = true) := by
      by_cases h1 : k = 2
      · right; exact ⟨by simpa using h1, by simpa using fun h => hke ⟨h1, h⟩⟩
      · left; simpa using h1
    clear hke
    rcases hor with t1 | ⟨t1, t2⟩ <;>
    ( go_enter Tryd.func15, Tryd.ntmps15
      go_wp2
      go_ret
      refine ⟨B, c2, by rw [HT.out]; rfl, ?_, by rw [HT.out]; exact HO.out.2.2.2.2.2.2.2.2.1, HO.out.2.2.2.2.2.2.2.2.2.1, (Below.refl _ _).alloc (Nat.le_refl _) _⟩
      rw [HT.out]
      exact HX.out.kids.on ((Below.refl _ _).alloc (Nat.le_refl _) _) (Nat.le_refl _))

end Go.Proofs.YtcmljjhnfpfcfaaDoor
