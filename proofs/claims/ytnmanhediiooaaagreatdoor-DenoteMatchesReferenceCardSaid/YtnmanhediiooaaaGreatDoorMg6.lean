/- The texts TrimC, DenD, DenE, DenF, DenG, DenH, MsgLit, DenI, DenJ, DenK, DenL, DenP, Ref10b (what is wanted of them), one after the other. -/
import Derived.Test.YtnmanhediiooaaaGreatDoorMg5
import Derived.Recover
import Derived.StillTailTactics
/- Package trim: the function behind Trim that trims a row, and Trim. -/
namespace Go.Proofs.YtnmanhediiooaaaGreatDoor
open Go.ChangeShapes Go.WideShapes Go.ChangeAt Go.RowKit
set_option linter.unusedVariables false
set_option linter.unusedSimpArgs false
set_option maxRecDepth 100000

set_option maxHeartbeats 4000000 in
set_option maxRecDepth 100000 in
theorem trimmed_any (ls : List Nd) (B : Option Addr) (c2 : Nat) (w : World) (hk : KsR w B ls) (hm : ls.length ≤ 1099511627776)
    (HC : Hid (∀ j (hj : j < ls.length) A' c' B' c2' wc, NdR wc A' c' B' c2' ls[j] → Calls Tryz.prog 16 #[.agg #[.int .i64 (ls[j]).k, .int .i64 (ls[j]).e, .int .i64 (ls[j]).n, .slice A' (ls[j]).d.length c', .slice B' (ls[j]).ks.length c2']] wc fun r w' => ∃ v, r = .returned v ∧ NodV wc.heap.size (trimN ls[j]) v w' ∧ Below wc.heap.size wc w')) :
    Calls Tryz.prog 31 #[.slice B ls.length c2] w fun r w' => r = .returned (.slice (some ⟨w.heap.size, 0, none⟩) ls.length ls.length) ∧ RowT w.heap.size ls.length ls.length (trimK ls) w' ∧ Below w.heap.size w w' := by
  obtain ⟨i0, hi, hz0, hz1, hz2⟩ := info_parts node_info
  have HK := Lib.hid hk
  obtain ⟨n, hn⟩ : ∃ n, n = ls.length := ⟨_, rfl⟩
  have HN := Lib.hid hn
  have hb0 : n ≤ 1099511627776 := by omega
  rw [← hn]
  clear hk hm hn
  go_enter Tryz.func31, Tryz.ntmps31
  go_wp2_with (at_make; refine wpList_make_full _ rfl _ _ 28 rfl w.heap.size 30 i0 _ 5 Tryz.underlying28 hi hz0 hz1 .i64 .i64 _ _ n rfl rfl (by omega) (by omega) (by rw [hz2]; omega) (by unfold maxLen; omega) (Nat.le_refl _) ?_; intro w0 hown0 hgrow0)
  have hR0 : RowT w.heap.size n 0 (trimK ls) w0 := RowT.made hown0
  have hB0 : Below w.heap.size w w0 := (Below.refl _ _).grown hgrow0 (Nat.le_refl _) (fun g hg => by cases hg)
  clear hown0 hgrow0
  go_loopw [11] (fun i wr => ∃ j : Nat, j ≤ n ∧ i = .int .i64 j ∧ RowT w.heap.size n j (trimK ls) wr ∧ Below w.heap.size w wr) (fun i _ => n - (intOf i).toNat)
  case atStart => exact ⟨0, by omega, rfl, hR0, hB0⟩
  case round =>
    clear hR0 hB0
    obtain ⟨j, hj, rfl, hrow, hbr⟩ := hrel
    have HR := Lib.hid hbr
    have HW := Lib.hid hrow
    clear hbr hrow
    by_cases hlt : j < n
    · have hj1 : (j : Int) < (n : Int) := by omega
      have hlt2 : j < ls.length := by rw [← HN.out]; exact hlt
      have hltT : j < (trimK ls).length := by rw [trimK_length]; exact hlt2
      obtain ⟨b, off, A', c', B', c2', rfl, k0, k1, k2, k3, k4, hsub⟩ := HK.out.atIn HR.out (Nat.le_refl _) hlt2
      have HCJ := Lib.hid (fun wc hb => HC.out j hlt2 A' c' B' c2' wc (hsub.on (N := w.heap.size) hb (Nat.le_refl _)))
      have HT : Hid ((trimK ls)[j] = trimN ls[j]) := Lib.hid (trimK_get ls j hlt2)
      clear hsub
      generalize trimN ls[j] = ty at *
      generalize ls[j] = kx at *
      have HB1 := Lib.hid (fun o => HR.out.alloc HR.out.size o)
      go_wp2_with fail
      refine (HCJ.out _ (HB1.out _)).mono ?_
      rintro r w2 ⟨v, rfl, hnv, hb2⟩
      have HB2 : Hid (Below w.heap.size w w2) := Lib.hid (bel_on (HB1.out _) hb2)
      have hlo : w.heap.size < wr.heap.size := HW.out.lt
      have HW2 := Lib.hid ((HW.out.below ((Below.refl _ _).alloc (Nat.le_refl _) (.cells #[.int .i64 kx.k, .int .i64 kx.e, .int .i64 kx.n, .slice A' kx.d.length c', .slice B' kx.ks.length c2'] 30)) (Nat.le_refl _)).below hb2 (Nat.le_refl _))
      obtain ⟨A5, c5, B5, e5, hi5, rfl, hh5, ho5, hu5, -, -⟩ := hnv
      have HO := Lib.hid ho5
      have HU := Lib.hid hu5
      clear ho5 hu5 hb2 k0 k1 k2 k3 k4
      obtain ⟨u0, y0⟩ := HW2.out.cell (j * 5) (by omega)
      obtain ⟨u1, y1⟩ := HW2.out.cell (j * 5 + 1) (by omega)
      obtain ⟨u2, y2⟩ := HW2.out.cell (j * 5 + 2) (by omega)
      obtain ⟨u3, y3⟩ := HW2.out.cell (j * 5 + 3) (by omega)
      obtain ⟨u4, y4⟩ := HW2.out.cell (j * 5 + 4) (by omega)
      have z := HW2.out.free
      go_wp2
      go_roundw
      case rel =>
        refine ⟨j + 1, by omega, by go_num, ?_, ?_⟩
        · have := HW2.out.next hlt hltT (A' := A5) (c' := c5) (B' := B5) (c2' := e5) (lo := _) (hi := hi5) ?_ hh5 (by rw [HT.out]; exact HO.out) HU.out
          · rw [HT.out] at this
            exact this
          · simp; omega
        · refine Below.setCell (Below.setCell (Below.setCell (Below.setCell (Below.setCell HB2.out ?_ _) ?_ _) ?_ _) ?_ _) ?_ _ <;> (show w.heap.size ≤ w.heap.size; omega)
      case measure => simp [intOf]; omega
    · obtain rfl : j = n := by omega
      go_wp2
      go_ret
      exact ⟨rfl, HW.out, HR.out⟩
set_option maxHeartbeats 8000000 in
set_option maxRecDepth 100000 in
theorem Trim_node : ∀ (x : Nd) (A : Option Addr) (c : Nat) (B : Option Addr) (c2 : Nat) (w : World), NdR w A c B c2 x → sizeN x ≤ 1099511627776 → validN x = true →
    Calls Tryz.prog 16 #[.agg #[.int .i64 x.k, .int .i64 x.e, .int .i64 x.n, .slice A x.d.length c, .slice B x.ks.length c2]] w fun r w' => ∃ v, r = .returned v ∧ NodV w.heap.size (trimN x) v w' ∧ Below w.heap.size w w' := by
  refine Nd.ind ?_
  intro k e n d ks ih A c B c2 w hx hs hv
  simp only [Nd.k, Nd.e, Nd.n, Nd.d, Nd.ks]
  have HX := Lib.hid hx
  have HI := Lib.hid ih
  have HVK := Lib.hid (valid_kids11 hv).1
  have hso : sizeN (.mk k e n d ks) = 1 + d.length + sizeK ks := by simp only [sizeN]
  rw [hso] at hs
  have hkl := sizeK_length ks
  have hdl : d.length ≤ 1099511627776 := by omega
  have hkl2 : ks.length ≤ 1099511627776 := by omega
  obtain ⟨h1, h2, h3, hd, hbt, hdc, hcm, hA, hkc, hc2m, hB⟩ := hx.open
  have HD := Lib.hid hd
  have HBT := Lib.hid hbt
  have HO := Lib.hid (And.intro h1 (And.intro h2 h3))
  have HA := Lib.hid hA
  have HSZ : Hid (∀ (j : Nat) (hj : j < ks.length), sizeN ks[j] ≤ 1099511627776) := Lib.hid (fun j hj => by
    have := sizeN_kid (List.getElem_mem hj)
    omega)
  have HWD := Lib.hid (fun w' (hb : Below w.heap.size w w') => trimWords_any A c d w' (HD.out.below hb (Nat.le_refl _)) HBT.out hdl hdc)
  have HPT := Lib.hid (fun w' (hb : Below w.heap.size w w') => cutK_any B c2 ks w' (HX.out.kids.on hb (Nat.le_refl _)) hkl2 hkc)
  have hDK : ∃ D K : Nat, D ≤ d.length ∧ K ≤ ks.length ∧ trimN (.mk k e n d ks) = .mk k e n (d.take D) (trimK (ks.take K)) ∧ ((k = 1 ∧ 8 * wordsT d = D ∧ ptrsT ks = K) ∨ (k ≠ 1 ∧ D = d.length ∧ K = ks.length)) := by
    by_cases h1 : k = 1
    · exact ⟨8 * wordsT d, ptrsT ks, wordsT_le d ((valid_kids11 hv).2 h1), ptrsT_le ks, by rw [trim_eq, if_pos h1, if_pos h1, trimK_take], .inl ⟨h1, rfl, rfl⟩⟩
    · exact ⟨d.length, ks.length, Nat.le_refl _, Nat.le_refl _, by rw [trim_eq, if_neg h1, if_neg h1, trimK_take], .inr ⟨h1, rfl, rfl⟩⟩
  obtain ⟨D, K, hDl, hKl, hT, hcase⟩ := hDK
  have HT := Lib.hid hT
  have HDL : Hid (D = (d.take D).length) := Lib.hid (by rw [List.length_take]; omega)
  have HKL : Hid ((ks.take K).length = K) := Lib.hid (by rw [List.length_take]; omega)
  have HCL := Lib.hid (fun w' (hb : Below w.heap.size w w') => bytesClone_any A c (d.take D) w' ((HD.out.take D).below hb (Nat.le_refl _)) (by rw [← HDL.out]; omega) HA.out (by rw [← HDL.out]; omega) D HDL.out)
  have HTM := Lib.hid (fun w' (hb : Below w.heap.size w w') => trimmed_any (ks.take K) B c2 w' ((HX.out.kids.take K).on hb (Nat.le_refl _)) (by rw [HKL.out]; omega) (Lib.hid (fun j hj A' c' B' c2' wc hn => by
    rw [List.length_take] at hj
    have hj2 : j < ks.length := by omega
    have e : (ks.take K)[j]'(by rw [List.length_take]; exact hj) = ks[j] := List.getElem_take
    rw [e] at hn ⊢
    exact HI.out ks[j] (List.getElem_mem hj2) A' c' B' c2' wc hn (HSZ.out j hj2) (HVK.out _ (List.getElem_mem hj2)))))
  simp only [HKL.out] at HTM
  have HFIN : Hid (∀ (q base : Nat) (W : World) (A5 : Option Addr) (c5 : Nat), RowT q K K (trimK (ks.take K)) W → w.heap.size ≤ base → base ≤ q → Got W base 5 .u8 (.slice A5 (d.take D).length c5) (d.take D) → NodV w.heap.size (trimN (.mk k e n d ks)) (.agg #[.int .i64 k, .int .i64 e, .int .i64 n, .slice A5 D c5, .slice (some ⟨q, 0, none⟩) K K]) W) := Lib.hid (fun q base W A5 c5 hr h1 h2 hg =>
    hr.nodV h1 h2 (by rw [trimK_length, HKL.out]) (by unfold maxLen; omega) HO.out.1 HO.out.2.1 HO.out.2.2 hg (fun z hz => HBT.out z (List.mem_of_mem_take hz)) HT.out HDL.out)
  have hwb : (8 * wordsT d = D → wordsT d ≤ 1099511627776) := by omega
  clear hx ih hso hv hT h1 h2 h3 hd hbt hA hB HD HBT HO HA HX HI HVK HSZ hs hkl
  generalize trimN (.mk k e n d ks) = tx at *
  have HB0 := Lib.hid (fun o1 o2 => ((Below.refl w.heap.size w).alloc (Nat.le_refl _) o1).alloc (by simp) o2)
  go_enter Tryz.func16, Tryz.ntmps16
  go_wp2_with fail
  refine abs_code10 (F := fun W => Blk W w.heap.size #[.int .i64 k, .int .i64 e, .int .i64 n, .slice A d.length c, .slice B ks.length c2] ∧ Blk W (w.heap.size + 1) #[.int .i64 0, .int .i64 0, .int .i64 0, .slice none 0 0, .slice none 0 0] ∧ Below w.heap.size w W) ⟨(Blk.fresh _ _ _).alloc _, Blk.new (by simp), HB0.out _ _⟩ ?_
  rintro W ⟨hB1, hB2, hbw⟩
  have HW1 := Lib.hid hB1
  have HW2 := Lib.hid hB2
  have HWB := Lib.hid hbw
  obtain ⟨x1, y1, z1⟩ := hB1
  clear hB2 hbw
  go_region
  have HW1n := Lib.hid HW1.out.drew
  have HW2n := Lib.hid HW2.out.drew
  have HWBn := Lib.hid (bel_drew HWB.out)
  clear HW1 HW2 HWB y1 z1
  have HW1 := HW1n
  have HW2 := HW2n
  have HWB := HWBn
  clear HW1n HW2n HWBn
  have hc3 : (k = 1 ∧ 8 * wordsT d = D ∧ ptrsT ks = K ∧ 8 * wordsT d < d.length) ∨ (k = 1 ∧ d.length = D ∧ ptrsT ks = K ∧ 8 * wordsT d = d.length) ∨ (k ≠ 1 ∧ d.length = D ∧ ks.length = K) := by omega
  clear hcase
  rcases hc3 with ⟨h1, hDD, hPP, hD8⟩ | ⟨h1, hDD, hPP, hD8⟩ | ⟨h1, hDD, hPP⟩
  focus
    have t1 : (k == 1) = true := by simpa using h1
    have hwb' := hwb hDD
    have m1 : ¬ ((d.length : Int) ≤ 8 * ((wordsT d : Nat) : Int)) := by omega
    have EDN : Hid ((8 * ((wordsT d : Nat) : Int)).toNat = D) := Lib.hid (by omega)
    have EDM : Hid (8 * wordsT d = D) := Lib.hid hDD
    have EPP : Hid (ptrsT ks = K) := Lib.hid hPP
    clear h1 hDD hPP hwb
    go_wp2_with fail
    refine (HWD.out _ HWB.out).mono ?_
    rintro r w' ⟨rfl, rfl⟩
    go_wp2_with fail
    refine (HPT.out _ HWB.out).mono ?_
    rintro r w' ⟨rfl, hb2⟩
    have HW1n := Lib.hid (HW1.out.below hb2)
    have HW2n := Lib.hid (HW2.out.below hb2)
    have HWBn := Lib.hid (bel_on HWB.out hb2)
    clear HW1 HW2 HWB x1 hb2
    have HW1 := HW1n
    have HW2 := HW2n
    have HWB := HWBn
    clear HW1n HW2n HWBn
    have x1 := HW1.out.cell
    go_wp2_with fail
    simp only [EDN.out, EDM.out, EPP.out]
    clear EDN EDM EPP
  rotate_left
  focus
    have t1 : (k == 1) = true := by simpa using h1
    have hwb' := hwb (hD8.trans hDD)
    have m1 : (d.length : Int) ≤ 8 * ((wordsT d : Nat) : Int) := by omega
    have EDM : Hid (d.length = D) := Lib.hid hDD
    clear hD8
    have EPP : Hid (ptrsT ks = K) := Lib.hid hPP
    clear h1 hDD hPP hwb
    go_wp2_with fail
    refine (HWD.out _ HWB.out).mono ?_
    rintro r w' ⟨rfl, rfl⟩
    go_wp2_with fail
    refine (HPT.out _ HWB.out).mono ?_
    rintro r w' ⟨rfl, hb2⟩
    have HW1n := Lib.hid (HW1.out.below hb2)
    have HW2n := Lib.hid (HW2.out.below hb2)
    have HWBn := Lib.hid (bel_on HWB.out hb2)
    clear HW1 HW2 HWB x1 hb2
    have HW1 := HW1n
    have HW2 := HW2n
    have HWB := HWBn
    clear HW1n HW2n HWBn
    have x1 := HW1.out.cell
    go_wp2_with fail
    simp only [EDM.out, EPP.out]
    clear EDM EPP
  rotate_left
  focus
    have t1 : (k == 1) = false := by simpa using h1
    have EDM : Hid (d.length = D) := Lib.hid hDD
    have EPP : Hid (ks.length = K) := Lib.hid hPP
    clear h1 hDD hPP hwb
    go_wp2_with fail
    simp only [EDM.out, EPP.out]
    clear EDM EPP
  all_goals
    refine abs_world (F := fun W => Blk W w.heap.size #[.int .i64 k, .int .i64 e, .int .i64 n, .slice A d.length c, .slice B ks.length c2] ∧ Blk W (w.heap.size + 1) #[.int .i64 0, .int .i64 0, .int .i64 0, .slice none 0 0, .slice none 0 0] ∧ Below w.heap.size w W) ⟨HW1.out, HW2.out, HWB.out⟩ ?_
    clear HW1 HW2 HWB x1
    rintro W5 ⟨h1, h2, hb⟩
    have HW1 := Lib.hid h1
    have HW2 := Lib.hid h2
    have HWB := Lib.hid hb
    clear h1 h2 hb
    refine (HCL.out _ HWB.out).mono ?_
    rintro r w6 ⟨v, rfl, hg, hb6⟩
    obtain ⟨A5, c5, rfl, -⟩ := hg.slice
    have hz6 : w.heap.size + 1 < W5.heap.size := HW2.out.lt
    have HG := Lib.hid hg
    have HW1n := Lib.hid (HW1.out.below hb6)
    have HW2n := Lib.hid (HW2.out.below hb6)
    have HWBn := Lib.hid (bel_on HWB.out hb6)
    have hz56 := hb6.size
    clear HW1 HW2 HWB hg hb6
    have x1 := HW1n.out.cell
    have y1 := HW1n.out.free
    rw [← HDL.out] at HG
    rw [← HDL.out]
    go_wp2_with fail
    refine abs_world (F := fun W => Blk W w.heap.size #[.int .i64 k, .int .i64 e, .int .i64 n, .slice A5 D c5, .slice B ks.length c2] ∧ Blk W (w.heap.size + 1) #[.int .i64 0, .int .i64 0, .int .i64 0, .slice none 0 0, .slice none 0 0] ∧ Below w.heap.size w W ∧ Got W W5.heap.size 5 .u8 (.slice A5 D c5) (d.take D) ∧ w6.heap.size ≤ W.heap.size) ⟨?_, ?_, ?_, ?_, ?_⟩ ?_
    · exact HW1n.out.set 3 (by simp) _
    · exact HW2n.out.other (by show w.heap.size ≠ w.heap.size + 1; omega) _
    · exact HWBn.out.setCell (by show w.heap.size ≤ w.heap.size; omega) _
    · exact HG.out.far (by show w.heap.size < W5.heap.size; omega) _
    · simp
    clear HW1n HW2n HWBn HG x1 y1
    rintro W7 ⟨h1, h2, hb, hg, hz7⟩
    have HW1 := Lib.hid h1
    have HW2 := Lib.hid h2
    have HWB := Lib.hid hb
    have HG := Lib.hid hg
    clear h1 h2 hb hg
    refine (HTM.out _ HWB.out).mono ?_
    rintro r w8 ⟨rfl, hrow, hb8⟩
    have HRW := Lib.hid hrow
    have HW1n := Lib.hid (HW1.out.below hb8)
    have HW2n := Lib.hid (HW2.out.below hb8)
    have HWBn := Lib.hid (bel_on HWB.out hb8)
    have HGn := Lib.hid (HG.out.below hb8 (Nat.le_refl _))
    clear HW1 HW2 HWB HG hb8 hrow
    obtain ⟨q, hq⟩ : ∃ q, q = W7.heap.size := ⟨_, rfl⟩
    rw [← hq] at HRW hz7
    rw [← hq]
    clear hq
    have x1 := HW1n.out.cell
    have y1 := HW1n.out.free
    have x2 := HW2n.out.cell
    have y2 := HW2n.out.free
    go_wp2
    have hq1 : w.heap.size + 1 < q := by omega
    refine abs_post (F := fun W => Blk W (w.heap.size + 1) #[.int .i64 k, .int .i64 e, .int .i64 n, .slice A5 D c5, .slice (some ⟨q, 0, none⟩) K K] ∧ NodV w.heap.size tx (.agg #[.int .i64 k, .int .i64 e, .int .i64 n, .slice A5 D c5, .slice (some ⟨q, 0, none⟩) K K]) W ∧ Below w.heap.size w W) ⟨?_, ?_, ?_⟩ ?_
    · exact (((((HW2n.out.other (p := ⟨w.heap.size, 4, none⟩) (by show w.heap.size ≠ w.heap.size + 1; omega) _).set 0 (by simp) _).set 1 (by simp) _).set 2 (by simp) _).set 3 (by simp) _).set 4 (by simp) _
    · have hf : w.heap.size < W5.heap.size := by omega
      refine HFIN.out q W5.heap.size _ A5 c5 ?_ (by omega) (by omega) ?_
      · exact (((((HRW.out.other (p := ⟨w.heap.size, 4, none⟩) (by show w.heap.size < q; omega) _).other (p := ⟨w.heap.size + 1, 0, none⟩) hq1 _).other (p := ⟨w.heap.size + 1, 1, none⟩) hq1 _).other (p := ⟨w.heap.size + 1, 2, none⟩) hq1 _).other (p := ⟨w.heap.size + 1, 3, none⟩) hq1 _).other (p := ⟨w.heap.size + 1, 4, none⟩) hq1 _
      · rw [← HDL.out]
        exact (((((HGn.out.far (p := ⟨w.heap.size, 4, none⟩) hf _).far (p := ⟨w.heap.size + 1, 0, none⟩) hz6 _).far (p := ⟨w.heap.size + 1, 1, none⟩) hz6 _).far (p := ⟨w.heap.size + 1, 2, none⟩) hz6 _).far (p := ⟨w.heap.size + 1, 3, none⟩) hz6 _).far (p := ⟨w.heap.size + 1, 4, none⟩) hz6 _
    · refine Below.setCell (Below.setCell (Below.setCell (Below.setCell (Below.setCell (Below.setCell HWBn.out ?_ _) ?_ _) ?_ _) ?_ _) ?_ _) ?_ _ <;> (first | (show w.heap.size ≤ w.heap.size; omega) | (show w.heap.size ≤ w.heap.size + 1; omega))
    rintro W9 ⟨B6, hN, hbw⟩
    exact bodyPost_ret (v := .agg #[.int .i64 k, .int .i64 e, .int .i64 n, .slice A5 D c5, .slice (some ⟨q, 0, none⟩) K K]) (by simp [results, Tryz.results16, go_sem, B6.cell]) rfl ⟨_, rfl, hN, hbw⟩
end Go.Proofs.YtnmanhediiooaaaGreatDoor

/- Package denote: the values of the pointers of an object. -/
namespace Go.Proofs.YtnmanhediiooaaaGreatDoor
open Go.ChangeShapes Go.WideShapes Go.ChangeAt Go.RowKit
set_option linter.unusedVariables false
set_option linter.unusedSimpArgs false
set_option maxRecDepth 100000
attribute [local simp] AllK KnowsV look Is

/-- what value does, r nested objects to go -/
def ValL (b : Nat) (A : Option Addr) (c : Nat) (ls : List (List Int)) (D X O : Int) (w0 : World) (r : Nat) : Prop := ∀ (m s a dep : Int) (w : World), Below b w0 w → Blk w b #[.slice A ls.length c, .int .i64 D, .int .i64 X, .int .i64 O, .int .i64 m] →
  0 ≤ m → m ≤ 4611686018427387904 → 0 ≤ s → s ≤ 1000 → 0 ≤ a → a ≤ 200000000000 → 0 ≤ dep → dep ≤ 901 → (D - dep + 1).toNat = r →
  Calls Tryz.prog 18 #[.pointer (some ⟨b, 0, none⟩), .int .i64 s, .int .i64 a, .int .i64 dep] w fun e w' => Keeps (KB b) w w' ∧ Blk w' b #[.slice A ls.length c, .int .i64 D, .int .i64 X, .int .i64 O, .int .i64 (valV ls r m s a).m] ∧
    (((valV ls r m s a).e = 0 ∧ ∃ v, e = .returned v ∧ NodF w.heap.size (valV ls r m s a).n v w') ∨ ((valV ls r m s a).e ≠ 0 ∧ e = failE (valV ls r m s a).e))

theorem ptrO_bd {ls : List (List Int)} {o : Ob} {x y : Int} (ho : ObOK ls o) (h : ptrO o = (x, y)) : 0 ≤ x ∧ x ≤ 150000000000 ∧ 0 ≤ y ∧ y ≤ 536870911 := by
  obtain ⟨hk0, hsg, hat, hd, hp, hel, hn, hby⟩ := ho
  unfold ptrO at h
  split at h
  · simp only [Prod.mk.injEq] at h; omega
  · split at h
    · simp only [Prod.mk.injEq] at h; omega
    · simp only [Prod.mk.injEq] at h; omega

set_option maxHeartbeats 4000000 in
theorem kids_any (b : Nat) (A : Option Addr) (c : Nat) (ls : List (List Int)) (D X O : Int) (w0 : World) (r : Nat) (E : EnvD b A ls w0) (m : Int) (o : Ob) (dep : Int) (hV : 0 < (ptrO o).2 → dep ≤ 900 ∧ ValL b A c ls D X O w0 r) (w : World) (hb : Below b w0 w) (hk : Blk w b #[.slice A ls.length c, .int .i64 D, .int .i64 X, .int .i64 O, .int .i64 m])
    (hm0 : 0 ≤ m) (hm1 : m ≤ 4611686018427387904) (ho : ObOK ls o) (hd0 : 0 ≤ dep) (hd1 : dep ≤ 901) (hr : (D - dep).toNat = r) :
    Calls Tryz.prog 58 #[.pointer (some ⟨b, 0, none⟩), .agg #[.int .i64 o.k, .int .i64 o.sg, .int .i64 o.at', .int .i64 o.d, .int .i64 o.p, .int .i64 o.el, .int .i64 o.n, .int .i64 o.cost], .int .i64 dep] w fun e w' => Keeps (KB b) w w' ∧ Blk w' b #[.slice A ls.length c, .int .i64 D, .int .i64 X, .int .i64 O, .int .i64 (kidR (valV ls r) o m).m] ∧
      (((kidR (valV ls r) o m).e = 0 ∧ ∃ q N, e = .returned (.slice (some ⟨q, 0, none⟩) N N) ∧ w.heap.size ≤ q ∧ RowG q N (kidR (valV ls r) o m).ks w' ∧ (kidR (valV ls r) o m).ks.length = N ∧ N ≤ 536870911) ∨ ((kidR (valV ls r) o m).e ≠ 0 ∧ e = failE (kidR (valV ls r) o m).e)) := by
  obtain ⟨i0, hi, hz0, hz1, hz2⟩ := info_parts node_info
  have hlt := hk.lt
  obtain ⟨x, y, hxy⟩ : ∃ x y, ptrO o = (x, y) := ⟨_, _, rfl⟩
  obtain ⟨hx0, hx1, hy0, hy1⟩ := ptrO_bd ho hxy
  obtain ⟨n, rfl⟩ := Int.eq_ofNat_of_zero_le hy0
  have hn1 : n ≤ 536870911 := by omega
  have hkR : kidR (valV ls r) o m = runK (fun (m : Int) (i : Nat) => valV ls r m o.sg (x + (i : Int))) m n := by unfold kidR; rw [hxy]; simp
  rw [hkR]
  have hval := valV_m E.wd E.m E.f r
  obtain ⟨f, hf⟩ : ∃ f : Int → Nat → Val, f = fun (m : Int) (i : Nat) => valV ls r m o.sg (x + (i : Int)) := ⟨_, rfl⟩
  have HMR : Hid (∀ j, 0 ≤ (runK f m j).m ∧ (runK f m j).m ≤ m) := Lib.hid (fun j => runK_ind (fun z => 0 ≤ z ∧ z ≤ m) ⟨hm0, Int.le_refl _⟩ j (fun m' i _ hm => by
    subst hf
    have := hval m' o.sg (x + i) hm.1
    exact ⟨this.1, Int.le_trans this.2 hm.2⟩))
  have HV : Hid (∀ (R : Int) (j : Nat) (wr : World), Below b w0 wr → Blk wr b #[.slice A ls.length c, .int .i64 D, .int .i64 X, .int .i64 O, .int .i64 R] → 0 ≤ R → R ≤ m → j < n →
      Calls Tryz.prog 18 #[.pointer (some ⟨b, 0, none⟩), .int .i64 o.sg, .int .i64 (x + j), .int .i64 (dep + 1)] wr fun e w' => Keeps (KB b) wr w' ∧ Blk w' b #[.slice A ls.length c, .int .i64 D, .int .i64 X, .int .i64 O, .int .i64 (f R j).m] ∧
        (((f R j).e = 0 ∧ ∃ v, e = .returned v ∧ NodF wr.heap.size (f R j).n v w') ∨ ((f R j).e ≠ 0 ∧ e = failE (f R j).e))) := Lib.hid (fun R j wr h1 h2 h3 h4 h5 => by
    subst hf
    obtain ⟨hdd, hVV⟩ := hV (by rw [hxy]; show (0 : Int) < n; omega)
    exact hVV R o.sg (x + j) (dep + 1) wr h1 h2 h3 (by omega) (by have := ho.sg; omega) (by have := ho.sg; omega) (by omega) (by omega) (by omega) (by omega) (by rw [← hr]; congr 1; omega))
  rw [← hf]
  have HPT := Lib.hid (fun w2 => RPointers_is o.k o.sg o.at' o.d o.p o.el o.n o.cost x n w2 ho.at'.1 (by have := ho.at'; omega) ho.d.1 ho.d.2 hxy)
  have HB1 := Lib.hid ((Below.refl w.heap.size w).alloc (Nat.le_refl _) (.cells (obA o) 74))
  have HT1 := Lib.hid (hk.alloc (.cells (obA o) 74))
  have HO1 : Hid (Blk (w.alloc (.cells (obA o) 74)) w.heap.size (obA o)) := Lib.hid (Blk.fresh _ _ _)
  have HB0 := Lib.hid (fun (wr : World) (h : Keeps (KB b) w wr) => hb.trans (bel_keeps h (Nat.le_of_lt hlt)))
  have HL : Hid (b < w.heap.size) := Lib.hid hlt
  unfold obA at HB1 HT1 HO1
  clear hb hk hlt hkR hval hV hr ho hxy hy0 hy1 hf E
  obtain ⟨x2, y2, z2⟩ := HO1.out
  go_enter Tryz.func58, Tryz.ntmps58
  go_wp2_with fail
  refine (HPT.out _).mono ?_
  rintro e w1 ⟨rfl, hb1⟩
  have HT2 := Lib.hid (HT1.out.below hb1)
  have HO2 := Lib.hid (HO1.out.below hb1)
  have HB2 : Hid (Below w.heap.size w w1) := Lib.hid (bel_on HB1.out hb1)
  clear HT1 HO1 HB1 hb1 x2 y2 z2 HPT
  go_wp2_with (at_make; refine wpList_make_full _ rfl _ _ 28 rfl w1.heap.size 30 i0 _ 5 Tryz.underlying28 hi hz0 hz1 .i64 .i64 _ _ n rfl rfl (by omega) (by omega) (by rw [hz2]; omega) (by unfold maxLen; omega) (Nat.le_refl _) ?_; intro w3 hown0 hgrow0)
  have hR0 : RowG w1.heap.size n [] w3 := RowG.made hown0
  have hb3 : Below w1.heap.size w1 w3 := (Below.refl _ _).grown hgrow0 (Nat.le_refl _) (fun g hg => by cases hg)
  have HT3 := Lib.hid (HT2.out.below hb3)
  have HO3 := Lib.hid (HO2.out.below hb3)
  have HK3 : Hid (Keeps (KB b) w w3) := Lib.hid (keeps_of (bel_on HB2.out hb3))
  have hq0 : w.heap.size < w1.heap.size := HO2.out.lt
  clear hown0 hgrow0 HT2 HO2 HB2 hb3
  generalize w1.heap.size = q at *
  go_loopw [20] (fun i wr => ∃ j : Nat, j ≤ n ∧ i = .int .i64 j ∧ (runK f m j).e = 0 ∧ RowG q n (runK f m j).ks wr ∧ Blk wr b #[.slice A ls.length c, .int .i64 D, .int .i64 X, .int .i64 O, .int .i64 (runK f m j).m] ∧ Keeps (KB b) w wr ∧ Blk wr w.heap.size #[.int .i64 o.k, .int .i64 o.sg, .int .i64 o.at', .int .i64 o.d, .int .i64 o.p, .int .i64 o.el, .int .i64 o.n, .int .i64 o.cost]) (fun i _ => n - (intOf i).toNat)
  case atStart => exact ⟨0, by omega, rfl, rfl, hR0, HT3.out, HK3.out, HO3.out⟩
  case round =>
    clear hR0 HT3 HO3 HK3
    obtain ⟨j, hj, rfl, he, hrow, hbt, hkp, hbo⟩ := hrel
    have HRE := Lib.hid he
    have HW := Lib.hid hrow
    have HT := Lib.hid hbt
    have HK := Lib.hid hkp
    have HO := Lib.hid hbo
    clear he hrow hbt hkp
    by_cases hlt : j < n
    · have hj1 : (j : Int) < (n : Int) := by omega
      have hj2 : (j : Int) < 536870912 := by omega
      have HMJ := Lib.hid (HMR.out j)
      have HKL : Hid ((runK f m j).ks.length = j) := Lib.hid (runK_length HRE.out)
      have HNX : Hid (∀ h : (f (runK f m j).m j).e = 0, runK f m (j + 1) = ⟨(runK f m j).ks ++ [(f (runK f m j).m j).n], (f (runK f m j).m j).m, 0⟩) := Lib.hid (fun h => runK_ok HRE.out h)
      have HNO : Hid (∀ h : (f (runK f m j).m j).e ≠ 0, (runK f m n).m = (f (runK f m j).m j).m ∧ (runK f m n).e = (f (runK f m j).m j).e) := Lib.hid (fun h => by
        have h1 := runK_no HRE.out h
        have h2 : runK f m n = runK f m (j + 1) := runK_keep (by rw [h1]; exact h) (by omega)
        rw [h2, h1]
        exact ⟨rfl, rfl⟩)
      obtain ⟨x2, y2, z2⟩ := hbo
      go_wp2_with fail
      refine (HV.out (runK f m j).m j wr (HB0.out _ HK.out) HT.out HMJ.out.1 HMJ.out.2 hlt).mono ?_
      rintro e w4 ⟨hk4, hbt4, ⟨he4, v, rfl, hnd⟩ | ⟨he4, rfl⟩⟩
      · obtain ⟨A5, c5, B5, e5, hi5, rfl, hh5, ho5⟩ := hnd
        have hqr : q < wr.heap.size := HW.out.lt
        have HW4 := Lib.hid (HW.out.keeps hk4 (by have := HL.out; omega))
        have HT4 := Lib.hid hbt4
        have HK4 := Lib.hid (HK.out.trans hk4)
        have HO4 := Lib.hid (HO.out.keeps hk4 (by have := HL.out; unfold KB; omega))
        have HO5 := Lib.hid ho5
        have HN4 := Lib.hid (HNX.out he4)
        clear hk4 hbt4 ho5 x2 y2 z2 hz0 HW HT HK HO HNX HNO he4
        obtain ⟨u0, y0⟩ := HW4.out.cell (j * 5) (by omega)
        obtain ⟨u1, y1⟩ := HW4.out.cell (j * 5 + 1) (by omega)
        obtain ⟨u2, y2⟩ := HW4.out.cell (j * 5 + 2) (by omega)
        obtain ⟨u3, y3⟩ := HW4.out.cell (j * 5 + 3) (by omega)
        obtain ⟨u4, y4⟩ := HW4.out.cell (j * 5 + 4) (by omega)
        have z := HW4.out.free
        generalize (f (runK f m j).m j).n = kx at *
        generalize (f (runK f m j).m j).m = m4 at *
        go_wp2
        go_roundw
        case rel =>
          refine ⟨j + 1, by omega, by go_num, by rw [HN4.out], ?_, ?_, ?_, ?_⟩
          · rw [HN4.out]
            exact HW4.out.next HKL.out hlt (lo := wr.heap.size) (hi' := hi5) (by omega) hh5 HO5.out
          · rw [HN4.out]
            have hne : q ≠ b := by have := HL.out; omega
            exact ((((HT4.out.other (p := ⟨q, j * 5, none⟩) hne _).other (p := ⟨q, j * 5 + 1, none⟩) hne _).other (p := ⟨q, j * 5 + 2, none⟩) hne _).other (p := ⟨q, j * 5 + 3, none⟩) hne _).other (p := ⟨q, j * 5 + 4, none⟩) hne _
          · refine keeps_set (keeps_set (keeps_set (keeps_set (keeps_set HK4.out ?_ _) ?_ _) ?_ _) ?_ _) ?_ _ <;> exact .inr (by show w.heap.size ≤ q; omega)
          · have hne : q ≠ w.heap.size := by omega
            exact ((((HO4.out.other (p := ⟨q, j * 5, none⟩) hne _).other (p := ⟨q, j * 5 + 1, none⟩) hne _).other (p := ⟨q, j * 5 + 2, none⟩) hne _).other (p := ⟨q, j * 5 + 3, none⟩) hne _).other (p := ⟨q, j * 5 + 4, none⟩) hne _
        case measure => simp [intOf]; omega
      · obtain ⟨h1, h2⟩ := HNO.out he4
        have HK4 := Lib.hid (HK.out.trans hk4)
        rw [← h1] at hbt4
        rw [← h2] at he4
        unfold failE
        go_wp2
        exact ⟨rfl, HK4.out, hbt4, .inr ⟨he4, by rw [h2]; rfl⟩⟩
    · obtain rfl : j = n := by omega
      go_wp2
      go_ret
      exact ⟨HK.out, HT.out, .inl ⟨HRE.out, q, j, rfl, by omega, HW.out, runK_length HRE.out, by omega⟩⟩
end Go.Proofs.YtnmanhediiooaaaGreatDoor

/- Package denote: an object that is no composite list, as a node. -/
namespace Go.Proofs.YtnmanhediiooaaaGreatDoor
open Go.ChangeShapes Go.WideShapes Go.ChangeAt Go.RowKit
set_option linter.unusedVariables false
set_option linter.unusedSimpArgs false
set_option maxRecDepth 100000
attribute [local simp] AllK KnowsV look Is

theorem keeps_undrew {b : Nat} {w wc : World} (h : Keeps (KB b) w.drew wc) : Keeps (KB b) w wc := ⟨h.os, h.tape, h.output, h.size, h.block⟩
theorem keeps_on' {b : Nat} {w W wc w' : World} (h1 : Below w.heap.size w W) (h2 : Below W.heap.size W wc) (h3 : Keeps (KB b) wc w') : Keeps (KB b) w w' := (keeps_of (bel_on h1 h2)).trans h3
theorem stableK_datg {b lo : Nat} {xs : List Int} (hb : b < lo) : stableK (KB b) (DatG lo xs) := fun v w w' h hk => got_keeps h hk hb
theorem stableK_nod {b lo : Nat} {x : Nd} (hb : b < lo) : stableK (KB b) (NodF lo x) := fun v w w' h hk => NodF.keeps h hk hb
/-- v is a row of the nodes ks, and the traversal's block holds cs -/
def KidF (b lo : Nat) (ks : List Nd) (cs : Array Value) (e : Int) : Fact := fun v w => (∃ q N, v = .slice (some ⟨q, 0, none⟩) N N ∧ lo ≤ q ∧ RowG q N ks w ∧ ks.length = N ∧ N ≤ 536870911) ∧ Blk w b cs ∧ e = 0
theorem stable_kidf (b lo : Nat) (ks : List Nd) (cs : Array Value) (e : Int) : stable (KidF b lo ks cs e) := fun v w w' ⟨⟨q, N, h1, h2, h3, h4, h5⟩, h6, h7⟩ hb => ⟨⟨q, N, h1, h2, h3.below hb, h4, h5⟩, h6.below hb, h7⟩
theorem nodf_lower {lo lo' : Nat} {x : Nd} {v : Value} {w : World} (h : NodF lo x v w) (hl : lo' ≤ lo) : NodF lo' x v w := by
  obtain ⟨A, c, B, c2, hi, h1, h2, h3⟩ := h
  exact ⟨A, c, B, c2, hi, h1, h2, h3.wide hl (Nat.le_refl _)⟩
theorem NodF.set {lo : Nat} {x : Nd} {v : Value} {w : World} (h : NodF lo x v w) {p : Addr} (hp : p.block < lo) (u : Value) : NodF lo x v (w.setCell p u) := by
  obtain ⟨A, c, B, c2, hi, h1, h2, h3⟩ := h
  exact ⟨A, c, B, c2, hi, h1, by simpa using h2, h3.to fun k k1 k2 => Below.heap_setCell _ _ _ _ (by omega)⟩
theorem datO_bts {ls : List (List Int)} {o : Ob} (ho : ObOK ls o) : Bts (datO ls o) := by
  unfold datO
  split
  · exact bytesOf_bts _
  · split
    · exact trimL_bts (bytesOf_bts _) _ _
    · intro z hz; cases hz

set_option maxHeartbeats 4000000 in
theorem contents_any (b : Nat) (A : Option Addr) (c : Nat) (ls : List (List Int)) (D X O : Int) (w0 : World) (r : Nat) (E : EnvD b A ls w0) (m : Int) (o : Ob) (dep : Int) (hV : 0 < (ptrO o).2 → dep ≤ 900 ∧ ValL b A c ls D X O w0 r) (w : World) (hb : Below b w0 w) (hk : Blk w b #[.slice A ls.length c, .int .i64 D, .int .i64 X, .int .i64 O, .int .i64 m])
    (hm0 : 0 ≤ m) (hm1 : m ≤ 4611686018427387904) (ho : ObOK ls o) (h7 : o.el ≠ 7) (hd0 : 0 ≤ dep) (hd1 : dep ≤ 901) (hr : (D - dep).toNat = r) :
    Calls Tryz.prog 35 #[.pointer (some ⟨b, 0, none⟩), .agg #[.int .i64 o.k, .int .i64 o.sg, .int .i64 o.at', .int .i64 o.d, .int .i64 o.p, .int .i64 o.el, .int .i64 o.n, .int .i64 o.cost], .int .i64 dep] w fun e w' => Keeps (KB b) w w' ∧ Blk w' b #[.slice A ls.length c, .int .i64 D, .int .i64 X, .int .i64 O, .int .i64 (contK (valV ls r) ls m o).m] ∧
      (((contK (valV ls r) ls m o).e = 0 ∧ ∃ v, e = .returned v ∧ NodF w.heap.size (contK (valV ls r) ls m o).n v w') ∨ ((contK (valV ls r) ls m o).e ≠ 0 ∧ e = failE (contK (valV ls r) ls m o).e)) := by
  have hlt := hk.lt
  have HDA := Lib.hid (fun w2 h1 h2 => data_any b A c ls D X O m o w0 w2 E ho h7 h1 h2)
  have HKI := Lib.hid (fun w2 h1 h2 => kids_any b A c ls D X O w0 r E m o dep hV w2 h1 h2 hm0 hm1 ho hd0 hd1 hr)
  have hcy : (kidR (valV ls r) o m).e = 0 → contK (valV ls r) ls m o = ⟨.mk o.k o.el o.n (datO ls o) (kidR (valV ls r) o m).ks, (kidR (valV ls r) o m).m, 0⟩ := fun h => by unfold contK; rw [if_neg (by rw [h]; simp)]
  have HCE : Hid ((kidR (valV ls r) o m).e ≠ 0 → contK (valV ls r) ls m o = errV (kidR (valV ls r) o m).m (kidR (valV ls r) o m).e) := Lib.hid (fun h => by unfold contK; rw [if_pos h])
  have HCY := Lib.hid hcy
  have HDB := Lib.hid (datO_bts ho)
  have HIK : Hid ((-9223372036854775808 ≤ o.k ∧ o.k ≤ 9223372036854775807) ∧ (-9223372036854775808 ≤ o.el ∧ o.el ≤ 9223372036854775807) ∧ (-9223372036854775808 ≤ o.n ∧ o.n ≤ 9223372036854775807)) := Lib.hid (by have := ho.k; have := ho.el; have := ho.n; omega)
  generalize kidR (valV ls r) o m = R at *
  generalize contK (valV ls r) ls m o = CV at *
  have HB1 := Lib.hid (((Below.refl w.heap.size w).alloc (Nat.le_refl _) (.cells (obA o) 74)).alloc (by simp) (.cells #[.int .i64 0, .int .i64 0, .int .i64 0, .slice none 0 0, .slice none 0 0] 30))
  have HT1 := Lib.hid ((hk.alloc (.cells (obA o) 74)).alloc (.cells #[.int .i64 0, .int .i64 0, .int .i64 0, .slice none 0 0, .slice none 0 0] 30))
  have HO1 : Hid (Blk ((w.alloc (.cells (obA o) 74)).alloc (.cells #[.int .i64 0, .int .i64 0, .int .i64 0, .slice none 0 0, .slice none 0 0] 30)) w.heap.size (obA o)) := Lib.hid ((Blk.fresh _ _ _).alloc _)
  have HR1 : Hid (Blk ((w.alloc (.cells (obA o) 74)).alloc (.cells #[.int .i64 0, .int .i64 0, .int .i64 0, .slice none 0 0, .slice none 0 0] 30)) (w.heap.size + 1) #[.int .i64 0, .int .i64 0, .int .i64 0, .slice none 0 0, .slice none 0 0]) := Lib.hid (Blk.new (by simp))
  have HNO : Hid (¬ KB b w.heap.size) := Lib.hid (by unfold KB; omega)
  have HNR : Hid (¬ KB b (w.heap.size + 1)) := Lib.hid (by unfold KB; omega)
  unfold obA at HB1 HT1 HO1 HR1
  clear hk hm0 hm1 ho h7 hd0 hd1 hr hV hcy E
  go_enter Tryz.func35, Tryz.ntmps35
  go_wp2_with fail
  refine abs_code10 (F := fun W => W = (w.alloc (.cells #[.int .i64 o.k, .int .i64 o.sg, .int .i64 o.at', .int .i64 o.d, .int .i64 o.p, .int .i64 o.el, .int .i64 o.n, .int .i64 o.cost] 74)).alloc (.cells #[.int .i64 0, .int .i64 0, .int .i64 0, .slice none 0 0, .slice none 0 0] 30)) rfl ?_
  rintro W1 hW1
  rw [← hW1] at HB1 HT1 HO1 HR1
  have HZ1 : Hid (w.heap.size + 1 < W1.heap.size) := Lib.hid HR1.out.lt
  have HL : Hid (b < W1.heap.size) := Lib.hid HT1.out.lt
  have HB := Lib.hid (fun (w2 : World) (h : Below W1.heap.size W1 w2) => hb.trans ((bel_on HB1.out h).mono (Nat.le_of_lt hlt)))
  clear hW1 hb hlt
  refine wp_region_p14 12 (KB b) (by kernel_rfl) (by kernel_rfl) ?_
  refine p_val_l (u := ?_) [4] (by kernel_rfl) rfl (by kernel_rfl) trivial (fun ρ wc hkc hcn hq => ?_) ?_; rotate_left
  · obtain ⟨hcn, hfn⟩ := hcn
    simp at hq
    go_simp
    rfl
  refine p_val_l (u := ?_) [7] (by kernel_rfl) rfl (by kernel_rfl) trivial (fun ρ wc hkc hcn hq => ?_) ?_; rotate_left
  · obtain ⟨hcn, hfn⟩ := hcn
    simp at hq
    have x2 := (HO1.out.keeps (keeps_undrew hkc) HNO.out).cell
    go_simp
    rfl
  refine p_val_l (u := ?_) [4] (by kernel_rfl) rfl (by kernel_rfl) trivial (fun ρ wc hkc hcn hq => ?_) ?_; rotate_left
  · obtain ⟨hcn, hfn⟩ := hcn
    simp at hq
    go_simp
    rfl
  refine p_val_l (u := ?_) [9] (by kernel_rfl) rfl (by kernel_rfl) trivial (fun ρ wc hkc hcn hq => ?_) ?_; rotate_left
  · obtain ⟨hcn, hfn⟩ := hcn
    simp at hq
    have x2 := (HO1.out.keeps (keeps_undrew hkc) HNO.out).cell
    go_simp
    rfl
  refine p_val_l (u := ?_) [4] (by kernel_rfl) rfl (by kernel_rfl) trivial (fun ρ wc hkc hcn hq => ?_) ?_; rotate_left
  · obtain ⟨hcn, hfn⟩ := hcn
    simp at hq
    go_simp
    rfl
  refine p_val_l (u := ?_) [11] (by kernel_rfl) rfl (by kernel_rfl) trivial (fun ρ wc hkc hcn hq => ?_) ?_; rotate_left
  · obtain ⟨hcn, hfn⟩ := hcn
    simp at hq
    have x2 := (HO1.out.keeps (keeps_undrew hkc) HNO.out).cell
    go_simp
    rfl
  refine p_val_l (u := ?_) [0] (by kernel_rfl) rfl (by kernel_rfl) trivial (fun ρ wc hkc hcn hq => ?_) ?_; rotate_left
  · obtain ⟨hcn, hfn⟩ := hcn
    simp at hq
    go_simp
    rfl
  refine p_val_l (u := ?_) [4] (by kernel_rfl) rfl (by kernel_rfl) trivial (fun ρ wc hkc hcn hq => ?_) ?_; rotate_left
  · obtain ⟨hcn, hfn⟩ := hcn
    simp at hq
    have x2 := (HO1.out.keeps (keeps_undrew hkc) HNO.out).cell
    go_simp
    rfl
  refine p_call (T := DatG W1.heap.size (datO ls o)) 57 [13, 14] (by kernel_rfl) rfl rfl (by kernel_rfl) trivial (stable_datg _ _) (stableK_datg HL.out) (fun ρ wc hbc hcn hq => ?_) ?_
  · obtain ⟨hcn, hfn⟩ := hcn
    simp at hq
    refine ⟨_, by go_simp; rfl, ?_⟩
    refine (HDA.out _ (HB.out _ (bel_undrew hbc)) (HT1.out.drew.below hbc)).mono ?_
    rintro e w' ⟨v, rfl, hg, hbq⟩
    exact ⟨_, rfl, hg.mono hbc.size, hbq⟩
  refine p_val (u := ?_) [0] (by kernel_rfl) rfl rfl (by kernel_rfl) trivial (fun ρ wc hbc hcn hq => ?_) ?_; rotate_left
  · obtain ⟨hcn, hfn⟩ := hcn
    simp at hq
    go_simp
    rfl
  refine p_val (u := ?_) [4] (by kernel_rfl) rfl rfl (by kernel_rfl) trivial (fun ρ wc hbc hcn hq => ?_) ?_; rotate_left
  · obtain ⟨hcn, hfn⟩ := hcn
    simp at hq
    have x2 := (HO1.out.drew.below hbc).cell
    go_simp
    rfl
  refine p_val (u := ?_) [2] (by kernel_rfl) rfl rfl (by kernel_rfl) trivial (fun ρ wc hbc hcn hq => ?_) ?_; rotate_left
  · obtain ⟨hcn, hfn⟩ := hcn
    simp at hq
    go_simp
    rfl
  refine p_sp (T := KidF b W1.heap.size R.ks #[.slice A ls.length c, .int .i64 D, .int .i64 X, .int .i64 O, .int .i64 R.m] R.e) 58 [16, 17, 18] rfl rfl (by kernel_rfl) trivial (stable_kidf _ _ _ _ _) (fun ρ wc hbc hcn hq => ?_) ?_
  · obtain ⟨hcn, hfn⟩ := hcn
    simp at hq
    refine ⟨_, by go_simp; rfl, ?_⟩
    refine (HKI.out _ (HB.out _ (bel_undrew hbc)) (HT1.out.drew.below hbc)).mono ?_
    rintro e w' ⟨hkk, hbt, ⟨he, q, N, rfl, hq1, hrow, hN, hN2⟩ | ⟨he, rfl⟩⟩
    · exact .inl ⟨_, rfl, ⟨⟨q, N, rfl, Nat.le_trans hbc.size hq1, hrow, hN, hN2⟩, hbt, he⟩, hkk⟩
    · refine .inr ⟨_, rfl, fun a ha => ⟨ha, keeps_on' HB1.out (bel_undrew hbc) hkk, ?_, ?_⟩⟩
      · rw [HCE.out he]
        exact hbt
      · exact .inr ⟨by rw [HCE.out he]; exact he, by rw [HCE.out he]; rfl⟩
  refine p_new_l (T := NodF W1.heap.size (.mk o.k o.el o.n (datO ls o) R.ks)) [8, 10, 12, 15, 19] (by kernel_rfl) rfl (by kernel_rfl) trivial (stable_nod _ _) (stableK_nod HL.out) (fun ρ wc hkc hcn hq => ?_) ?_
  · obtain ⟨hcn, hfn⟩ := hcn
    simp at hq
    obtain ⟨h8, h10, h12, h15, ⟨q, N, h19, hq1, hrow, hN, hN2⟩, -⟩ := hq
    obtain ⟨A1, c1, e15, -⟩ := Got.full h15
    rw [e15] at h15
    refine ⟨_, wc, by go_simp; rfl, ?_, Below.refl _ _⟩
    exact RowG.nod hrow (Nat.le_refl _) hq1 hN (by unfold maxLen; omega) HIK.out.1 HIK.out.2.1 HIK.out.2.2 h15 HDB.out

  refine p_end_lit 21 rfl (fun ff w5 hk5 hk => ?_)
  have h19 : KidF b W1.heap.size R.ks #[.slice A ls.length c, .int .i64 D, .int .i64 X, .int .i64 O, .int .i64 R.m] R.e (ff 19) w5 := allN_atF hk 19 (by decide) (by decide)
  have h20 : NodF W1.heap.size (.mk o.k o.el o.n (datO ls o) R.ks) (ff 20) w5 := allN_atF hk 20 (by decide) (by decide)
  simp [AllN] at hk
  simp only [frameL, hk, Nat.zero_add, Nat.reduceAdd]
  clear hk
  obtain ⟨-, hbt5, hre⟩ := h19
  have HT5 := Lib.hid hbt5
  have HK5 := Lib.hid (keeps_on' HB1.out (Below.refl _ _) (keeps_undrew hk5))
  have HR5 := Lib.hid (HR1.out.keeps (keeps_undrew hk5) HNR.out)
  have HO5 := Lib.hid (HO1.out.keeps (keeps_undrew hk5) HNO.out)
  have HN5 := Lib.hid h20
  obtain ⟨A5, c5, B5, e5, hi5, e20, -⟩ := h20
  have HCV := Lib.hid (HCY.out hre)
  rw [e20] at HN5
  rw [e20]
  simp only [Nd.k, Nd.e, Nd.n, Nd.d, Nd.ks] at HN5 ⊢
  clear e20 hbt5 hk5 hre HCE HCY HDB HDA HKI HT1 HO1 HR1 HB HB1
  generalize (datO ls o).length = dl at *
  generalize R.ks.length = kl at *
  obtain ⟨x2, y2, z2⟩ := HR5.out
  go_wp2_with fail
  refine abs_post (F := fun W => Blk W (w.heap.size + 1) #[.int .i64 o.k, .int .i64 o.el, .int .i64 o.n, .slice A5 dl c5, .slice B5 kl e5] ∧ Keeps (KB b) w W ∧ Blk W b #[.slice A ls.length c, .int .i64 D, .int .i64 X, .int .i64 O, .int .i64 R.m] ∧ NodF W1.heap.size (.mk o.k o.el o.n (datO ls o) R.ks) (.agg #[.int .i64 o.k, .int .i64 o.el, .int .i64 o.n, .slice A5 dl c5, .slice B5 kl e5]) W) ⟨?_, ?_, ?_, ?_⟩ ?_
  · exact ((((HR5.out.set 0 (by simp) _).set 1 (by simp) _).set 2 (by simp) _).set 3 (by simp) _).set 4 (by simp) _
  · refine keeps_set (keeps_set (keeps_set (keeps_set (keeps_set HK5.out ?_ _) ?_ _) ?_ _) ?_ _) ?_ _ <;> exact .inr (by show w.heap.size ≤ w.heap.size + 1; omega)
  · have hne : w.heap.size + 1 ≠ b := fun e => HNR.out (by unfold KB; exact e)
    exact ((((HT5.out.other (p := ⟨w.heap.size + 1, 0, none⟩) hne _).other (p := ⟨w.heap.size + 1, 1, none⟩) hne _).other (p := ⟨w.heap.size + 1, 2, none⟩) hne _).other (p := ⟨w.heap.size + 1, 3, none⟩) hne _).other (p := ⟨w.heap.size + 1, 4, none⟩) hne _
  · have hl := HZ1.out
    exact ((((HN5.out.set (p := ⟨w.heap.size + 1, 0, none⟩) hl _).set (p := ⟨w.heap.size + 1, 1, none⟩) hl _).set (p := ⟨w.heap.size + 1, 2, none⟩) hl _).set (p := ⟨w.heap.size + 1, 3, none⟩) hl _).set (p := ⟨w.heap.size + 1, 4, none⟩) hl _
  rintro V ⟨B6, hkv, ht, hn⟩
  exact bodyPost_ret (v := .agg #[.int .i64 o.k, .int .i64 o.el, .int .i64 o.n, .slice A5 dl c5, .slice B5 kl e5]) (by simp [results, Tryz.results35, go_sem, B6.cell]) rfl ⟨hkv, by rw [HCV.out]; exact ht, .inl ⟨by rw [HCV.out], _, rfl, nodf_lower (by rw [HCV.out]; exact hn) (by have := HZ1.out; omega)⟩⟩
end Go.Proofs.YtnmanhediiooaaaGreatDoor

/- Package denote: composite lists, and the value of a pointer. -/
namespace Go.Proofs.YtnmanhediiooaaaGreatDoor
open Go.ChangeShapes Go.WideShapes Go.ChangeAt Go.RowKit
set_option linter.unusedVariables false
set_option linter.unusedSimpArgs false
set_option maxRecDepth 100000
attribute [local simp] AllK KnowsV look Is

theorem contK_m {ls : List (List Int)} (hw : Wd2 ls) (hm : ls.length ≤ 40) (hf : ∀ j, (seg ls j).length ≤ 20000000) (r : Nat) (m : Int) (o : Ob) (h : 0 ≤ m) : 0 ≤ (contK (valV ls r) ls m o).m ∧ (contK (valV ls r) ls m o).m ≤ m := by
  have h1 : 0 ≤ (kidR (valV ls r) o m).m ∧ (kidR (valV ls r) o m).m ≤ m := runK_ind (fun z => 0 ≤ z ∧ z ≤ m) ⟨h, Int.le_refl _⟩ _ (fun m' i _ hm' => by
    have := valV_m hw hm hf r m' o.sg ((ptrO o).1 + i) hm'.1
    exact ⟨this.1, Int.le_trans this.2 hm'.2⟩)
  unfold contK
  split
  · exact h1
  · exact h1

set_option maxHeartbeats 4000000 in
theorem elements_any (b : Nat) (A : Option Addr) (c : Nat) (ls : List (List Int)) (D X O : Int) (w0 : World) (r : Nat) (E : EnvD b A ls w0) (hV : ValL b A c ls D X O w0 r) (m : Int) (o : Ob) (dep : Int) (w : World) (hb : Below b w0 w) (hk : Blk w b #[.slice A ls.length c, .int .i64 D, .int .i64 X, .int .i64 O, .int .i64 m])
    (hm0 : 0 ≤ m) (hm1 : m ≤ 4611686018427387904) (ho : ObOK ls o) (hoe : ∀ j : Nat, (j : Int) < o.n → ObOK ls (eleO o j)) (hat : o.at' ≤ 281474976710656) (hd0 : 0 ≤ dep) (hd1 : dep ≤ 900) (hr : (D - dep).toNat = r) :
    Calls Tryz.prog 34 #[.pointer (some ⟨b, 0, none⟩), .agg #[.int .i64 o.k, .int .i64 o.sg, .int .i64 o.at', .int .i64 o.d, .int .i64 o.p, .int .i64 o.el, .int .i64 o.n, .int .i64 o.cost], .int .i64 dep] w fun e w' => Keeps (KB b) w w' ∧ Blk w' b #[.slice A ls.length c, .int .i64 D, .int .i64 X, .int .i64 O, .int .i64 (elsR (valV ls r) ls o m).m] ∧
      (((elsR (valV ls r) ls o m).e = 0 ∧ ∃ q N, e = .returned (.slice (some ⟨q, 0, none⟩) N N) ∧ w.heap.size ≤ q ∧ RowG q N (elsR (valV ls r) ls o m).ks w' ∧ (elsR (valV ls r) ls o m).ks.length = N ∧ N ≤ 536870911) ∨ ((elsR (valV ls r) ls o m).e ≠ 0 ∧ e = failE (elsR (valV ls r) ls o m).e)) := by
  obtain ⟨i0, hi, hz0, hz1, hz2⟩ := info_parts node_info
  have hlt := hk.lt
  obtain ⟨n, hn⟩ := Int.eq_ofNat_of_zero_le ho.n.1
  have hn1 : n ≤ 536870911 := by have := ho.n.2; omega
  have hkR : elsR (valV ls r) ls o m = runK (fun (m : Int) (i : Nat) => contK (valV ls r) ls m (eleO o (i : Int))) m n := by unfold elsR; rw [hn]; simp
  rw [hkR]
  have hval := contK_m E.wd E.m E.f r
  obtain ⟨f, hf⟩ : ∃ f : Int → Nat → Val, f = fun (m : Int) (i : Nat) => contK (valV ls r) ls m (eleO o (i : Int)) := ⟨_, rfl⟩
  have HMR : Hid (∀ j, 0 ≤ (runK f m j).m ∧ (runK f m j).m ≤ m) := Lib.hid (fun j => runK_ind (fun z => 0 ≤ z ∧ z ≤ m) ⟨hm0, Int.le_refl _⟩ j (fun m' i _ hm => by
    subst hf
    have := hval m' (eleO o (i : Int)) hm.1
    exact ⟨this.1, Int.le_trans this.2 hm.2⟩))
  have HV : Hid (∀ (R : Int) (j : Nat) (wr : World), Below b w0 wr → Blk wr b #[.slice A ls.length c, .int .i64 D, .int .i64 X, .int .i64 O, .int .i64 R] → 0 ≤ R → R ≤ m → j < n →
      Calls Tryz.prog 35 #[.pointer (some ⟨b, 0, none⟩), .agg #[.int .i64 1, .int .i64 o.sg, .int .i64 (o.at' + j * (o.d + o.p)), .int .i64 o.d, .int .i64 o.p, .int .i64 0, .int .i64 0, .int .i64 0], .int .i64 dep] wr fun e w' => Keeps (KB b) wr w' ∧ Blk w' b #[.slice A ls.length c, .int .i64 D, .int .i64 X, .int .i64 O, .int .i64 (f R j).m] ∧
        (((f R j).e = 0 ∧ ∃ v, e = .returned v ∧ NodF wr.heap.size (f R j).n v w') ∨ ((f R j).e ≠ 0 ∧ e = failE (f R j).e))) := Lib.hid (fun R j wr h1 h2 h3 h4 h5 => by
    subst hf
    exact contents_any b A c ls D X O w0 r E R (eleO o (j : Int)) dep (fun _ => ⟨by omega, hV⟩) wr h1 h2 h3 (by omega) (hoe j (by omega)) (by show (0 : Int) ≠ 7; omega) hd0 (by omega) hr)
  rw [← hf]
  have HEM := Lib.hid (fun w2 (j : Nat) (hj : j < n) => RElement_any o.k o.sg o.at' o.d o.p o.el o.n o.cost j w2 (by omega) (by omega) ho.at'.1 hat ho.d.1 ho.d.2 ho.p.1 ho.p.2)
  have HB1 := Lib.hid ((Below.refl w.heap.size w).alloc (Nat.le_refl _) (.cells (obA o) 74))
  have HT1 := Lib.hid (hk.alloc (.cells (obA o) 74))
  have HO1 : Hid (Blk (w.alloc (.cells (obA o) 74)) w.heap.size (obA o)) := Lib.hid (Blk.fresh _ _ _)
  have HB0 := Lib.hid (fun (wr : World) (h : Keeps (KB b) w wr) => hb.trans (bel_keeps h (Nat.le_of_lt hlt)))
  have HL : Hid (b < w.heap.size) := Lib.hid hlt
  unfold obA at HB1 HT1 HO1
  obtain ⟨on, hon⟩ : ∃ on, on = o.n := ⟨_, rfl⟩
  rw [← hon] at HEM HB1 HT1 HO1 hn ⊢
  subst hn
  clear hb hk hlt hkR hval hV hr ho hoe hat hf E hon
  obtain ⟨x2, y2, z2⟩ := HO1.out
  go_enter Tryz.func34, Tryz.ntmps34
  go_wp2_with (at_make; refine wpList_make_full _ rfl _ _ 28 rfl (w.alloc (.cells #[.int .i64 o.k, .int .i64 o.sg, .int .i64 o.at', .int .i64 o.d, .int .i64 o.p, .int .i64 o.el, .int .i64 n, .int .i64 o.cost] 74)).heap.size 30 i0 _ 5 Tryz.underlying28 hi hz0 hz1 .i64 .i64 _ _ n rfl rfl (by omega) (by omega) (by rw [hz2]; omega) (by unfold maxLen; omega) (Nat.le_refl _) ?_; intro w3 hown0 hgrow0)
  have hR0 : RowG (w.heap.size + 1) n [] w3 := by
    have := RowG.made hown0
    simpa using this
  have hb3 : Below (w.alloc (.cells #[.int .i64 o.k, .int .i64 o.sg, .int .i64 o.at', .int .i64 o.d, .int .i64 o.p, .int .i64 o.el, .int .i64 n, .int .i64 o.cost] 74)).heap.size (w.alloc (.cells #[.int .i64 o.k, .int .i64 o.sg, .int .i64 o.at', .int .i64 o.d, .int .i64 o.p, .int .i64 o.el, .int .i64 n, .int .i64 o.cost] 74)) w3 := (Below.refl _ _).grown hgrow0 (Nat.le_refl _) (fun g hg => by cases hg)
  have HT3 := Lib.hid (HT1.out.below hb3)
  have HO3 := Lib.hid (HO1.out.below hb3)
  have HK3 : Hid (Keeps (KB b) w w3) := Lib.hid (keeps_of (bel_on HB1.out hb3))
  have hq0 : w.heap.size < w.heap.size + 1 := Nat.lt_succ_self _
  clear hown0 hgrow0 HT1 HO1 HB1 hb3 x2 y2 z2
  generalize w.heap.size + 1 = q at *
  go_loopw [14] (fun i wr => ∃ j : Nat, j ≤ n ∧ i = .int .i64 j ∧ (runK f m j).e = 0 ∧ RowG q n (runK f m j).ks wr ∧ Blk wr b #[.slice A ls.length c, .int .i64 D, .int .i64 X, .int .i64 O, .int .i64 (runK f m j).m] ∧ Keeps (KB b) w wr ∧ Blk wr w.heap.size #[.int .i64 o.k, .int .i64 o.sg, .int .i64 o.at', .int .i64 o.d, .int .i64 o.p, .int .i64 o.el, .int .i64 n, .int .i64 o.cost]) (fun i _ => n - (intOf i).toNat)
  case atStart => exact ⟨0, by omega, rfl, rfl, hR0, HT3.out, HK3.out, HO3.out⟩
  case round =>
    clear hR0 HT3 HO3 HK3
    obtain ⟨j, hj, rfl, he, hrow, hbt, hkp, hbo⟩ := hrel
    have HRE := Lib.hid he
    have HW := Lib.hid hrow
    have HT := Lib.hid hbt
    have HK := Lib.hid hkp
    have HO := Lib.hid hbo
    clear he hrow hbt hkp
    by_cases hlt : j < n
    · have hj1 : (j : Int) < (n : Int) := by omega
      have hj2 : (j : Int) < 536870912 := by omega
      have HMJ := Lib.hid (HMR.out j)
      have HKL : Hid ((runK f m j).ks.length = j) := Lib.hid (runK_length HRE.out)
      have HNX : Hid (∀ h : (f (runK f m j).m j).e = 0, runK f m (j + 1) = ⟨(runK f m j).ks ++ [(f (runK f m j).m j).n], (f (runK f m j).m j).m, 0⟩) := Lib.hid (fun h => runK_ok HRE.out h)
      have HNO : Hid (∀ h : (f (runK f m j).m j).e ≠ 0, (runK f m n).m = (f (runK f m j).m j).m ∧ (runK f m n).e = (f (runK f m j).m j).e) := Lib.hid (fun h => by
        have h1 := runK_no HRE.out h
        have h2 : runK f m n = runK f m (j + 1) := runK_keep (by rw [h1]; exact h) (by omega)
        rw [h2, h1]
        exact ⟨rfl, rfl⟩)
      obtain ⟨x2, y2, z2⟩ := hbo
      go_wp2_with fail
      refine (HEM.out wr j hlt).mono ?_
      rintro e wd ⟨rfl, hbd⟩
      have HVJ := Lib.hid (HV.out (runK f m j).m j wd)
      generalize o.at' + (j : Int) * (o.d + o.p) = a2 at HVJ ⊢
      have HWd := Lib.hid (HW.out.below hbd)
      have HTd := Lib.hid (HT.out.below hbd)
      have HKd := Lib.hid (keeps_on HK.out hbd)
      have HOd := Lib.hid (HO.out.below hbd)
      clear HW HT HK HO hbd
      have HW := HWd
      have HT := HTd
      have HK := HKd
      have HO := HOd
      clear HWd HTd HKd HOd x2 y2 z2
      go_wp2_with fail
      refine (HVJ.out (HB0.out _ HK.out) HT.out HMJ.out.1 HMJ.out.2 hlt).mono ?_
      rintro e w4 ⟨hk4, hbt4, ⟨he4, v, rfl, hnd⟩ | ⟨he4, rfl⟩⟩
      · obtain ⟨A5, c5, B5, e5, hi5, rfl, hh5, ho5⟩ := hnd
        have hqr : q < wd.heap.size := HW.out.lt
        have HW4 := Lib.hid (HW.out.keeps hk4 (by have := HL.out; omega))
        have HT4 := Lib.hid hbt4
        have HK4 := Lib.hid (HK.out.trans hk4)
        have HO4 := Lib.hid (HO.out.keeps hk4 (by have := HL.out; unfold KB; omega))
        have HO5 := Lib.hid ho5
        have HN4 := Lib.hid (HNX.out he4)
        clear hk4 hbt4 ho5 hz0 HVJ HW HT HK HO HNX HNO he4
        obtain ⟨u0, y0⟩ := HW4.out.cell (j * 5) (by omega)
        obtain ⟨u1, y1⟩ := HW4.out.cell (j * 5 + 1) (by omega)
        obtain ⟨u2, y2⟩ := HW4.out.cell (j * 5 + 2) (by omega)
        obtain ⟨u3, y3⟩ := HW4.out.cell (j * 5 + 3) (by omega)
        obtain ⟨u4, y4⟩ := HW4.out.cell (j * 5 + 4) (by omega)
        have z := HW4.out.free
        generalize (f (runK f m j).m j).n = kx at *
        generalize (f (runK f m j).m j).m = m4 at *
        go_wp2
        go_roundw
        case rel =>
          refine ⟨j + 1, by omega, by go_num, by rw [HN4.out], ?_, ?_, ?_, ?_⟩
          · rw [HN4.out]
            exact HW4.out.next HKL.out hlt (lo := wd.heap.size) (hi' := hi5) (by omega) hh5 HO5.out
          · rw [HN4.out]
            have hne : q ≠ b := by have := HL.out; omega
            exact ((((HT4.out.other (p := ⟨q, j * 5, none⟩) hne _).other (p := ⟨q, j * 5 + 1, none⟩) hne _).other (p := ⟨q, j * 5 + 2, none⟩) hne _).other (p := ⟨q, j * 5 + 3, none⟩) hne _).other (p := ⟨q, j * 5 + 4, none⟩) hne _
          · refine keeps_set (keeps_set (keeps_set (keeps_set (keeps_set HK4.out ?_ _) ?_ _) ?_ _) ?_ _) ?_ _ <;> exact .inr (by show w.heap.size ≤ q; omega)
          · have hne : q ≠ w.heap.size := by omega
            exact ((((HO4.out.other (p := ⟨q, j * 5, none⟩) hne _).other (p := ⟨q, j * 5 + 1, none⟩) hne _).other (p := ⟨q, j * 5 + 2, none⟩) hne _).other (p := ⟨q, j * 5 + 3, none⟩) hne _).other (p := ⟨q, j * 5 + 4, none⟩) hne _
        case measure => simp [intOf]; omega
      · obtain ⟨h1, h2⟩ := HNO.out he4
        have HK4 := Lib.hid (HK.out.trans hk4)
        rw [← h1] at hbt4
        rw [← h2] at he4
        unfold failE
        go_wp2
        exact ⟨rfl, HK4.out, hbt4, .inr ⟨he4, by rw [h2]; rfl⟩⟩
    · obtain rfl : j = n := by omega
      go_wp2
      go_ret
      exact ⟨HK.out, HT.out, .inl ⟨HRE.out, q, j, rfl, by omega, HW.out, runK_length HRE.out, by omega⟩⟩

end Go.Proofs.YtnmanhediiooaaaGreatDoor

/- Package denote: the value of a pointer. -/
namespace Go.Proofs.YtnmanhediiooaaaGreatDoor
open Go.ChangeShapes Go.WideShapes Go.ChangeAt Go.RowKit
set_option linter.unusedVariables false
set_option linter.unusedSimpArgs false
set_option maxRecDepth 100000
attribute [local simp] AllK KnowsV look Is

theorem object_any (b : Nat) (A : Option Addr) (c : Nat) (ls : List (List Int)) (D X O : Int) (w0 : World) (E : EnvD b A ls w0) (m s a dep : Int) (w : World) (hb : Below b w0 w) (hk : Blk w b #[.slice A ls.length c, .int .i64 D, .int .i64 X, .int .i64 O, .int .i64 m])
    (hm0 : 0 ≤ m) (hm1 : m ≤ 4611686018427387904) (hs0 : 0 ≤ s) (hs1 : s ≤ 1000) (ha0 : 0 ≤ a) (ha1 : a ≤ 200000000000) :
    Calls Tryz.prog 33 #[.pointer (some ⟨b, 0, none⟩), .int .i64 s, .int .i64 a, .int .i64 dep] w fun e w' => Keeps (KB b) w w' ∧ Blk w' b #[.slice A ls.length c, .int .i64 D, .int .i64 X, .int .i64 O, .int .i64 (locD ls D m s a dep).m] ∧
      (((locD ls D m s a dep).e = 0 ∧ e = .returned (obV (locD ls D m s a dep).o)) ∨ ((locD ls D m s a dep).e ≠ 0 ∧ e = failE (locD ls D m s a dep).e)) :=
  object_walk b A ls.length c D X O m s a dep (followF ls s a) (objF ls s a) w0 w hb hk
    (Lib.hid (fun w2 h => FFollow_any A c ls s a w2 (E.sgAt h) E.wd E.m2 E.f2 (by omega) (by omega) (by omega) (by omega)))
    (Lib.hid (fun w2 h => RObject_any A c ls s a w2 (E.tabAt h) (E.sgAt h) E.wd E.m2 E.f2 (by omega) (by omega) (by omega) (by omega)))
    (Lib.hid (fun w2 => BCharge_any m _ w2 (by omega) (by omega) (objF_num E.wd E.m E.f s a rfl).2.2.2.2.2.2.2.2.2.2.2.2.2.2.1))

theorem datD_inB {ls : List (List Int)} {s a n : Int} (h : inB ls s a n = true) : (datW ls s a n).length = n.toNat := by
  have h9 := inB_iff.1 h
  unfold datW
  rw [if_pos h]
  unfold sliceL
  rw [List.length_take, List.length_drop]
  omega
/-- what is known of a located object -/
theorem loc_ok {ls : List (List Int)} (hw : Wd2 ls) (hm : ls.length ≤ 40) (hf : ∀ j, (seg ls j).length ≤ 20000000) (D m s a dep : Int) (hm0 : 0 ≤ m) (L : Loc) (hL : locD ls D m s a dep = L) (he : L.e = 0) :
    ObOK ls L.o ∧ 0 ≤ L.m ∧ L.m ≤ m ∧ L.o.at' ≤ 281474976710656 ∧ (0 < (ptrO L.o).2 → dep ≤ D) ∧ (L.o.el = 7 → dep ≤ D ∧ ∀ j : Nat, (j : Int) < L.o.n → ObOK ls (eleO L.o j)) := by
  have hC := objF_cases hw (by omega) (fun j => by have := hf j; omega) s a
  have hN := objF_num hw hm hf s a rfl
  have h0 : ObOK ls ob0 := ⟨by decide, by decide, by decide, by decide, by decide, by decide, by decide, fun h => absurd h (by decide)⟩
  have h1 : ¬ 0 < (ptrO ob0).2 := by decide
  have h2 : ob0.el ≠ 7 := by decide
  subst hL
  unfold locD locQ at he ⊢
  generalize followF ls s a = q at *
  generalize objF ls s a = r at *
  by_cases c1 : q.e ≠ 0 ∨ q.w = 0
  · simp only [if_pos c1] at he ⊢
    exact ⟨h0, hm0, Int.le_refl _, by decide, fun h => absurd h h1, fun h => absurd h h2⟩
  by_cases c2 : D < dep
  · simp only [if_neg c1, if_pos c2] at he
    exact absurd he (by decide)
  by_cases c3 : r.2 ≠ 0
  · simp only [if_neg c1, if_neg c2, if_pos c3] at he
    exact absurd he c3
  by_cases c4 : m < r.1.cost
  · simp only [if_neg c1, if_neg c2, if_neg c3, if_pos c4] at he
    exact absurd he (by decide)
  simp only [if_neg c1, if_neg c2, if_neg c3, if_neg c4] at he ⊢
  obtain ⟨⟨k, sg, at', d, p, el, n, cost⟩, e⟩ := r
  simp only [ob0, Ob.mk.injEq] at hC hN c3 c4 ⊢
  obtain ⟨n1, n2, n3, n4, n5, n6, n7, n8, n9, n10, n11, n12, n13, n14, n15, n16, n17, n18, n19, n20⟩ := hN
  refine ⟨⟨⟨n1, n2⟩, ⟨n3, n4⟩, ⟨n5, by show at' ≤ 100000000000; omega⟩, ⟨n7, n8⟩, ⟨n9, n10⟩, ⟨n11, n12⟩, ⟨n13, n14⟩, fun hk hel => ?_⟩, by show 0 ≤ m - cost; omega, by show m - cost ≤ m; omega, by show at' ≤ 281474976710656; omega, fun _ => by omega, fun hel => ⟨by omega, fun j hj => ?_⟩⟩
  · simp only at hk hel ⊢
    rcases hC with ⟨⟨rfl, rfl, rfl, rfl, rfl, rfl, rfl, rfl⟩, -⟩ | ⟨-, h4, -⟩ | ⟨-, -, h4, h5, h6, h7, rfl, rfl, rfl, h8⟩ | ⟨-, -, h4, -⟩
    · exact absurd hk (by decide)
    · omega
    · rw [datD_inB h8]
      have h9 := inB_iff.1 h8
      have h10 := bitsI_mul el n h6
      unfold wordsI bytesI at *
      rw [if_neg (by omega)] at *
      omega
    · omega
  · have hj : (j : Int) < n := hj
    have hdp : 0 ≤ d + p := by omega
    have h5 : (j : Int) * (d + p) ≤ n * (d + p) := Int.mul_le_mul_of_nonneg_right (by omega) hdp
    have h6 : 0 ≤ (j : Int) * (d + p) := Int.mul_nonneg (by omega) hdp
    exact ⟨by show (0 : Int) ≤ 1 ∧ (1 : Int) ≤ 2; omega, by show 0 ≤ sg ∧ sg ≤ 40; omega, by show 0 ≤ at' + j * (d + p) ∧ at' + j * (d + p) ≤ 100000000000; omega, by show 0 ≤ d ∧ d ≤ 65535; omega, by show 0 ≤ p ∧ p ≤ 65535; omega, by show (0 : Int) ≤ 0 ∧ (0 : Int) ≤ 7; omega, by show (0 : Int) ≤ 0 ∧ (0 : Int) ≤ 536870911; omega, fun h => absurd h (by show (1 : Int) ≠ 2; omega)⟩

set_option maxHeartbeats 4000000 in
theorem value_step (b : Nat) (A : Option Addr) (c : Nat) (ls : List (List Int)) (D X O : Int) (w0 : World) (r : Nat) (E : EnvD b A ls w0) (hD : D ≤ 900) (hV : ∀ r', r = r' + 1 → ValL b A c ls D X O w0 r') : ValL b A c ls D X O w0 r := by
  intro m s a dep w hb hk hm0 hm1 hs0 hs1 ha0 ha1 hd0 hd1 hr
  have hlt := hk.lt
  have hVL := valV_loc E.wd E.m E.f D m s a dep r hr
  have hOK := loc_ok E.wd E.m E.f D m s a dep hm0
  have HOB := Lib.hid (fun w2 h1 h2 => object_any b A c ls D X O w0 E m s a dep w2 h1 h2 hm0 hm1 hs0 hs1 ha0 ha1)
  generalize locD ls D m s a dep = L at *
  have hr1 : (D - dep).toNat = r - 1 := by omega
  have hVr : dep ≤ D → ValL b A c ls D X O w0 (r - 1) := fun h => hV (r - 1) (by omega)
  have HCO := Lib.hid (fun (he : L.e = 0) (h7 : L.o.el ≠ 7) w2 h1 h2 => contents_any b A c ls D X O w0 (r - 1) E L.m L.o dep (fun h => ⟨by have := (hOK L rfl he).2.2.2.2.1 h; omega, hVr ((hOK L rfl he).2.2.2.2.1 h)⟩) w2 h1 h2 (hOK L rfl he).2.1 (by have := (hOK L rfl he).2.2.1; omega) (hOK L rfl he).1 h7 hd0 hd1 hr1)
  have HELS := Lib.hid (fun (he : L.e = 0) (h7 : L.o.el = 7) w2 h1 h2 => elements_any b A c ls D X O w0 (r - 1) E (hVr ((hOK L rfl he).2.2.2.2.2 h7).1) L.m L.o dep w2 h1 h2 (hOK L rfl he).2.1 (by have := (hOK L rfl he).2.2.1; omega) (hOK L rfl he).1 ((hOK L rfl he).2.2.2.2.2 h7).2 (hOK L rfl he).2.2.2.1 hd0 (by have := ((hOK L rfl he).2.2.2.2.2 h7).1; omega) hr1)
  have hIK : L.e = 0 → (-9223372036854775808 ≤ L.o.k ∧ L.o.k ≤ 9223372036854775807) ∧ (-9223372036854775808 ≤ L.o.el ∧ L.o.el ≤ 9223372036854775807) ∧ (-9223372036854775808 ≤ L.o.n ∧ L.o.n ≤ 9223372036854775807) := fun he => by have h := (hOK L rfl he).1; have := h.k; have := h.el; have := h.n; omega
  have hVE : L.e ≠ 0 → valV ls r m s a = errV L.m L.e := fun h => by rw [hVL, if_pos h]
  have hVC : L.e = 0 → L.o.el ≠ 7 → valV ls r m s a = contK (valV ls (r - 1)) ls L.m L.o := fun h h7 => by rw [hVL, if_neg (by rw [h]; simp)]; unfold bodyK; rw [if_neg h7]
  have hVB : L.e = 0 → L.o.el = 7 → (elsR (valV ls (r - 1)) ls L.o L.m).e ≠ 0 → valV ls r m s a = errV (elsR (valV ls (r - 1)) ls L.o L.m).m (elsR (valV ls (r - 1)) ls L.o L.m).e := fun h h7 h8 => by rw [hVL, if_neg (by rw [h]; simp)]; unfold bodyK; rw [if_pos h7, if_pos h8]
  have hVD : L.e = 0 → L.o.el = 7 → (elsR (valV ls (r - 1)) ls L.o L.m).e = 0 → valV ls r m s a = ⟨.mk L.o.k L.o.el L.o.n [] (elsR (valV ls (r - 1)) ls L.o L.m).ks, (elsR (valV ls (r - 1)) ls L.o L.m).m, 0⟩ := fun h h7 h8 => by rw [hVL, if_neg (by rw [h]; simp)]; unfold bodyK; rw [if_pos h7, if_neg (by rw [h8]; simp)]
  generalize valV ls r m s a = CV at *
  generalize contK (valV ls (r - 1)) ls L.m L.o = KV at *
  generalize elsR (valV ls (r - 1)) ls L.o L.m = R at *
  obtain ⟨o, lm, le⟩ := L
  simp only at *
  have HVE := Lib.hid hVE
  have HVC := Lib.hid hVC
  have HVB := Lib.hid hVB
  have HVD := Lib.hid hVD
  have HIK0 := Lib.hid hIK
  have HB0 := Lib.hid (fun (wr : World) (h : Keeps (KB b) w wr) => hb.trans (bel_keeps h (Nat.le_of_lt hlt)))
  have HT1 := Lib.hid (hk.alloc (.cells #[.int .i64 0, .int .i64 0, .int .i64 0, .slice none 0 0, .slice none 0 0] 30))
  have HK1 : Hid (Keeps (KB b) w (w.alloc (.cells #[.int .i64 0, .int .i64 0, .int .i64 0, .slice none 0 0, .slice none 0 0] 30))) := Lib.hid (keeps_alloc (Keeps.refl _ _) _)
  have HR1 : Hid (Blk (w.alloc (.cells #[.int .i64 0, .int .i64 0, .int .i64 0, .slice none 0 0, .slice none 0 0] 30)) w.heap.size #[.int .i64 0, .int .i64 0, .int .i64 0, .slice none 0 0, .slice none 0 0]) := Lib.hid (Blk.fresh _ _ _)
  have HNR : Hid (¬ KB b w.heap.size) := Lib.hid (by unfold KB; omega)
  clear hb hk hlt hm0 hm1 hs0 hs1 ha0 ha1 hd0 hd1 hr hV hVL hOK hr1 hVr hIK hVE hVC hVB hVD E hD
  go_enter Tryz.func18, Tryz.ntmps18
  go_wp2_with fail
  refine (HOB.out _ (HB0.out _ HK1.out) HT1.out).mono ?_
  rintro e w3 ⟨hk3, hbt3, ⟨hle, rfl⟩ | ⟨hle, rfl⟩⟩
  rotate_left
  · have HKK := HK1.out.trans hk3
    have h1 := HVE.out hle
    unfold failE
    go_wp2
    rw [h1]
    exact ⟨rfl, HKK, hbt3, .inr ⟨hle, rfl⟩⟩
  have HLE := Lib.hid hle
  have HT3 := Lib.hid (hbt3.alloc (.cells #[.int .i64 o.k, .int .i64 o.sg, .int .i64 o.at', .int .i64 o.d, .int .i64 o.p, .int .i64 o.el, .int .i64 o.n, .int .i64 o.cost] 74))
  have HR3 := Lib.hid ((HR1.out.keeps hk3 HNR.out).alloc (.cells #[.int .i64 o.k, .int .i64 o.sg, .int .i64 o.at', .int .i64 o.d, .int .i64 o.p, .int .i64 o.el, .int .i64 o.n, .int .i64 o.cost] 74))
  have HK3 := Lib.hid (keeps_alloc (HK1.out.trans hk3) (.cells #[.int .i64 o.k, .int .i64 o.sg, .int .i64 o.at', .int .i64 o.d, .int .i64 o.p, .int .i64 o.el, .int .i64 o.n, .int .i64 o.cost] 74))
  have HO3 : Hid (Blk (w3.alloc (.cells #[.int .i64 o.k, .int .i64 o.sg, .int .i64 o.at', .int .i64 o.d, .int .i64 o.p, .int .i64 o.el, .int .i64 o.n, .int .i64 o.cost] 74)) w3.heap.size #[.int .i64 o.k, .int .i64 o.sg, .int .i64 o.at', .int .i64 o.d, .int .i64 o.p, .int .i64 o.el, .int .i64 o.n, .int .i64 o.cost]) := Lib.hid (Blk.fresh _ _ _)
  have HZ3 : Hid (w.heap.size < w3.heap.size ∧ b < w3.heap.size) := Lib.hid ⟨(HR1.out.keeps hk3 HNR.out).lt, hbt3.lt⟩
  clear hk3 hbt3 hle HT1 HK1 HR1 HOB HVE
  unfold obV
  obtain ⟨x2, y2, z2⟩ := HO3.out
  by_cases h7 : o.el = 7
  · have t7 : (o.el == 7) = true := by simpa using h7
    have HEL := Lib.hid (HELS.out HLE.out h7)
    have HCE := Lib.hid (HVB.out HLE.out h7)
    have HCY := Lib.hid (HVD.out HLE.out h7)
    have HIK := Lib.hid (HIK0.out HLE.out)
    clear h7 HELS HVB HVD HVC HCO HIK0 HLE
    go_wp2_with fail
    clear x2 y2 z2
    refine abs_code10 (F := fun W => Blk W b #[.slice A ls.length c, .int .i64 D, .int .i64 X, .int .i64 O, .int .i64 lm] ∧ Blk W w.heap.size #[.int .i64 0, .int .i64 0, .int .i64 0, .slice none 0 0, .slice none 0 0] ∧ Keeps (KB b) w W ∧ Blk W w3.heap.size #[.int .i64 o.k, .int .i64 o.sg, .int .i64 o.at', .int .i64 o.d, .int .i64 o.p, .int .i64 o.el, .int .i64 o.n, .int .i64 o.cost]) ⟨HT3.out, HR3.out, HK3.out, HO3.out⟩ ?_
    rintro W1 ⟨h1, h2, h3, h4⟩
    have HT1 := Lib.hid h1
    have HR1 := Lib.hid h2
    have HK1 := Lib.hid h3
    have HO1 := Lib.hid h4
    have HL : Hid (b < W1.heap.size) := Lib.hid h1.lt
    have HB := Lib.hid (fun (w2 : World) (h : Below W1.heap.size W1 w2) => HB0.out w2 (keeps_on h3 h))
    have HNO : Hid (¬ KB b w3.heap.size) := Lib.hid (by have := HZ3.out; unfold KB; omega)
    clear h1 h2 h3 h4 HT3 HR3 HK3 HO3
    generalize w3.heap.size = o9 at *
    refine wp_region_p11 9 (KB b) (by kernel_rfl) (by kernel_rfl) ?_
    refine p_val_l (u := ?_) [9] (by kernel_rfl) rfl (by kernel_rfl) trivial (fun ρ wc hkc hcn hq => ?_) ?_; rotate_left
    · obtain ⟨hcn, hfn⟩ := hcn
      simp at hq
      go_simp
      rfl
    refine p_val_l (u := ?_) [18] (by kernel_rfl) rfl (by kernel_rfl) trivial (fun ρ wc hkc hcn hq => ?_) ?_; rotate_left
    · obtain ⟨hcn, hfn⟩ := hcn
      simp at hq
      have x2 := (HO1.out.keeps (keeps_undrew hkc) HNO.out).cell
      go_simp
      rfl
    refine p_val_l (u := ?_) [9] (by kernel_rfl) rfl (by kernel_rfl) trivial (fun ρ wc hkc hcn hq => ?_) ?_; rotate_left
    · obtain ⟨hcn, hfn⟩ := hcn
      simp at hq
      go_simp
      rfl
    refine p_val_l (u := ?_) [20] (by kernel_rfl) rfl (by kernel_rfl) trivial (fun ρ wc hkc hcn hq => ?_) ?_; rotate_left
    · obtain ⟨hcn, hfn⟩ := hcn
      simp at hq
      have x2 := (HO1.out.keeps (keeps_undrew hkc) HNO.out).cell
      go_simp
      rfl
    refine p_val_l (u := ?_) [9] (by kernel_rfl) rfl (by kernel_rfl) trivial (fun ρ wc hkc hcn hq => ?_) ?_; rotate_left
    · obtain ⟨hcn, hfn⟩ := hcn
      simp at hq
      go_simp
      rfl
    refine p_val_l (u := ?_) [22] (by kernel_rfl) rfl (by kernel_rfl) trivial (fun ρ wc hkc hcn hq => ?_) ?_; rotate_left
    · obtain ⟨hcn, hfn⟩ := hcn
      simp at hq
      have x2 := (HO1.out.keeps (keeps_undrew hkc) HNO.out).cell
      go_simp
      rfl
    refine p_val (u := ?_) [0] (by kernel_rfl) rfl rfl (by kernel_rfl) trivial (fun ρ wc hbc hcn hq => ?_) ?_; rotate_left
    · obtain ⟨hcn, hfn⟩ := hcn
      simp at hq
      go_simp
      rfl
    refine p_val (u := ?_) [9] (by kernel_rfl) rfl rfl (by kernel_rfl) trivial (fun ρ wc hbc hcn hq => ?_) ?_; rotate_left
    · obtain ⟨hcn, hfn⟩ := hcn
      simp at hq
      have x2 := (HO1.out.drew.below hbc).cell
      go_simp
      rfl
    refine p_val (u := ?_) [3] (by kernel_rfl) rfl rfl (by kernel_rfl) trivial (fun ρ wc hbc hcn hq => ?_) ?_; rotate_left
    · obtain ⟨hcn, hfn⟩ := hcn
      simp at hq
      go_simp
      rfl
    refine p_sp (T := KidF b W1.heap.size R.ks #[.slice A ls.length c, .int .i64 D, .int .i64 X, .int .i64 O, .int .i64 R.m] R.e) 34 [24, 25, 26] rfl rfl (by kernel_rfl) trivial (stable_kidf _ _ _ _ _) (fun ρ wc hbc hcn hq => ?_) ?_
    · obtain ⟨hcn, hfn⟩ := hcn
      simp at hq
      refine ⟨_, by go_simp; rfl, ?_⟩
      refine (HEL.out _ (HB.out _ (bel_undrew hbc)) (HT1.out.drew.below hbc)).mono ?_
      rintro e w' ⟨hkk, hbt, ⟨he, q, N, rfl, hq1, hrow, hN, hN2⟩ | ⟨he, rfl⟩⟩
      · exact .inl ⟨_, rfl, ⟨⟨q, N, rfl, Nat.le_trans hbc.size hq1, hrow, hN, hN2⟩, hbt, he⟩, hkk⟩
      · refine .inr ⟨_, rfl, fun a ha => ⟨ha, (keeps_on HK1.out (bel_undrew hbc)).trans hkk, ?_, ?_⟩⟩
        · rw [HCE.out he]
          exact hbt
        · exact .inr ⟨by rw [HCE.out he]; exact he, by rw [HCE.out he]; rfl⟩
    refine p_new_l (T := NodF W1.heap.size (.mk o.k o.el o.n [] R.ks)) [19, 21, 23, 27] (by kernel_rfl) rfl (by kernel_rfl) trivial (stable_nod _ _) (stableK_nod HL.out) (fun ρ wc hkc hcn hq => ?_) ?_
    · obtain ⟨hcn, hfn⟩ := hcn
      simp at hq
      obtain ⟨h8, h10, h12, ⟨q, N, h19, hq1, hrow, hN, hN2⟩, -⟩ := hq
      refine ⟨_, wc, by go_simp; rfl, ?_, Below.refl _ _⟩
      exact RowG.nod hrow (Nat.le_refl _) hq1 hN (by unfold maxLen; omega) HIK.out.1 HIK.out.2.1 HIK.out.2.2 (Got.empty _ _ _ _) (fun z hz => by cases hz)
    refine p_end_lit 33 rfl (fun ff w5 hk5 hk => ?_)
    have h19 : KidF b W1.heap.size R.ks #[.slice A ls.length c, .int .i64 D, .int .i64 X, .int .i64 O, .int .i64 R.m] R.e (ff 27) w5 := allN_atF hk 27 (by decide) (by decide)
    have h20 : NodF W1.heap.size (.mk o.k o.el o.n [] R.ks) (ff 28) w5 := allN_atF hk 28 (by decide) (by decide)
    simp [AllN] at hk
    simp only [frameL, hk, Nat.zero_add, Nat.reduceAdd]
    clear hk
    obtain ⟨-, hbt5, hre⟩ := h19
    have HT5 := Lib.hid hbt5
    have HK5 := Lib.hid (HK1.out.trans (keeps_undrew hk5))
    have HR5 := Lib.hid (HR1.out.keeps (keeps_undrew hk5) HNR.out)
    have HN5 := Lib.hid h20
    have HZ1 : Hid (w.heap.size < W1.heap.size) := Lib.hid HR1.out.lt
    obtain ⟨A5, c5, B5, e5, hi5, e20, -⟩ := h20
    have HCV := Lib.hid (HCY.out hre)
    rw [e20] at HN5
    rw [e20]
    simp only [Nd.k, Nd.e, Nd.n, Nd.d, Nd.ks] at HN5 ⊢
    clear e20 hbt5 hk5 hre HCE HCY HEL HT1 HO1 HR1 HB HK1
    generalize R.ks.length = kl at *
    generalize ([] : List Int).length = dl at *
    obtain ⟨x2, y2, z2⟩ := HR5.out
    go_wp2_with fail
    refine abs_post (F := fun W => Blk W w.heap.size #[.int .i64 o.k, .int .i64 o.el, .int .i64 o.n, .slice A5 dl c5, .slice B5 kl e5] ∧ Keeps (KB b) w W ∧ Blk W b #[.slice A ls.length c, .int .i64 D, .int .i64 X, .int .i64 O, .int .i64 R.m] ∧ NodF W1.heap.size (.mk o.k o.el o.n [] R.ks) (.agg #[.int .i64 o.k, .int .i64 o.el, .int .i64 o.n, .slice A5 dl c5, .slice B5 kl e5]) W) ⟨?_, ?_, ?_, ?_⟩ ?_
    · exact ((((HR5.out.set 0 (by simp) _).set 1 (by simp) _).set 2 (by simp) _).set 3 (by simp) _).set 4 (by simp) _
    · refine keeps_set (keeps_set (keeps_set (keeps_set (keeps_set HK5.out ?_ _) ?_ _) ?_ _) ?_ _) ?_ _ <;> exact .inr (Nat.le_refl _)
    · have hne : w.heap.size ≠ b := fun e => HNR.out (by unfold KB; exact e)
      exact ((((HT5.out.other (p := ⟨w.heap.size, 0, none⟩) hne _).other (p := ⟨w.heap.size, 1, none⟩) hne _).other (p := ⟨w.heap.size, 2, none⟩) hne _).other (p := ⟨w.heap.size, 3, none⟩) hne _).other (p := ⟨w.heap.size, 4, none⟩) hne _
    · have hl := HZ1.out
      exact ((((HN5.out.set (p := ⟨w.heap.size, 0, none⟩) hl _).set (p := ⟨w.heap.size, 1, none⟩) hl _).set (p := ⟨w.heap.size, 2, none⟩) hl _).set (p := ⟨w.heap.size, 3, none⟩) hl _).set (p := ⟨w.heap.size, 4, none⟩) hl _
    rintro V ⟨B6, hkv, ht, hn⟩
    exact bodyPost_ret (v := .agg #[.int .i64 o.k, .int .i64 o.el, .int .i64 o.n, .slice A5 dl c5, .slice B5 kl e5]) (by simp [results, Tryz.results18, go_sem, B6.cell]) rfl ⟨hkv, by rw [HCV.out]; exact ht, .inl ⟨by rw [HCV.out], _, rfl, nodf_lower (by rw [HCV.out]; exact hn) (by have := HZ1.out; omega)⟩⟩
  · have t7 : (o.el == 7) = false := by simpa using h7
    have HC := Lib.hid (HCO.out HLE.out h7)
    have HCV := Lib.hid (HVC.out HLE.out h7)
    clear h7 HELS HVB HVD HVC HCO HIK0 HLE
    go_wp2_with fail
    refine (HC.out _ (HB0.out _ HK3.out) HT3.out).mono ?_
    rintro e w5 ⟨hk5, hbt5, ⟨he5, v, rfl, hnd⟩ | ⟨he5, rfl⟩⟩
    rotate_left
    · have HKK := HK3.out.trans hk5
      have h1 := HCV.out
      unfold failE
      go_wp2
      rw [h1]
      exact ⟨rfl, HKK, hbt5, .inr ⟨he5, rfl⟩⟩
    have HZ1 : Hid (w.heap.size < (w3.alloc (.cells #[.int .i64 o.k, .int .i64 o.sg, .int .i64 o.at', .int .i64 o.d, .int .i64 o.p, .int .i64 o.el, .int .i64 o.n, .int .i64 o.cost] 74)).heap.size) := Lib.hid HR3.out.lt
    generalize (w3.alloc (.cells #[.int .i64 o.k, .int .i64 o.sg, .int .i64 o.at', .int .i64 o.d, .int .i64 o.p, .int .i64 o.el, .int .i64 o.n, .int .i64 o.cost] 74)).heap.size = lo at *
    have HT5 := Lib.hid hbt5
    have HK5 := Lib.hid (HK3.out.trans hk5)
    have HR5 := Lib.hid (HR3.out.keeps hk5 HNR.out)
    have HN5 := Lib.hid hnd
    have HE5 := Lib.hid he5
    obtain ⟨A5, c5, B5, e5, hi5, rfl, -⟩ := hnd
    clear hk5 hbt5 he5 x2 y2 z2 HC HT3 HR3 HK3 HO3
    obtain ⟨x2, y2, z2⟩ := HR5.out
    go_wp2_with fail
    refine abs_post (F := fun W => Blk W w.heap.size #[.int .i64 KV.n.k, .int .i64 KV.n.e, .int .i64 KV.n.n, .slice A5 KV.n.d.length c5, .slice B5 KV.n.ks.length e5] ∧ Keeps (KB b) w W ∧ Blk W b #[.slice A ls.length c, .int .i64 D, .int .i64 X, .int .i64 O, .int .i64 KV.m] ∧ NodF lo KV.n (.agg #[.int .i64 KV.n.k, .int .i64 KV.n.e, .int .i64 KV.n.n, .slice A5 KV.n.d.length c5, .slice B5 KV.n.ks.length e5]) W) ⟨?_, ?_, ?_, ?_⟩ ?_
    · exact ((((HR5.out.set 0 (by simp) _).set 1 (by simp) _).set 2 (by simp) _).set 3 (by simp) _).set 4 (by simp) _
    · refine keeps_set (keeps_set (keeps_set (keeps_set (keeps_set HK5.out ?_ _) ?_ _) ?_ _) ?_ _) ?_ _ <;> exact .inr (Nat.le_refl _)
    · have hne : w.heap.size ≠ b := fun e => HNR.out (by unfold KB; exact e)
      exact ((((HT5.out.other (p := ⟨w.heap.size, 0, none⟩) hne _).other (p := ⟨w.heap.size, 1, none⟩) hne _).other (p := ⟨w.heap.size, 2, none⟩) hne _).other (p := ⟨w.heap.size, 3, none⟩) hne _).other (p := ⟨w.heap.size, 4, none⟩) hne _
    · have hl := HZ1.out
      exact ((((HN5.out.set (p := ⟨w.heap.size, 0, none⟩) hl _).set (p := ⟨w.heap.size, 1, none⟩) hl _).set (p := ⟨w.heap.size, 2, none⟩) hl _).set (p := ⟨w.heap.size, 3, none⟩) hl _).set (p := ⟨w.heap.size, 4, none⟩) hl _
    rintro V ⟨B6, hkv, ht, hn⟩
    exact bodyPost_ret (v := .agg #[.int .i64 KV.n.k, .int .i64 KV.n.e, .int .i64 KV.n.n, .slice A5 KV.n.d.length c5, .slice B5 KV.n.ks.length e5]) (by simp [results, Tryz.results18, go_sem, B6.cell]) rfl ⟨hkv, by rw [HCV.out]; exact ht, .inl ⟨by rw [HCV.out]; exact HE5.out, _, rfl, nodf_lower (by rw [HCV.out]; exact hn) (by have := HZ1.out; omega)⟩⟩

theorem value_any (b : Nat) (A : Option Addr) (c : Nat) (ls : List (List Int)) (D X O : Int) (w0 : World) (E : EnvD b A ls w0) (hD : D ≤ 900) : ∀ r, ValL b A c ls D X O w0 r
  | 0 => value_step b A c ls D X O w0 0 E hD (fun r' h => by omega)
  | r + 1 => value_step b A c ls D X O w0 (r + 1) E hD (fun r' h => by
    obtain rfl : r = r' := by omega
    exact value_any b A c ls D X O w0 E hD r)
end Go.Proofs.YtnmanhediiooaaaGreatDoor

/- Package denote: an error is caught. -/
namespace Go.Proofs.YtnmanhediiooaaaGreatDoor
open Go.ChangeShapes Go.WideShapes Go.ChangeAt Go.RowKit
set_option linter.unusedVariables false
set_option linter.unusedSimpArgs false
set_option maxRecDepth 100000
attribute [local simp] AllK KnowsV look Is

set_option maxHeartbeats 4000000 in
theorem caughtD_idle (p : Addr) (w : World) :
    CallsD Tryz.prog 26 #[.pointer (some p)] .returning w fun e u' w' => e = .returned (.tuple #[]) ∧ u' = .returning ∧ w' = w := by
  refine callsD_of_wpS Tryz.func26 rfl fun c₀ cs hu => ?_
  apply wpS_seq
  apply wpS_region
  simp [wpOpsS, go_sem, recoverD, hu, Tryz.ntmps26, Exit.thenS]
  apply wpS_of_wp
  go_wp2
  cases c₀
  simp_all [bodyPostS, results, Tryz.results26]

theorem assertD (v : Value) (w : World) : (Instr.typeAssert (.iface 66 v) 20 66 true).run Tryz.prog w = .ok (.tuple #[v, .bool true]) w := by kernel_rfl

set_option maxHeartbeats 4000000 in
theorem caughtD_mal (p : Nat) (er : Int) (x : Value) (older : List PanicEntry) (w : World) (hp : w.cell? ⟨p, 0, none⟩ = some x) (hpz : w.frozen? ⟨p, 0, none⟩ = false) :
    CallsD Tryz.prog 26 #[.pointer (some ⟨p, 0, none⟩)] (.panicking ({ v := .iface 66 (.agg #[.int .i64 er]), recovered := false } :: older)) w fun e u' w' =>
      e = .returned (.tuple #[]) ∧ u' = .panicking ({ v := .iface 66 (.agg #[.int .i64 er]), recovered := true } :: older) ∧ w' = (w.setCell ⟨p, 0, none⟩ (.int .i64 er)).alloc (.cells #[.int .i64 er] 66) := by
  have hta := assertD
  have hpl : p < w.heap.size := World.block_lt_of_cell? w ⟨p, 0, none⟩ hp
  have hb : Below w.heap.size w (w.alloc (.cells #[.int .i64 er] 66)) := (Below.refl _ _).alloc (Nat.le_refl _) _
  have h1 : (w.alloc (.cells #[.int .i64 er] 66)).cell? ⟨p, 0, none⟩ = some x := (hb.cell (p := ⟨p, 0, none⟩) hpl).trans hp
  have h2 : (w.alloc (.cells #[.int .i64 er] 66)).frozen? ⟨p, 0, none⟩ = false := (hb.frozen (p := ⟨p, 0, none⟩) hpl).trans hpz
  clear hb
  refine callsD_of_wpS Tryz.func26 rfl fun c₀ cs hu => ?_
  apply wpS_seq
  apply wpS_region
  simp [wpOpsS, go_sem, recoverD, hu, Tryz.ntmps26, Exit.thenS]
  change Code.wpS Tryz.prog _ _ { tmps := #[.pointer (some ⟨p, 0, none⟩), .iface 66 (.agg #[.int .i64 er]), undef, undef, .iface 66 (.agg #[.int .i64 er]), undef, undef, undef, undef, undef, undef, undef, undef, undef, undef, undef, undef], defers := [] } _ _
  apply wpS_of_wp
  go_wp2
  cases c₀
  simp [bodyPostS, results, Tryz.results26]

set_option maxHeartbeats 1000000 in
theorem attempt_msg (nb : Nat) (caps : Array Value) (er : Int) (PO : World → Prop) (w : World) (hnb : nb < w.heap.size) (hP1 : ∀ W o, PO W → PO (W.alloc o)) (hP2 : ∀ W v, PO W → PO (W.setCell ⟨w.heap.size, 0, none⟩ v))
    (HR : Hid (Calls Tryz.prog 15 caps (w.alloc (.cells #[.int .i64 0] 31)) fun e w' => Keeps (KB nb) (w.alloc (.cells #[.int .i64 0] 31)) w' ∧ PO w' ∧ ((er = 0 ∧ e = .returned (.tuple #[])) ∨ (er ≠ 0 ∧ e = failE er)))) :
    Calls Tryz.prog 14 #[.func (.func 15) #[] caps] w fun e w' => e = .returned (.int .i64 er) ∧ Keeps (KB nb) w w' ∧ PO w' := by
  have hmf : ∀ (fn : Fn) (first cap : Array Value) (w : World), (Instr.makeFunc fn first cap).run Tryz.prog w = .ok (.func fn first cap) w := fun _ _ _ _ => rfl
  have HK1 : Hid (Keeps (KB nb) w (w.alloc (.cells #[.int .i64 0] 31))) := Lib.hid (keeps_alloc (Keeps.refl _ _) _)
  have HB1 : Hid (Blk (w.alloc (.cells #[.int .i64 0] 31)) w.heap.size #[.int .i64 0]) := Lib.hid (Blk.fresh _ _ _)
  have HNP : Hid (¬ KB nb w.heap.size) := Lib.hid (by unfold KB; omega)
  have HP1 := Lib.hid hP1
  have HP2 := Lib.hid hP2
  clear hnb hP1 hP2
  go_enter_defers Tryz.func14, Tryz.ntmps14
  go_wp2_with fail
  refine HR.out.mono ?_
  rintro e w2 ⟨hk2, hpo, ⟨he, rfl⟩ | ⟨he, rfl⟩⟩
  · obtain ⟨x2, y2, z2⟩ := HB1.out.keeps hk2 HNP.out
    have c2 := x2 0
    have f2 := y2 0
    have HK2 := Lib.hid (HK1.out.trans hk2)
    have HPO := Lib.hid hpo
    clear hk2 hpo HR HB1 x2 y2 z2
    go_wp2
    refine leaves_cons (f := 26) (args := #[.pointer (some ⟨w.heap.size, 0, none⟩)]) (by simp) (by simp [go_sem]) ?_
    refine (caughtD_idle _ _).mono ?_
    rintro e u' w'' ⟨rfl, rfl, rfl⟩
    have k1 : (w2.setCell ⟨w.heap.size, 0, none⟩ (.int .i64 0)).cell? ⟨w.heap.size, 0, none⟩ = some (.int .i64 0) := World.cell?_setCell_same' _ _ _ (by rw [c2]; rfl)
    have HF : Hid (Keeps (KB nb) w (w2.setCell ⟨w.heap.size, 0, none⟩ (.int .i64 0)) ∧ PO (w2.setCell ⟨w.heap.size, 0, none⟩ (.int .i64 0))) := Lib.hid ⟨keeps_set HK2.out (.inr (Nat.le_refl _)) _, HP2.out _ _ HPO.out⟩
    clear c2 f2 HK2 HPO HK1
    generalize w2.setCell ⟨w.heap.size, 0, none⟩ (.int .i64 0) = V at *
    simp [Leaves, settle, results, Tryz.results14, go_sem, k1]
    exact ⟨he.symm, HF.out.1, HF.out.2⟩
  · obtain ⟨x2, y2, z2⟩ := HB1.out.keeps hk2 HNP.out
    have c2 := x2 0
    have f2 := y2 0
    have HK2 := Lib.hid (HK1.out.trans hk2)
    have HPO := Lib.hid hpo
    clear hk2 hpo HR HB1 x2 y2 z2
    unfold failE
    go_wp2
    refine leaves_cons (f := 26) (args := #[.pointer (some ⟨w.heap.size, 0, none⟩)]) (by simp) (by simp [go_sem]) ?_
    refine (caughtD_mal w.heap.size er _ [] w2 c2 f2).mono ?_
    rintro e u' w'' ⟨rfl, rfl, rfl⟩
    have d1 : (w2.setCell ⟨w.heap.size, 0, none⟩ (.int .i64 er)).cell? ⟨w.heap.size, 0, none⟩ = some (.int .i64 er) := World.cell?_setCell_same' _ _ _ (by rw [c2]; rfl)
    have HF : Hid (Keeps (KB nb) w ((w2.setCell ⟨w.heap.size, 0, none⟩ (.int .i64 er)).alloc (.cells #[.int .i64 er] 66)) ∧ PO ((w2.setCell ⟨w.heap.size, 0, none⟩ (.int .i64 er)).alloc (.cells #[.int .i64 er] 66))) := Lib.hid ⟨keeps_alloc (keeps_set HK2.out (.inr (Nat.le_refl _)) _) _, HP1.out _ _ (HP2.out _ _ HPO.out)⟩
    clear c2 f2 HK2 HPO HK1
    generalize w2.setCell ⟨w.heap.size, 0, none⟩ (.int .i64 er) = U at *
    have k1 : (U.alloc (.cells #[.int .i64 er] 66)).cell? ⟨w.heap.size, 0, none⟩ = some (.int .i64 er) := (((Below.refl U.heap.size U).alloc (Nat.le_refl _) (.cells #[.int .i64 er] 66)).cell (p := ⟨w.heap.size, 0, none⟩) (World.block_lt_of_cell? U ⟨w.heap.size, 0, none⟩ d1)).trans d1
    clear d1
    generalize U.alloc (.cells #[.int .i64 er] 66) = V at *
    simp [Leaves, settle, results, Tryz.results14, go_sem, k1]
    exact ⟨HF.out.1, HF.out.2⟩

set_option maxHeartbeats 1000000 in
theorem attempt_meas (nb : Nat) (caps : Array Value) (er : Int) (PO : World → Prop) (w : World) (hnb : nb < w.heap.size) (hP1 : ∀ W o, PO W → PO (W.alloc o)) (hP2 : ∀ W v, PO W → PO (W.setCell ⟨w.heap.size, 0, none⟩ v))
    (HR : Hid (Calls Tryz.prog 22 caps (w.alloc (.cells #[.int .i64 0] 31)) fun e w' => Keeps (KB nb) (w.alloc (.cells #[.int .i64 0] 31)) w' ∧ PO w' ∧ ((er = 0 ∧ e = .returned (.tuple #[])) ∨ (er ≠ 0 ∧ e = failE er)))) :
    Calls Tryz.prog 14 #[.func (.func 22) #[] caps] w fun e w' => e = .returned (.int .i64 er) ∧ Keeps (KB nb) w w' ∧ PO w' := by
  have hmf : ∀ (fn : Fn) (first cap : Array Value) (w : World), (Instr.makeFunc fn first cap).run Tryz.prog w = .ok (.func fn first cap) w := fun _ _ _ _ => rfl
  have HK1 : Hid (Keeps (KB nb) w (w.alloc (.cells #[.int .i64 0] 31))) := Lib.hid (keeps_alloc (Keeps.refl _ _) _)
  have HB1 : Hid (Blk (w.alloc (.cells #[.int .i64 0] 31)) w.heap.size #[.int .i64 0]) := Lib.hid (Blk.fresh _ _ _)
  have HNP : Hid (¬ KB nb w.heap.size) := Lib.hid (by unfold KB; omega)
  have HP1 := Lib.hid hP1
  have HP2 := Lib.hid hP2
  clear hnb hP1 hP2
  go_enter_defers Tryz.func14, Tryz.ntmps14
  go_wp2_with fail
  refine HR.out.mono ?_
  rintro e w2 ⟨hk2, hpo, ⟨he, rfl⟩ | ⟨he, rfl⟩⟩
  · obtain ⟨x2, y2, z2⟩ := HB1.out.keeps hk2 HNP.out
    have c2 := x2 0
    have f2 := y2 0
    have HK2 := Lib.hid (HK1.out.trans hk2)
    have HPO := Lib.hid hpo
    clear hk2 hpo HR HB1 x2 y2 z2
    go_wp2
    refine leaves_cons (f := 26) (args := #[.pointer (some ⟨w.heap.size, 0, none⟩)]) (by simp) (by simp [go_sem]) ?_
    refine (caughtD_idle _ _).mono ?_
    rintro e u' w'' ⟨rfl, rfl, rfl⟩
    have k1 : (w2.setCell ⟨w.heap.size, 0, none⟩ (.int .i64 0)).cell? ⟨w.heap.size, 0, none⟩ = some (.int .i64 0) := World.cell?_setCell_same' _ _ _ (by rw [c2]; rfl)
    have HF : Hid (Keeps (KB nb) w (w2.setCell ⟨w.heap.size, 0, none⟩ (.int .i64 0)) ∧ PO (w2.setCell ⟨w.heap.size, 0, none⟩ (.int .i64 0))) := Lib.hid ⟨keeps_set HK2.out (.inr (Nat.le_refl _)) _, HP2.out _ _ HPO.out⟩
    clear c2 f2 HK2 HPO HK1
    generalize w2.setCell ⟨w.heap.size, 0, none⟩ (.int .i64 0) = V at *
    simp [Leaves, settle, results, Tryz.results14, go_sem, k1]
    exact ⟨he.symm, HF.out.1, HF.out.2⟩
  · obtain ⟨x2, y2, z2⟩ := HB1.out.keeps hk2 HNP.out
    have c2 := x2 0
    have f2 := y2 0
    have HK2 := Lib.hid (HK1.out.trans hk2)
    have HPO := Lib.hid hpo
    clear hk2 hpo HR HB1 x2 y2 z2
    unfold failE
    go_wp2
    refine leaves_cons (f := 26) (args := #[.pointer (some ⟨w.heap.size, 0, none⟩)]) (by simp) (by simp [go_sem]) ?_
    refine (caughtD_mal w.heap.size er _ [] w2 c2 f2).mono ?_
    rintro e u' w'' ⟨rfl, rfl, rfl⟩
    have d1 : (w2.setCell ⟨w.heap.size, 0, none⟩ (.int .i64 er)).cell? ⟨w.heap.size, 0, none⟩ = some (.int .i64 er) := World.cell?_setCell_same' _ _ _ (by rw [c2]; rfl)
    have HF : Hid (Keeps (KB nb) w ((w2.setCell ⟨w.heap.size, 0, none⟩ (.int .i64 er)).alloc (.cells #[.int .i64 er] 66)) ∧ PO ((w2.setCell ⟨w.heap.size, 0, none⟩ (.int .i64 er)).alloc (.cells #[.int .i64 er] 66))) := Lib.hid ⟨keeps_alloc (keeps_set HK2.out (.inr (Nat.le_refl _)) _) _, HP1.out _ _ (HP2.out _ _ HPO.out)⟩
    clear c2 f2 HK2 HPO HK1
    generalize w2.setCell ⟨w.heap.size, 0, none⟩ (.int .i64 er) = U at *
    have k1 : (U.alloc (.cells #[.int .i64 er] 66)).cell? ⟨w.heap.size, 0, none⟩ = some (.int .i64 er) := (((Below.refl U.heap.size U).alloc (Nat.le_refl _) (.cells #[.int .i64 er] 66)).cell (p := ⟨w.heap.size, 0, none⟩) (World.block_lt_of_cell? U ⟨w.heap.size, 0, none⟩ d1)).trans d1
    clear d1
    generalize U.alloc (.cells #[.int .i64 er] 66) = V at *
    simp [Leaves, settle, results, Tryz.results14, go_sem, k1]
    exact ⟨HF.out.1, HF.out.2⟩

end Go.Proofs.YtnmanhediiooaaaGreatDoor

/- Messages written out in the text: a slice of new slices of words. -/
namespace Go.Proofs.YtnmanhediiooaaaGreatDoor
open Go.RowKit
set_option linter.unusedVariables false
set_option linter.unusedSimpArgs false
set_option maxRecDepth 100000

theorem Sg.lit {w : World} (vs : List Value) (ls : List (List Int)) (T : TypeId) (h : ∀ j, j < ls.length → ∃ v, vs[j]? = some v ∧ Holds w v (seg ls j)) :
    Sg (w.alloc (.cells vs.toArray T)) (some ⟨w.heap.size, 0, none⟩) ls := by
  refine .inr ⟨w.heap.size, 0, rfl, fun j hj => ?_⟩
  obtain ⟨v, hv, hh⟩ := h j hj
  refine ⟨v, ?_, hh.below ((Below.refl _ _).alloc (Nat.le_refl _) _) (Nat.le_refl _)⟩
  rw [World.cell?_alloc_new]
  simpa using hv
theorem Holds.lit (w : World) (zs : List Int) (T : TypeId) (n : Nat) (hn : n = zs.length) (hm : n ≤ maxLen) : Holds (w.alloc (.cells (zs.map (Value.int .u64)).toArray T)) (.slice (some ⟨w.heap.size, 0, none⟩) n n) zs := by
  subst hn
  exact ⟨_, _, rfl, Ri.lit w .u64 zs T, (fun h => by cases h), Nat.le_refl _, hm⟩
theorem Holds.alloc {w : World} {v : Value} {l : List Int} (h : Holds w v l) (o : Obj) : Holds (w.alloc o) v l := h.below ((Below.refl _ _).alloc (Nat.le_refl _) o) (Nat.le_refl _)

/-- one segment, then the slice of it -/
theorem sg_lit1 (w : World) (v : Value) (z : List Int) (T : TypeId) (n : Nat) (hn : w.heap.size = n) (h : Holds w v z) : Sg (w.alloc (.cells #[v] T)) (some ⟨n, 0, none⟩) [z] := by
  subst hn
  exact Sg.lit [v] [z] T (by
    intro j hj
    match j, hj with
    | 0, _ => exact ⟨_, rfl, h⟩
    | n + 1, h => exact absurd h (by simp))
end Go.Proofs.YtnmanhediiooaaaGreatDoor

/- Package denote: how a traversal starts. -/
namespace Go.Proofs.YtnmanhediiooaaaGreatDoor
open Go.ChangeShapes Go.WideShapes Go.ChangeAt Go.RowKit
set_option linter.unusedVariables false
set_option linter.unusedSimpArgs false
set_option maxRecDepth 100000
attribute [local simp] AllK KnowsV look Is

/-- a message whose first segment is empty is read as one null word -/
def nulL (ls : List (List Int)) : List (List Int) := if 0 < ls.length ∧ (seg ls 0).length = 0 then [[0]] else ls
theorem valV_nul (r : Nat) (m : Int) : valV [[0]] r m 0 0 = ⟨nd0, m, 0⟩ := by
  have h : (followF [[0]] 0 0).w = 0 := by decide
  have h2 : (followF [[0]] 0 0).e = 0 := by decide
  cases r <;> (unfold valV; rw [if_pos (.inr h), h2]; rfl)
theorem msgV_nulL (ls : List (List Int)) (D X : Int) : msgV ls D X = if (valV (nulL ls) D.toNat (startI X) 0 0).e ≠ 0 then (nd0, (valV (nulL ls) D.toNat (startI X) 0 0).e) else (trimN (valV (nulL ls) D.toNat (startI X) 0 0).n, 0) := by
  unfold msgV nulL
  by_cases h : 0 < ls.length ∧ (seg ls 0).length = 0
  · rw [if_pos h, if_pos h, valV_nul, if_neg (by simp)]
    rfl
  · rw [if_neg h, if_neg h]
theorem measV_nulL (ls : List (List Int)) (D X : Int) : measV ls D X = if (valV (nulL ls) D.toNat (startI X) 0 0).e ≠ 0 then (0, (valV (nulL ls) D.toNat (startI X) 0 0).e) else (startI X - (valV (nulL ls) D.toNat (startI X) 0 0).m, 0) := by
  unfold measV nulL
  by_cases h : 0 < ls.length ∧ (seg ls 0).length = 0
  · rw [if_pos h, if_pos h, valV_nul, if_neg (by simp)]
    show (0, (0 : Int)) = (startI X - startI X, 0)
    rw [Int.sub_self]
  · rw [if_neg h, if_neg h]
theorem seg_one0 (j : Nat) : (seg [[0]] j).length ≤ 1 := by
  cases j with
  | zero => decide
  | succ j => simp [seg]
theorem ri_one0 (w : World) (n : Nat) (T : TypeId) (hn : w.heap.size = n) : Ri (w.alloc (.cells #[.int .u64 0] T)) .u64 (some ⟨n, 0, none⟩) [0] := by
  subst hn
  refine .inr ⟨_, 0, rfl, fun j hj => ?_⟩
  obtain rfl : j = 0 := by simp at hj; omega
  simp [go_sem]
  rfl
theorem wd_one0 : Wd2 [[0]] := by
  intro l hl
  simp at hl
  subst hl
  intro z hz
  simp at hz
  omega

/-- v points to a traversal that was made behind W1: its block, and the world in which it was made -/
def TrvF (lo : Nat) (cs : Array Value) (W1 : World) : Fact := fun v w => ∃ b w0, v = .pointer (some ⟨b, 0, none⟩) ∧ w0.heap.size = b ∧ Below W1.heap.size W1 w0 ∧ Below b w0 w ∧ Blk w b cs
theorem stable_trvf (lo : Nat) (cs : Array Value) (W1 : World) : stable (TrvF lo cs W1) := fun v w w' ⟨b, w0, h1, h2, h3, h4, h5⟩ hb => ⟨b, w0, h1, h2, h3, h4.trans (hb.mono (Nat.le_of_lt h5.lt)), h5.below hb⟩
theorem TrvF.new {lo : Nat} {cs : Array Value} {W1 wc : World} {T : TypeId} (hb : Below W1.drew.heap.size W1.drew wc) : TrvF lo cs W1 (.pointer (some ⟨wc.heap.size, 0, none⟩)) (wc.alloc (.cells cs T)) :=
  ⟨wc.heap.size, wc, rfl, rfl, bel_undrew hb, (Below.refl _ _).alloc (Nat.le_refl _) _, Blk.fresh _ _ _⟩

set_option maxHeartbeats 4000000 in
theorem start_any (A : Option Addr) (c : Nat) (ls : List (List Int)) (D X O : Int) (w : World) (hT : TabOK w) (hs : Sg w A ls) (hw : Wd2 ls) (hm : ls.length ≤ 40) (hf : ∀ j, (seg ls j).length ≤ 20000000) (hD : D ≤ 900) :
    Calls Tryz.prog 17 #[.slice A ls.length c, .agg #[.int .i64 D, .int .i64 X, .int .i64 O]] w fun e w' => ∃ b A2 c2 ls2 w0, e = .returned (.pointer (some ⟨b, 0, none⟩)) ∧ ls2 = nulL ls ∧ EnvD b A2 ls2 w0 ∧ Below b w0 w' ∧ Blk w' b #[.slice A2 ls2.length c2, .int .i64 D, .int .i64 X, .int .i64 O, .int .i64 (startI X)] ∧ w.heap.size ≤ b ∧ Below w.heap.size w w' := by
  have m1 : D ≤ 1000 := by omega
  have HBL := Lib.hid ((Below.refl w.heap.size w).alloc (Nat.le_refl _) (.cells #[.int .i64 D, .int .i64 X, .int .i64 O] 24))
  have HS := Lib.hid (hs.below HBL.out (Nat.le_refl _))
  by_cases hl : ls.length = 0
  · have hN : Hid (ls = nulL ls) := Lib.hid (by unfold nulL; rw [if_neg (by omega)])
    have t1 : ¬ ((0 : Int) < ls.length) := by omega
    clear hl hs
    go_enter Tryz.func17, Tryz.ntmps17
    go_wp2_with fail
    refine abs_code10 (F := fun W => Blk W w.heap.size #[.int .i64 D, .int .i64 X, .int .i64 O] ∧ Below w.heap.size w W ∧ Sg W A ls) ⟨?_, ?_, ?_⟩ ?_
    · exact Blk.fresh _ _ _
    · exact HBL.out
    · exact HS.out
    clear HBL HS t1
    rintro W1 ⟨h1, h2, h3⟩
    have HL1 := Lib.hid h1
    have HB1 := Lib.hid h2
    have HS1 := Lib.hid h3
    have HTT := Lib.hid (fun (W : World) (h : Below w.heap.size w W) => hT.on h)
    have HEQ : Hid (ls = nulL ls) := Lib.hid (hN.out)
    have HWD : Hid (Wd2 (ls) ∧ (ls).length ≤ 40 ∧ ∀ j, (seg (ls) j).length ≤ 20000000) := Lib.hid (⟨hw, hm, hf⟩)
    clear h1 h2 h3 hT hw hm hf
    generalize A = A2 at *
    refine wp_region_chain (by kernel_rfl) (by kernel_rfl) ?_
    refine chain_val (u := ?_) [0] rfl (by kernel_rfl) trivial (fun ρ wc hbc hcn hq => ?_) ?_; rotate_left
    · obtain ⟨hcn, hfn⟩ := hcn
      simp at hq
      go_simp
      rfl
    refine chain_val (u := ?_) [3] rfl (by kernel_rfl) trivial (fun ρ wc hbc hcn hq => ?_) ?_; rotate_left
    · obtain ⟨hcn, hfn⟩ := hcn
      simp at hq
      have x2 := (HL1.out.drew.below hbc).cell
      go_simp
      rfl
    refine chain_val (u := ?_) [3] rfl (by kernel_rfl) trivial (fun ρ wc hbc hcn hq => ?_) ?_; rotate_left
    · obtain ⟨hcn, hfn⟩ := hcn
      simp at hq
      have x2 := (HL1.out.drew.below hbc).cell
      go_simp
      rfl
    refine chain_call (T := Is (.agg #[.int .i64 (startI X)])) 32 [23] rfl (by kernel_rfl) trivial (stable_is _) (fun ρ wc hbc hcn hq => ?_) ?_
    · obtain ⟨hcn, hfn⟩ := hcn
      simp at hq
      refine ⟨_, by go_simp; rfl, ?_⟩
      refine (BStart_any _ _ _ _).mono ?_
      rintro e w' ⟨rfl, hbq⟩
      exact ⟨_, rfl, rfl, hbq⟩
    refine chain_val (u := ?_) [21, 22, 24] rfl (by kernel_rfl) trivial (fun ρ wc hbc hcn hq => ?_) ?_; rotate_left
    · obtain ⟨hcn, hfn⟩ := hcn
      simp at hq
      go_simp
      rfl
    refine chain_new (T := TrvF W1.heap.size #[.slice A2 ls.length c, .int .i64 D, .int .i64 X, .int .i64 O, .int .i64 (startI X)] W1) [25] rfl (by kernel_rfl) trivial (stable_trvf _ _ _) (fun ρ wc hbc hcn hq => ?_) ?_
    · obtain ⟨hcn, hfn⟩ := hcn
      simp at hq
      exact ⟨_, _, by go_simp; rfl, TrvF.new hbc, (Below.refl _ _).alloc (Nat.le_refl _) _⟩
    refine chain_new (T := TrvF W1.heap.size #[.slice A2 ls.length c, .int .i64 D, .int .i64 X, .int .i64 O, .int .i64 (startI X)] W1) [26] rfl (by kernel_rfl) trivial (stable_trvf _ _ _) (fun ρ wc hbc hcn hq => ?_) ?_
    · obtain ⟨hcn, hfn⟩ := hcn
      simp at hq
      exact ⟨_, wc, by go_simp, hq, Below.refl _ _⟩
    refine chain_end_lit 27 rfl (fun ff w5 hb5 hk => ?_)
    have h4 : TrvF W1.heap.size #[.slice A2 ls.length c, .int .i64 D, .int .i64 X, .int .i64 O, .int .i64 (startI X)] W1 (ff 4) w5 := allN_atF hk 4 (by decide) (by decide)
    simp [AllN] at hk
    simp only [frameL, hk]
    clear hk
    obtain ⟨b, w0, e4, g1, g2, g3, g4⟩ := h4
    rw [e4]
    have HF := Lib.hid (And.intro g1 (And.intro g2 (And.intro g3 g4)))
    have HB5 := Lib.hid (bel_on HB1.out (bel_undrew hb5))
    have HZ := Lib.hid (And.intro HB1.out.size g2.size)
    have HB0 := Lib.hid (bel_on HB1.out g2)
    clear g1 g2 g3 g4 e4 hb5 HL1 HB1
    go_wp2
    go_ret
    obtain ⟨g1, g2, g3, g4⟩ := HF.out
    obtain ⟨z1, z2⟩ := HZ.out
    exact ⟨b, A2, c, ls, w0, rfl, HEQ.out, ⟨HS1.out.below g2 (Nat.le_refl _), HTT.out _ HB0.out, by omega, HWD.out.1, HWD.out.2.1, HWD.out.2.2⟩, g3, g4, by omega, HB5.out⟩

  obtain ⟨b, off, A', c', rfl, hc, -, -, -, -⟩ := HS.out.one (i := 0) (by omega)
  simp only [Nat.add_zero] at hc
  have t1 : decide ((0 : Int) < ls.length) = true := decide_eq_true (by omega)
  have t0 : (0 : Int) < ls.length := by omega
  by_cases hz : (seg ls 0).length = 0
  · have hN : Hid ([[0]] = nulL ls) := Lib.hid (by unfold nulL; rw [if_pos ⟨by omega, hz⟩])
    rw [hz] at hc
    clear hl hs
    go_enter Tryz.func17, Tryz.ntmps17
    go_wp2_with fail
    refine abs_code10 (F := fun W => Blk W w.heap.size #[.int .i64 D, .int .i64 X, .int .i64 O] ∧ Below w.heap.size w W ∧ Sg W (some ⟨w.heap.size + 1 + 1, 0, none⟩) [[0]]) ⟨?_, ?_, ?_⟩ ?_
    · exact ((Blk.fresh _ _ _).alloc _).alloc _
    · exact (HBL.out.alloc (by simp) _).alloc (by simp; omega) _
    · exact sg_lit1 _ _ [0] _ _ (by simp) ⟨some ⟨w.heap.size + 1, 0, none⟩, 1, rfl, ri_one0 _ _ _ (by simp), fun h => (by cases h), by decide, by decide⟩
    clear HBL HS t0 t1 hc
    rintro W1 ⟨h1, h2, h3⟩
    have HL1 := Lib.hid h1
    have HB1 := Lib.hid h2
    have HS1 := Lib.hid h3
    have HTT := Lib.hid (fun (W : World) (h : Below w.heap.size w W) => hT.on h)
    have HEQ : Hid (([[0]] : List (List Int)) = nulL ls) := Lib.hid (hN.out)
    have HWD : Hid (Wd2 (([[0]] : List (List Int))) ∧ (([[0]] : List (List Int))).length ≤ 40 ∧ ∀ j, (seg (([[0]] : List (List Int))) j).length ≤ 20000000) := Lib.hid (⟨wd_one0, by decide, fun j => by have := seg_one0 j; omega⟩)
    clear h1 h2 h3 hT hw hm hf
    generalize (some (⟨w.heap.size + 1 + 1, 0, none⟩ : Addr)) = A2 at *
    refine wp_region_chain (by kernel_rfl) (by kernel_rfl) ?_
    refine chain_val (u := ?_) [0] rfl (by kernel_rfl) trivial (fun ρ wc hbc hcn hq => ?_) ?_; rotate_left
    · obtain ⟨hcn, hfn⟩ := hcn
      simp at hq
      go_simp
      rfl
    refine chain_val (u := ?_) [3] rfl (by kernel_rfl) trivial (fun ρ wc hbc hcn hq => ?_) ?_; rotate_left
    · obtain ⟨hcn, hfn⟩ := hcn
      simp at hq
      have x2 := (HL1.out.drew.below hbc).cell
      go_simp
      rfl
    refine chain_val (u := ?_) [3] rfl (by kernel_rfl) trivial (fun ρ wc hbc hcn hq => ?_) ?_; rotate_left
    · obtain ⟨hcn, hfn⟩ := hcn
      simp at hq
      have x2 := (HL1.out.drew.below hbc).cell
      go_simp
      rfl
    refine chain_call (T := Is (.agg #[.int .i64 (startI X)])) 32 [23] rfl (by kernel_rfl) trivial (stable_is _) (fun ρ wc hbc hcn hq => ?_) ?_
    · obtain ⟨hcn, hfn⟩ := hcn
      simp at hq
      refine ⟨_, by go_simp; rfl, ?_⟩
      refine (BStart_any _ _ _ _).mono ?_
      rintro e w' ⟨rfl, hbq⟩
      exact ⟨_, rfl, rfl, hbq⟩
    refine chain_val (u := ?_) [21, 22, 24] rfl (by kernel_rfl) trivial (fun ρ wc hbc hcn hq => ?_) ?_; rotate_left
    · obtain ⟨hcn, hfn⟩ := hcn
      simp at hq
      go_simp
      rfl
    refine chain_new (T := TrvF W1.heap.size #[.slice A2 1 1, .int .i64 D, .int .i64 X, .int .i64 O, .int .i64 (startI X)] W1) [25] rfl (by kernel_rfl) trivial (stable_trvf _ _ _) (fun ρ wc hbc hcn hq => ?_) ?_
    · obtain ⟨hcn, hfn⟩ := hcn
      simp at hq
      exact ⟨_, _, by go_simp; rfl, TrvF.new hbc, (Below.refl _ _).alloc (Nat.le_refl _) _⟩
    refine chain_new (T := TrvF W1.heap.size #[.slice A2 1 1, .int .i64 D, .int .i64 X, .int .i64 O, .int .i64 (startI X)] W1) [26] rfl (by kernel_rfl) trivial (stable_trvf _ _ _) (fun ρ wc hbc hcn hq => ?_) ?_
    · obtain ⟨hcn, hfn⟩ := hcn
      simp at hq
      exact ⟨_, wc, by go_simp, hq, Below.refl _ _⟩
    refine chain_end_lit 27 rfl (fun ff w5 hb5 hk => ?_)
    have h4 : TrvF W1.heap.size #[.slice A2 1 1, .int .i64 D, .int .i64 X, .int .i64 O, .int .i64 (startI X)] W1 (ff 4) w5 := allN_atF hk 4 (by decide) (by decide)
    simp [AllN] at hk
    simp only [frameL, hk]
    clear hk
    obtain ⟨b, w0, e4, g1, g2, g3, g4⟩ := h4
    rw [e4]
    have HF := Lib.hid (And.intro g1 (And.intro g2 (And.intro g3 g4)))
    have HB5 := Lib.hid (bel_on HB1.out (bel_undrew hb5))
    have HZ := Lib.hid (And.intro HB1.out.size g2.size)
    have HB0 := Lib.hid (bel_on HB1.out g2)
    clear g1 g2 g3 g4 e4 hb5 HL1 HB1
    go_wp2
    go_ret
    obtain ⟨g1, g2, g3, g4⟩ := HF.out
    obtain ⟨z1, z2⟩ := HZ.out
    exact ⟨b, A2, 1, ([[0]] : List (List Int)), w0, rfl, HEQ.out, ⟨HS1.out.below g2 (Nat.le_refl _), HTT.out _ HB0.out, by omega, HWD.out.1, HWD.out.2.1, HWD.out.2.2⟩, g3, g4, by omega, HB5.out⟩

  · have hN : Hid (ls = nulL ls) := Lib.hid (by unfold nulL; rw [if_neg (by omega)])
    have t2 : (((seg ls 0).length : Int) == 0) = false := beq_eq_false_iff_ne.2 (by omega)
    clear hl hs hz
    go_enter Tryz.func17, Tryz.ntmps17
    go_wp2_with fail
    refine abs_code10 (F := fun W => Blk W w.heap.size #[.int .i64 D, .int .i64 X, .int .i64 O] ∧ Below w.heap.size w W ∧ Sg W (some ⟨b, off, none⟩) ls) ⟨?_, ?_, ?_⟩ ?_
    · exact Blk.fresh _ _ _
    · exact HBL.out
    · exact HS.out
    clear HBL HS t0 t1 t2 hc
    rintro W1 ⟨h1, h2, h3⟩
    have HL1 := Lib.hid h1
    have HB1 := Lib.hid h2
    have HS1 := Lib.hid h3
    have HTT := Lib.hid (fun (W : World) (h : Below w.heap.size w W) => hT.on h)
    have HEQ : Hid (ls = nulL ls) := Lib.hid (hN.out)
    have HWD : Hid (Wd2 (ls) ∧ (ls).length ≤ 40 ∧ ∀ j, (seg (ls) j).length ≤ 20000000) := Lib.hid (⟨hw, hm, hf⟩)
    clear h1 h2 h3 hT hw hm hf
    generalize (some (⟨b, off, none⟩ : Addr)) = A2 at *
    refine wp_region_chain (by kernel_rfl) (by kernel_rfl) ?_
    refine chain_val (u := ?_) [0] rfl (by kernel_rfl) trivial (fun ρ wc hbc hcn hq => ?_) ?_; rotate_left
    · obtain ⟨hcn, hfn⟩ := hcn
      simp at hq
      go_simp
      rfl
    refine chain_val (u := ?_) [3] rfl (by kernel_rfl) trivial (fun ρ wc hbc hcn hq => ?_) ?_; rotate_left
    · obtain ⟨hcn, hfn⟩ := hcn
      simp at hq
      have x2 := (HL1.out.drew.below hbc).cell
      go_simp
      rfl
    refine chain_val (u := ?_) [3] rfl (by kernel_rfl) trivial (fun ρ wc hbc hcn hq => ?_) ?_; rotate_left
    · obtain ⟨hcn, hfn⟩ := hcn
      simp at hq
      have x2 := (HL1.out.drew.below hbc).cell
      go_simp
      rfl
    refine chain_call (T := Is (.agg #[.int .i64 (startI X)])) 32 [23] rfl (by kernel_rfl) trivial (stable_is _) (fun ρ wc hbc hcn hq => ?_) ?_
    · obtain ⟨hcn, hfn⟩ := hcn
      simp at hq
      refine ⟨_, by go_simp; rfl, ?_⟩
      refine (BStart_any _ _ _ _).mono ?_
      rintro e w' ⟨rfl, hbq⟩
      exact ⟨_, rfl, rfl, hbq⟩
    refine chain_val (u := ?_) [21, 22, 24] rfl (by kernel_rfl) trivial (fun ρ wc hbc hcn hq => ?_) ?_; rotate_left
    · obtain ⟨hcn, hfn⟩ := hcn
      simp at hq
      go_simp
      rfl
    refine chain_new (T := TrvF W1.heap.size #[.slice A2 ls.length c, .int .i64 D, .int .i64 X, .int .i64 O, .int .i64 (startI X)] W1) [25] rfl (by kernel_rfl) trivial (stable_trvf _ _ _) (fun ρ wc hbc hcn hq => ?_) ?_
    · obtain ⟨hcn, hfn⟩ := hcn
      simp at hq
      exact ⟨_, _, by go_simp; rfl, TrvF.new hbc, (Below.refl _ _).alloc (Nat.le_refl _) _⟩
    refine chain_new (T := TrvF W1.heap.size #[.slice A2 ls.length c, .int .i64 D, .int .i64 X, .int .i64 O, .int .i64 (startI X)] W1) [26] rfl (by kernel_rfl) trivial (stable_trvf _ _ _) (fun ρ wc hbc hcn hq => ?_) ?_
    · obtain ⟨hcn, hfn⟩ := hcn
      simp at hq
      exact ⟨_, wc, by go_simp, hq, Below.refl _ _⟩
    refine chain_end_lit 27 rfl (fun ff w5 hb5 hk => ?_)
    have h4 : TrvF W1.heap.size #[.slice A2 ls.length c, .int .i64 D, .int .i64 X, .int .i64 O, .int .i64 (startI X)] W1 (ff 4) w5 := allN_atF hk 4 (by decide) (by decide)
    simp [AllN] at hk
    simp only [frameL, hk]
    clear hk
    obtain ⟨b, w0, e4, g1, g2, g3, g4⟩ := h4
    rw [e4]
    have HF := Lib.hid (And.intro g1 (And.intro g2 (And.intro g3 g4)))
    have HB5 := Lib.hid (bel_on HB1.out (bel_undrew hb5))
    have HZ := Lib.hid (And.intro HB1.out.size g2.size)
    have HB0 := Lib.hid (bel_on HB1.out g2)
    clear g1 g2 g3 g4 e4 hb5 HL1 HB1
    go_wp2
    go_ret
    obtain ⟨g1, g2, g3, g4⟩ := HF.out
    obtain ⟨z1, z2⟩ := HZ.out
    exact ⟨b, A2, c, ls, w0, rfl, HEQ.out, ⟨HS1.out.below g2 (Nat.le_refl _), HTT.out _ HB0.out, by omega, HWD.out.1, HWD.out.2.1, HWD.out.2.2⟩, g3, g4, by omega, HB5.out⟩

end Go.Proofs.YtnmanhediiooaaaGreatDoor

/- Package denote: Message. -/
namespace Go.Proofs.YtnmanhediiooaaaGreatDoor
open Go.ChangeShapes Go.WideShapes Go.ChangeAt Go.RowKit
set_option linter.unusedVariables false
set_option linter.unusedSimpArgs false
set_option maxRecDepth 100000

theorem NodV.alloc {lo : Nat} {x : Nd} {v : Value} {w : World} (h : NodV lo x v w) (o : Obj) : NodV lo x v (w.alloc o) := by
  have hb : Below w.heap.size w (w.alloc o) := (Below.refl _ _).alloc (Nat.le_refl _) o
  obtain ⟨A, c, B, c2, hi, h1, h2, h3, h4, h5, h6⟩ := h
  refine ⟨A, c, B, c2, hi, h1, Nat.le_trans h2 hb.size, h3.below hb h2, h4.below hb (Nat.le_refl _), h5.below hb (Nat.le_refl _), fun b off j A' l' c' e1 e2 e3 => ?_⟩
  rw [hb.cell (p := ⟨b, off + j * 5 + 3, none⟩) (h5 b off e1).1] at e3
  exact (h6 b off j A' l' c' e1 e2 e3).below hb (Nat.le_refl _)
theorem NodV.set {lo : Nat} {x : Nd} {v : Value} {w : World} (h : NodV lo x v w) {p : Addr} (hp : p.block < lo) (u : Value) : NodV lo x v (w.setCell p u) := by
  obtain ⟨A, c, B, c2, hi, h1, h2, h3, h4, h5, h6⟩ := h
  refine ⟨A, c, B, c2, hi, h1, by simpa using h2, h3.to fun k k1 k2 => Below.heap_setCell _ _ _ _ (by omega), h4.set _ _, h5.set _ _, fun b off j A' l' c' e1 e2 e3 => ?_⟩
  obtain ⟨b', off', e4, k1, -⟩ := h3.row e2
  rw [e1] at e4
  injection e4 with e4
  injection e4 with e5 e6
  subst e5
  rw [cell_diff (fun e => by rw [e] at hp; exact absurd k1 (Nat.not_le.2 hp))] at e3
  exact (h6 b off j A' l' c' e1 e2 e3).set _ _

/-- what the closure of Message leaves in the variable nb -/
def MsgP (nb lo : Nat) (x : Nd) (er : Int) (W : World) : Prop :=
  (er = 0 → ∃ A c B c2, Blk W nb #[.int .i64 x.k, .int .i64 x.e, .int .i64 x.n, .slice A x.d.length c, .slice B x.ks.length c2] ∧ NodV lo x (.agg #[.int .i64 x.k, .int .i64 x.e, .int .i64 x.n, .slice A x.d.length c, .slice B x.ks.length c2]) W) ∧
  (er ≠ 0 → Blk W nb #[.int .i64 0, .int .i64 0, .int .i64 0, .slice none 0 0, .slice none 0 0])
theorem MsgP.alloc {nb lo : Nat} {x : Nd} {er : Int} {W : World} (h : MsgP nb lo x er W) (o : Obj) : MsgP nb lo x er (W.alloc o) :=
  ⟨fun e => by obtain ⟨A, c, B, c2, h1, h2⟩ := h.1 e; exact ⟨A, c, B, c2, h1.alloc o, h2.alloc o⟩, fun e => (h.2 e).alloc o⟩
theorem MsgP.set {nb lo : Nat} {x : Nd} {er : Int} {W : World} (h : MsgP nb lo x er W) {p : Addr} (hp : p.block < lo) (hn : p.block ≠ nb) (u : Value) : MsgP nb lo x er (W.setCell p u) :=
  ⟨fun e => by obtain ⟨A, c, B, c2, h1, h2⟩ := h.1 e; exact ⟨A, c, B, c2, h1.other hn u, h2.set hp u⟩, fun e => (h.2 e).other hn u⟩
theorem msg_err0 (ls : List (List Int)) (D X : Int) (h : (msgV ls D X).2 ≠ 0) : (msgV ls D X).1 = nd0 := by
  rw [msgV_nulL] at h ⊢
  by_cases h2 : (valV (nulL ls) D.toNat (startI X) 0 0).e ≠ 0
  · rw [if_pos h2]
  · rw [if_neg h2] at h; exact absurd rfl h
theorem bel_of_keeps {b N : Nat} {w w' : World} (h : Keeps (KB b) w w') (hN : N ≤ w.heap.size) (hb : N ≤ b) : Below N w w' := h.below hN (fun k hk => by unfold KB at hk; omega)

set_option maxHeartbeats 4000000 in
theorem msgRun (s l nb : Nat) (A : Option Addr) (c : Nat) (ls : List (List Int)) (D X O : Int) (w : World) (hT : TabOK w) (hs : Sg w A ls) (hw : Wd2 ls) (hm : ls.length ≤ 40) (hf : ∀ j, (seg ls j).length ≤ 20000000) (hD : D ≤ 900) (hX : X ≤ 1000000)
    (h1 : Blk w s #[.slice A ls.length c]) (h2 : Blk w l #[.int .i64 D, .int .i64 X, .int .i64 O]) (h3 : Blk w nb #[.int .i64 0, .int .i64 0, .int .i64 0, .slice none 0 0, .slice none 0 0]) :
    Calls Tryz.prog 15 #[.pointer (some ⟨s, 0, none⟩), .pointer (some ⟨l, 0, none⟩), .pointer (some ⟨nb, 0, none⟩)] w fun e w' => Keeps (KB nb) w w' ∧ MsgP nb w.heap.size (msgV ls D X).1 (msgV ls D X).2 w' ∧
      (((msgV ls D X).2 = 0 ∧ e = .returned (.tuple #[])) ∨ ((msgV ls D X).2 ≠ 0 ∧ e = failE (msgV ls D X).2)) := by
  have hx0 : 0 ≤ startI X ∧ startI X ≤ 1000000 := by unfold startI; split <;> omega
  have HST := Lib.hid (start_any A c ls D X O w hT hs hw hm hf hD)
  have hmv := msgV_nulL ls D X
  have HVA : Hid (∀ b A2 c2 w0 W, EnvD b A2 (nulL ls) w0 → Below b w0 W → Blk W b #[.slice A2 (nulL ls).length c2, .int .i64 D, .int .i64 X, .int .i64 O, .int .i64 (startI X)] →
      Calls Tryz.prog 18 #[.pointer (some ⟨b, 0, none⟩), .int .i64 0, .int .i64 0, .int .i64 1] W fun e w' => Keeps (KB b) W w' ∧ Blk w' b #[.slice A2 (nulL ls).length c2, .int .i64 D, .int .i64 X, .int .i64 O, .int .i64 (valV (nulL ls) D.toNat (startI X) 0 0).m] ∧
        (((valV (nulL ls) D.toNat (startI X) 0 0).e = 0 ∧ ∃ v, e = .returned v ∧ NodF W.heap.size (valV (nulL ls) D.toNat (startI X) 0 0).n v w') ∨ ((valV (nulL ls) D.toNat (startI X) 0 0).e ≠ 0 ∧ e = failE (valV (nulL ls) D.toNat (startI X) 0 0).e)) ∧ True) := Lib.hid (fun b A2 c2 w0 W E hb hk =>
    (value_any b A2 c2 (nulL ls) D X O w0 E hD D.toNat (startI X) 0 0 1 W hb hk hx0.1 (by omega) (by omega) (by omega) (by omega) (by omega) (by omega) (by omega) (by congr 1; omega)).mono fun e w' h => ⟨h.1, h.2.1, h.2.2, trivial⟩)
  have HNL : Hid (∀ b A2 w0, EnvD b A2 (nulL ls) w0 → validN (valV (nulL ls) D.toNat (startI X) 0 0).n = true ∧ sizeN (valV (nulL ls) D.toNat (startI X) 0 0).n ≤ 1099511627776) := Lib.hid (fun b A2 w0 E => by
    have h1 := valV_valid E.wd E.m E.f D.toNat (startI X) 0 0
    have h2 := (valV_size E.wd E.m E.f D.toNat (startI X) 0 0).2
    have h3 := valV_m E.wd E.m E.f D.toNat (startI X) 0 0 hx0.1
    exact ⟨h1, by omega⟩)
  generalize valV (nulL ls) D.toNat (startI X) 0 0 = sv at *
  generalize msgV ls D X = mv at *
  have HM1 : Hid (sv.e ≠ 0 → mv = (nd0, sv.e)) := Lib.hid (fun h => by rw [hmv, if_pos h])
  have HM2 : Hid (sv.e = 0 → mv = (trimN sv.n, 0)) := Lib.hid (fun h => by rw [hmv, if_neg (by rw [h]; simp)])
  clear hmv
  have HN3 := Lib.hid h3
  have hnb := h3.lt
  clear hT hs hw hf hD hX hx0
  obtain ⟨x1, y1, z1⟩ := h1
  obtain ⟨x2, y2, z2⟩ := h2
  go_enter Tryz.func15, Tryz.ntmps15
  go_wp2_with fail
  refine HST.out.mono ?_
  rintro e w3 ⟨b, A2, c2, ls2, w0, rfl, rfl, E, hb0, hk, hz, hbel⟩
  have HB3 := Lib.hid hbel
  have HN4 := Lib.hid (HN3.out.below hbel)
  have HV := Lib.hid (HVA.out b A2 c2 w0 w3 E hb0 hk)
  obtain ⟨hv, hsz⟩ := HNL.out b A2 w0 E
  have hne : b ≠ nb := by omega
  have HZ : Hid (w.heap.size ≤ b ∧ w.heap.size ≤ w3.heap.size) := Lib.hid ⟨hz, hbel.size⟩
  clear hb0 hk E hz hbel x1 y1 z1 x2 y2 z2 HST HVA HNL HN3 h3
  go_wp2_with fail
  refine HV.out.mono ?_
  rintro e w4 ⟨hk4, -, ⟨he4, v, rfl, hnd⟩ | ⟨he4, rfl⟩, -⟩
  rotate_left
  · have HB4 := HB3.out.trans (bel_of_keeps hk4 HZ.out.2 HZ.out.1)
    have HN5 := HN4.out.keeps hk4 (by unfold KB; omega)
    have h5 := HM1.out he4
    unfold failE
    go_wp2
    rw [h5]
    exact ⟨rfl, keeps_of HB4, ⟨fun h => absurd h he4, fun _ => HN5⟩, .inr ⟨he4, rfl⟩⟩
  obtain ⟨A5, c5, B5, e5, hi5, rfl, hh5, ho5⟩ := hnd
  have HB4 := Lib.hid (HB3.out.trans (bel_of_keeps hk4 HZ.out.2 HZ.out.1))
  have HN5 := Lib.hid (HN4.out.keeps hk4 (by unfold KB; omega))
  have HTR := Lib.hid (Trim_node sv.n A5 c5 B5 e5 w4 ho5.nd hsz hv)
  have H5 := Lib.hid (HM2.out he4)
  clear HM1 HM2 hk4 he4 ho5 HV HN4 HB3 hv hsz
  go_wp2_with fail
  refine HTR.out.mono ?_
  rintro e w6 ⟨v, rfl, hnv, hb6⟩
  have HN6 := Lib.hid (HN5.out.below hb6)
  have HB6 := Lib.hid (bel_on HB4.out hb6)
  have hz4 := HB4.out.size
  have HLO : Hid (w.heap.size ≤ w4.heap.size ∧ nb < w4.heap.size) := Lib.hid ⟨hz4, by omega⟩
  have HV6 := Lib.hid hnv
  obtain ⟨A7, c7, B7, e7, hi7, rfl, -⟩ := hnv
  clear hb6 HTR HN5 HB4 hz4
  obtain ⟨x3, y3, z3⟩ := HN6.out
  generalize trimN sv.n = tx at *
  go_wp2_with fail
  refine abs_post (F := fun W => Blk W nb #[.int .i64 tx.k, .int .i64 tx.e, .int .i64 tx.n, .slice A7 tx.d.length c7, .slice B7 tx.ks.length e7] ∧ Keeps (KB nb) w W ∧ NodV w4.heap.size tx (.agg #[.int .i64 tx.k, .int .i64 tx.e, .int .i64 tx.n, .slice A7 tx.d.length c7, .slice B7 tx.ks.length e7]) W) ⟨?_, ?_, ?_⟩ ?_
  · exact ((((HN6.out.set 0 (by simp) _).set 1 (by simp) _).set 2 (by simp) _).set 3 (by simp) _).set 4 (by simp) _
  · refine keeps_set (keeps_set (keeps_set (keeps_set (keeps_set (keeps_of HB6.out) ?_ _) ?_ _) ?_ _) ?_ _) ?_ _ <;> exact .inl rfl
  · have hl := HLO.out.2
    exact ((((HV6.out.set (p := ⟨nb, 0, none⟩) hl _).set (p := ⟨nb, 1, none⟩) hl _).set (p := ⟨nb, 2, none⟩) hl _).set (p := ⟨nb, 3, none⟩) hl _).set (p := ⟨nb, 4, none⟩) hl _
  rintro V ⟨B6, hkv, hn⟩
  go_end0
  refine ⟨hkv, ?_, ?_⟩
  · rw [H5.out]
    refine ⟨fun _ => ⟨A7, c7, B7, e7, B6, ?_⟩, fun h => absurd rfl h⟩
    obtain ⟨A, c, B, c2, hi, k1, k2, k3, k4⟩ := hn
    exact ⟨A, c, B, c2, hi, k1, k2, k3.wide HLO.out.1 (Nat.le_refl _), k4⟩
  · rw [H5.out]
    exact .inl ⟨rfl, rfl⟩

set_option maxHeartbeats 4000000 in
theorem message_any (A : Option Addr) (c : Nat) (ls : List (List Int)) (D X O : Int) (w : World) (hT : TabOK w) (hs : Sg w A ls) (hw : Wd2 ls) (hm : ls.length ≤ 40) (hf : ∀ j, (seg ls j).length ≤ 20000000) (hD : D ≤ 900) (hX : X ≤ 1000000) :
    Calls Tryz.prog 6 #[.slice A ls.length c, .agg #[.int .i64 D, .int .i64 X, .int .i64 O]] w fun e w' => ∃ v, e = .returned (.tuple #[v, .int .i64 (msgV ls D X).2]) ∧ NodU w.heap.size (msgV ls D X).1 v w' ∧ Below w.heap.size w w' := by
  have hmf : ∀ (fn : Fn) (first cap : Array Value) (w : World), (Instr.makeFunc fn first cap).run Tryz.prog w = .ok (.func fn first cap) w := fun _ _ _ _ => rfl
  have hme : (msgV ls D X).2 ≠ 0 → (msgV ls D X).1 = nd0 := fun h => (msg_err0 ls D X h)
  have HB1 := Lib.hid ((((Below.refl w.heap.size w).alloc (Nat.le_refl _) (.cells #[.slice A ls.length c] 22)).alloc (by simp) (.cells #[.int .i64 D, .int .i64 X, .int .i64 O] 24)).alloc (by simp; omega) (.cells #[.int .i64 0, .int .i64 0, .int .i64 0, .slice none 0 0, .slice none 0 0] 30))
  have HS1 : Hid (Blk (((w.alloc (.cells #[.slice A ls.length c] 22)).alloc (.cells #[.int .i64 D, .int .i64 X, .int .i64 O] 24)).alloc (.cells #[.int .i64 0, .int .i64 0, .int .i64 0, .slice none 0 0, .slice none 0 0] 30)) w.heap.size #[.slice A ls.length c]) := Lib.hid (((Blk.fresh _ _ _).alloc _).alloc _)
  have HL1 : Hid (Blk (((w.alloc (.cells #[.slice A ls.length c] 22)).alloc (.cells #[.int .i64 D, .int .i64 X, .int .i64 O] 24)).alloc (.cells #[.int .i64 0, .int .i64 0, .int .i64 0, .slice none 0 0, .slice none 0 0] 30)) (w.heap.size + 1) #[.int .i64 D, .int .i64 X, .int .i64 O]) := Lib.hid ((Blk.new (by simp)).alloc _)
  have HN1 : Hid (Blk (((w.alloc (.cells #[.slice A ls.length c] 22)).alloc (.cells #[.int .i64 D, .int .i64 X, .int .i64 O] 24)).alloc (.cells #[.int .i64 0, .int .i64 0, .int .i64 0, .slice none 0 0, .slice none 0 0] 30)) (w.heap.size + 1 + 1) #[.int .i64 0, .int .i64 0, .int .i64 0, .slice none 0 0, .slice none 0 0]) := Lib.hid (Blk.new (by simp))
  have HALL : Hid (∀ W : World, W.heap.size = w.heap.size + 1 + 1 + 1 → Below w.heap.size w W → Blk W w.heap.size #[.slice A ls.length c] → Blk W (w.heap.size + 1) #[.int .i64 D, .int .i64 X, .int .i64 O] → Blk W (w.heap.size + 1 + 1) #[.int .i64 0, .int .i64 0, .int .i64 0, .slice none 0 0, .slice none 0 0] →
      Calls Tryz.prog 14 #[.func (.func 15) #[] #[.pointer (some ⟨w.heap.size, 0, none⟩), .pointer (some ⟨w.heap.size + 1, 0, none⟩), .pointer (some ⟨w.heap.size + 1 + 1, 0, none⟩)]] W fun e w' => e = .returned (.int .i64 (msgV ls D X).2) ∧ Keeps (KB (w.heap.size + 1 + 1)) W w' ∧ MsgP (w.heap.size + 1 + 1) (W.heap.size + 1) (msgV ls D X).1 (msgV ls D X).2 w') := Lib.hid (fun W hz hb k1 k2 k3 =>
    attempt_msg (w.heap.size + 1 + 1) _ _ _ W (by omega) (fun V o h => h.alloc o) (fun V u h => h.set (p := ⟨W.heap.size, 0, none⟩) (by show W.heap.size < W.heap.size + 1; omega) (by show W.heap.size ≠ _; omega) u) (Lib.hid (by
      have hbb := hb.alloc hb.size (.cells #[.int .i64 0] 31)
      have := msgRun w.heap.size (w.heap.size + 1) (w.heap.size + 1 + 1) A c ls D X O (W.alloc (.cells #[.int .i64 0] 31)) (hT.on hbb) (hs.below hbb (Nat.le_refl _)) hw hm hf hD hX (k1.alloc _) (k2.alloc _) (k3.alloc _)
      rw [show (W.alloc (.cells #[.int .i64 0] 31)).heap.size = W.heap.size + 1 by simp] at this
      exact this)))
  generalize msgV ls D X = mv at *
  have HME := Lib.hid hme
  clear hT hs hw hm hf hD hX hme
  go_enter Tryz.func6, Tryz.ntmps6
  go_wp2_with fail
  refine (HALL.out _ (by simp) HB1.out HS1.out HL1.out HN1.out).mono ?_
  rintro e w2 ⟨rfl, hk2, hmp⟩
  have HB2 := Lib.hid (HB1.out.trans (bel_of_keeps (N := w.heap.size) hk2 (by simp; omega) (by omega)))
  clear HALL HB1 HS1 HL1 HN1 hk2
  by_cases he : mv.2 = 0
  · obtain ⟨A5, c5, B5, e5, hn, hv⟩ := hmp.1 he
    have HN := Lib.hid hn
    have HV := Lib.hid hv
    clear hmp HME he hv
    obtain ⟨x3, y3, z3⟩ := hn
    go_wp2_with fail
    refine abs_post (F := fun W => Blk W (w.heap.size + 1 + 1) #[.int .i64 mv.1.k, .int .i64 mv.1.e, .int .i64 mv.1.n, .slice A5 mv.1.d.length c5, .slice B5 mv.1.ks.length e5] ∧ NodV w.heap.size mv.1 (.agg #[.int .i64 mv.1.k, .int .i64 mv.1.e, .int .i64 mv.1.n, .slice A5 mv.1.d.length c5, .slice B5 mv.1.ks.length e5]) W ∧ Below w.heap.size w W) ⟨?_, ?_, ?_⟩ ?_
    · exact ((((HN.out.set 0 (by simp) _).set 1 (by simp) _).set 2 (by simp) _).set 3 (by simp) _).set 4 (by simp) _
    · have hl : w.heap.size + 1 + 1 < w.heap.size + 1 + 1 + 1 + 1 := by omega
      obtain ⟨A, c, B, c2, hi, k1, k2, k3, k4⟩ := ((((HV.out.set (p := ⟨w.heap.size + 1 + 1, 0, none⟩) (by first | (simp; done) | (simp; omega)) (.int .i64 mv.1.k)).set (p := ⟨w.heap.size + 1 + 1, 1, none⟩) (by first | (simp; done) | (simp; omega)) (.int .i64 mv.1.e)).set (p := ⟨w.heap.size + 1 + 1, 2, none⟩) (by first | (simp; done) | (simp; omega)) (.int .i64 mv.1.n)).set (p := ⟨w.heap.size + 1 + 1, 3, none⟩) (by first | (simp; done) | (simp; omega)) (.slice A5 mv.1.d.length c5)).set (p := ⟨w.heap.size + 1 + 1, 4, none⟩) (by first | (simp; done) | (simp; omega)) (.slice B5 mv.1.ks.length e5)
      exact ⟨A, c, B, c2, hi, k1, k2, k3.wide (by simp; omega) (Nat.le_refl _), k4⟩
    · refine Below.setCell (Below.setCell (Below.setCell (Below.setCell (Below.setCell HB2.out ?_ _) ?_ _) ?_ _) ?_ _) ?_ _ <;> (show w.heap.size ≤ w.heap.size + 1 + 1; omega)
    rintro V ⟨B6, hv, hbv⟩
    exact bodyPost_ret (v := .tuple #[.agg #[.int .i64 mv.1.k, .int .i64 mv.1.e, .int .i64 mv.1.n, .slice A5 mv.1.d.length c5, .slice B5 mv.1.ks.length e5], .int .i64 mv.2]) (by simp [results, Tryz.results6, go_sem, B6.cell]) rfl ⟨_, rfl, hv.nodU, hbv⟩
  · have hn := hmp.2 he
    have HN := Lib.hid hn
    have HX1 := Lib.hid (HME.out he)
    clear hmp HME
    obtain ⟨x3, y3, z3⟩ := hn
    go_wp2_with fail
    refine abs_post (F := fun W => Blk W (w.heap.size + 1 + 1) #[.int .i64 0, .int .i64 0, .int .i64 0, .slice none 0 0, .slice none 0 0] ∧ Below w.heap.size w W) ⟨?_, ?_⟩ ?_
    · exact ((((HN.out.set 0 (by simp) _).set 1 (by simp) _).set 2 (by simp) _).set 3 (by simp) _).set 4 (by simp) _
    · refine Below.setCell (Below.setCell (Below.setCell (Below.setCell (Below.setCell HB2.out ?_ _) ?_ _) ?_ _) ?_ _) ?_ _ <;> (show w.heap.size ≤ w.heap.size + 1 + 1; omega)
    rintro V ⟨B6, hbv⟩
    refine bodyPost_ret (v := .tuple #[.agg #[.int .i64 0, .int .i64 0, .int .i64 0, .slice none 0 0, .slice none 0 0], .int .i64 mv.2]) (by simp [results, Tryz.results6, go_sem, B6.cell]) rfl ⟨_, rfl, ?_, hbv⟩
    rw [HX1.out]
    exact ⟨none, 0, none, 0, 0, rfl, Nat.zero_le _, fun W _ => nd0_here W 0 (by decide), fun b off e => (by cases e), fun b off e => (by cases e), fun b off j A' l' c' e => (by cases e)⟩
end Go.Proofs.YtnmanhediiooaaaGreatDoor

/- Package denote: what a traversal charges. -/
namespace Go.Proofs.YtnmanhediiooaaaGreatDoor
open Go.ChangeShapes Go.WideShapes Go.ChangeAt Go.RowKit
set_option linter.unusedVariables false
set_option linter.unusedSimpArgs false
set_option maxRecDepth 100000

/-- what charge does, r nested objects to go -/
def ChgL (b : Nat) (A : Option Addr) (c : Nat) (ls : List (List Int)) (D X O : Int) (w0 : World) (r : Nat) : Prop := ∀ (m s a dep : Int) (w : World), Below b w0 w → Blk w b #[.slice A ls.length c, .int .i64 D, .int .i64 X, .int .i64 O, .int .i64 m] →
  0 ≤ m → m ≤ 4611686018427387904 → 0 ≤ s → s ≤ 1000 → 0 ≤ a → a ≤ 200000000000 → 0 ≤ dep → dep ≤ 901 → (D - dep + 1).toNat = r →
  Calls Tryz.prog 23 #[.pointer (some ⟨b, 0, none⟩), .int .i64 s, .int .i64 a, .int .i64 dep] w fun e w' => Keeps (KB b) w w' ∧ Blk w' b #[.slice A ls.length c, .int .i64 D, .int .i64 X, .int .i64 O, .int .i64 (valV ls r m s a).m] ∧ (((valV ls r m s a).e = 0 ∧ e = .returned (.tuple #[])) ∨ ((valV ls r m s a).e ≠ 0 ∧ e = failE (valV ls r m s a).e))

set_option maxHeartbeats 4000000 in
theorem chargeKids_any (b : Nat) (A : Option Addr) (c : Nat) (ls : List (List Int)) (D X O : Int) (w0 : World) (r : Nat) (E : EnvD b A ls w0) (m : Int) (o : Ob) (dep : Int) (hV : 0 < (ptrO o).2 → dep ≤ 900 ∧ ChgL b A c ls D X O w0 r) (w : World) (hb : Below b w0 w) (hk : Blk w b #[.slice A ls.length c, .int .i64 D, .int .i64 X, .int .i64 O, .int .i64 m])
    (hm0 : 0 ≤ m) (hm1 : m ≤ 4611686018427387904) (ho : ObOK ls o) (hd0 : 0 ≤ dep) (hd1 : dep ≤ 901) (hr : (D - dep).toNat = r) :
    Calls Tryz.prog 46 #[.pointer (some ⟨b, 0, none⟩), .agg #[.int .i64 o.k, .int .i64 o.sg, .int .i64 o.at', .int .i64 o.d, .int .i64 o.p, .int .i64 o.el, .int .i64 o.n, .int .i64 o.cost], .int .i64 dep] w fun e w' => Keeps (KB b) w w' ∧ Blk w' b #[.slice A ls.length c, .int .i64 D, .int .i64 X, .int .i64 O, .int .i64 (kidR (valV ls r) o m).m] ∧ (((kidR (valV ls r) o m).e = 0 ∧ e = .returned (.tuple #[])) ∨ ((kidR (valV ls r) o m).e ≠ 0 ∧ e = failE (kidR (valV ls r) o m).e)) := by
  have hlt := hk.lt
  obtain ⟨x, y, hxy⟩ : ∃ x y, ptrO o = (x, y) := ⟨_, _, rfl⟩
  obtain ⟨hx0, hx1, hy0, hy1⟩ := ptrO_bd ho hxy
  obtain ⟨n, rfl⟩ := Int.eq_ofNat_of_zero_le hy0
  have hn1 : n ≤ 536870911 := by omega
  have hkR : kidR (valV ls r) o m = runK (fun (m : Int) (i : Nat) => valV ls r m o.sg (x + (i : Int))) m n := by unfold kidR; rw [hxy]; simp
  rw [hkR]
  have hval := valV_m E.wd E.m E.f r
  obtain ⟨f, hf⟩ : ∃ f : Int → Nat → Val, f = fun (m : Int) (i : Nat) => valV ls r m o.sg (x + (i : Int)) := ⟨_, rfl⟩
  have HMR : Hid (∀ j, 0 ≤ (runK f m j).m ∧ (runK f m j).m ≤ m) := Lib.hid (fun j => runK_ind (fun z => 0 ≤ z ∧ z ≤ m) ⟨hm0, Int.le_refl _⟩ j (fun m' i _ hm => by
    subst hf
    have := hval m' o.sg (x + i) hm.1
    exact ⟨this.1, Int.le_trans this.2 hm.2⟩))
  have HV : Hid (∀ (R : Int) (j : Nat) (wr : World), Below b w0 wr → Blk wr b #[.slice A ls.length c, .int .i64 D, .int .i64 X, .int .i64 O, .int .i64 R] → 0 ≤ R → R ≤ m → j < n →
      Calls Tryz.prog 23 #[.pointer (some ⟨b, 0, none⟩), .int .i64 o.sg, .int .i64 (x + j), .int .i64 (dep + 1)] wr fun e w' => Keeps (KB b) wr w' ∧ Blk w' b #[.slice A ls.length c, .int .i64 D, .int .i64 X, .int .i64 O, .int .i64 (f R j).m] ∧ (((f R j).e = 0 ∧ e = .returned (.tuple #[])) ∨ ((f R j).e ≠ 0 ∧ e = failE (f R j).e))) := Lib.hid (fun R j wr h1 h2 h3 h4 h5 => by
    subst hf
    obtain ⟨hdd, hVV⟩ := hV (by rw [hxy]; show (0 : Int) < n; omega)
    exact hVV R o.sg (x + j) (dep + 1) wr h1 h2 h3 (by omega) (by have := ho.sg; omega) (by have := ho.sg; omega) (by omega) (by omega) (by omega) (by omega) (by rw [← hr]; congr 1; omega))
  rw [← hf]
  have HPT := Lib.hid (fun w2 => RPointers_is o.k o.sg o.at' o.d o.p o.el o.n o.cost x n w2 ho.at'.1 (by have := ho.at'; omega) ho.d.1 ho.d.2 hxy)
  have HB1 := Lib.hid ((Below.refl w.heap.size w).alloc (Nat.le_refl _) (.cells (obA o) 74))
  have HT1 := Lib.hid (hk.alloc (.cells (obA o) 74))
  have HO1 : Hid (Blk (w.alloc (.cells (obA o) 74)) w.heap.size (obA o)) := Lib.hid (Blk.fresh _ _ _)
  have HB0 := Lib.hid (fun (wr : World) (h : Keeps (KB b) w wr) => hb.trans (bel_keeps h (Nat.le_of_lt hlt)))
  have HL : Hid (b < w.heap.size) := Lib.hid hlt
  unfold obA at HB1 HT1 HO1
  clear hb hk hlt hkR hval hV hr ho hxy hy0 hy1 hf E
  obtain ⟨x2, y2, z2⟩ := HO1.out
  go_enter Tryz.func46, Tryz.ntmps46
  go_wp2_with fail
  refine (HPT.out _).mono ?_
  rintro e w1 ⟨rfl, hb1⟩
  have HT3 := Lib.hid (HT1.out.below hb1)
  have HO3 := Lib.hid (HO1.out.below hb1)
  have HK3 : Hid (Keeps (KB b) w w1) := Lib.hid (keeps_of (bel_on HB1.out hb1))
  clear HT1 HO1 HB1 hb1 x2 y2 z2 HPT
  go_wp2_with fail
  go_loopw [15] (fun i wr => ∃ j : Nat, j ≤ n ∧ i = .int .i64 j ∧ (runK f m j).e = 0 ∧ Blk wr b #[.slice A ls.length c, .int .i64 D, .int .i64 X, .int .i64 O, .int .i64 (runK f m j).m] ∧ Keeps (KB b) w wr ∧ Blk wr w.heap.size #[.int .i64 o.k, .int .i64 o.sg, .int .i64 o.at', .int .i64 o.d, .int .i64 o.p, .int .i64 o.el, .int .i64 o.n, .int .i64 o.cost]) (fun i _ => n - (intOf i).toNat)
  case atStart => exact ⟨0, by omega, rfl, rfl, HT3.out, HK3.out, HO3.out⟩
  case round =>
    clear HT3 HO3 HK3
    obtain ⟨j, hj, rfl, he, hbt, hkp, hbo⟩ := hrel
    have HRE := Lib.hid he
    have HT := Lib.hid hbt
    have HK := Lib.hid hkp
    have HO := Lib.hid hbo
    clear he hbt hkp
    by_cases hlt : j < n
    · have hj1 : (j : Int) < (n : Int) := by omega
      have hj2 : (j : Int) < 536870912 := by omega
      have HMJ := Lib.hid (HMR.out j)
      have HNX : Hid (∀ h : (f (runK f m j).m j).e = 0, runK f m (j + 1) = ⟨(runK f m j).ks ++ [(f (runK f m j).m j).n], (f (runK f m j).m j).m, 0⟩) := Lib.hid (fun h => runK_ok HRE.out h)
      have HNO : Hid (∀ h : (f (runK f m j).m j).e ≠ 0, (runK f m n).m = (f (runK f m j).m j).m ∧ (runK f m n).e = (f (runK f m j).m j).e) := Lib.hid (fun h => by
        have h1 := runK_no HRE.out h
        have h2 : runK f m n = runK f m (j + 1) := runK_keep (by rw [h1]; exact h) (by omega)
        rw [h2, h1]
        exact ⟨rfl, rfl⟩)
      obtain ⟨x2, y2, z2⟩ := hbo
      go_wp2_with fail
      refine (HV.out (runK f m j).m j wr (HB0.out _ HK.out) HT.out HMJ.out.1 HMJ.out.2 hlt).mono ?_
      rintro e w4 ⟨hk4, hbt4, ⟨he4, rfl⟩ | ⟨he4, rfl⟩⟩
      · have HT4 := Lib.hid hbt4
        have HK4 := Lib.hid (HK.out.trans hk4)
        have HO4 := Lib.hid (HO.out.keeps hk4 (by have := HL.out; unfold KB; omega))
        have HN4 := Lib.hid (HNX.out he4)
        clear hk4 hbt4 x2 y2 z2 HT HK HO HNX HNO he4
        generalize (f (runK f m j).m j).n = kx at *
        generalize (f (runK f m j).m j).m = m4 at *
        go_wp2
        go_roundw
        case rel => exact ⟨j + 1, by omega, by go_num, by rw [HN4.out], by rw [HN4.out]; exact HT4.out, HK4.out, HO4.out⟩
        case measure => simp [intOf]; omega
      · obtain ⟨h1, h2⟩ := HNO.out he4
        have HK4 := Lib.hid (HK.out.trans hk4)
        rw [← h1] at hbt4
        rw [← h2] at he4
        unfold failE
        go_wp2
        exact ⟨rfl, HK4.out, hbt4, .inr ⟨he4, by rw [h2]; rfl⟩⟩
    · obtain rfl : j = n := by omega
      go_wp2
      go_end0
      exact ⟨HK.out, HT.out, .inl ⟨HRE.out, rfl⟩⟩

theorem contK_me (val : Int → Int → Int → Val) (ls : List (List Int)) (m : Int) (o : Ob) : (contK val ls m o).m = (kidR val o m).m ∧ (contK val ls m o).e = (kidR val o m).e := by
  unfold contK
  by_cases h : (kidR val o m).e ≠ 0
  · rw [if_pos h]
    exact ⟨rfl, rfl⟩
  · rw [if_neg h]
    exact ⟨rfl, (Classical.byContradiction fun g => h (fun e => g e.symm) : (0 : Int) = _)⟩
theorem runK_stay {f : Int → Nat → Val} {m : Int} (h : ∀ i, (f m i).m = m ∧ (f m i).e = 0) : ∀ n, (runK f m n).m = m ∧ (runK f m n).e = 0
  | 0 => ⟨rfl, rfl⟩
  | n + 1 => by
    obtain ⟨h1, h2⟩ := runK_stay h n
    have h3 := h n
    rw [runK_ok h2 (by rw [h1]; exact h3.2), h1]
    exact ⟨h3.1, rfl⟩
theorem elsR_noptr (val : Int → Int → Int → Val) (ls : List (List Int)) (m : Int) (o : Ob) (hp : ¬ 0 < o.p) : (elsR val ls o m).m = m ∧ (elsR val ls o m).e = 0 := by
  unfold elsR
  refine runK_stay (fun i => ?_) _
  have hR : kidR val (eleO o i) m = ⟨[], m, 0⟩ := by
    have h0 : ptrO (eleO o i) = (0, 0) := by
      unfold ptrO eleO
      rw [if_neg (fun h => hp h.2), if_neg (fun h => absurd h.1 (by show (1 : Int) ≠ 2; decide))]
    unfold kidR
    rw [h0]
    rfl
  have h := contK_me val ls m (eleO o i)
  rw [hR] at h
  exact h
theorem bodyK_me (val : Int → Int → Int → Val) (ls : List (List Int)) (m : Int) (o : Ob) : (o.el = 7 → (bodyK val ls m o).m = (elsR val ls o m).m ∧ (bodyK val ls m o).e = (elsR val ls o m).e) ∧ (o.el ≠ 7 → (bodyK val ls m o).m = (kidR val o m).m ∧ (bodyK val ls m o).e = (kidR val o m).e) := by
  refine ⟨fun h => ?_, fun h => ?_⟩
  · unfold bodyK
    rw [if_pos h]
    by_cases h : (elsR val ls o m).e ≠ 0
    · rw [if_pos h]
      exact ⟨rfl, rfl⟩
    · rw [if_neg h]
      exact ⟨rfl, (Classical.byContradiction fun g => h (fun e => g e.symm) : (0 : Int) = _)⟩
  · unfold bodyK
    rw [if_neg h]
    exact contK_me val ls m o

set_option maxHeartbeats 4000000 in
theorem charge_step (b : Nat) (A : Option Addr) (c : Nat) (ls : List (List Int)) (D X O : Int) (w0 : World) (r : Nat) (E : EnvD b A ls w0) (hD : D ≤ 900) (hV : ∀ r', r = r' + 1 → ChgL b A c ls D X O w0 r') : ChgL b A c ls D X O w0 r := by
  intro m s a dep w hb hk hm0 hm1 hs0 hs1 ha0 ha1 hd0 hd1 hr
  have hlt := hk.lt
  have hVL := valV_loc E.wd E.m E.f D m s a dep r hr
  have hOK := loc_ok E.wd E.m E.f D m s a dep hm0
  have HOB := Lib.hid (fun w2 h1 h2 => object_any b A c ls D X O w0 E m s a dep w2 h1 h2 hm0 hm1 hs0 hs1 ha0 ha1)
  generalize locD ls D m s a dep = L at *
  obtain ⟨o, lm, le⟩ := L
  simp only at *
  have hr1 : (D - dep).toNat = r - 1 := by omega
  have hVr : dep ≤ D → ChgL b A c ls D X O w0 (r - 1) := fun h => hV (r - 1) (by omega)
  have hval := contK_m E.wd E.m E.f (r - 1)
  have HCO := Lib.hid (fun (he : le = 0) (h7 : o.el ≠ 7) w2 h1 h2 => chargeKids_any b A c ls D X O w0 (r - 1) E lm o dep (fun h => ⟨by have := (hOK ⟨o, lm, le⟩ rfl he).2.2.2.2.1 h; omega, hVr ((hOK ⟨o, lm, le⟩ rfl he).2.2.2.2.1 h)⟩) w2 h1 h2 (hOK ⟨o, lm, le⟩ rfl he).2.1 (by have : lm ≤ m := (hOK ⟨o, lm, le⟩ rfl he).2.2.1; omega) (hOK ⟨o, lm, le⟩ rfl he).1 hd0 hd1 hr1)
  obtain ⟨f, hf⟩ : ∃ f : Int → Nat → Val, f = fun (m : Int) (i : Nat) => contK (valV ls (r - 1)) ls m (eleO o (i : Int)) := ⟨_, rfl⟩
  have HMR : Hid (le = 0 → ∀ j, 0 ≤ (runK f lm j).m ∧ (runK f lm j).m ≤ lm) := Lib.hid (fun he j => runK_ind (fun z => 0 ≤ z ∧ z ≤ lm) ⟨(hOK ⟨o, lm, le⟩ rfl he).2.1, Int.le_refl _⟩ j (fun m' i _ hm => by
    subst hf
    have := hval m' (eleO o (i : Int)) hm.1
    exact ⟨this.1, Int.le_trans this.2 hm.2⟩))
  have HEL : Hid (le = 0 → o.el = 7 → ∀ (R : Int) (j : Nat) (wr : World), Below b w0 wr → Blk wr b #[.slice A ls.length c, .int .i64 D, .int .i64 X, .int .i64 O, .int .i64 R] → 0 ≤ R → R ≤ lm → (j : Int) < o.n →
      Calls Tryz.prog 46 #[.pointer (some ⟨b, 0, none⟩), .agg #[.int .i64 1, .int .i64 o.sg, .int .i64 (o.at' + j * (o.d + o.p)), .int .i64 o.d, .int .i64 o.p, .int .i64 0, .int .i64 0, .int .i64 0], .int .i64 dep] wr fun e w' => Keeps (KB b) wr w' ∧ Blk w' b #[.slice A ls.length c, .int .i64 D, .int .i64 X, .int .i64 O, .int .i64 (f R j).m] ∧ (((f R j).e = 0 ∧ e = .returned (.tuple #[])) ∨ ((f R j).e ≠ 0 ∧ e = failE (f R j).e))) := Lib.hid (fun he h7 R j wr h1 h2 h3 h4 h5 => by
    have hq := hOK ⟨o, lm, le⟩ rfl he
    have hlm : lm ≤ m := hq.2.2.1
    have hdd : dep ≤ D := (hq.2.2.2.2.2 h7).1
    subst hf
    obtain ⟨e1, e2⟩ := contK_me (valV ls (r - 1)) ls R (eleO o (j : Int))
    have := chargeKids_any b A c ls D X O w0 (r - 1) E R (eleO o (j : Int)) dep (fun _ => ⟨by omega, hVr hdd⟩) wr h1 h2 h3 (by omega) ((hq.2.2.2.2.2 h7).2 j h5) hd0 (by omega) hr1
    rw [← e1, ← e2] at this
    exact this)
  have HEM := Lib.hid (fun (he : le = 0) w2 (j : Nat) (hj : (j : Int) < o.n) => RElement_any o.k o.sg o.at' o.d o.p o.el o.n o.cost j w2 (by omega) (by have : o.n ≤ 536870911 := (hOK ⟨o, lm, le⟩ rfl he).1.n.2; omega) (hOK ⟨o, lm, le⟩ rfl he).1.at'.1 (hOK ⟨o, lm, le⟩ rfl he).2.2.2.1 (hOK ⟨o, lm, le⟩ rfl he).1.d.1 (hOK ⟨o, lm, le⟩ rfl he).1.d.2 (hOK ⟨o, lm, le⟩ rfl he).1.p.1 (hOK ⟨o, lm, le⟩ rfl he).1.p.2)
  have HON : Hid (le = 0 → 0 ≤ o.n ∧ o.n ≤ 536870911) := Lib.hid (fun he => (hOK ⟨o, lm, le⟩ rfl he).1.n)
  obtain ⟨hb7, hb6⟩ := bodyK_me (valV ls (r - 1)) ls lm o
  have hNP := elsR_noptr (valV ls (r - 1)) ls lm o
  have hER : elsR (valV ls (r - 1)) ls o lm = runK f lm o.n.toNat := by subst hf; rfl
  have hVE : le ≠ 0 → valV ls r m s a = errV lm le := fun h => by rw [hVL, if_pos h]
  have hVB : le = 0 → valV ls r m s a = bodyK (valV ls (r - 1)) ls lm o := fun h => by rw [hVL, if_neg (by rw [h]; simp)]
  rw [hER] at hb7 hNP
  have HVC : Hid (le = 0 → o.el ≠ 7 → (valV ls r m s a).m = (kidR (valV ls (r - 1)) o lm).m ∧ (valV ls r m s a).e = (kidR (valV ls (r - 1)) o lm).e) := Lib.hid (fun h h7 => by rw [hVB h]; exact hb6 h7)
  have HVB : Hid (le = 0 → o.el = 7 → (valV ls r m s a).m = (runK f lm o.n.toNat).m ∧ (valV ls r m s a).e = (runK f lm o.n.toNat).e) := Lib.hid (fun h h7 => by rw [hVB h]; exact hb7 h7)
  have HNP := Lib.hid hNP
  have HVE := Lib.hid hVE
  generalize valV ls r m s a = CV at *
  generalize kidR (valV ls (r - 1)) o lm = KV at *
  have HB0 := Lib.hid (fun (wr : World) (h : Keeps (KB b) w wr) => hb.trans (bel_keeps h (Nat.le_of_lt hlt)))
  have HT1 := Lib.hid hk
  have HNR : Hid (b < w.heap.size) := Lib.hid hlt
  clear hb hk hlt hm0 hm1 hs0 hs1 ha0 ha1 hd0 hd1 hr hV hVL hOK hr1 hVr hVE hVB hb7 hb6 hNP hER hf hval E hD
  go_enter Tryz.func23, Tryz.ntmps23
  go_wp2_with fail
  refine (HOB.out _ (HB0.out _ (Keeps.refl _ _)) HT1.out).mono ?_
  rintro e w3 ⟨hk3, hbt3, ⟨hle, rfl⟩ | ⟨hle, rfl⟩⟩
  rotate_left
  · have h1 := HVE.out hle
    unfold failE
    go_wp2
    rw [h1]
    exact ⟨rfl, hk3, hbt3, .inr ⟨hle, rfl⟩⟩
  have HLE := Lib.hid hle
  have HT3 := Lib.hid (hbt3.alloc (.cells #[.int .i64 o.k, .int .i64 o.sg, .int .i64 o.at', .int .i64 o.d, .int .i64 o.p, .int .i64 o.el, .int .i64 o.n, .int .i64 o.cost] 74))
  have HK3 := Lib.hid (keeps_alloc hk3 (.cells #[.int .i64 o.k, .int .i64 o.sg, .int .i64 o.at', .int .i64 o.d, .int .i64 o.p, .int .i64 o.el, .int .i64 o.n, .int .i64 o.cost] 74))
  have HO3 : Hid (Blk (w3.alloc (.cells #[.int .i64 o.k, .int .i64 o.sg, .int .i64 o.at', .int .i64 o.d, .int .i64 o.p, .int .i64 o.el, .int .i64 o.n, .int .i64 o.cost] 74)) w3.heap.size #[.int .i64 o.k, .int .i64 o.sg, .int .i64 o.at', .int .i64 o.d, .int .i64 o.p, .int .i64 o.el, .int .i64 o.n, .int .i64 o.cost]) := Lib.hid (Blk.fresh _ _ _)
  have HZ3 : Hid (b < w3.heap.size ∧ w.heap.size ≤ w3.heap.size) := Lib.hid ⟨hbt3.lt, hk3.size⟩
  clear hk3 hbt3 hle HT1 HOB HVE
  unfold obV
  obtain ⟨x2, y2, z2⟩ := HO3.out
  by_cases h7 : o.el = 7
  · have t7 : (o.el != 7) = false := by simpa using h7
    by_cases hp : 0 < o.p
    · have HE1 := Lib.hid (HEL.out HLE.out h7)
      have HV1 := Lib.hid (HVB.out HLE.out h7)
      have HM1 := Lib.hid (HMR.out HLE.out)
      have HE2 := Lib.hid (HEM.out HLE.out)
      obtain ⟨n0, n1⟩ := HON.out HLE.out
      obtain ⟨n, hn⟩ := Int.eq_ofNat_of_zero_le n0
      have hn1 : n ≤ 536870911 := by omega
      clear h7 HEL HVB HVC HCO HNP HLE HMR HEM HON
      obtain ⟨on, hon⟩ : ∃ on, on = o.n := ⟨_, rfl⟩
      rw [← hon] at HE1 HV1 HE2 hn HT3 HK3 HO3 x2 n0 n1 ⊢
      subst hn
      rw [show ((n : Int)).toNat = n from rfl] at HV1
      clear hon
      go_wp2_with fail
      go_loopw [29] (fun i wr => ∃ j : Nat, j ≤ n ∧ i = .int .i64 j ∧ (runK f lm j).e = 0 ∧ Blk wr b #[.slice A ls.length c, .int .i64 D, .int .i64 X, .int .i64 O, .int .i64 (runK f lm j).m] ∧ Keeps (KB b) w wr ∧ Blk wr w3.heap.size #[.int .i64 o.k, .int .i64 o.sg, .int .i64 o.at', .int .i64 o.d, .int .i64 o.p, .int .i64 o.el, .int .i64 n, .int .i64 o.cost]) (fun i _ => n - (intOf i).toNat)
      case atStart => exact ⟨0, by omega, rfl, rfl, HT3.out, HK3.out, HO3.out⟩
      case round =>
        clear HT3 HK3 HO3 x2 y2 z2
        obtain ⟨j, hj, rfl, he, hbt, hkp, hbo⟩ := hrel
        have HRE := Lib.hid he
        have HT := Lib.hid hbt
        have HK := Lib.hid hkp
        have HO := Lib.hid hbo
        clear he hbt hkp
        by_cases hlt : j < n
        · have hj1 : (j : Int) < (n : Int) := by omega
          have hj2 : (j : Int) < 536870912 := by omega
          have HMJ := Lib.hid (HM1.out j)
          have HNX : Hid (∀ h : (f (runK f lm j).m j).e = 0, runK f lm (j + 1) = ⟨(runK f lm j).ks ++ [(f (runK f lm j).m j).n], (f (runK f lm j).m j).m, 0⟩) := Lib.hid (fun h => runK_ok HRE.out h)
          have HNO : Hid (∀ h : (f (runK f lm j).m j).e ≠ 0, (runK f lm n).m = (f (runK f lm j).m j).m ∧ (runK f lm n).e = (f (runK f lm j).m j).e) := Lib.hid (fun h => by
            have h1 := runK_no HRE.out h
            have h2 : runK f lm n = runK f lm (j + 1) := runK_keep (by rw [h1]; exact h) (by omega)
            rw [h2, h1]
            exact ⟨rfl, rfl⟩)
          obtain ⟨x2, y2, z2⟩ := hbo
          go_wp2_with fail
          refine (HE2.out wr j hj1).mono ?_
          rintro e wd ⟨rfl, hbd⟩
          have HVJ := Lib.hid (HE1.out (runK f lm j).m j wd)
          generalize o.at' + (j : Int) * (o.d + o.p) = a2 at HVJ ⊢
          have HTd := Lib.hid (HT.out.below hbd)
          have HKd := Lib.hid (keeps_on HK.out hbd)
          have HOd := Lib.hid (HO.out.below hbd)
          clear HT HK HO hbd x2 y2 z2
          go_wp2_with fail
          refine (HVJ.out (HB0.out _ HKd.out) HTd.out HMJ.out.1 HMJ.out.2 hj1).mono ?_
          rintro e w4 ⟨hk4, hbt4, ⟨he4, rfl⟩ | ⟨he4, rfl⟩⟩
          · have HT4 := Lib.hid hbt4
            have HK4 := Lib.hid (HKd.out.trans hk4)
            have HO4 := Lib.hid (HOd.out.keeps hk4 (by have := HZ3.out; unfold KB; omega))
            have HN4 := Lib.hid (HNX.out he4)
            clear hk4 hbt4 HTd HKd HOd HNX HNO he4 HVJ
            generalize (f (runK f lm j).m j).n = kx at *
            generalize (f (runK f lm j).m j).m = m4 at *
            go_wp2
            go_roundw
            case rel => exact ⟨j + 1, by omega, by go_num, by rw [HN4.out], by rw [HN4.out]; exact HT4.out, HK4.out, HO4.out⟩
            case measure => simp [intOf]; omega
          · obtain ⟨h1, h2⟩ := HNO.out he4
            have HK4 := Lib.hid (HKd.out.trans hk4)
            rw [← h1, ← HV1.out.1] at hbt4
            rw [← h2, ← HV1.out.2] at he4
            have h3 : CV.e = (f (runK f lm j).m j).e := HV1.out.2.trans h2
            unfold failE
            go_wp2
            exact ⟨rfl, HK4.out, hbt4, .inr ⟨he4, by rw [h3]; rfl⟩⟩
        · obtain rfl : j = n := by omega
          go_wp2
          go_end0
          refine ⟨HK.out, by rw [HV1.out.1]; exact HT.out, .inl ⟨by rw [HV1.out.2]; exact HRE.out, rfl⟩⟩
    · have HV1 := Lib.hid (HVB.out HLE.out h7)
      have HN1 := Lib.hid (HNP.out (by omega))
      clear h7 HEL HVB HVC HCO HNP HLE HMR HEM HON
      have t8 : decide (0 < o.p) = false := decide_eq_false hp
      go_wp2
      go_end0
      refine ⟨HK3.out, by rw [HV1.out.1, HN1.out.1]; exact HT3.out, .inl ⟨by rw [HV1.out.2, HN1.out.2], rfl⟩⟩
  · have t7 : (o.el != 7) = true := by simpa using h7
    have HC := Lib.hid (HCO.out HLE.out h7)
    have HCV := Lib.hid (HVC.out HLE.out h7)
    clear h7 HEL HVB HVC HCO HNP HLE HMR HEM HON
    go_wp2_with fail
    refine (HC.out _ (HB0.out _ HK3.out) HT3.out).mono ?_
    rintro e w5 ⟨hk5, hbt5, ⟨he5, rfl⟩ | ⟨he5, rfl⟩⟩
    · have HK5 := Lib.hid (HK3.out.trans hk5)
      rw [← HCV.out.1] at hbt5
      rw [← HCV.out.2] at he5
      have HT5 := Lib.hid hbt5
      have HE5 := Lib.hid he5
      clear hk5 hbt5 he5
      go_wp2
      go_end0
      exact ⟨HK5.out, HT5.out, .inl ⟨HE5.out, rfl⟩⟩
    · have HKK := HK3.out.trans hk5
      have h1 := HCV.out
      rw [← h1.1] at hbt5
      rw [← h1.2] at he5
      unfold failE
      go_wp2
      exact ⟨rfl, HKK, hbt5, .inr ⟨he5, by rw [h1.2]; rfl⟩⟩

theorem charge_any (b : Nat) (A : Option Addr) (c : Nat) (ls : List (List Int)) (D X O : Int) (w0 : World) (E : EnvD b A ls w0) (hD : D ≤ 900) : ∀ r, ChgL b A c ls D X O w0 r
  | 0 => charge_step b A c ls D X O w0 0 E hD (fun r' h => by omega)
  | r + 1 => charge_step b A c ls D X O w0 (r + 1) E hD (fun r' h => by
    obtain rfl : r = r' := by omega
    exact charge_any b A c ls D X O w0 E hD r)
end Go.Proofs.YtnmanhediiooaaaGreatDoor

/- Package denote: Measure. -/
namespace Go.Proofs.YtnmanhediiooaaaGreatDoor
open Go.ChangeShapes Go.WideShapes Go.ChangeAt Go.RowKit
set_option linter.unusedVariables false
set_option linter.unusedSimpArgs false
set_option maxRecDepth 100000
section
attribute [local simp] AllK KnowsV look Is

theorem wp_region_t6_1 {P : Program} {id : Nat} {o0 o1 o2 o3 o4 o5 t0 : Oper} (late : List Nat) {Q : Exit → Act → World → Prop} {a : Act} {w : World} (hm : P.follows .mixedOrders = true) (hB : chainTB a.tmps.size late [o0, o1, o2, o3, o4, o5] [t0] = true)
    (h : ChainT P #[o0, o1, o2, o3, o4, o5, t0] late a w.drew (fun a w => wpList P #[o0, o1, o2, o3, o4, o5, t0] (OnlyN fun a w => Q .normal a w) [t0] a w) [o0, o1, o2, o3, o4, o5] 0 [] []) : (Code.region id #[o0, o1, o2, o3, o4, o5, t0] true).wp P Q a w :=
  wp_region_t [o0, o1, o2, o3, o4, o5] [t0] late rfl (by simp) hm hB h

theorem BUsed2 (d x o m : Int) (w : World) (hm0 : 0 ≤ m) (hm1 : m ≤ 9223372036854775807) (hx2 : x ≤ 9223372036854775807) :
    Calls Tryz.prog 24 #[.agg #[.int .i64 d, .int .i64 x, .int .i64 o], .agg #[.int .i64 m]] w fun e w' => e = .returned (.int .i64 (startI x - m)) ∧ Below w.heap.size w w' := by
  have hs0 : 0 ≤ startI x := by unfold startI; split <;> omega
  have hs1 : startI x ≤ 9223372036854775807 := by unfold startI; split <;> omega
  go_enter Tryz.func24, Tryz.ntmps24
  go_wp2_with fail
  have z0 := blk_alloc (blk_new w #[.int .i64 d, .int .i64 x, .int .i64 o] 24) (by simp) (.cells #[.int .i64 m] 55)
  have z1 := blk_new (w.alloc (.cells #[.int .i64 d, .int .i64 x, .int .i64 o] 24)) #[.int .i64 m] 55
  have B1 : Below w.heap.size w ((w.alloc (.cells #[.int .i64 d, .int .i64 x, .int .i64 o] 24)).alloc (.cells #[.int .i64 m] 55)) := ((Below.refl _ _).alloc (Nat.le_refl _) _).alloc (by simp) _
  have HB1 := Lib.hid B1
  clear B1
  rename_i KK hKK
  refine wp_region_chain (by kernel_rfl) (by kernel_rfl) ?_
  refine chain_val (u := ?_) [2] rfl (by kernel_rfl) trivial (fun ρ wc hbc hcn hk => ?_) ?_; rotate_left
  · obtain ⟨hcn, -⟩ := hcn
    simp at hk
    obtain ⟨hcc, -⟩ := bcell hbc
    simp at hcc
    go_simp
    rfl
  refine chain_call (T := Is ?_) 32 [5] rfl (by kernel_rfl) trivial (stable_is _) (fun ρ wc hbc hcn hk => ?_) ?_; rotate_left
  · obtain ⟨hcn, hfn⟩ := hcn
    simp at hk
    refine ⟨_, by go_simp; rfl, ?_⟩
    refine (BStart_any _ _ _ _).mono ?_
    rintro e w' ⟨rfl, hbq⟩
    refine ⟨_, rfl, ?_, hbq⟩
    unfold Is
    rfl
  refine chain_val (u := ?_) [6] rfl (by kernel_rfl) trivial (fun ρ wc hbc hcn hk => ?_) ?_; rotate_left
  · obtain ⟨hcn, -⟩ := hcn
    simp at hk
    go_simp
    rfl
  refine chain_val (u := ?_) [3] rfl (by kernel_rfl) trivial (fun ρ wc hbc hcn hk => ?_) ?_; rotate_left
  · obtain ⟨hcn, -⟩ := hcn
    simp at hk
    go_simp
    rfl
  refine chain_val (u := ?_) [8] rfl (by kernel_rfl) trivial (fun ρ wc hbc hcn hk => ?_) ?_; rotate_left
  · obtain ⟨hcn, -⟩ := hcn
    simp at hk
    obtain ⟨hcc, -⟩ := bcell hbc
    simp at hcc
    go_simp
    rfl
  refine chain_val (u := ?_) [7, 9] rfl (by kernel_rfl) trivial (fun ρ wc hbc hcn hk => ?_) ?_; rotate_left
  · obtain ⟨hcn, -⟩ := hcn
    simp at hk
    go_simp
    rfl
  refine chain_val (u := ?_) [10] rfl (by kernel_rfl) trivial (fun ρ wc hbc hcn hk => ?_) ?_; rotate_left
  · obtain ⟨hcn, -⟩ := hcn
    simp at hk
    go_simp
    rfl
  refine chain_end_lit 11 rfl (fun ff w5 hb5 hk => ?_)
  refine hKK _ _ ?_
  clear hKK KK
  simp [AllN] at hk
  simp only [frameL, hk]
  have HB5 := Lib.hid hb5
  clear hb5 hk
  go_wp2
  go_ret
  have hw : IntKind.i64.wrap (startI x - m) = startI x - m := by rw [IntKind.wrap_i64]; omega
  exact ⟨by simp [hw], (bel_drew HB1.out).trans (HB5.out.mono (bel_drew HB1.out).size)⟩

set_option maxHeartbeats 4000000 in
theorem measRun (s l nb : Nat) (A : Option Addr) (c : Nat) (ls : List (List Int)) (D X O : Int) (w : World) (hT : TabOK w) (hs : Sg w A ls) (hw : Wd2 ls) (hm : ls.length ≤ 40) (hf : ∀ j, (seg ls j).length ≤ 20000000) (hD : D ≤ 900) (hX : X ≤ 1000000)
    (h1 : Blk w s #[.slice A ls.length c]) (h2 : Blk w l #[.int .i64 D, .int .i64 X, .int .i64 O]) (h3 : Blk w nb #[.int .i64 0]) (hln : l ≠ nb) :
    Calls Tryz.prog 22 #[.pointer (some ⟨s, 0, none⟩), .pointer (some ⟨l, 0, none⟩), .pointer (some ⟨nb, 0, none⟩)] w fun e w' => Keeps (KB nb) w w' ∧ Blk w' nb #[.int .i64 (measV ls D X).1] ∧
      (((measV ls D X).2 = 0 ∧ e = .returned (.tuple #[])) ∨ ((measV ls D X).2 ≠ 0 ∧ e = failE (measV ls D X).2)) := by
  have hx0 : 0 ≤ startI X ∧ startI X ≤ 1000000 := by unfold startI; split <;> omega
  have HST := Lib.hid (start_any A c ls D X O w hT hs hw hm hf hD)
  have hmv := measV_nulL ls D X
  have HVA : Hid (∀ b A2 c2 w0 W, EnvD b A2 (nulL ls) w0 → Below b w0 W → Blk W b #[.slice A2 (nulL ls).length c2, .int .i64 D, .int .i64 X, .int .i64 O, .int .i64 (startI X)] →
      Calls Tryz.prog 23 #[.pointer (some ⟨b, 0, none⟩), .int .i64 0, .int .i64 0, .int .i64 1] W fun e w' => Keeps (KB b) W w' ∧ Blk w' b #[.slice A2 (nulL ls).length c2, .int .i64 D, .int .i64 X, .int .i64 O, .int .i64 (valV (nulL ls) D.toNat (startI X) 0 0).m] ∧
        (((valV (nulL ls) D.toNat (startI X) 0 0).e = 0 ∧ e = .returned (.tuple #[])) ∨ ((valV (nulL ls) D.toNat (startI X) 0 0).e ≠ 0 ∧ e = failE (valV (nulL ls) D.toNat (startI X) 0 0).e)) ∧ (0 ≤ (valV (nulL ls) D.toNat (startI X) 0 0).m ∧ (valV (nulL ls) D.toNat (startI X) 0 0).m ≤ startI X)) := Lib.hid (fun b A2 c2 w0 W E hb hk =>
    (charge_any b A2 c2 (nulL ls) D X O w0 E hD D.toNat (startI X) 0 0 1 W hb hk hx0.1 (by omega) (by omega) (by omega) (by omega) (by omega) (by omega) (by omega) (by congr 1; omega)).mono fun e w' h => ⟨h.1, h.2.1, h.2.2, valV_m E.wd E.m E.f D.toNat (startI X) 0 0 hx0.1⟩)
  generalize valV (nulL ls) D.toNat (startI X) 0 0 = sv at *
  generalize measV ls D X = mv at *
  have HM1 : Hid (sv.e ≠ 0 → mv = (0, sv.e)) := Lib.hid (fun h => by rw [hmv, if_pos h])
  have HM2 : Hid (sv.e = 0 → mv = (startI X - sv.m, 0)) := Lib.hid (fun h => by rw [hmv, if_neg (by rw [h]; simp)])
  have HXX := Lib.hid hX
  clear hmv
  have HN3 := Lib.hid h3
  have HL3 := Lib.hid h2
  have hnb := h3.lt
  have hlb := h2.lt
  clear hT hs hw hf hD hX
  obtain ⟨x1, y1, z1⟩ := h1
  obtain ⟨x2, y2, z2⟩ := h2
  go_enter Tryz.func22, Tryz.ntmps22
  go_wp2_with fail
  refine HST.out.mono ?_
  rintro e w3 ⟨b, A2, c2, ls2, w0, rfl, rfl, E, hb0, hk, hz, hbel⟩
  have HB3 := Lib.hid hbel
  have HN4 := Lib.hid (HN3.out.below hbel)
  have HL4 := Lib.hid (HL3.out.below hbel)
  have HV := Lib.hid (HVA.out b A2 c2 w0 w3 E hb0 hk)
  have hne : b ≠ nb := by omega
  have hne2 : b ≠ l := by omega
  have HZ : Hid (w.heap.size ≤ b ∧ w.heap.size ≤ w3.heap.size) := Lib.hid ⟨hz, hbel.size⟩
  clear hb0 hk E hz hbel x1 y1 z1 x2 y2 z2 HST HVA HN3 HL3 h3
  go_wp2_with fail
  refine HV.out.mono ?_
  rintro e w4 ⟨hk4, hbt4, ⟨he4, rfl⟩ | ⟨he4, rfl⟩, hsm⟩
  rotate_left
  · have HB4 := HB3.out.trans (bel_of_keeps hk4 HZ.out.2 HZ.out.1)
    have HN5 := HN4.out.keeps hk4 (by unfold KB; omega)
    have h5 := HM1.out he4
    unfold failE
    go_wp2
    rw [h5]
    exact ⟨rfl, keeps_of HB4, HN5, .inr ⟨he4, rfl⟩⟩
  have HB4 := Lib.hid (HB3.out.trans (bel_of_keeps hk4 HZ.out.2 HZ.out.1))
  have HN5 := Lib.hid (HN4.out.keeps hk4 (by unfold KB; omega))
  have HL5 := Lib.hid (HL4.out.keeps hk4 (by unfold KB; omega))
  have HT5 := Lib.hid hbt4
  have H5 := Lib.hid (HM2.out he4)
  have HUS := Lib.hid (fun w2 => BUsed2 D X O sv.m w2 hsm.1 (by omega) (by have := HXX.out; omega))
  clear HM1 HM2 hk4 he4 hbt4 HV HN4 HL4 HB3 hsm HXX
  go_wp2_with fail
  refine wp_region_t6_1 [] (by kernel_rfl) (by kernel_rfl) ?_
  refine t_val (u := ?_) [1] (by kernel_rfl) rfl (by kernel_rfl) trivial (fun ρ wc hbc hcn hq => ?_) ?_; rotate_left
  · obtain ⟨hcn, hfn⟩ := hcn
    simp at hq
    have x1 := (HL5.out.drew.below hbc).cell
    have x2 := (HT5.out.drew.below hbc).cell
    go_simp
    rfl
  refine t_val (u := ?_) [3] (by kernel_rfl) rfl (by kernel_rfl) trivial (fun ρ wc hbc hcn hq => ?_) ?_; rotate_left
  · obtain ⟨hcn, hfn⟩ := hcn
    simp at hq
    go_simp
    rfl
  refine t_val (u := ?_) [10] (by kernel_rfl) rfl (by kernel_rfl) trivial (fun ρ wc hbc hcn hq => ?_) ?_; rotate_left
  · obtain ⟨hcn, hfn⟩ := hcn
    simp at hq
    go_simp
    rfl
  refine t_val (u := ?_) [11] (by kernel_rfl) rfl (by kernel_rfl) trivial (fun ρ wc hbc hcn hq => ?_) ?_; rotate_left
  · obtain ⟨hcn, hfn⟩ := hcn
    simp at hq
    go_simp
    rfl
  refine t_val (u := ?_) [12] (by kernel_rfl) rfl (by kernel_rfl) trivial (fun ρ wc hbc hcn hq => ?_) ?_; rotate_left
  · obtain ⟨hcn, hfn⟩ := hcn
    simp at hq
    have x1 := (HL5.out.drew.below hbc).cell
    have x2 := (HT5.out.drew.below hbc).cell
    go_simp
    rfl
  refine t_call (T := Is (.int .i64 (startI X - sv.m))) (Is (.int .i64 (startI X - sv.m))) 24 [9, 13] (by kernel_rfl) rfl (by kernel_rfl) trivial (stable_is _) (free_is _) (fun _ _ h => h) (fun ρ wc hbc hcn hq => ?_) ?_
  · obtain ⟨hcn, hfn⟩ := hcn
    simp at hq
    refine ⟨_, by go_simp; rfl, ?_⟩
    refine (HUS.out _).mono ?_
    rintro e w' ⟨rfl, hbq⟩
    exact ⟨_, rfl, rfl, hbq⟩

  refine t_end_lit 15 rfl (fun ff w5 hb5 hk => ?_)
  have hb5' := bel_undrew hb5
  have HN6 := Lib.hid (HN5.out.below hb5')
  have HB6 := Lib.hid (bel_on HB4.out hb5')
  clear hb5 hb5' HN5 HL5 HT5 HB4 HUS
  simp [AllN] at hk
  simp only [frameL, hk, Nat.zero_add, Nat.reduceAdd]
  clear hk
  obtain ⟨x3, y3, z3⟩ := HN6.out
  go_wp2_with fail
  refine ⟨rfl, ?_⟩
  go_wp2_with fail
  refine abs_post (F := fun W => Blk W nb #[.int .i64 (startI X - sv.m)] ∧ Keeps (KB nb) w W) ⟨?_, ?_⟩ ?_
  · exact HN6.out.set 0 (by simp) _
  · exact keeps_set (p := ⟨nb, 0, none⟩) (keeps_of HB6.out) (.inl rfl) _
  rintro V ⟨B6, hkv⟩
  go_end0
  refine ⟨hkv, ?_, ?_⟩
  · rw [H5.out]
    exact B6
  · rw [H5.out]
    exact .inl ⟨rfl, rfl⟩
end

set_option maxHeartbeats 4000000 in
theorem measure_any (A : Option Addr) (c : Nat) (ls : List (List Int)) (D X O : Int) (w : World) (hT : TabOK w) (hs : Sg w A ls) (hw : Wd2 ls) (hm : ls.length ≤ 40) (hf : ∀ j, (seg ls j).length ≤ 20000000) (hD : D ≤ 900) (hX : X ≤ 1000000) :
    Calls Tryz.prog 8 #[.slice A ls.length c, .agg #[.int .i64 D, .int .i64 X, .int .i64 O]] w fun e w' => e = .returned (.tuple #[.int .i64 (measV ls D X).1, .int .i64 (measV ls D X).2]) ∧ Below w.heap.size w w' := by
  have hmf : ∀ (fn : Fn) (first cap : Array Value) (w : World), (Instr.makeFunc fn first cap).run Tryz.prog w = .ok (.func fn first cap) w := fun _ _ _ _ => rfl
  have HB1 := Lib.hid ((((Below.refl w.heap.size w).alloc (Nat.le_refl _) (.cells #[.slice A ls.length c] 22)).alloc (by simp) (.cells #[.int .i64 D, .int .i64 X, .int .i64 O] 24)).alloc (by simp; omega) (.cells #[.int .i64 0] 3))
  have HS1 : Hid (Blk (((w.alloc (.cells #[.slice A ls.length c] 22)).alloc (.cells #[.int .i64 D, .int .i64 X, .int .i64 O] 24)).alloc (.cells #[.int .i64 0] 3)) w.heap.size #[.slice A ls.length c]) := Lib.hid (((Blk.fresh _ _ _).alloc _).alloc _)
  have HL1 : Hid (Blk (((w.alloc (.cells #[.slice A ls.length c] 22)).alloc (.cells #[.int .i64 D, .int .i64 X, .int .i64 O] 24)).alloc (.cells #[.int .i64 0] 3)) (w.heap.size + 1) #[.int .i64 D, .int .i64 X, .int .i64 O]) := Lib.hid ((Blk.new (by simp)).alloc _)
  have HN1 : Hid (Blk (((w.alloc (.cells #[.slice A ls.length c] 22)).alloc (.cells #[.int .i64 D, .int .i64 X, .int .i64 O] 24)).alloc (.cells #[.int .i64 0] 3)) (w.heap.size + 1 + 1) #[.int .i64 0]) := Lib.hid (Blk.new (by simp))
  have HALL : Hid (∀ W : World, W.heap.size = w.heap.size + 1 + 1 + 1 → Below w.heap.size w W → Blk W w.heap.size #[.slice A ls.length c] → Blk W (w.heap.size + 1) #[.int .i64 D, .int .i64 X, .int .i64 O] → Blk W (w.heap.size + 1 + 1) #[.int .i64 0] →
      Calls Tryz.prog 14 #[.func (.func 22) #[] #[.pointer (some ⟨w.heap.size, 0, none⟩), .pointer (some ⟨w.heap.size + 1, 0, none⟩), .pointer (some ⟨w.heap.size + 1 + 1, 0, none⟩)]] W fun e w' => e = .returned (.int .i64 (measV ls D X).2) ∧ Keeps (KB (w.heap.size + 1 + 1)) W w' ∧ Blk w' (w.heap.size + 1 + 1) #[.int .i64 (measV ls D X).1]) := Lib.hid (fun W hz hb k1 k2 k3 =>
    attempt_meas (w.heap.size + 1 + 1) _ _ _ W (by omega) (fun V o h => h.alloc o) (fun V u h => h.other (p := ⟨W.heap.size, 0, none⟩) (by show W.heap.size ≠ _; omega) u) (Lib.hid (by
      have hbb := hb.alloc hb.size (.cells #[.int .i64 0] 31)
      exact measRun w.heap.size (w.heap.size + 1) (w.heap.size + 1 + 1) A c ls D X O (W.alloc (.cells #[.int .i64 0] 31)) (hT.on hbb) (hs.below hbb (Nat.le_refl _)) hw hm hf hD hX (k1.alloc _) (k2.alloc _) (k3.alloc _) (by omega))))
  generalize measV ls D X = mv at *
  clear hT hs hw hm hf hD hX
  go_enter Tryz.func8, Tryz.ntmps8
  go_wp2_with fail
  refine (HALL.out _ (by simp) HB1.out HS1.out HL1.out HN1.out).mono ?_
  rintro e w2 ⟨rfl, hk2, hmp⟩
  have HB2 := Lib.hid (HB1.out.trans (bel_of_keeps (N := w.heap.size) hk2 (by simp; omega) (by omega)))
  clear HALL HB1 HS1 HL1 HN1 hk2
  have HN := Lib.hid hmp
  obtain ⟨x3, y3, z3⟩ := hmp
  go_wp2_with fail
  refine abs_post (F := fun W => Blk W (w.heap.size + 1 + 1) #[.int .i64 mv.1] ∧ Below w.heap.size w W) ⟨?_, ?_⟩ ?_
  · exact HN.out.set 0 (by simp) _
  · exact Below.setCell HB2.out (by show w.heap.size ≤ w.heap.size + 1 + 1; omega) _
  rintro V ⟨B6, hbv⟩
  exact bodyPost_ret (v := .tuple #[.int .i64 mv.1, .int .i64 mv.2]) (by simp [results, Tryz.results8, go_sem, B6.cell]) rfl ⟨rfl, hbv⟩
end Go.Proofs.YtnmanhediiooaaaGreatDoor

/- What the functions of package denote do, each by a contract (by the code at e247d06; the laws rest on DMessageU_any and DMeasure_any alone). -/
namespace Go.Proofs.YtnmanhediiooaaaGreatDoor
open Go.ChangeShapes Go.WideShapes Go.ChangeAt Go.RowKit
set_option linter.unusedVariables false
set_option linter.unusedSimpArgs false
set_option maxRecDepth 100000

/-- what it gives may be written into -/
theorem DMessageU_any (A : Option Addr) (c : Nat) (ls : List (List Int)) (D X O : Int) (w : World) (hT : TabOK w) (hs : Sg w A ls) (hw : Wd2 ls) (hm : ls.length ≤ 40) (hf : ∀ j, (seg ls j).length ≤ 20000000) (hD : D ≤ 900) (hX : X ≤ 1000000) :
    Calls Tryz.prog 6 #[.slice A ls.length c, .agg #[.int .i64 D, .int .i64 X, .int .i64 O]] w fun e w' => ∃ v, e = .returned (.tuple #[v, .int .i64 (msgV ls D X).2]) ∧ NodU w.heap.size (msgV ls D X).1 v w' ∧ Below w.heap.size w w' :=
  message_any A c ls D X O w hT hs hw hm hf hD hX
theorem DMeasure_any (A : Option Addr) (c : Nat) (ls : List (List Int)) (D X O : Int) (w : World) (hT : TabOK w) (hs : Sg w A ls) (hw : Wd2 ls) (hm : ls.length ≤ 40) (hf : ∀ j, (seg ls j).length ≤ 20000000) (hD : D ≤ 900) (hX : X ≤ 1000000) :
    Calls Tryz.prog 8 #[.slice A ls.length c, .agg #[.int .i64 D, .int .i64 X, .int .i64 O]] w fun e w' => e = .returned (.tuple #[.int .i64 (measV ls D X).1, .int .i64 (measV ls D X).2]) ∧ Below w.heap.size w w' :=
  measure_any A c ls D X O w hT hs hw hm hf hD hX
theorem DMessage_is (A : Option Addr) (c m : Nat) (ls : List (List Int)) (D X O : Int) (x : Nd) (e : Int) (w : World) (hT : TabOK w) (hl : m = ls.length) (hs : Sg w A ls) (hw : Wd2 ls) (hm : ls.length ≤ 40) (hf : ∀ j, (seg ls j).length ≤ 20000000) (hD : D ≤ 900) (hX : X ≤ 1000000) (hq : msgV ls D X = (x, e)) :
    Calls Tryz.prog 6 #[.slice A m c, .agg #[.int .i64 D, .int .i64 X, .int .i64 O]] w fun r w' => ∃ v, r = .returned (.tuple #[v, .int .i64 e]) ∧ NodF w.heap.size x v w' ∧ Below w.heap.size w w' := by
  subst hl
  have h := DMessageU_any A c ls D X O w hT hs hw hm hf hD hX
  rw [hq] at h
  refine h.mono ?_
  rintro r w' ⟨v, h1, h2, h3⟩
  exact ⟨v, h1, h2.nod, h3⟩
theorem DMeasure_is (A : Option Addr) (c m : Nat) (ls : List (List Int)) (D X O y e : Int) (w : World) (hT : TabOK w) (hl : m = ls.length) (hs : Sg w A ls) (hw : Wd2 ls) (hm : ls.length ≤ 40) (hf : ∀ j, (seg ls j).length ≤ 20000000) (hD : D ≤ 900) (hX : X ≤ 1000000) (hq : measV ls D X = (y, e)) :
    Calls Tryz.prog 8 #[.slice A m c, .agg #[.int .i64 D, .int .i64 X, .int .i64 O]] w fun r w' => r = .returned (.tuple #[.int .i64 y, .int .i64 e]) ∧ Below w.heap.size w w' := by
  subst hl
  have h := DMeasure_any A c ls D X O w hT hs hw hm hf hD hX
  rw [hq] at h
  exact h
theorem RefMessage_is (A : Option Addr) (c : Nat) (ls : List (List Int)) (D X O : Int) (x : Nd) (e : Int) (w : World) (hs : Sg w A ls) (hw : Wd2 ls) (hm : ls.length ≤ 40) (hf : ∀ j, (seg ls j).length ≤ 20000000) (hD : D ≤ 900) (hX : X ≤ 1000000) (hq : msgV ls D X = (x, e)) :
    Calls Tryz.prog 7 #[.slice A ls.length c, .agg #[.int .i64 D, .int .i64 X, .int .i64 O]] w fun r w' => ∃ v, r = .returned (.tuple #[v, .int .i64 e]) ∧ NodF w.heap.size x v w' ∧ Below w.heap.size w w' := by
  have h := RefMessage12 A c ls D X O w hs hw hm hf hD hX
  rw [hq] at h
  exact h
theorem RefMeasure_is (A : Option Addr) (c : Nat) (ls : List (List Int)) (D X O y e : Int) (w : World) (hs : Sg w A ls) (hw : Wd2 ls) (hm : ls.length ≤ 40) (hf : ∀ j, (seg ls j).length ≤ 20000000) (hD : D ≤ 900) (hX : X ≤ 1000000) (hq : measV ls D X = (y, e)) :
    Calls Tryz.prog 9 #[.slice A ls.length c, .agg #[.int .i64 D, .int .i64 X, .int .i64 O]] w fun r w' => r = .returned (.tuple #[.int .i64 y, .int .i64 e]) ∧ Below w.heap.size w w' := by
  have h := RefMeasure12 A c ls D X O w hs hw hm hf hD hX
  rw [hq] at h
  exact h
end Go.Proofs.YtnmanhediiooaaaGreatDoor

/- What the reference's Equal does to nodes. -/
namespace Go.Proofs.YtnmanhediiooaaaGreatDoor
open Go.ChangeShapes Go.WideShapes Go.ChangeAt Go.RowKit
set_option linter.unusedVariables false
set_option linter.unusedSimpArgs false
set_option maxRecDepth 100000
attribute [local simp] AllK KnowsV look Is

set_option maxHeartbeats 2000000 in
set_option maxRecDepth 100000 in
theorem RefEqual_node : ∀ (x y : Nd) (A : Option Addr) (c : Nat) (B : Option Addr) (c2 : Nat) (A1 : Option Addr) (c3 : Nat) (B1 : Option Addr) (c4 : Nat) (w : World), NdR w A c B c2 x → NdR w A1 c3 B1 c4 y → 
    Calls Tryz.prog 10 #[.agg #[.int .i64 x.k, .int .i64 x.e, .int .i64 x.n, .slice A x.d.length c, .slice B x.ks.length c2], .agg #[.int .i64 y.k, .int .i64 y.e, .int .i64 y.n, .slice A1 y.d.length c3, .slice B1 y.ks.length c4]] w fun r w' => r = .returned (.bool (eqN x y)) ∧ Below w.heap.size w w' := by
  refine Nd.ind ?_
  intro k e n d ks ih y A c B c2 A1 c3 B1 c4 w hx hy
  obtain ⟨k', e', n', d', ks'⟩ := y
  simp only [Nd.k, Nd.e, Nd.n, Nd.d, Nd.ks]
  have HX := Lib.hid hx
  have HY := Lib.hid hy
  have HI := Lib.hid ih
  have HOX := Lib.hid hx.open
  have HOY := Lib.hid hy.open
  have HB0 : Hid (Below w.heap.size w ((w.alloc (.cells #[.int .i64 k, .int .i64 e, .int .i64 n, .slice A d.length c, .slice B ks.length c2] 30)).alloc (.cells #[.int .i64 k', .int .i64 e', .int .i64 n', .slice A1 d'.length c3, .slice B1 ks'.length c4] 30))) := Lib.hid (((Below.refl _ _).alloc (Nat.le_refl _) _).alloc (by simp) _)
  clear hx hy ih
  by_cases h1 : k = k'
  case neg =>
    have t1 : (k != k') = true := by simpa using h1
    have HR : Hid (eqN (.mk k e n d ks) (.mk k' e' n' d' ks') = false) := Lib.hid (eqN_no (fun h => h1 (by injection h)))
    clear h1
    go_enter Tryz.func10, Tryz.ntmps10
    go_wp2
    go_ret
    exact ⟨by rw [HR.out]; rfl, HB0.out⟩
  by_cases h2 : e = e'
  case neg =>
    have t1 : (e != e') = true := by simpa using h2
    have HR : Hid (eqN (.mk k e n d ks) (.mk k' e' n' d' ks') = false) := Lib.hid (eqN_no (fun h => h2 (by injection h)))
    subst h1
    clear h2
    go_enter Tryz.func10, Tryz.ntmps10
    go_wp2
    go_ret
    exact ⟨by rw [HR.out]; rfl, HB0.out⟩
  by_cases h3 : n = n'
  case neg =>
    have t1 : (n != n') = true := by simpa using h3
    have HR : Hid (eqN (.mk k e n d ks) (.mk k' e' n' d' ks') = false) := Lib.hid (eqN_no (fun h => h3 (by injection h)))
    subst h1 h2
    clear h3
    go_enter Tryz.func10, Tryz.ntmps10
    go_wp2
    go_ret
    exact ⟨by rw [HR.out]; rfl, HB0.out⟩
  subst h1 h2 h3
  have HSA := Lib.hid (fun w' hr1 hr2 => Same_any A A1 c c3 d d' w' hr1 hr2 (by have := HOX.out.2.2.2.2.2.1; have := HOX.out.2.2.2.2.2.2.1; omega) (by have := HOY.out.2.2.2.2.2.1; have := HOY.out.2.2.2.2.2.2.1; omega))
  by_cases h4 : d = d'
  case neg =>
    have HR : Hid (eqN (.mk k e n d ks) (.mk k e n d' ks') = false) := Lib.hid (eqN_no (fun h => h4 (by injection h)))
    have HSB : Hid (sameB d d' = false) := Lib.hid (by unfold sameB; simp [h4])
    clear h4
    go_enter Tryz.func10, Tryz.ntmps10
    go_wp2_with fail
    refine (HSA.out _ (HOX.out.2.2.2.1.below HB0.out (Nat.le_refl _)) (HOY.out.2.2.2.1.below HB0.out (Nat.le_refl _))).mono ?_
    rintro r w1 ⟨rfl, m, rfl⟩
    rw [HSB.out]
    go_wp2
    go_ret
    exact ⟨by rw [HR.out]; rfl, bel_drewN HB0.out _⟩
  by_cases h5 : ks.length = ks'.length
  case neg =>
    have t1 : ((ks.length : Int) != (ks'.length : Int)) = true := by simp; omega
    have HR : Hid (eqN (.mk k e n d ks) (.mk k e n d' ks') = false) := Lib.hid (eqN_no (fun h => h5 (by injection h with _ _ _ _ h; rw [h])))
    have HSB : Hid (sameB d d' = true) := Lib.hid (by unfold sameB; simp [h4])
    clear h4
    go_enter Tryz.func10, Tryz.ntmps10
    go_wp2_with fail
    refine (HSA.out _ (HOX.out.2.2.2.1.below HB0.out (Nat.le_refl _)) (HOY.out.2.2.2.1.below HB0.out (Nat.le_refl _))).mono ?_
    rintro r w1 ⟨rfl, m, rfl⟩
    rw [HSB.out]
    go_wp2
    go_ret
    exact ⟨by rw [HR.out]; rfl, bel_drewN HB0.out _⟩
  subst h4
  have HSB : Hid (sameB d d = true) := Lib.hid (sameB_self d)
  have HL := Lib.hid h5
  have t1 : ((ks.length : Int) != (ks'.length : Int)) = false := by simp; omega
  clear h5
  go_enter Tryz.func10, Tryz.ntmps10
  go_wp2_with fail
  refine (HSA.out _ (HOX.out.2.2.2.1.below HB0.out (Nat.le_refl _)) (HOY.out.2.2.2.1.below HB0.out (Nat.le_refl _))).mono ?_
  rintro r w1 ⟨rfl, m, rfl⟩
  rw [HSB.out]
  go_wp2
  go_loopw [5] (fun i wr => ∃ j : Nat, j ≤ ks.length ∧ i = .int .i64 j ∧ ks.take j = ks'.take j ∧ Blk wr w.heap.size #[.int .i64 k, .int .i64 e, .int .i64 n, .slice A d.length c, .slice B ks.length c2] ∧ Blk wr (w.heap.size + 1) #[.int .i64 k, .int .i64 e, .int .i64 n, .slice A1 d.length c3, .slice B1 ks'.length c4] ∧ Below w.heap.size w wr) (fun i _ => ks.length - (intOf i).toNat)
  case atStart => exact ⟨0, by omega, rfl, by simp, ((Blk.fresh w _ _).alloc _).drewN _, (Blk.new (by simp)).drewN _, bel_drewN HB0.out _⟩
  case round =>
    obtain ⟨j, hj, rfl, htk, hB2, hB3, hbr⟩ := hrel
    have HB2 := Lib.hid hB2
    have HB3 := Lib.hid hB3
    have HR := Lib.hid hbr
    have HTK := Lib.hid htk
    clear hbr htk
    obtain ⟨x2, y2, z2⟩ := hB2
    obtain ⟨x3, y3, z3⟩ := hB3
    have hkl : ks.length ≤ 9223372036854775807 := by have h1 := HOX.out.2.2.2.2.2.2.2.2.1; have h2 := HOX.out.2.2.2.2.2.2.2.2.2.1; omega
    by_cases hlt : j < ks.length
    · have hlt2 : j < ks'.length := by have := HL.out; omega
      have hj1 : (j : Int) < (ks.length : Int) := by omega
      have hj2 : (j : Int) < (ks'.length : Int) := by omega
      obtain ⟨b, off, Aa, ca, Ba, cb, rfl, k0, k1, k2, k3, k4, hsub⟩ := HX.out.kids.atIn HR.out (Nat.le_refl _) hlt
      obtain ⟨b', off', Aa', ca', Ba', cb', rfl, l0, l1, l2, l3, l4, hsub'⟩ := HY.out.kids.atIn HR.out (Nat.le_refl _) hlt2
      have zb : b < wr.heap.size := World.block_lt_of_cell? wr ⟨b, off + j * 5, none⟩ k0
      have zb' : b' < wr.heap.size := World.block_lt_of_cell? wr ⟨b', off' + j * 5, none⟩ l0
      have HC : Hid (∀ wc, Below w.heap.size w wc → Calls Tryz.prog 10 #[.agg #[.int .i64 ks[j].k, .int .i64 ks[j].e, .int .i64 ks[j].n, .slice Aa ks[j].d.length ca, .slice Ba ks[j].ks.length cb], .agg #[.int .i64 ks'[j].k, .int .i64 ks'[j].e, .int .i64 ks'[j].n, .slice Aa' ks'[j].d.length ca', .slice Ba' ks'[j].ks.length cb']] wc fun r w' => r = .returned (.bool (eqN ks[j] ks'[j])) ∧ Below wc.heap.size wc w') :=
        Lib.hid (fun wc hwc => HI.out ks[j] (List.getElem_mem hlt) ks'[j] Aa ca Ba cb Aa' ca' Ba' cb' wc (hsub.on hwc (Nat.le_refl _)) (hsub'.on hwc (Nat.le_refl _)))
      have HTS := Lib.hid (take_eq_succ hlt hlt2 HTK.out)
      have HNE : Hid (ks[j] ≠ ks'[j] → eqN (.mk k e n d ks) (.mk k e n d ks') = false) := Lib.hid (fun hne => eqN_no (fun h => hne (by injection h with _ _ _ _ h; subst h; rfl)))
      have HEJ : Hid (eqN ks[j] ks'[j] = true ↔ ks[j] = ks'[j]) := Lib.hid eqN_iff
      clear hsub hsub'
      generalize ks[j] = kx at *
      generalize ks'[j] = ky at *
      generalize heb : eqN kx ky = eb at *
      clear heb
      go_wp2_with fail
      rename_i KK hKK
      refine wp_region_chain (by kernel_rfl) (by kernel_rfl) ?_
      refine chain_val (u := ?_) [2] rfl (by kernel_rfl) trivial (fun ρ wc hbc hcn hk => ?_) ?_; rotate_left
      · obtain ⟨hcn, -⟩ := hcn
        simp at hk
        go_simp
        rfl
      refine chain_val (u := ?_) [49] rfl (by kernel_rfl) trivial (fun ρ wc hbc hcn hk => ?_) ?_; rotate_left
      · obtain ⟨hcn, -⟩ := hcn
        simp at hk
        obtain ⟨hcc, -⟩ := bcell hbc
        simp at hcc
        go_simp
        rfl
      refine chain_val (u := ?_) [5] rfl (by kernel_rfl) trivial (fun ρ wc hbc hcn hk => ?_) ?_; rotate_left
      · obtain ⟨hcn, -⟩ := hcn
        simp at hk
        go_simp
        rfl
      refine chain_val (u := ?_) [50, 51] rfl (by kernel_rfl) trivial (fun ρ wc hbc hcn hk => ?_) ?_; rotate_left
      · obtain ⟨hcn, -⟩ := hcn
        simp at hk
        go_simp
        rfl
      refine chain_val (u := ?_) [52] rfl (by kernel_rfl) trivial (fun ρ wc hbc hcn hk => ?_) ?_; rotate_left
      · obtain ⟨hcn, -⟩ := hcn
        simp at hk
        obtain ⟨hcc, -⟩ := bcell hbc
        simp at hcc
        go_simp
        rfl
      refine chain_val (u := ?_) [3] rfl (by kernel_rfl) trivial (fun ρ wc hbc hcn hk => ?_) ?_; rotate_left
      · obtain ⟨hcn, -⟩ := hcn
        simp at hk
        go_simp
        rfl
      refine chain_val (u := ?_) [54] rfl (by kernel_rfl) trivial (fun ρ wc hbc hcn hk => ?_) ?_; rotate_left
      · obtain ⟨hcn, -⟩ := hcn
        simp at hk
        obtain ⟨hcc, -⟩ := bcell hbc
        simp at hcc
        go_simp
        rfl
      refine chain_val (u := ?_) [5] rfl (by kernel_rfl) trivial (fun ρ wc hbc hcn hk => ?_) ?_; rotate_left
      · obtain ⟨hcn, -⟩ := hcn
        simp at hk
        go_simp
        rfl
      refine chain_val (u := ?_) [55, 56] rfl (by kernel_rfl) trivial (fun ρ wc hbc hcn hk => ?_) ?_; rotate_left
      · obtain ⟨hcn, -⟩ := hcn
        simp at hk
        go_simp
        rfl
      refine chain_val (u := ?_) [57] rfl (by kernel_rfl) trivial (fun ρ wc hbc hcn hk => ?_) ?_; rotate_left
      · obtain ⟨hcn, -⟩ := hcn
        simp at hk
        obtain ⟨hcc, -⟩ := bcell hbc
        simp at hcc
        go_simp
        rfl
      refine chain_call (T := Is ?_) 10 [53, 58] rfl (by kernel_rfl) trivial (stable_is _) (fun ρ wc hbc hcn hk => ?_) ?_; rotate_left
      · obtain ⟨hcn, hfn⟩ := hcn
        simp at hk
        refine ⟨_, by go_simp; rfl, ?_⟩
        refine (HC.out _ (bel_on (bel_drew HR.out) hbc)).mono ?_
        rintro e w' ⟨rfl, hbq⟩
        refine ⟨_, rfl, ?_, hbq⟩
        unfold Is
        rfl
      refine chain_val (u := ?_) [59] rfl (by kernel_rfl) trivial (fun ρ wc hbc hcn hk => ?_) ?_; rotate_left
      · obtain ⟨hcn, -⟩ := hcn
        simp at hk
        go_simp
        rfl
      refine chain_end_lit 61 rfl (fun ff w7 hb7 hk => ?_)
      refine hKK _ _ ?_
      clear hKK KK
      simp [AllN] at hk
      simp only [frameL, hk]
      have HB7 : Hid (Below w.heap.size w w7) := Lib.hid (bel_on (bel_drew HR.out) hb7)
      have B2 := Lib.hid (HB2.out.drew.below hb7)
      have B3 := Lib.hid (HB3.out.drew.below hb7)
      clear hb7 hk x2 y2 x3 y3 k0 k1 k2 k3 k4 l0 l1 l2 l3 l4
      cases eb with
      | true =>
        go_wp2
        go_roundw
        case rel => exact ⟨j + 1, by omega, by go_num, HTS.out (HEJ.out.1 rfl), B2.out, B3.out, HB7.out⟩
        case measure => simp [intOf]; omega
      | false =>
        go_wp2
        go_ret
        exact ⟨by rw [HNE.out (fun h => by have := HEJ.out.2 h; cases this)]; rfl, HB7.out⟩
    · obtain rfl : j = ks.length := by omega
      have HRR : Hid (eqN (.mk k e n d ks) (.mk k e n d ks') = true) := Lib.hid (eqN_yes (by
        have h := HTK.out
        rw [List.take_length, HL.out, List.take_length] at h
        rw [h]))
      go_wp2
      go_ret
      exact ⟨by rw [HRR.out]; rfl, HR.out⟩
end Go.Proofs.YtnmanhediiooaaaGreatDoor
