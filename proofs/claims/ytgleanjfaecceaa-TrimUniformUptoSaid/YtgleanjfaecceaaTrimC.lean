/- Package trim: the function behind Trim that trims a row, and Trim. -/
import Derived.Test.YtgleanjfaecceaaTrimB
namespace Go.Proofs.Ytgleanjfaecceaa
open Go.ChangeShapes Go.WideShapes Go.ChangeAt Go.RowKit
set_option linter.unusedVariables false
set_option linter.unusedSimpArgs false

set_option maxHeartbeats 4000000 in
set_option maxRecDepth 100000 in
theorem trimmed_any (ls : List Nd) (B : Option Addr) (c2 : Nat) (w : World) (hk : KsR w B ls) (hm : ls.length ≤ 1099511627776)
    (HC : Hid (∀ j (hj : j < ls.length) A' c' B' c2' wc, NdR wc A' c' B' c2' ls[j] → Calls Try.prog 16 #[.agg #[.int .i64 (ls[j]).k, .int .i64 (ls[j]).e, .int .i64 (ls[j]).n, .slice A' (ls[j]).d.length c', .slice B' (ls[j]).ks.length c2']] wc fun r w' => ∃ v, r = .returned v ∧ NodV wc.heap.size (trimN ls[j]) v w' ∧ Below wc.heap.size wc w')) :
    Calls Try.prog 34 #[.slice B ls.length c2] w fun r w' => r = .returned (.slice (some ⟨w.heap.size, 0, none⟩) ls.length ls.length) ∧ RowT w.heap.size ls.length ls.length (trimK ls) w' ∧ Below w.heap.size w w' := by
  obtain ⟨i0, hi, hz0, hz1, hz2⟩ := info_parts node_info
  have HK := Lib.hid hk
  obtain ⟨n, hn⟩ : ∃ n, n = ls.length := ⟨_, rfl⟩
  have HN := Lib.hid hn
  have hb0 : n ≤ 1099511627776 := by omega
  rw [← hn]
  clear hk hm hn
  go_enter Try.func34, Try.ntmps34
  go_wp2_with (at_make; refine wpList_make_full _ rfl _ _ 23 rfl w.heap.size 25 i0 _ 5 Try.underlying23 hi hz0 hz1 .i64 .i64 _ _ n rfl rfl (by omega) (by omega) (by rw [hz2]; omega) (by unfold maxLen; omega) (Nat.le_refl _) ?_; intro w0 hown0 hgrow0)
  have hR0 : RowT w.heap.size n 0 (trimK ls) w0 := RowT.made hown0
  have hB0 : Below w.heap.size w w0 := (Below.refl _ _).grown hgrow0 (Nat.le_refl _) (fun g hg => by cases hg)
  clear hown0 hgrow0
  go_loopw [11] (fun i wr => ∃ j : Nat, j ≤ n ∧ i = .int .i64 j ∧ RowT w.heap.size n j (trimK ls) wr ∧ Below w.heap.size w wr) (fun i _ => n - (intOf i).toNat)
  case atStart => exact ⟨0, by omega, rfl, hR0, hB0⟩
  case round =>
    clear hR0 hB0
    obtain ⟨j, hj, rfl, hrow, hbr⟩ := hrel
    have HR := Lib.hid hbr
    have HW := Lib.hid hrow
    clear hbr hrow
    by_cases hlt : j < n
    · have hj1 : (j : Int) < (n : Int) := by omega
      have hlt2 : j < ls.length := by rw [← HN.out]; exact hlt
      have hltT : j < (trimK ls).length := by rw [trimK_length]; exact hlt2
      obtain ⟨b, off, A', c', B', c2', rfl, k0, k1, k2, k3, k4, hsub⟩ := HK.out.atIn HR.out (Nat.le_refl _) hlt2
      have HCJ := Lib.hid (fun wc hb => HC.out j hlt2 A' c' B' c2' wc (hsub.on (N := w.heap.size) hb (Nat.le_refl _)))
      have HT : Hid ((trimK ls)[j] = trimN ls[j]) := Lib.hid (trimK_get ls j hlt2)
      clear hsub
      generalize trimN ls[j] = ty at *
      generalize ls[j] = kx at *
      have HB1 := Lib.hid (fun o => HR.out.alloc HR.out.size o)
      go_wp2_with fail
      refine (HCJ.out _ (HB1.out _)).mono ?_
      rintro r w2 ⟨v, rfl, hnv, hb2⟩
      have HB2 : Hid (Below w.heap.size w w2) := Lib.hid (bel_on (HB1.out _) hb2)
      have hlo : w.heap.size < wr.heap.size := HW.out.lt
      have HW2 := Lib.hid ((HW.out.below ((Below.refl _ _).alloc (Nat.le_refl _) (.cells #[.int .i64 kx.k, .int .i64 kx.e, .int .i64 kx.n, .slice A' kx.d.length c', .slice B' kx.ks.length c2'] 25)) (Nat.le_refl _)).below hb2 (Nat.le_refl _))
      obtain ⟨A5, c5, B5, e5, hi5, rfl, hh5, ho5, hu5, -, -⟩ := hnv
      have HO := Lib.hid ho5
      have HU := Lib.hid hu5
      clear ho5 hu5 hb2 k0 k1 k2 k3 k4
      obtain ⟨u0, y0⟩ := HW2.out.cell (j * 5) (by omega)
      obtain ⟨u1, y1⟩ := HW2.out.cell (j * 5 + 1) (by omega)
      obtain ⟨u2, y2⟩ := HW2.out.cell (j * 5 + 2) (by omega)
      obtain ⟨u3, y3⟩ := HW2.out.cell (j * 5 + 3) (by omega)
      obtain ⟨u4, y4⟩ := HW2.out.cell (j * 5 + 4) (by omega)
      have z := HW2.out.free
      go_wp2
      go_roundw
      case rel =>
        refine ⟨j + 1, by omega, by go_num, ?_, ?_⟩
        · have := HW2.out.next hlt hltT (A' := A5) (c' := c5) (B' := B5) (c2' := e5) (lo := _) (hi := hi5) ?_ hh5 (by rw [HT.out]; exact HO.out) HU.out
          · rw [HT.out] at this
            exact this
          · simp; omega
        · refine Below.setCell (Below.setCell (Below.setCell (Below.setCell (Below.setCell HB2.out ?_ _) ?_ _) ?_ _) ?_ _) ?_ _ <;> (show w.heap.size ≤ w.heap.size; omega)
      case measure => simp [intOf]; omega
    · obtain rfl : j = n := by omega
      go_wp2
      go_ret
      exact ⟨rfl, HW.out, HR.out⟩
set_option maxHeartbeats 8000000 in
set_option maxRecDepth 100000 in
theorem Trim_node : ∀ (x : Nd) (A : Option Addr) (c : Nat) (B : Option Addr) (c2 : Nat) (w : World), NdR w A c B c2 x → sizeN x ≤ 1099511627776 → validN x = true →
    Calls Try.prog 16 #[.agg #[.int .i64 x.k, .int .i64 x.e, .int .i64 x.n, .slice A x.d.length c, .slice B x.ks.length c2]] w fun r w' => ∃ v, r = .returned v ∧ NodV w.heap.size (trimN x) v w' ∧ Below w.heap.size w w' := by
  refine Nd.ind ?_
  intro k e n d ks ih A c B c2 w hx hs hv
  simp only [Nd.k, Nd.e, Nd.n, Nd.d, Nd.ks]
  have HX := Lib.hid hx
  have HI := Lib.hid ih
  have HVK := Lib.hid (valid_kids11 hv).1
  have hso : sizeN (.mk k e n d ks) = 1 + d.length + sizeK ks := by simp only [sizeN]
  rw [hso] at hs
  have hkl := sizeK_length ks
  have hdl : d.length ≤ 1099511627776 := by omega
  have hkl2 : ks.length ≤ 1099511627776 := by omega
  obtain ⟨h1, h2, h3, hd, hbt, hdc, hcm, hA, hkc, hc2m, hB⟩ := hx.open
  have HD := Lib.hid hd
  have HBT := Lib.hid hbt
  have HO := Lib.hid (And.intro h1 (And.intro h2 h3))
  have HA := Lib.hid hA
  have HSZ : Hid (∀ (j : Nat) (hj : j < ks.length), sizeN ks[j] ≤ 1099511627776) := Lib.hid (fun j hj => by
    have := sizeN_kid (List.getElem_mem hj)
    omega)
  have HWD := Lib.hid (fun w' (hb : Below w.heap.size w w') => trimWords_any A c d w' (HD.out.below hb (Nat.le_refl _)) HBT.out hdl hdc)
  have HPT := Lib.hid (fun w' (hb : Below w.heap.size w w') => cutK_any B c2 ks w' (HX.out.kids.on hb (Nat.le_refl _)) hkl2 hkc)
  have hDK : ∃ D K : Nat, D ≤ d.length ∧ K ≤ ks.length ∧ trimN (.mk k e n d ks) = .mk k e n (d.take D) (trimK (ks.take K)) ∧ ((k = 1 ∧ 8 * wordsT d = D ∧ ptrsT ks = K) ∨ (k ≠ 1 ∧ D = d.length ∧ K = ks.length)) := by
    by_cases h1 : k = 1
    · exact ⟨8 * wordsT d, ptrsT ks, wordsT_le d ((valid_kids11 hv).2 h1), ptrsT_le ks, by rw [trim_eq, if_pos h1, if_pos h1, trimK_take], .inl ⟨h1, rfl, rfl⟩⟩
    · exact ⟨d.length, ks.length, Nat.le_refl _, Nat.le_refl _, by rw [trim_eq, if_neg h1, if_neg h1, trimK_take], .inr ⟨h1, rfl, rfl⟩⟩
  obtain ⟨D, K, hDl, hKl, hT, hcase⟩ := hDK
  have HT := Lib.hid hT
  have HDL : Hid (D = (d.take D).length) := Lib.hid (by rw [List.length_take]; omega)
  have HKL : Hid ((ks.take K).length = K) := Lib.hid (by rw [List.length_take]; omega)
  have HCL := Lib.hid (fun w' (hb : Below w.heap.size w w') => bytesClone_any A c (d.take D) w' ((HD.out.take D).below hb (Nat.le_refl _)) (by rw [← HDL.out]; omega) HA.out (by rw [← HDL.out]; omega) D HDL.out)
  have HTM := Lib.hid (fun w' (hb : Below w.heap.size w w') => trimmed_any (ks.take K) B c2 w' ((HX.out.kids.take K).on hb (Nat.le_refl _)) (by rw [HKL.out]; omega) (Lib.hid (fun j hj A' c' B' c2' wc hn => by
    rw [List.length_take] at hj
    have hj2 : j < ks.length := by omega
    have e : (ks.take K)[j]'(by rw [List.length_take]; exact hj) = ks[j] := List.getElem_take
    rw [e] at hn ⊢
    exact HI.out ks[j] (List.getElem_mem hj2) A' c' B' c2' wc hn (HSZ.out j hj2) (HVK.out _ (List.getElem_mem hj2)))))
  simp only [HKL.out] at HTM
  have HFIN : Hid (∀ (q base : Nat) (W : World) (A5 : Option Addr) (c5 : Nat), RowT q K K (trimK (ks.take K)) W → w.heap.size ≤ base → base ≤ q → Got W base 5 .u8 (.slice A5 (d.take D).length c5) (d.take D) → NodV w.heap.size (trimN (.mk k e n d ks)) (.agg #[.int .i64 k, .int .i64 e, .int .i64 n, .slice A5 D c5, .slice (some ⟨q, 0, none⟩) K K]) W) := Lib.hid (fun q base W A5 c5 hr h1 h2 hg =>
    hr.nodV h1 h2 (by rw [trimK_length, HKL.out]) (by unfold maxLen; omega) HO.out.1 HO.out.2.1 HO.out.2.2 hg (fun z hz => HBT.out z (List.mem_of_mem_take hz)) HT.out HDL.out)
  have hwb : (8 * wordsT d = D → wordsT d ≤ 1099511627776) := by omega
  clear hx ih hso hv hT h1 h2 h3 hd hbt hA hB HD HBT HO HA HX HI HVK HSZ hs hkl
  generalize trimN (.mk k e n d ks) = tx at *
  have HB0 := Lib.hid (fun o1 o2 => ((Below.refl w.heap.size w).alloc (Nat.le_refl _) o1).alloc (by simp) o2)
  go_enter Try.func16, Try.ntmps16
  go_wp2_with fail
  refine abs_code10 (F := fun W => Blk W w.heap.size #[.int .i64 k, .int .i64 e, .int .i64 n, .slice A d.length c, .slice B ks.length c2] ∧ Blk W (w.heap.size + 1) #[.int .i64 0, .int .i64 0, .int .i64 0, .slice none 0 0, .slice none 0 0] ∧ Below w.heap.size w W) ⟨(Blk.fresh _ _ _).alloc _, Blk.new (by simp), HB0.out _ _⟩ ?_
  rintro W ⟨hB1, hB2, hbw⟩
  have HW1 := Lib.hid hB1
  have HW2 := Lib.hid hB2
  have HWB := Lib.hid hbw
  obtain ⟨x1, y1, z1⟩ := hB1
  clear hB2 hbw
  go_region
  have HW1n := Lib.hid HW1.out.drew
  have HW2n := Lib.hid HW2.out.drew
  have HWBn := Lib.hid (bel_drew HWB.out)
  clear HW1 HW2 HWB y1 z1
  have HW1 := HW1n
  have HW2 := HW2n
  have HWB := HWBn
  clear HW1n HW2n HWBn
  have hc3 : (k = 1 ∧ 8 * wordsT d = D ∧ ptrsT ks = K ∧ 8 * wordsT d < d.length) ∨ (k = 1 ∧ d.length = D ∧ ptrsT ks = K ∧ 8 * wordsT d = d.length) ∨ (k ≠ 1 ∧ d.length = D ∧ ks.length = K) := by omega
  clear hcase
  rcases hc3 with ⟨h1, hDD, hPP, hD8⟩ | ⟨h1, hDD, hPP, hD8⟩ | ⟨h1, hDD, hPP⟩
  focus
    have t1 : (k == 1) = true := by simpa using h1
    have hwb' := hwb hDD
    have m1 : ¬ ((d.length : Int) ≤ 8 * ((wordsT d : Nat) : Int)) := by omega
    have EDN : Hid ((8 * ((wordsT d : Nat) : Int)).toNat = D) := Lib.hid (by omega)
    have EDM : Hid (8 * wordsT d = D) := Lib.hid hDD
    have EPP : Hid (ptrsT ks = K) := Lib.hid hPP
    clear h1 hDD hPP hwb
    go_wp2_with fail
    refine (HWD.out _ HWB.out).mono ?_
    rintro r w' ⟨rfl, rfl⟩
    go_wp2_with fail
    refine (HPT.out _ HWB.out).mono ?_
    rintro r w' ⟨rfl, hb2⟩
    have HW1n := Lib.hid (HW1.out.below hb2)
    have HW2n := Lib.hid (HW2.out.below hb2)
    have HWBn := Lib.hid (bel_on HWB.out hb2)
    clear HW1 HW2 HWB x1 hb2
    have HW1 := HW1n
    have HW2 := HW2n
    have HWB := HWBn
    clear HW1n HW2n HWBn
    have x1 := HW1.out.cell
    go_wp2_with fail
    simp only [EDN.out, EDM.out, EPP.out]
    clear EDN EDM EPP
  rotate_left
  focus
    have t1 : (k == 1) = true := by simpa using h1
    have hwb' := hwb (hD8.trans hDD)
    have m1 : (d.length : Int) ≤ 8 * ((wordsT d : Nat) : Int) := by omega
    have EDM : Hid (d.length = D) := Lib.hid hDD
    clear hD8
    have EPP : Hid (ptrsT ks = K) := Lib.hid hPP
    clear h1 hDD hPP hwb
    go_wp2_with fail
    refine (HWD.out _ HWB.out).mono ?_
    rintro r w' ⟨rfl, rfl⟩
    go_wp2_with fail
    refine (HPT.out _ HWB.out).mono ?_
    rintro r w' ⟨rfl, hb2⟩
    have HW1n := Lib.hid (HW1.out.below hb2)
    have HW2n := Lib.hid (HW2.out.below hb2)
    have HWBn := Lib.hid (bel_on HWB.out hb2)
    clear HW1 HW2 HWB x1 hb2
    have HW1 := HW1n
    have HW2 := HW2n
    have HWB := HWBn
    clear HW1n HW2n HWBn
    have x1 := HW1.out.cell
    go_wp2_with fail
    simp only [EDM.out, EPP.out]
    clear EDM EPP
  rotate_left
  focus
    have t1 : (k == 1) = false := by simpa using h1
    have EDM : Hid (d.length = D) := Lib.hid hDD
    have EPP : Hid (ks.length = K) := Lib.hid hPP
    clear h1 hDD hPP hwb
    go_wp2_with fail
    simp only [EDM.out, EPP.out]
    clear EDM EPP
  all_goals
    refine abs_world (F := fun W => Blk W w.heap.size #[.int .i64 k, .int .i64 e, .int .i64 n, .slice A d.length c, .slice B ks.length c2] ∧ Blk W (w.heap.size + 1) #[.int .i64 0, .int .i64 0, .int .i64 0, .slice none 0 0, .slice none 0 0] ∧ Below w.heap.size w W) ⟨HW1.out, HW2.out, HWB.out⟩ ?_
    clear HW1 HW2 HWB x1
    rintro W5 ⟨h1, h2, hb⟩
    have HW1 := Lib.hid h1
    have HW2 := Lib.hid h2
    have HWB := Lib.hid hb
    clear h1 h2 hb
    refine (HCL.out _ HWB.out).mono ?_
    rintro r w6 ⟨v, rfl, hg, hb6⟩
    obtain ⟨A5, c5, rfl, -⟩ := hg.slice
    have hz6 : w.heap.size + 1 < W5.heap.size := HW2.out.lt
    have HG := Lib.hid hg
    have HW1n := Lib.hid (HW1.out.below hb6)
    have HW2n := Lib.hid (HW2.out.below hb6)
    have HWBn := Lib.hid (bel_on HWB.out hb6)
    have hz56 := hb6.size
    clear HW1 HW2 HWB hg hb6
    have x1 := HW1n.out.cell
    have y1 := HW1n.out.free
    rw [← HDL.out] at HG
    rw [← HDL.out]
    go_wp2_with fail
    refine abs_world (F := fun W => Blk W w.heap.size #[.int .i64 k, .int .i64 e, .int .i64 n, .slice A5 D c5, .slice B ks.length c2] ∧ Blk W (w.heap.size + 1) #[.int .i64 0, .int .i64 0, .int .i64 0, .slice none 0 0, .slice none 0 0] ∧ Below w.heap.size w W ∧ Got W W5.heap.size 5 .u8 (.slice A5 D c5) (d.take D) ∧ w6.heap.size ≤ W.heap.size) ⟨?_, ?_, ?_, ?_, ?_⟩ ?_
    · exact HW1n.out.set 3 (by simp) _
    · exact HW2n.out.other (by show w.heap.size ≠ w.heap.size + 1; omega) _
    · exact HWBn.out.setCell (by show w.heap.size ≤ w.heap.size; omega) _
    · exact HG.out.far (by show w.heap.size < W5.heap.size; omega) _
    · simp
    clear HW1n HW2n HWBn HG x1 y1
    rintro W7 ⟨h1, h2, hb, hg, hz7⟩
    have HW1 := Lib.hid h1
    have HW2 := Lib.hid h2
    have HWB := Lib.hid hb
    have HG := Lib.hid hg
    clear h1 h2 hb hg
    refine (HTM.out _ HWB.out).mono ?_
    rintro r w8 ⟨rfl, hrow, hb8⟩
    have HRW := Lib.hid hrow
    have HW1n := Lib.hid (HW1.out.below hb8)
    have HW2n := Lib.hid (HW2.out.below hb8)
    have HWBn := Lib.hid (bel_on HWB.out hb8)
    have HGn := Lib.hid (HG.out.below hb8 (Nat.le_refl _))
    clear HW1 HW2 HWB HG hb8 hrow
    obtain ⟨q, hq⟩ : ∃ q, q = W7.heap.size := ⟨_, rfl⟩
    rw [← hq] at HRW hz7
    rw [← hq]
    clear hq
    have x1 := HW1n.out.cell
    have y1 := HW1n.out.free
    have x2 := HW2n.out.cell
    have y2 := HW2n.out.free
    go_wp2
    have hq1 : w.heap.size + 1 < q := by omega
    refine abs_post (F := fun W => Blk W (w.heap.size + 1) #[.int .i64 k, .int .i64 e, .int .i64 n, .slice A5 D c5, .slice (some ⟨q, 0, none⟩) K K] ∧ NodV w.heap.size tx (.agg #[.int .i64 k, .int .i64 e, .int .i64 n, .slice A5 D c5, .slice (some ⟨q, 0, none⟩) K K]) W ∧ Below w.heap.size w W) ⟨?_, ?_, ?_⟩ ?_
    · exact (((((HW2n.out.other (p := ⟨w.heap.size, 4, none⟩) (by show w.heap.size ≠ w.heap.size + 1; omega) _).set 0 (by simp) _).set 1 (by simp) _).set 2 (by simp) _).set 3 (by simp) _).set 4 (by simp) _
    · have hf : w.heap.size < W5.heap.size := by omega
      refine HFIN.out q W5.heap.size _ A5 c5 ?_ (by omega) (by omega) ?_
      · exact (((((HRW.out.other (p := ⟨w.heap.size, 4, none⟩) (by show w.heap.size < q; omega) _).other (p := ⟨w.heap.size + 1, 0, none⟩) hq1 _).other (p := ⟨w.heap.size + 1, 1, none⟩) hq1 _).other (p := ⟨w.heap.size + 1, 2, none⟩) hq1 _).other (p := ⟨w.heap.size + 1, 3, none⟩) hq1 _).other (p := ⟨w.heap.size + 1, 4, none⟩) hq1 _
      · rw [← HDL.out]
        exact (((((HGn.out.far (p := ⟨w.heap.size, 4, none⟩) hf _).far (p := ⟨w.heap.size + 1, 0, none⟩) hz6 _).far (p := ⟨w.heap.size + 1, 1, none⟩) hz6 _).far (p := ⟨w.heap.size + 1, 2, none⟩) hz6 _).far (p := ⟨w.heap.size + 1, 3, none⟩) hz6 _).far (p := ⟨w.heap.size + 1, 4, none⟩) hz6 _
    · refine Below.setCell (Below.setCell (Below.setCell (Below.setCell (Below.setCell (Below.setCell HWBn.out ?_ _) ?_ _) ?_ _) ?_ _) ?_ _) ?_ _ <;> (first | (show w.heap.size ≤ w.heap.size; omega) | (show w.heap.size ≤ w.heap.size + 1; omega))
    rintro W9 ⟨B6, hN, hbw⟩
    exact bodyPost_ret (v := .agg #[.int .i64 k, .int .i64 e, .int .i64 n, .slice A5 D c5, .slice (some ⟨q, 0, none⟩) K K]) (by simp [results, Try.results16, go_sem, B6.cell]) rfl ⟨_, rfl, hN, hbw⟩
end Go.Proofs.Ytgleanjfaecceaa
