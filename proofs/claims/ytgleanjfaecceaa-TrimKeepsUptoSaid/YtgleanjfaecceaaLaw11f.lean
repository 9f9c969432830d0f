/- A law of layer 11: TrimKeeps. -/
import Derived.Test.YtgleanjfaecceaaLaw11c
import Derived.Test.YtgleanjfaecceaaTrimU
namespace Go.Proofs.Ytgleanjfaecceaa
open Go.ChangeShapes Go.WideShapes Go.ChangeAt Go.RowKit
set_option linter.unusedVariables false
set_option linter.unusedSimpArgs false
attribute [local irreducible] validN fewN eqN trimN trimmedN depthN objsN wordsT ptrsT uniD uniP

set_option maxHeartbeats 8000000 in
set_option maxRecDepth 100000 in
theorem Keeps11_walk (x : Nd) (A1 : Option Addr) (c1 : Nat) (B1 : Option Addr) (e1 : Nat) (w : World) (hT : TabOK w) (hx : NdR w A1 c1 B1 e1 x) (hsx : sizeN x ≤ 1048576) :
    Calls Try.prog 7 #[.agg #[.int .i64 x.k, .int .i64 x.e, .int .i64 x.n, .slice A1 x.d.length c1, .slice B1 x.ks.length e1]] w fun r w' => r = .returned (.bool true) ∧ Below w.heap.size w w' := by
  have HX := Lib.hid hx
  have HT := Lib.hid hT
  have HSX : Hid (sizeN x ≤ 1099511627776) := Lib.hid (by omega)
  clear hx hT
  go_enter Try.func7, Try.ntmps7
  go_wp2_with fail
  refine abs_world (F := fun W => Blk W w.heap.size #[.int .i64 x.k, .int .i64 x.e, .int .i64 x.n, .slice A1 x.d.length c1, .slice B1 x.ks.length e1] ∧ Below w.heap.size w W) ⟨?_, ?_⟩ ?_
  · exact Blk.fresh _ _ _
  · exact (Below.refl _ _).alloc (Nat.le_refl _) _
  rintro w0 ⟨h2, hb0⟩
  have H2 := Lib.hid h2
  have HB := Lib.hid hb0
  clear h2 hb0
  refine (awake11_any _ (HT.out.on HB.out)).mono ?_
  rintro r w1 ⟨rfl, hb1⟩
  have H2n := Lib.hid (H2.out.below hb1)
  have HBn := Lib.hid (bel_on HB.out hb1)
  clear hb1 H2 HB
  have H2 := H2n
  have HB := HBn
  clear H2n HBn
  obtain ⟨x2, y2, z2⟩ := H2.out
  go_wp2_with fail
  refine (RefFew_node x A1 c1 B1 e1 _ (HX.out.on HB.out (Nat.le_refl _)) HSX.out).mono ?_
  rintro r w2 ⟨rfl, hb2⟩
  clear x2 y2 z2
  have H2n := Lib.hid (H2.out.below hb2)
  have HBn := Lib.hid (bel_on HB.out hb2)
  clear hb2 H2 HB
  have H2 := H2n
  have HB := HBn
  clear H2n HBn
  obtain ⟨x2, y2, z2⟩ := H2.out
  cases hf : fewN x with
  | false =>
    clear hf
    go_wp2_with fail
    refine (awake11_any _ (HT.out.on HB.out)).mono ?_
    rintro r w9 ⟨rfl, hb9⟩
    have HB9 := Lib.hid (bel_on HB.out hb9)
    clear hb9
    go_wp2
    go_ret
    exact ⟨rfl, HB9.out⟩
  | true =>
  clear hf
  go_wp2_with fail
  refine (RefValid_node x A1 c1 B1 e1 _ (HX.out.on HB.out (Nat.le_refl _)) HSX.out).mono ?_
  rintro r w3 ⟨rfl, hb3⟩
  clear x2 y2 z2
  have H2n := Lib.hid (H2.out.below hb3)
  have HBn := Lib.hid (bel_on HB.out hb3)
  clear hb3 H2 HB
  have H2 := H2n
  have HB := HBn
  clear H2n HBn
  obtain ⟨x2, y2, z2⟩ := H2.out
  cases hv : validN x with
  | false =>
    clear hv
    go_wp2_with fail
    refine (awake11_any _ (HT.out.on HB.out)).mono ?_
    rintro r w9 ⟨rfl, hb9⟩
    have HB9 := Lib.hid (bel_on HB.out hb9)
    clear hb9
    go_wp2
    go_ret
    exact ⟨rfl, HB9.out⟩
  | true =>
  have HV := Lib.hid hv
  obtain ⟨T, hT⟩ : ∃ T, trimN x = T := ⟨_, rfl⟩
  have HTE := Lib.hid hT
  have HTS : Hid (T.ks.length ≤ 1048576 ∧ T.d.length ≤ 1048576) := Lib.hid (by
    have h0 := size_trim x
    rw [hT] at h0
    have h1 := sizeK_length T.ks
    have h2 := sizeK_ks T
    have h5 : T.d.length ≤ sizeN T := (by cases T; simp only [Nd.d, sizeN]; omega)
    omega)
  clear hv hT
  go_wp2_with fail
  refine (RefCopy_node x A1 c1 B1 e1 _ (HX.out.on HB.out (Nat.le_refl _)) HSX.out).mono ?_
  rintro r w4 ⟨v4, rfl, ⟨A5, c5, B5, e5, hi5, rfl, hh5, ho5⟩, hb4⟩
  have HO := Lib.hid ho5.nd
  clear ho5 hh5
  clear x2 y2 z2
  have H2n := Lib.hid (H2.out.below hb4)
  have HBn := Lib.hid (bel_on HB.out hb4)
  clear hb4 H2 HB
  have H2 := H2n
  have HB := HBn
  clear H2n HBn
  obtain ⟨x2, y2, z2⟩ := H2.out
  go_wp2_with fail
  refine abs_world (F := fun W => Blk W w.heap.size #[.int .i64 x.k, .int .i64 x.e, .int .i64 x.n, .slice A1 x.d.length c1, .slice B1 x.ks.length e1] ∧ Blk W w4.heap.size #[.int .i64 x.k, .int .i64 x.e, .int .i64 x.n, .slice A5 x.d.length c5, .slice B5 x.ks.length e5] ∧ NdR W A5 c5 B5 e5 x ∧ Below w.heap.size w W) ⟨?_, ?_, ?_, ?_⟩ ?_
  · exact H2.out.alloc _
  · exact Blk.fresh _ _ _
  · exact HO.out.on ((Below.refl _ _).alloc (Nat.le_refl _) _) (Nat.le_refl _)
  · exact HB.out.alloc HB.out.size _
  have hbo : w.heap.size < w4.heap.size := H2.out.lt
  generalize w4.heap.size = bo at *
  clear H2 HO HB x2 y2 z2
  rintro w5 ⟨h2, h3, ho, hb⟩
  have H2 := Lib.hid h2
  have H3 := Lib.hid h3
  have HO := Lib.hid ho
  have HB := Lib.hid hb
  have hbo5 : bo < w5.heap.size := h3.lt
  clear h2 h3 ho hb
  refine (TTrimU_c x T A5 c5 B5 e5 _ (HT.out.on HB.out) HO.out HSX.out HV.out HTE.out).mono ?_
  rintro r w6 ⟨v6, rfl, ⟨A6, c6, B6, e6, hi6, rfl, hh6, ho6, hu6, hu7, hu8⟩, hb6⟩
  have H2n := Lib.hid (H2.out.below hb6)
  have H3n := Lib.hid (H3.out.below hb6)
  have hz6 := hb6.size
  have HB56 := Lib.hid hb6
  have HD := Lib.hid ((ho6.wide (Nat.le_refl _) hh6).byt hu6)
  have HRW : Hid (T.ks.length = 0 ∨ ∃ b off FA FL FC, B6 = some ⟨b, off, none⟩ ∧ Rws w6 w5.heap.size w6.heap.size b off FA FL FC 0 T.ks.length) := Lib.hid (by
    by_cases h0 : T.ks.length = 0
    · exact .inl h0
    · obtain ⟨b, off, hB, -, -⟩ := ho6.row (j := 0) (by omega)
      obtain ⟨FA, FL, FC, hr⟩ := (ho6.wide (Nat.le_refl _) hh6).rws hB (by omega) hu7 hu8
      exact .inr ⟨b, off, FA, FL, FC, hB, hr⟩)
  have HCA : Hid (T.d.length ≤ c6 ∧ c6 ≤ 9223372036854775807 ∧ T.ks.length ≤ e6 ∧ e6 ≤ 9223372036854775807) := Lib.hid (by
    have hn := ho6.nd
    obtain ⟨k, e, n, d, ks⟩ := T
    have h := hn.open
    exact ⟨h.2.2.2.2.2.1, h.2.2.2.2.2.2.1, h.2.2.2.2.2.2.2.2.1, h.2.2.2.2.2.2.2.2.2.1⟩)
  clear H2 H3 hb6 ho6 hu6 hu7 hu8 hh6
  have H2 := H2n
  have H3 := H3n
  clear H2n H3n
  have xo := (H3.out.alloc (.cells #[.int .i64 T.k, .int .i64 T.e, .int .i64 T.n, .slice A6 T.d.length c6, .slice B6 T.ks.length e6] 25)).cell
  have hbt : bo < w6.heap.size := by omega
  obtain ⟨bt, hbte⟩ : ∃ bt, bt = w6.heap.size := ⟨_, rfl⟩
  obtain ⟨b5, hb5e⟩ : ∃ b5, b5 = w5.heap.size := ⟨_, rfl⟩
  have HBT := Lib.hid hbte
  have HB5 := Lib.hid hb5e
  have hb5o : bo < b5 := by omega
  have hb5t : b5 ≤ bt := by omega
  have htl := HTS.out
  have hcl := HCA.out
  go_wp2
  rw [← hbte]
  clear hbte hb5e
  go_loopw [5] (fun i wr => ∃ k : Nat, k ≤ T.d.length ∧ i = .int .i64 k ∧ Blk wr w.heap.size #[.int .i64 x.k, .int .i64 x.e, .int .i64 x.n, .slice A1 x.d.length c1, .slice B1 x.ks.length e1] ∧ Blk wr bo #[.int .i64 x.k, .int .i64 x.e, .int .i64 x.n, .slice A5 x.d.length c5, .slice B5 x.ks.length e5] ∧ Blk wr bt #[.int .i64 T.k, .int .i64 T.e, .int .i64 T.n, .slice A6 T.d.length c6, .slice B6 T.ks.length e6] ∧ Byt wr b5 bt A6 T.d.length ∧ (T.ks.length = 0 ∨ ∃ b off FA FL FC, B6 = some ⟨b, off, none⟩ ∧ Rws wr b5 bt b off FA FL FC 0 T.ks.length) ∧ Below b5 w5 wr) (fun i _ => T.d.length - (intOf i).toNat)
  case atStart =>
    have hal := (Below.refl w6.heap.size w6).alloc (Nat.le_refl _) (.cells #[.int .i64 T.k, .int .i64 T.e, .int .i64 T.n, .slice A6 T.d.length c6, .slice B6 T.ks.length e6] 25)
    refine ⟨0, Nat.zero_le _, rfl, H2.out.alloc _, H3.out.alloc _, ?_, ?_, ?_, ?_⟩
    · rw [HBT.out]; exact Blk.fresh _ _ _
    · rw [HB5.out, HBT.out]; exact HD.out.below hal (Nat.le_refl _)
    · rcases HRW.out with h | ⟨b, off, FA, FL, FC, h1, h2⟩
      · exact .inl h
      · exact .inr ⟨b, off, FA, FL, FC, h1, by rw [HB5.out, HBT.out]; exact h2.below hal (Nat.le_refl _)⟩
    · rw [HB5.out]; exact HB56.out.alloc HB56.out.size _
  case round =>
    obtain ⟨k, hk, rfl, h2, h3, h4, hby, hrw, hb⟩ := hrel
    clear H2 H3 HD HRW xo
    have H2 := Lib.hid h2
    have H3 := Lib.hid h3
    have H4 := Lib.hid h4
    have HRW := Lib.hid hrw
    have HBR := Lib.hid hb
    have HBY := Lib.hid hby
    clear h2 h3 hrw hb hby
    obtain ⟨x4, y4, z4⟩ := h4
    by_cases hlt : k < T.d.length
    · rcases HBY.out with h0 | ⟨b, off, hA, g1, g2, g3, g4⟩
      · omega
      subst hA
      obtain ⟨z, hz0, hz1, hc⟩ := g4 k hlt
      have hfz := g3 (off + k)
      have hi1 : (k : Int) < (T.d.length : Int) := by omega
      have HC := Lib.hid hc
      have HG := Lib.hid (And.intro g1 g2)
      clear g1 g2 g3 g4
      go_wp2
      go_roundw
      case rel =>
        have hm0 : 0 ≤ (z + 1) % 256 := by omega
        have hm1 : (z + 1) % 256 < 256 := by omega
        refine ⟨k + 1, by omega, by go_num, ?_, ?_, ?_, ?_, ?_, ?_⟩
        · exact H2.out.other (by have := HG.out; show b ≠ w.heap.size; omega) _
        · exact H3.out.other (by have := HG.out; show b ≠ bo; omega) _
        · exact H4.out.other (by have := HG.out; show b ≠ bt; omega) _
        · exact HBY.out.put HC.out hm0 hm1
        · rcases HRW.out with h | ⟨b', off', FA, FL, FC, h1, h2⟩
          · exact .inl h
          · exact .inr ⟨b', off', FA, FL, FC, h1, h2.put HC.out hm0 hm1⟩
        · exact HBR.out.setCell (by have := HG.out; show b5 ≤ b; omega) _
      case measure => simp [intOf]; omega
    · clear HBY
      go_wp2
      go_loopw [6] (fun i wr => ∃ j : Nat, j ≤ T.ks.length ∧ i = .int .i64 j ∧ Blk wr w.heap.size #[.int .i64 x.k, .int .i64 x.e, .int .i64 x.n, .slice A1 x.d.length c1, .slice B1 x.ks.length e1] ∧ Blk wr bo #[.int .i64 x.k, .int .i64 x.e, .int .i64 x.n, .slice A5 x.d.length c5, .slice B5 x.ks.length e5] ∧ Blk wr bt #[.int .i64 T.k, .int .i64 T.e, .int .i64 T.n, .slice A6 T.d.length c6, .slice B6 T.ks.length e6] ∧ (T.ks.length = 0 ∨ ∃ b off FA FL FC, B6 = some ⟨b, off, none⟩ ∧ Rws wr b5 bt b off FA FL FC j T.ks.length) ∧ Below b5 w5 wr) (fun i _ => T.ks.length - (intOf i).toNat)
      case atStart => exact ⟨0, Nat.zero_le _, rfl, H2.out, H3.out, H4.out, HRW.out, HBR.out⟩
      case round =>
        rename World => wo
        obtain ⟨j, hj, rfl, h2, h3, h4, hrw, hb⟩ := hrel
        clear H2 H3 H4 HRW HBR x4 y4 z4
        have H2 := Lib.hid h2
        have H3 := Lib.hid h3
        have H4 := Lib.hid h4
        have HRW := Lib.hid hrw
        have HBR := Lib.hid hb
        clear h3 hrw hb
        obtain ⟨x4, y4, z4⟩ := h4
        by_cases hjl : j < T.ks.length
        · rcases HRW.out with h0 | ⟨b, off, FA, FL, FC, hB, hr⟩
          · omega
          subst hB
          obtain ⟨⟨k0, ke, kn, Bk, lk, ck, c0, d1, d2, d3, d4⟩, hl1, hl2, -⟩ := hr.2.2.2 j (Nat.le_refl _) hjl
          have hi1 : (j : Int) < (T.ks.length : Int) := by omega
          have HR := Lib.hid hr
          clear hr
          go_wp2
          go_loopw [7] (fun i wr => ∃ q : Nat, q ≤ FL j ∧ i = .int .i64 q ∧ Blk wr w.heap.size #[.int .i64 x.k, .int .i64 x.e, .int .i64 x.n, .slice A1 x.d.length c1, .slice B1 x.ks.length e1] ∧ Blk wr bo #[.int .i64 x.k, .int .i64 x.e, .int .i64 x.n, .slice A5 x.d.length c5, .slice B5 x.ks.length e5] ∧ Blk wr bt #[.int .i64 T.k, .int .i64 T.e, .int .i64 T.n, .slice A6 T.d.length c6, .slice (some ⟨b, off, none⟩) T.ks.length e6] ∧ Rws wr b5 bt b off FA FL FC j T.ks.length ∧ Below b5 w5 wr) (fun i _ => FL j - (intOf i).toNat)
          case atStart => exact ⟨0, Nat.zero_le _, rfl, H2.out, H3.out, H4.out, HR.out, HBR.out⟩
          case round =>
            rename World => wi
            obtain ⟨q, hq, rfl, h2, h3, h4, hr, hb⟩ := hrel
            clear H2 H3 H4 HRW HBR x4 y4 z4 c0 d1 d2 d3 d4 HR k0 ke kn Bk lk ck hl1 hl2
            have H2 := Lib.hid h2
            have H3 := Lib.hid h3
            have H4 := Lib.hid h4
            have HR := Lib.hid hr
            have HBR := Lib.hid hb
            clear h2 h3 hb
            obtain ⟨x4, y4, z4⟩ := h4
            obtain ⟨⟨k0, ke, kn, Bk, lk, ck, c0, d1, d2, d3, d4⟩, hl1, hl2, hby⟩ := hr.2.2.2 j (Nat.le_refl _) hjl
            have hgb := hr.1
            have hgt := hr.2.1
            have hfr := hr.2.2.1
            clear hr
            by_cases hql : q < FL j
            · clear hfr
              rcases hby with h0 | ⟨b', off', hA, g1, g2, g3, g4⟩
              · omega
              obtain ⟨z, hz0, hz1, hc⟩ := g4 q hql
              have hfz := g3 (off' + q)
              have hqi : (q : Int) < (FL j : Int) := by omega
              have HC := Lib.hid hc
              have HG := Lib.hid (And.intro g1 g2)
              rw [hA] at d3
              clear g1 g2 g3 g4 hA
              generalize FL j = flj at *
              go_wp2
              go_roundw
              case rel =>
                have hm0 : 0 ≤ (z + 1) % 256 := by omega
                have hm1 : (z + 1) % 256 < 256 := by omega
                refine ⟨q + 1, by omega, by go_num, ?_, ?_, ?_, HR.out.put HC.out hm0 hm1, ?_⟩
                · exact H2.out.other (by have := HG.out; show b' ≠ w.heap.size; omega) _
                · exact H3.out.other (by have := HG.out; show b' ≠ bo; omega) _
                · exact H4.out.other (by have := HG.out; show b' ≠ bt; omega) _
                · exact HBR.out.setCell (by have := HG.out; show b5 ≤ b'; omega) _
              case measure => simp [intOf]; omega
            · have f0 := hfr (off + j * 5)
              have f1 := hfr (off + j * 5 + 1)
              have f2 := hfr (off + j * 5 + 2)
              have f3 := hfr (off + j * 5 + 3)
              have f4 := hfr (off + j * 5 + 4)
              clear hfr hby
              go_wp2
              go_roundw
              case rel =>
                refine ⟨j + 1, by omega, by go_num, ?_, ?_, ?_, .inr ⟨b, off, FA, FL, FC, rfl, ?_⟩, ?_⟩
                · exact (((((H2.out.other (by show b ≠ w.heap.size; omega) _).other (by show b ≠ w.heap.size; omega) _).other (by show b ≠ w.heap.size; omega) _).other (by show b ≠ w.heap.size; omega) _).other (by show b ≠ w.heap.size; omega) _)
                · exact (((((H3.out.other (by show b ≠ bo; omega) _).other (by show b ≠ bo; omega) _).other (by show b ≠ bo; omega) _).other (by show b ≠ bo; omega) _).other (by show b ≠ bo; omega) _)
                · exact (((((H4.out.other (by show b ≠ bt; omega) _).other (by show b ≠ bt; omega) _).other (by show b ≠ bt; omega) _).other (by show b ≠ bt; omega) _).other (by show b ≠ bt; omega) _)
                · exact HR.out.next hjl _ _ _ _ _ _ _
                · exact (((((HBR.out.setCell (by show b5 ≤ b; omega) _).setCell (by show b5 ≤ b; omega) _).setCell (by show b5 ≤ b; omega) _).setCell (by show b5 ≤ b; omega) _).setCell (by show b5 ≤ b; omega) _)
              case measure => simp [intOf]; omega
        · clear HRW
          have HBW : Hid (Below w.heap.size w wo) := Lib.hid (HB.out.trans (show Below w.heap.size w5 wo from HBR.out.mono (by omega)))
          have HOW := Lib.hid (HO.out.on HBR.out (by rw [HB5.out]; exact Nat.le_refl _))
          obtain ⟨x2, y2, z2⟩ := H2.out
          obtain ⟨x3, y3, z3⟩ := H3.out
          go_wp2_with fail
          refine (RefEqual_c x x A5 c5 B5 e5 A1 c1 B1 e1 true _ HOW.out (HX.out.on HBW.out (Nat.le_refl _)) (eqN_yes rfl)).mono ?_
          rintro r w9 ⟨rfl, hb9⟩
          have HB9 := Lib.hid (bel_on HBW.out hb9)
          clear hb9
          go_wp2
          go_ret
          exact ⟨rfl, HB9.out⟩
end Go.Proofs.Ytgleanjfaecceaa
