/- A law of layer 12: DenoteKeepsMessage. -/
import Derived.Test.YtnmanhediiooaaaDoorLaw12
import Derived.Test.YtnmanhediiooaaaDoorMg5
import Derived.StillTailTactics
namespace Go.Proofs.YtnmanhediiooaaaDoor
open Go.ChangeShapes Go.WideShapes Go.ChangeAt Go.RowKit
set_option linter.unusedVariables false
set_option linter.unusedSimpArgs false
set_option maxRecDepth 100000

attribute [local irreducible] msgV measV smallB fewB
set_option maxHeartbeats 8000000 in
set_option maxRecDepth 100000 in
theorem Keep12_walk (A : Option Addr) (c : Nat) (ls : List (List Int)) (D X O : Int) (w : World) (hT : TabOK w) (hA : Sg w A ls) (hw : Wd2 ls) (hnil : A = none → c = 0) (hlm : ls.length ≤ 9223372036854775807) (hlc : ls.length ≤ c) (hcm : c ≤ 9223372036854775807)
    (d0 : -9223372036854775808 ≤ D) (d1 : D ≤ 9223372036854775807) (x0 : -9223372036854775808 ≤ X) (x1 : X ≤ 9223372036854775807) :
    Calls Tryd.prog 6 #[.slice A ls.length c, .agg #[.int .i64 D, .int .i64 X, .int .i64 O]] w fun e w' => e = .returned (.bool true) ∧ Below w.heap.size w w' := by
  have HT := Lib.hid hT
  have Hm := Lib.hid hA
  have HW := Lib.hid hw
  clear hT hA hw hnil
  go_enter Tryd.func6, Tryd.ntmps6
  go_wp2_with fail
  refine abs_world (F := fun W => Sg W A ls ∧ Blk W w.heap.size #[.int .i64 D, .int .i64 X, .int .i64 O] ∧ Below w.heap.size w W) ⟨?_, ?_, ?_⟩ ?_
  · exact (Hm.out.alloc _)
  · exact Blk.fresh _ _ _
  · exact ((Below.refl w.heap.size w).alloc (by first | exact Nat.le_refl _ | (simp; done) | (simp; omega)) _)
  clear Hm
  rintro W1 ⟨hm, hl, hb⟩
  have Hm := Lib.hid hm
  have Hl := Lib.hid hl
  have HB := Lib.hid hb
  clear hb hm hl
  refine (awake12_any _ (HT.out.on HB.out)).mono ?_
  rintro r w2 ⟨rfl, hb⟩
  have fm := Hm.out.below hb (Nat.le_refl _)
  have fl := Hl.out.below hb
  have HB0 := Lib.hid (bel_on HB.out hb)
  clear hb Hm Hl HB
  have HB := HB0
  clear HB0
  have Hm := Lib.hid fm
  clear fm
  have Hl := Lib.hid fl
  clear fl
  obtain ⟨xl, yl, zl⟩ := Hl.out
  go_wp2_with fail
  clear xl yl zl
  refine (RefSmall_any A c ls D X O _ Hm.out hlm).mono ?_
  rintro r w3 ⟨rfl, hb⟩
  have fm := Hm.out.below hb (Nat.le_refl _)
  have fl := Hl.out.below hb
  have HB0 := Lib.hid (bel_on HB.out hb)
  clear hb Hm Hl HB
  have HB := HB0
  clear HB0
  have Hm := Lib.hid fm
  clear fm
  have Hl := Lib.hid fl
  clear fl
  cases hsm : smallB ls D X with
  | false =>
    clear hsm
    go_wp2_with fail
    refine (awake12_any _ (HT.out.on HB.out)).mono ?_
    rintro r w4 ⟨rfl, hb⟩
    have fm := Hm.out.below hb (Nat.le_refl _)
    have fl := Hl.out.below hb
    have HB0 := Lib.hid (bel_on HB.out hb)
    clear hb Hm Hl HB
    have HB := HB0
    clear HB0
    have Hm := Lib.hid fm
    clear fm
    have Hl := Lib.hid fl
    clear fl
    go_wp2
    go_ret
    exact ⟨rfl, HB.out⟩
  | true =>
    obtain ⟨hD, hX, hl20, hf⟩ := small_fits hsm
    have HF : Hid (∀ j, (seg ls j).length ≤ 20000000) := Lib.hid (fun j => by have := hf j; omega)
    have hm' : ls.length ≤ 40 := by omega
    clear hsm hf
    obtain ⟨i0, hi, hy0, hy1, hy2⟩ := info_parts int64_info
    obtain ⟨⟨T, e⟩, hq⟩ : ∃ q, msgV ls D X = q := ⟨_, rfl⟩
    have hsz := msg_size HW.out hm' HF.out D X
    have hsx : startI X ≤ 2000 := by unfold startI; split <;> omega
    rw [hq] at hsz
    simp only at hsz
    have HTS : Hid (T.ks.length ≤ 1048576 ∧ T.d.length ≤ 1048576) := Lib.hid (by
      have h1 := sizeK_length T.ks
      have h2 := sizeK_ks T
      have h5 : T.d.length ≤ sizeN T := (by cases T; simp only [Nd.d, sizeN]; omega)
      omega)
    have HQ := Lib.hid hq
    clear hq hsz hsx
    have HG0 := Lib.hid (GotS.made0 w3 (Nat.le_refl _))
    have HB1' := Lib.hid ((Below.refl w3.heap.size w3).alloc (Nat.le_refl _) (.cells #[] 40))
    go_wp2
    go_loopw [5, 6] (fun v i wr => ∃ k : Nat, k ≤ ls.length ∧ i = .int .i64 k ∧ GotS wr w3.heap.size v (ls.take k) ∧ Below w3.heap.size w3 wr) (fun _ i _ => ls.length - (intOf i).toNat)
    case atStart => exact ⟨0, by omega, rfl, HG0.out, HB1'.out⟩
    case round =>
      obtain ⟨k, hk, rfl, hgk, hbk⟩ := hrel
      have HG := Lib.hid hgk
      have HBk := Lib.hid hbk
      have hzk := hbk.size
      clear HG0 HB1' hgk
      by_cases hlt : k < ls.length
      · have hsg := (Hm.out.below hbk (Nat.le_refl _)).below ((Below.refl wr.heap.size wr).alloc (Nat.le_refl _) (.cells #[] 43)) (Nat.le_refl _)
        obtain ⟨b, off, A', c', rfl, hcell, hri, hn', hc1, hc2⟩ := hsg.one hlt
        have hk1 : (k : Int) < (ls.length : Int) := by omega
        have HRI := Lib.hid hri
        have HN' := Lib.hid hn'
        have HE := Lib.hid (Got.empty_made wr 43 .u64 (Nat.le_refl _))
        have HTK := Lib.hid (take_succ_seg ls k hlt)
        have HTL : Hid ((ls.take k).length = k) := Lib.hid (by rw [List.length_take]; omega)
        have h600 := HF.out k
        have HBA := Lib.hid ((Below.refl wr.heap.size wr).alloc (Nat.le_refl _) (.cells #[] 43))
        clear hsg hbk hri hn'
        go_wp2_with (first
          | (at_builtin; refine wpList_appN rfl (.tmp 27) (.tmp 31) 40 rfl Tryd.underlying40 hi hy0 hy1 hy2 rfl HE.out rfl HRI.out HN'.out (by unfold maxLen; simp; omega) (by simp; omega) (by first | omega | (simp; done) | (simp; omega)) ?_; intro v2 u2 hg2 hb2; obtain ⟨A2, c2, rfl, -, -, -⟩ := hg2.slice; have hbw := HBA.out.trans hb2; have HG2 := Lib.hid (hg2.mono hzk); have hz2 := hbw.size; have HB2 := Lib.hid (HBk.out.trans (hbw.mono hzk)); have HGS2 := Lib.hid (HG.out.below hbw (Nat.le_refl _)); clear hg2 hb2 hbw)
          | (at_builtin; refine wpList_appS rfl (.tmp 26) (.tmp 33) 22 rfl Tryd.underlying22 rfl HGS2.out HG2.out rfl (by rw [HTL.out]; omega) (by omega) ?_; intro v5 u5 hg5 hb5))
        go_roundw
        case rel => exact ⟨k + 1, by omega, by go_num, by rw [HTK.out]; exact hg5, HB2.out.trans hb5⟩
        case measure => simp [intOf]; omega
      · obtain rfl : k = ls.length := by omega
        have hg := HG.out
        rw [List.take_length] at hg
        obtain ⟨A2, c2, rfl, hq1, hq2, hsg2⟩ := hg.slice
        have HS2 := Lib.hid hsg2
        have HS3 := Lib.hid (Hm.out.below hbk (Nat.le_refl _))
        have HBW := Lib.hid (bel_on HB.out hbk)
        obtain ⟨xl, yl, zl⟩ := Hl.out.below hbk
        clear hg HG hsg2 HB hbk HBk Hm Hl
        go_wp2_with fail
        have hmu := DMessageU_any A2 c2 ls D X O wr (HT.out.on HBW.out) HS2.out HW.out hm' HF.out (by omega) (by omega)
        rw [HQ.out] at hmu
        simp only at hmu
        refine hmu.mono ?_
        clear hmu
        rintro r w6 ⟨v6, rfl, ⟨A6, c6, B6, e6, hi6, rfl, hh6, ho6, hu6, hu7, hu8⟩, hb6⟩
        have hz6 := hb6.size
        have HB56 := Lib.hid hb6
        have HD := Lib.hid ((ho6.wide (Nat.le_refl _) hh6).byt hu6)
        have HRW : Hid (T.ks.length = 0 ∨ ∃ b off FA FL FC, B6 = some ⟨b, off, none⟩ ∧ Rws w6 wr.heap.size w6.heap.size b off FA FL FC 0 T.ks.length) := Lib.hid (by
          by_cases h0 : T.ks.length = 0
          · exact .inl h0
          · obtain ⟨b, off, hB, -, -⟩ := ho6.row (j := 0) (by omega)
            obtain ⟨FA, FL, FC, hr⟩ := (ho6.wide (Nat.le_refl _) hh6).rws hB (by omega) hu7 hu8
            exact .inr ⟨b, off, FA, FL, FC, hB, hr⟩)
        have HCA : Hid (T.d.length ≤ c6 ∧ c6 ≤ 9223372036854775807 ∧ T.ks.length ≤ e6 ∧ e6 ≤ 9223372036854775807) := Lib.hid (by
          have hn := ho6.nd
          obtain ⟨k, e, n, d, ks⟩ := T
          have h := hn.open
          exact ⟨h.2.2.2.2.2.1, h.2.2.2.2.2.2.1, h.2.2.2.2.2.2.2.2.1, h.2.2.2.2.2.2.2.2.2.1⟩)
        clear hb6 ho6 hu6 hu7 hu8 hh6 xl yl zl
        obtain ⟨bt, hbte⟩ : ∃ bt, bt = w6.heap.size := ⟨_, rfl⟩
        obtain ⟨b5, hb5e⟩ : ∃ b5, b5 = wr.heap.size := ⟨_, rfl⟩
        have HBT := Lib.hid hbte
        have HB5 := Lib.hid hb5e
        have hb5t : b5 ≤ bt := by omega
        have htl := HTS.out
        have hcl := HCA.out
        go_wp2
        rw [← hbte]
        clear hbte hb5e
        generalize wr = wq at *
        go_loopw [9] (fun i wr => ∃ k : Nat, k ≤ T.d.length ∧ i = .int .i64 k ∧ Blk wr bt #[.int .i64 T.k, .int .i64 T.e, .int .i64 T.n, .slice A6 T.d.length c6, .slice B6 T.ks.length e6] ∧ Byt wr b5 bt A6 T.d.length ∧ (T.ks.length = 0 ∨ ∃ b off FA FL FC, B6 = some ⟨b, off, none⟩ ∧ Rws wr b5 bt b off FA FL FC 0 T.ks.length) ∧ Below b5 wq wr) (fun i _ => T.d.length - (intOf i).toNat)
        case atStart =>
          have hal := (Below.refl w6.heap.size w6).alloc (Nat.le_refl _) (.cells #[.int .i64 T.k, .int .i64 T.e, .int .i64 T.n, .slice A6 T.d.length c6, .slice B6 T.ks.length e6] 30)
          refine ⟨0, Nat.zero_le _, rfl, ?_, ?_, ?_, ?_⟩
          · rw [HBT.out]; exact Blk.fresh _ _ _
          · rw [HB5.out, HBT.out]; exact HD.out.below hal (Nat.le_refl _)
          · rcases HRW.out with h | ⟨b, off, FA, FL, FC, h1, h2⟩
            · exact .inl h
            · exact .inr ⟨b, off, FA, FL, FC, h1, by rw [HB5.out, HBT.out]; exact h2.below hal (Nat.le_refl _)⟩
          · rw [HB5.out]; exact HB56.out.alloc HB56.out.size _
        case round =>
          rename World => wi
          obtain ⟨k, hk, rfl, h4, hby, hrw, hb⟩ := hrel
          clear HD HRW
          have H4 := Lib.hid h4
          have HRW := Lib.hid hrw
          have HBR := Lib.hid hb
          have HBY := Lib.hid hby
          clear hrw hb hby
          obtain ⟨x4, y4, z4⟩ := h4
          by_cases hlt : k < T.d.length
          · rcases HBY.out with h0 | ⟨b, off, hA, g1, g2, g3, g4⟩
            · omega
            subst hA
            obtain ⟨z, hz0, hz1, hc⟩ := g4 k hlt
            have hfz := g3 (off + k)
            have hi1 : (k : Int) < (T.d.length : Int) := by omega
            have HC := Lib.hid hc
            have HG := Lib.hid (And.intro g1 g2)
            clear g1 g2 g3 g4
            go_wp2
            go_still_tail 10, (by kernel_rfl)
            change wpList _ _ _ _ _ wi.drew
            go_wp2
            go_roundw
            case rel =>
              have hm0 : 0 ≤ (z + 1) % 256 := by omega
              have hm1 : (z + 1) % 256 < 256 := by omega
              refine ⟨k + 1, by omega, by go_num, ?_, ?_, ?_, ?_⟩
              · exact (H4.out.drew).other (by have := HG.out; show b ≠ bt; omega) _
              · exact HBY.out.put (w := wi.drew) HC.out hm0 hm1
              · rcases HRW.out with h | ⟨b', off', FA, FL, FC, h1, h2⟩
                · exact .inl h
                · exact .inr ⟨b', off', FA, FL, FC, h1, Rws.put (w := wi.drew) h2 HC.out hm0 hm1⟩
              · exact (bel_drew HBR.out).setCell (by have := HG.out; show b5 ≤ b; omega) _
            case measure => simp [intOf]; omega
          · clear HBY
            have hsame : ∀ (w' : World), Below b5 wq w' → Calls Tryd.prog 15 #[.slice A2 ls.length c2, .slice A ls.length c] w' fun e w'' => e = .returned (.bool true) ∧ ∃ m, w'' = w'.drewN m := fun w' hb' => by
              have h := Same4_any A2 A c2 c ls ls w' (HS2.out.below hb' (by rw [HB5.out]; exact Nat.le_refl _)) (HS3.out.below hb' (by rw [HB5.out]; exact Nat.le_refl _)) hlm hlm
              rwa [sameS_self] at h
            have HSM := Lib.hid hsame
            have HBF : Hid (∀ w', Below b5 wq w' → Below w.heap.size w w') := Lib.hid (fun w' hb' => HBW.out.trans (hb'.mono (by rw [HB5.out]; exact HBW.out.size)))
            clear hsame
            rcases HRW.out with h0 | ⟨b, off, FA, FL, FC, hB, hr⟩
            · have tk : ¬ ((0 : Int) < (T.ks.length : Int)) := by omega
              clear h0
              go_wp2_with fail
              refine (HSM.out _ HBR.out).mono ?_
              rintro r w9 ⟨rfl, m, rfl⟩
              go_wp2
              go_ret
              exact ⟨rfl, bel_drewN (HBF.out _ HBR.out) m⟩
            · subst hB
              by_cases h0 : T.ks.length = 0
              · have tk : ¬ ((0 : Int) < (T.ks.length : Int)) := by omega
                clear h0 hr
                go_wp2_with fail
                refine (HSM.out _ HBR.out).mono ?_
                rintro r w9 ⟨rfl, m, rfl⟩
                go_wp2
                go_ret
                exact ⟨rfl, bel_drewN (HBF.out _ HBR.out) m⟩
              · have tk : decide ((0 : Int) < (T.ks.length : Int)) = true := decide_eq_true (by omega)
                obtain ⟨g1, g2, g3, g4⟩ := hr
                obtain ⟨⟨k0, ke, kn, Bk, lk, ck, q0, q1, q2, q3, q4⟩, -⟩ := g4 0 (Nat.le_refl _) (by omega)
                simp only [Nat.zero_mul, Nat.add_zero] at q0 q1 q2 q3 q4
                have f0 := g3 off
                have f1 := g3 (off + 1)
                have f2 := g3 (off + 2)
                have f3 := g3 (off + 3)
                have f4 := g3 (off + 4)
                have hi0 : (0 : Int) < (T.ks.length : Int) := by omega
                have HG := Lib.hid (And.intro g1 g2)
                clear g1 g2 g3 g4 h0
                go_wp2_with fail
                have HB5 : Hid (b5 ≤ b) := Lib.hid HG.out.1
                have hbs := fun v0 v1 v2 v3 v4 => ((((HBR.out.setCell (p := ⟨b, off, none⟩) HB5.out v0).setCell (p := ⟨b, off + 1, none⟩) HB5.out v1).setCell (p := ⟨b, off + 2, none⟩) HB5.out v2).setCell (p := ⟨b, off + 3, none⟩) HB5.out v3).setCell (p := ⟨b, off + 4, none⟩) HB5.out v4
                refine (HSM.out _ (hbs _ _ _ _ _)).mono ?_
                rintro r w9 ⟨rfl, m, rfl⟩
                clear q0 q1 q2 q3 q4 f0 f1 f2 f3 f4
                have HFN := Lib.hid (HBF.out _ (hbs (.int .i64 0) (.int .i64 0) (.int .i64 5) (.slice none 0 0) (.slice none 0 0)))
                clear hbs
                go_wp2
                go_ret
                exact ⟨rfl, bel_drewN HFN.out m⟩
end Go.Proofs.YtnmanhediiooaaaDoor
