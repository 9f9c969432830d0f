/- The law of layer 7 that following changes nothing. -/
import Derived.Test.YtgicohajmnoedaaLaw07
import Derived.Test.YtgicohajmnoedaaRef04
namespace Go.Proofs.Ytgicohajmnoedaa
open Go.ChangeShapes Go.WideShapes Go.ChangeAt Go.RowKit
set_option linter.unusedVariables false
set_option linter.unusedSimpArgs false
attribute [local irreducible] followF fewB hasB wordV sameS

theorem GotS.empty_made (w : World) {base : Nat} (hb : base ≤ w.heap.size) : GotS (w.alloc (.cells #[] 40)) base (.slice (some ⟨w.heap.size, 0, none⟩) 0 0) [] :=
  ⟨[], World.ownsRow_made w #[] 0 hb (Nat.zero_le _) rfl, fun j hj => by simp at hj⟩

set_option maxHeartbeats 4000000 in
set_option maxRecDepth 100000 in
theorem Keeps7_walk (A : Option Addr) (c : Nat) (ls : List (List Int)) (s a : Int) (w : World) (hA : Sg w A ls) (hw : Wd2 ls) (hnil : A = none → c = 0) (hlm : ls.length ≤ 9223372036854775807) (hlc : ls.length ≤ c) (hcm : c ≤ 9223372036854775807)
    (s0 : -9223372036854775808 ≤ s) (s1 : s ≤ 9223372036854775807) (a0 : -9223372036854775808 ≤ a) (a1 : a ≤ 9223372036854775807) :
    Calls Try.prog 6 #[.slice A ls.length c, .int .i64 s, .int .i64 a] w fun e w' => e = .returned (.bool true) ∧ Below w.heap.size w w' := by
  go_enter Try.func6, Try.ntmps6
  go_wp2_with fail
  refine (awake_any _).mono ?_
  rintro e w1 ⟨rfl, hw1⟩
  have HS1 := Lib.hid (hA.below hw1 (Nat.le_refl _))
  go_wp2_with fail
  refine (Few_any A c ls _ HS1.out hlm).mono ?_
  rintro e w' ⟨rfl, rfl⟩
  cases hf : fewB ls with
  | false =>
    have HF := Lib.hid hf
    clear hf
    go_wp2_with fail
    refine (awake_any _).mono ?_
    rintro e w2 ⟨rfl, hw2⟩
    go_wp2
    go_ret
    exact ⟨rfl, bel_on hw1 hw2⟩
  | true =>
    have hfit := few_fits hf
    have hm : ls.length ≤ 140737488355328 := by omega
    have HFT : Hid (∀ j, (seg ls j).length ≤ 140737488355328) := Lib.hid (fun j => by have := hfit.1 j; omega)
    have HL300 : Hid (∀ j, (seg ls j).length ≤ 300) := Lib.hid hfit.1
    have hc20 : ls.length ≤ 20 := hfit.2
    clear hfit hf
    obtain ⟨⟨x, y, z, e0⟩, hq⟩ : ∃ q, followF ls s a = q := ⟨_, rfl⟩
    have hx := fol_bd hw s a
    have hcs := fol_cases hw s a
    rw [hq] at hx hcs
    have HQ := Lib.hid hq
    have HB1 := Lib.hid hw1
    have hz1 := hw1.size
    clear hw1 hq
    simp only at hx hcs
    obtain ⟨i0, hi, hy0, hy1, hy2⟩ := info_parts int64_info
    have HG0 := Lib.hid (GotS.empty_made w1 hz1)
    have HB1' := Lib.hid (HB1.out.alloc hz1 (.cells #[] 40))
    go_wp2
    go_loopw [7, 8] (fun v i wr => ∃ k : Nat, k ≤ ls.length ∧ i = .int .i64 k ∧ GotS wr w.heap.size v (ls.take k) ∧ Below w.heap.size w wr) (fun _ i _ => ls.length - (intOf i).toNat)
    case atStart => exact ⟨0, by omega, rfl, HG0.out, HB1'.out⟩
    case round =>
      obtain ⟨k, hk, rfl, hgk, hbk⟩ := hrel
      have HG := Lib.hid hgk
      have HB := Lib.hid hbk
      have hzk := hbk.size
      clear HG0 HB1' HB1 HS1 hgk
      by_cases hlt : k < ls.length
      · have hsg := (hA.below hbk (Nat.le_refl _)).below ((Below.refl wr.heap.size wr).alloc (Nat.le_refl _) (.cells #[] 23)) (Nat.le_refl _)
        obtain ⟨b, off, A', c', rfl, hcell, hri, hn', hc1, hc2⟩ := hsg.one hlt
        have hk1 : (k : Int) < (ls.length : Int) := by omega
        have HRI := Lib.hid hri
        have HN' := Lib.hid hn'
        have HE := Lib.hid (Got.empty_made wr 23 .u64 (Nat.le_refl _))
        have HT := Lib.hid (take_succ_seg ls k hlt)
        have HTL : Hid ((ls.take k).length = k) := Lib.hid (by rw [List.length_take]; omega)
        have h300 := HL300.out k
        have HBA := Lib.hid ((Below.refl wr.heap.size wr).alloc (Nat.le_refl _) (.cells #[] 23))
        clear hsg hbk hri hn'
        go_wp2_with (first
          | (at_builtin; refine wpList_appN rfl (.tmp 33) (.tmp 37) 40 rfl Try.underlying40 hi hy0 hy1 hy2 rfl HE.out rfl HRI.out HN'.out (by unfold maxLen; simp; omega) (by simp; omega) (by first | omega | (simp; done) | (simp; omega)) ?_; intro v2 w2 hg2 hb2; obtain ⟨A2, c2, rfl, -, -, -⟩ := hg2.slice; have hbw := HBA.out.trans hb2; have HG2 := Lib.hid (hg2.mono hzk); have hz2 := hbw.size; have HB2 := Lib.hid (HB.out.trans (hbw.mono hzk)); have HGS2 := Lib.hid (HG.out.below hbw (Nat.le_refl _)); clear hg2 hb2 hbw)
          | (at_builtin; refine wpList_appS rfl (.tmp 32) (.tmp 39) 22 rfl Try.underlying22 rfl HGS2.out HG2.out rfl (by rw [HTL.out]; omega) (by omega) ?_; intro v5 w5 hg5 hb5))
        go_roundw
        case rel => exact ⟨k + 1, by omega, by go_num, by rw [HT.out]; exact hg5, HB2.out.trans hb5⟩
        case measure => simp [intOf]; omega
      · obtain rfl : k = ls.length := by omega
        have hg := HG.out
        rw [List.take_length] at hg
        obtain ⟨A2, c2, rfl, hq1, hq2, hsg2⟩ := hg.slice
        have HS2 := Lib.hid hsg2
        have HB3 := Lib.hid hbk
        have HS3 := Lib.hid (hA.below hbk (Nat.le_refl _))
        clear hg HG hsg2 HB hbk
        go_wp2_with fail
        refine (FFollow_is A2 c2 ls s a x y z e0 _ HS2.out hw hm HFT.out s0 s1 a0 a1 HQ.out).mono ?_
        rintro e w4 ⟨rfl, hb4⟩
        have HSa4 := Lib.hid (HS2.out.below hb4 (Nat.le_refl _))
        have HSb4 := Lib.hid (HS3.out.below hb4 (Nat.le_refl _))
        have HB4 := Lib.hid (HB3.out.trans (hb4.mono hzk))
        have hz4 := hb4.size
        clear hb4 HS2 HS3 HB3
        go_wp2_with fail
        refine (FFollow_is A c ls s a x y z e0 _ HSb4.out hw hm HFT.out s0 s1 a0 a1 HQ.out).mono ?_
        rintro e w5 ⟨rfl, hb5⟩
        have HSa5 := Lib.hid (HSa4.out.below hb5 (Nat.le_refl _))
        have HSb5 := Lib.hid (HSb4.out.below hb5 (Nat.le_refl _))
        have HB5 := Lib.hid (HB4.out.trans (hb5.mono (by omega)))
        clear hb5 HSa4 HSb4 HB4
        go_wp2_with fail
        refine (Same4_any A2 A c2 c ls ls _ HSa5.out HSb5.out hlm hlm).mono ?_
        rintro e w6 ⟨rfl, m6, rfl⟩
        have HBF := Lib.hid (bel_drewN HB5.out m6)
        rw [sameS_self]
        rcases hcs with ⟨h1 | h1, rfl, rfl, rfl⟩ | ⟨rfl, -, -, -⟩
        · subst h1
          clear hx
          go_wp2
          go_ret
          exact ⟨rfl, HBF.out⟩
        · subst h1
          clear hx
          go_wp2
          go_ret
          exact ⟨rfl, HBF.out⟩
        · go_wp2
          go_ret
          exact ⟨rfl, HBF.out⟩
end Go.Proofs.Ytgicohajmnoedaa
