/- The laws of layer 4: the functions are those of the reference; the two directions are inverse. -/
import Derived.Test.YtmnhodbppadpdaaAwake04
namespace Go.Proofs.Ytmnhodbppadpdaa
open Go.ChangeShapes Go.WideShapes Go.ChangeAt Go.RowKit
set_option linter.unusedVariables false
set_option linter.unusedSimpArgs false

theorem few_ok {ls : List (List Int)} (h : fewB ls = true) (hw : Wd2 ls) (hp : 0 < ls.length) : MsgOK ls :=
  ⟨hw, hp, by have := (few_fits h).2; omega, fun j => by have := (few_fits h).1 j; omega⟩
theorem ser_yes {ls : List (List Int)} (h : 0 < ls.length) (h2 : ls.length ≤ 512) : serR ls = serL ls ∧ errS ls = 0 := by
  have : okS ls = true := decide_eq_true ⟨h, h2⟩
  exact ⟨by unfold serR; rw [if_pos this], by unfold errS; rw [if_pos this]⟩
theorem ser_no {ls : List (List Int)} (h : ls.length = 0) : serR ls = [] ∧ errS ls = 1 := by
  have : okS ls = false := decide_eq_false (by omega)
  exact ⟨by unfold serR; rw [if_neg (by rw [this]; exact Bool.false_ne_true)], by unfold errS; rw [if_neg (by rw [this]; exact Bool.false_ne_true)]⟩
theorem sizeI_few {ls : List (List Int)} (h : fewB ls = true) : 0 ≤ sizeI ls ∧ sizeI ls ≤ 6000 := by
  have h1 := few_fits h
  have h2 := sizeI_le h1.1 ls.length (Nat.le_refl _)
  rw [List.take_length] at h2
  have h3 := sizeI_nonneg ls
  refine ⟨h3, Int.le_trans h2 ?_⟩
  have := h1.2
  omega
theorem serR_few {ls : List (List Int)} (h : fewB ls = true) : (serR ls).length ≤ 60000 := by
  have h1 := few_fits h
  have h3 := sizeI_few h
  by_cases hp : 0 < ls.length
  · rw [(ser_yes hp (by omega)).1]
    have := serL_length ls hp
    unfold tbl at this
    omega
  · rw [(ser_no (by omega)).1]; simp
theorem errS_01 (ls : List (List Int)) : errS ls = 0 ∨ errS ls = 1 := by unfold errS; split <;> simp
theorem errF_01 (b : List Int) : errF b = 0 ∨ errF b = 1 := by unfold errF; split <;> simp
theorem serL_bts {ls : List (List Int)} (h : MsgOK ls) : Bts (serL ls) := by
  unfold serL lensL bodyL padL
  have hp := h.pos
  have hl := h.le
  intro z hz
  rcases List.mem_append.1 hz with hz | hz
  · rcases List.mem_append.1 hz with hz | hz
    · rcases List.mem_append.1 hz with hz | hz
      · exact put4_bts _ (by omega) (by omega) z hz
      · simp only [List.mem_flatMap] at hz
        obtain ⟨l, hl2, hz⟩ := hz
        obtain ⟨j, hj, rfl⟩ := List.getElem_of_mem hl2
        have e : ls[j] = seg ls j := by rw [seg, List.getD_eq_getElem?_getD, List.getElem?_eq_getElem hj]; rfl
        have := h.fits j
        rw [e] at hz
        exact put4_bts _ (by omega) (by omega) z hz
    · split at hz
      · exact put4_bts 0 (by omega) (by omega) z hz
      · cases hz
  · simp only [List.mem_flatMap] at hz
    obtain ⟨l, _, hz⟩ := hz
    exact bytesOf_bts l z hz
theorem serR_bts {ls : List (List Int)} (h : fewB ls = true) (hw : Wd2 ls) : Bts (serR ls) := by
  have h1 := few_fits h
  by_cases hp : 0 < ls.length
  · rw [(ser_yes hp (by omega)).1]
    exact serL_bts (few_ok h hw hp)
  · rw [(ser_no (by omega)).1]; intro z hz; cases hz

theorem RefSer_any (A : Option Addr) (c : Nat) (ls : List (List Int)) (w : World) (hs : Sg w A ls) (hw : Wd2 ls) (hf : fewB ls = true) :
    Calls Try.prog 13 #[.slice A ls.length c] w fun e w' => ∃ v, e = .returned (.tuple #[v, .int .i64 (errS ls)]) ∧ Got w' w.heap.size 5 .u8 v (serR ls) ∧ Below w.heap.size w w' := by
  have h1 := few_fits hf
  by_cases hp : 0 < ls.length
  · obtain ⟨e1, e2⟩ := ser_yes hp (by omega)
    rw [e1, e2]
    exact RefSer_yes A c ls w hs hw hp (by omega) (fun j => by have := h1.1 j; omega)
  · obtain ⟨e1, e2⟩ := ser_no (ls := ls) (by omega)
    rw [e1, e2]
    refine (RefSer_no A c ls.length w (by omega) (by omega)).mono ?_
    rintro e w' ⟨rfl, rfl⟩
    exact ⟨_, rfl, Got.empty _ _ _ _, Below.refl _ _⟩

attribute [local irreducible] serR errS resF errF okF serL

set_option maxHeartbeats 2000000 in
theorem MatchesReference4_walk (A B : Option Addr) (c d : Nat) (b : List Int) (ls : List (List Int)) (n : Int) (w : World) (hA : Ri w .u8 A b) (hb : Bts b) (hnil : A = none → c = 0) (hbm0 : b.length ≤ 9223372036854775807) (hbc : b.length ≤ c) (hcm : c ≤ 9223372036854775807)
    (hB : Sg w B ls) (hw : Wd2 ls) (hnil2 : B = none → d = 0) (hlm : ls.length ≤ 9223372036854775807) (hlc : ls.length ≤ d) (hdm : d ≤ 9223372036854775807) (hn : 0 ≤ n) (hn2 : n < 65536) :
    Calls Try.prog 3 #[.slice A b.length c, .slice B ls.length d, .int .u16 n] w fun e w' => e = .returned (.bool true) ∧ Below w.heap.size w w' := by
  by_cases hlong : b.length ≤ 3000
  · have hbm : b.length ≤ 140737488355328 := by omega
    go_enter Try.func3, Try.ntmps3
    go_wp2_with fail
    refine (awake_any _).mono ?_
    rintro e w1 ⟨rfl, hw1⟩
    have HS1 := Lib.hid (hB.below hw1 (Nat.le_refl _))
    go_wp2_with fail
    refine (Few_any B d ls _ HS1.out hlm).mono ?_
    rintro e w' ⟨rfl, rfl⟩
    cases hf : fewB ls with
    | false =>
      have HF := Lib.hid hf
      clear hf
      go_wp2_with fail
      refine (awake_any _).mono ?_
      rintro e w2 ⟨rfl, hw2⟩
      go_wp2
      go_ret
      exact ⟨rfl, bel_on hw1 hw2⟩
    | true =>
      have hfit := few_fits hf
      have hsl := serR_few hf
      have HF := Lib.hid hf
      have HFIT := Lib.hid hfit
      have hl20 := hfit.2
      clear hf hfit
      have HA1 := Lib.hid (hA.below hw1 (Nat.le_refl _))
      go_wp2_with fail
      refine (FParse_any A c b _ HA1.out hb hnil hbm hbc hcm).mono ?_
      rintro e w2 ⟨v2, rfl, hg2, hw2⟩
      obtain ⟨A2, c2, rfl, _, _, hs2⟩ := hg2.slice
      have hb2 := bel_on hw1 hw2
      have HA2 := Lib.hid (hA.below hb2 (Nat.le_refl _))
      clear hg2 hw1 hw2
      go_wp2_with fail
      refine (RefParse_any A c b _ HA2.out hb hbm hbc hcm).mono ?_
      rintro e w3 ⟨v3, rfl, hg3, hw3⟩
      obtain ⟨A3, c3, rfl, _, _, hs3⟩ := hg3.slice
      have hb3 := bel_on hb2 hw3
      have HS2 := Lib.hid (hs2.below hw3 (Nat.le_refl _))
      have HS3 := Lib.hid hs3
      have HB3 := Lib.hid (hB.below hb3 (Nat.le_refl _))
      clear hg3 hw3 hb2 hs2 hs3
      go_wp2_with fail
      refine (FSer_any B d ls _ HB3.out hw (fun j => by have := HFIT.out.1 j; omega) hnil2 hlc hdm (by omega)).mono ?_
      rintro e w4 ⟨v4, rfl, hg4, hw4⟩
      obtain ⟨A4, c4, rfl, _, _, hr4⟩ := hg4.slice
      have hb4 := bel_on hb3 hw4
      have HS2 := Lib.hid (HS2.out.below hw4 (Nat.le_refl _))
      have HS3 := Lib.hid (HS3.out.below hw4 (Nat.le_refl _))
      have HB4 := Lib.hid (hB.below hb4 (Nat.le_refl _))
      have HR4 := Lib.hid hr4
      clear hg4 hw4 hb3 hr4
      go_wp2_with fail
      refine (RefSer_any B d ls _ HB4.out hw HF.out).mono ?_
      rintro e w5 ⟨v5, rfl, hg5, hw5⟩
      obtain ⟨A5, c5, rfl, _, _, hr5⟩ := hg5.slice
      have hb5 := bel_on hb4 hw5
      have HS := Lib.hid (Same4_any A2 A3 c2 c3 (resF b) (resF b) w5 (HS2.out.below hw5 (Nat.le_refl _)) (HS3.out.below hw5 (Nat.le_refl _)))
      have HT := Lib.hid (fun m => Same_any A4 A5 c4 c5 (serR ls) (serR ls) (w5.drewN m) ((HR4.out.below hw5 (Nat.le_refl _)).drewN m) (hr5.drewN m) (by omega) (by omega))
      rw [sameS_self] at HS
      rw [sameB_self] at HT
      have HB5 := Lib.hid hb5
      clear hg5 hw5 hb4 hr5 hb5
      have hrl : (resF b).length ≤ 9223372036854775807 := by
        cases hk : okF b with
        | false => rw [res_no hk]; simp
        | true => have := (res_ok hb hk).1.le; omega
      have te : (errF b == errF b) = true := by simp
      have ts : (errS ls == errS ls) = true := by simp
      have tt : (tbl (1 + n % 512) == 8 * ((1 + n % 512) / 2) + 8) = true := by unfold tbl; simp
      go_wp2_with fail
      refine (HS.out hrl hrl).mono ?_
      rintro e w' ⟨rfl, m, rfl⟩
      go_wp2_with fail
      refine (HT.out m).mono ?_
      rintro e w' ⟨rfl, m2, rfl⟩
      go_wp2_with fail
      refine (FTable_any (1 + n % 512) _ (by omega) (by omega)).mono ?_
      rintro e w' ⟨rfl, rfl⟩
      go_wp2_with fail
      refine (TableBytes_any (1 + n % 512) _ (by omega) (by omega)).mono ?_
      rintro e w' ⟨rfl, rfl⟩
      go_wp2
      go_ret
      exact ⟨rfl, bel_drewN HB5.out _⟩
  · have hgt : (3000 : Int) < (b.length : Int) := by omega
    go_enter Try.func3, Try.ntmps3
    go_wp2_with fail
    refine (awake_any _).mono ?_
    rintro e w1 ⟨rfl, hw1⟩
    go_wp2_with fail
    refine (awake_any _).mono ?_
    rintro e w2 ⟨rfl, hw2⟩
    go_wp2
    go_ret
    exact ⟨rfl, bel_on hw1 hw2⟩

set_option maxHeartbeats 4000000 in
theorem Bijection4_walk (A B : Option Addr) (c d : Nat) (b : List Int) (ls : List (List Int)) (w : World) (hA : Ri w .u8 A b) (hb : Bts b) (hnil : A = none → c = 0) (hbm0 : b.length ≤ 9223372036854775807) (hbc : b.length ≤ c) (hcm : c ≤ 9223372036854775807)
    (hB : Sg w B ls) (hw : Wd2 ls) (hnil2 : B = none → d = 0) (hlm : ls.length ≤ 9223372036854775807) (hlc : ls.length ≤ d) (hdm : d ≤ 9223372036854775807) :
    Calls Try.prog 4 #[.slice A b.length c, .slice B ls.length d] w fun e w' => e = .returned (.bool true) ∧ Below w.heap.size w w' := by
  by_cases hlong : b.length ≤ 3000
  · have hbm : b.length ≤ 140737488355328 := by omega
    go_enter Try.func4, Try.ntmps4
    go_wp2_with fail
    refine (awake_any _).mono ?_
    rintro e w1 ⟨rfl, hw1⟩
    have HS1 := Lib.hid (hB.below hw1 (Nat.le_refl _))
    go_wp2_with fail
    refine (Few_any B d ls _ HS1.out hlm).mono ?_
    rintro e w' ⟨rfl, rfl⟩
    cases hf : fewB ls with
    | false =>
      have HF := Lib.hid hf
      clear hf
      go_wp2_with fail
      refine (awake_any _).mono ?_
      rintro e w2 ⟨rfl, hw2⟩
      go_wp2
      go_ret
      exact ⟨rfl, bel_on hw1 hw2⟩
    | true =>
      have hfit := few_fits hf
      have hsl := serR_few hf
      have HF := Lib.hid hf
      have HFIT := Lib.hid hfit
      have hl20 := hfit.2
      clear hf hfit
      -- the rest: Parse(b), Serialize of it
      have HTAIL : ∀ w5, Below w.heap.size w w5 → Hid (Calls Try.prog 10 #[.slice A b.length c] w5 fun e w' => ∃ A6 c6, e = .returned (.tuple #[.slice A6 (resF b).length c6, .int .i64 (errF b)]) ∧ Sg w' A6 (resF b) ∧ (A6 = none → c6 = 0) ∧ (resF b).length ≤ c6 ∧ c6 ≤ 9223372036854775807 ∧ Below w5.heap.size w5 w') := fun w5 h5 => Lib.hid (by
        refine (FParse_any A c b w5 (hA.below h5 (Nat.le_refl _)) hb hnil hbm hbc hcm).mono ?_
        rintro e w6 ⟨v6, rfl, hg6, hw6⟩
        obtain ⟨A6, c6, h1, h2, h3, h4⟩ := hg6.slice
        subst h1
        refine ⟨A6, c6, rfl, h4, ?_, h2, by unfold maxLen at h3; omega, hw6⟩
        intro hn
        subst hn
        obtain ⟨vs, h7, _⟩ := hg6
        rcases h7.2 with ⟨h8, _⟩ | ⟨g, cap, cur, h8, _⟩
        · injection h8
        · injection h8 with h9
          cases h9)
      by_cases hp : 0 < ls.length
      · have hm := few_ok HF.out hw hp
        obtain ⟨e1, e2⟩ := ser_yes hp (by omega)
        have hbs := serL_bts hm
        have HRS := Lib.hid (res_ser hm)
        have HES := Lib.hid (err_ser hm)
        have HSER := Lib.hid (FSer_any B d ls w1 HS1.out hw (fun j => by have := HFIT.out.1 j; omega) hnil2 hlc hdm (by omega))
        rw [e1, e2] at HSER
        rw [e1] at hsl
        have hp1 : (0 : Int) < (ls.length : Int) := by omega
        clear e1 e2 hm
        go_wp2_with fail
        refine HSER.out.mono ?_
        rintro e w2 ⟨v2, rfl, hg2, hw2⟩
        obtain ⟨A2, c2, rfl, hc2, hm2, hr2, hn2⟩ := hg2.full
        have hb2 := bel_on hw1 hw2
        have HB2 := Lib.hid hb2
        have HP := Lib.hid (FParse_any A2 c2 (serL ls) w2 hr2 hbs hn2 (by omega) hc2 (by unfold maxLen at hm2; omega))
        rw [HRS.out, HES.out] at HP
        clear hg2 hw2 hw1 hr2 hb2 hc2 hm2 hn2
        go_wp2_with fail
        refine HP.out.mono ?_
        rintro e w3 ⟨v3, rfl, hg3, hw3⟩
        obtain ⟨A3, c3, rfl, _, _, hs3⟩ := hg3.slice
        have hb3 := bel_on HB2.out hw3
        have HQ := Lib.hid (Same4_any A3 B c3 d ls ls w3 hs3 (hB.below hb3 (Nat.le_refl _)) (by omega) (by omega))
        rw [sameS_self] at HQ
        have HB3 := Lib.hid hb3
        clear hg3 hs3 hw3 hb3
        go_wp2_with fail
        refine HQ.out.mono ?_
        rintro e w' ⟨rfl, m, rfl⟩
        have HB4 := Lib.hid (bel_drewN HB3.out m)
        have HT := HTAIL _ HB4.out
        clear HTAIL HQ
        cases hk : okF b with
        | false =>
          have ee := err_no hk
          have er := res_no hk
          rw [ee, er] at HT
          clear hk ee er
          go_wp2_with fail
          refine HT.out.mono ?_
          rintro e w6 ⟨A6, c6, rfl, _, _, _, _, hw6⟩
          have HB6 := Lib.hid (bel_on HB4.out hw6)
          clear hw6
          go_wp2
          go_ret
          exact ⟨rfl, HB6.out⟩
        | true =>
          have ee := err_yes hk
          have hok := res_ok hb hk
          have hse := ser_res hb hk
          have h8 : (b.length : Int) % 8 = 0 := by omega
          have HOK := Lib.hid hok.1
          have hrl := hok.1.le
          have hrp := hok.1.pos
          obtain ⟨e1, e2⟩ := ser_yes (ls := resF b) (by omega) hrl
          rw [hse] at e1
          have HE1 := Lib.hid e1
          have HE2 := Lib.hid e2
          rw [ee] at HT
          clear hk ee hok hse e1 e2
          go_wp2_with fail
          refine HT.out.mono ?_
          rintro e w6 ⟨A6, c6, rfl, hs6, hn6, hc6, hm6, hw6⟩
          have hb6 := bel_on HB4.out hw6
          have HZ := Lib.hid (FSer_any A6 c6 (resF b) w6 hs6 HOK.out.wds HOK.out.fits hn6 hc6 hm6 (by omega))
          rw [HE1.out, HE2.out] at HZ
          have HB6 := Lib.hid hb6
          clear hs6 hw6 hb6 hn6
          go_wp2_with fail
          refine HZ.out.mono ?_
          rintro e w7 ⟨v7, rfl, hg7, hw7⟩
          obtain ⟨A7, c7, rfl, _, _, hr7⟩ := hg7.slice
          have hb7 := bel_on HB6.out hw7
          have HQ := Lib.hid (Same_any A7 A c7 c b b w7 hr7 (hA.below hb7 (Nat.le_refl _)) hbm0 hbm0)
          rw [sameB_self] at HQ
          have HB7 := Lib.hid hb7
          clear hg7 hw7 hr7 hb7
          go_wp2_with fail
          refine HQ.out.mono ?_
          rintro e w' ⟨rfl, m2, rfl⟩
          go_wp2
          go_ret
          exact ⟨rfl, bel_drewN HB7.out m2⟩
      · have h0 : ls.length = 0 := by omega
        obtain ⟨e1, e2⟩ := ser_no h0
        have HSER := Lib.hid (FSer_any B d ls w1 HS1.out hw (fun j => by have := HFIT.out.1 j; omega) hnil2 hlc hdm (by omega))
        rw [e1, e2] at HSER
        have hl0 : (ls.length : Int) = 0 := by omega
        have HL0 := Lib.hid h0
        clear e1 e2 hp hsl h0
        go_wp2_with fail
        refine HSER.out.mono ?_
        rintro e w2 ⟨v2, rfl, hg2, hw2⟩
        obtain ⟨A2, c2, rfl, -⟩ := hg2.full
        have HB4 := Lib.hid (bel_on hw1 hw2)
        have HT := HTAIL _ HB4.out
        clear HTAIL hg2 hw1 hw2
        cases hk : okF b with
        | false =>
          have ee := err_no hk
          have er := res_no hk
          rw [ee, er] at HT
          clear hk ee er
          go_wp2_with fail
          refine HT.out.mono ?_
          rintro e w6 ⟨A6, c6, rfl, _, _, _, _, hw6⟩
          have HB6 := Lib.hid (bel_on HB4.out hw6)
          clear hw6
          go_wp2
          go_ret
          exact ⟨rfl, HB6.out⟩
        | true =>
          have ee := err_yes hk
          have hok := res_ok hb hk
          have hse := ser_res hb hk
          have h8 : (b.length : Int) % 8 = 0 := by omega
          have HOK := Lib.hid hok.1
          have hrl := hok.1.le
          have hrp := hok.1.pos
          obtain ⟨e1, e2⟩ := ser_yes (ls := resF b) (by omega) hrl
          rw [hse] at e1
          have HE1 := Lib.hid e1
          have HE2 := Lib.hid e2
          rw [ee] at HT
          clear hk ee hok hse e1 e2
          go_wp2_with fail
          refine HT.out.mono ?_
          rintro e w6 ⟨A6, c6, rfl, hs6, hn6, hc6, hm6, hw6⟩
          have hb6 := bel_on HB4.out hw6
          have HZ := Lib.hid (FSer_any A6 c6 (resF b) w6 hs6 HOK.out.wds HOK.out.fits hn6 hc6 hm6 (by omega))
          rw [HE1.out, HE2.out] at HZ
          have HB6 := Lib.hid hb6
          clear hs6 hw6 hb6 hn6
          go_wp2_with fail
          refine HZ.out.mono ?_
          rintro e w7 ⟨v7, rfl, hg7, hw7⟩
          obtain ⟨A7, c7, rfl, _, _, hr7⟩ := hg7.slice
          have hb7 := bel_on HB6.out hw7
          have HQ := Lib.hid (Same_any A7 A c7 c b b w7 hr7 (hA.below hb7 (Nat.le_refl _)) hbm0 hbm0)
          rw [sameB_self] at HQ
          have HB7 := Lib.hid hb7
          clear hg7 hw7 hr7 hb7
          go_wp2_with fail
          refine HQ.out.mono ?_
          rintro e w' ⟨rfl, m2, rfl⟩
          go_wp2
          go_ret
          exact ⟨rfl, bel_drewN HB7.out m2⟩
  · have hgt : (3000 : Int) < (b.length : Int) := by omega
    go_enter Try.func4, Try.ntmps4
    go_wp2_with fail
    refine (awake_any _).mono ?_
    rintro e w1 ⟨rfl, hw1⟩
    go_wp2_with fail
    refine (awake_any _).mono ?_
    rintro e w2 ⟨rfl, hw2⟩
    go_wp2
    go_ret
    exact ⟨rfl, bel_on hw1 hw2⟩
end Go.Proofs.Ytmnhodbppadpdaa
