/- A law of layer 12: DenoteIgnoresUnreachableWords. -/
import Derived.Test.YtnmanhediiooaaaDoorLaw12
import Derived.Test.YtnmanhediiooaaaDoorMg5
namespace Go.Proofs.YtnmanhediiooaaaDoor
open Go.ChangeShapes Go.WideShapes Go.ChangeAt Go.RowKit
set_option linter.unusedVariables false
set_option linter.unusedSimpArgs false
set_option maxRecDepth 100000

theorem cellL {w w' : World} {p : Addr} {u : Value} (hb : Below w.heap.size w w') (h : w.cell? p = some u) : w'.cell? p = some u := (hb.cell (World.block_lt_of_cell? w _ h)).trans h
theorem Got.lower {w : World} {base base' : Nat} {E : TypeId} {k : IntKind} {v : Value} {zs : List Int} (h : Got w base E k v zs) (hb : base' ≤ base) : Got w base' E k v zs := by
  refine ⟨h.1, ?_⟩
  rcases h.2 with h2 | ⟨g, cap, cur, h1, h2, h3⟩
  · exact .inl h2
  · exact .inr ⟨g, cap, cur, h1, Nat.le_trans hb h2, h3⟩
/-- the longer message -/
def amL (ls : List (List Int)) (S : Nat) (more : List Int) : List (List Int) := ls.set S (seg ls S ++ more) ++ [more]
theorem amL_length (ls : List (List Int)) (S : Nat) (more : List Int) : (amL ls S more).length = ls.length + 1 := by simp [amL]
theorem amL_wd {ls : List (List Int)} (h : Wd2 ls) (S : Nat) {more : List Int} (hm : Wds more) : Wd2 (amL ls S more) := by
  intro l hl
  unfold amL at hl
  rcases List.mem_append.1 hl with hl | hl
  · rcases List.mem_or_eq_of_mem_set hl with hl | rfl
    · exact h l hl
    · intro z hz
      rcases List.mem_append.1 hz with hz | hz
      · exact (h.at S) z hz
      · exact hm z hz
  · simp at hl
    subst hl
    exact hm
theorem amL_fit {ls : List (List Int)} (h : ∀ j, (seg ls j).length ≤ 300) (S : Nat) {more : List Int} (hm : more.length ≤ 100) (j : Nat) : (seg (amL ls S more) j).length ≤ 20000000 := by
  have h1 : ∀ l ∈ amL ls S more, l.length ≤ 20000000 := by
    intro l hl
    unfold amL at hl
    rcases List.mem_append.1 hl with hl | hl
    · rcases List.mem_or_eq_of_mem_set hl with hl | rfl
      · obtain ⟨i, hi, rfl⟩ := List.mem_iff_getElem.1 hl
        have := h i
        unfold seg at this
        rw [List.getD_eq_getElem?_getD, List.getElem?_eq_getElem hi] at this
        simp at this
        omega
      · have := h S
        rw [List.length_append]
        omega
    · simp at hl
      subst hl
      omega
  by_cases hj : j < (amL ls S more).length
  · unfold seg
    rw [List.getD_eq_getElem?_getD, List.getElem?_eq_getElem hj]
    exact h1 _ (List.getElem_mem hj)
  · rw [seg_out (by omega)]
    simp
theorem amL_nul {ls : List (List Int)} (h0 : 0 < ls.length) (hz : ¬ (seg ls 0).length = 0) (S : Nat) (hS : S < ls.length) (more : List Int) : nulM (amL ls S more) ↔ nulM ls := by
  have hh : hasB ls 0 0 = true := by unfold hasB; rw [decide_eq_true_iff]; simp; omega
  have h2 := (ext_more ls S hS more).has 0 0 hh
  unfold hasB at h2
  rw [decide_eq_true_iff] at h2
  constructor
  · intro h
    have := h.2
    unfold amL at this
    simp at h2
    omega
  · intro h
    exact absurd h.2 hz
attribute [local irreducible] msgV measV smallB fewB amL
set_option maxHeartbeats 8000000 in
set_option maxRecDepth 100000 in
theorem Ign12_walk (A : Option Addr) (c : Nat) (ls : List (List Int)) (D X O : Int) (B : Option Addr) (d : Nat) (more : List Int) (sg : Int) (w : World) (hT : TabOK w) (hA : Sg w A ls) (hw : Wd2 ls) (hnil : A = none → c = 0) (hlm : ls.length ≤ 9223372036854775807) (hlc : ls.length ≤ c) (hcm : c ≤ 9223372036854775807)
    (d0 : -9223372036854775808 ≤ D) (d1 : D ≤ 9223372036854775807) (x0 : -9223372036854775808 ≤ X) (x1 : X ≤ 9223372036854775807)
    (hB : Ri w .u64 B more) (hmw : Wds more) (hnil2 : B = none → d = 0) (hbl : more.length ≤ 9223372036854775807) (hbc : more.length ≤ d) (hdm : d ≤ 9223372036854775807) (s0' : 0 ≤ sg) (s1' : sg < 256) :
    Calls Tryd.prog 5 #[.slice A ls.length c, .agg #[.int .i64 D, .int .i64 X, .int .i64 O], .slice B more.length d, .int .u8 sg] w fun e w' => e = .returned (.bool true) ∧ Below w.heap.size w w' := by
  obtain ⟨i0, hi0, hz0, hz1, hz2⟩ := info_parts int64_info
  by_cases hl0 : ls.length = 0
  · have tl : ((ls.length : Int) == 0) = true := by rw [beq_iff_eq]; omega
    clear hl0
    have HT := Lib.hid hT
    have Hm := Lib.hid hA
    have Hr := Lib.hid hB
    have HW := Lib.hid hw
    clear hT hA hB hw hnil
    go_enter Tryd.func5, Tryd.ntmps5
    go_wp2_with fail
    refine abs_world (F := fun W => Sg W A ls ∧ Ri W .u64 B more ∧ Blk W w.heap.size #[.int .i64 D, .int .i64 X, .int .i64 O] ∧ Below w.heap.size w W) ⟨?_, ?_, ?_, ?_⟩ ?_
    · exact (Hm.out.alloc _)
    · exact (Ri.below Hr.out ((Below.refl _ _).alloc (Nat.le_refl _) _) (Nat.le_refl _))
    · exact Blk.fresh _ _ _
    · exact ((Below.refl w.heap.size w).alloc (by first | exact Nat.le_refl _ | (simp; done) | (simp; omega)) _)
    clear Hm Hr
    rintro W1 ⟨hm, hr, hl, hb⟩
    have Hm := Lib.hid hm
    have Hr := Lib.hid hr
    have Hl := Lib.hid hl
    have HB := Lib.hid hb
    clear hb hm hr hl
    refine (awake12_any _ (HT.out.on HB.out)).mono ?_
    rintro r w2 ⟨rfl, hb⟩
    have fm := Hm.out.below hb (Nat.le_refl _)
    have fr := Hr.out.below hb (Nat.le_refl _)
    have fl := Hl.out.below hb
    have HB0 := Lib.hid (bel_on HB.out hb)
    clear hb Hm Hr Hl HB
    have HB := HB0
    clear HB0
    have Hm := Lib.hid fm
    clear fm
    have Hr := Lib.hid fr
    clear fr
    have Hl := Lib.hid fl
    clear fl
    obtain ⟨xl, yl, zl⟩ := Hl.out
    go_wp2_with fail
    clear xl yl zl
    refine (RefSmall_any A c ls D X O _ Hm.out hlm).mono ?_
    rintro r w3 ⟨rfl, hb⟩
    have fm := Hm.out.below hb (Nat.le_refl _)
    have fr := Hr.out.below hb (Nat.le_refl _)
    have fl := Hl.out.below hb
    have HB0 := Lib.hid (bel_on HB.out hb)
    clear hb Hm Hr Hl HB
    have HB := HB0
    clear HB0
    have Hm := Lib.hid fm
    clear fm
    have Hr := Lib.hid fr
    clear fr
    have Hl := Lib.hid fl
    clear fl
    cases hsm : smallB ls D X with
    | false =>
      clear hsm
      go_wp2_with fail
      refine (awake12_any _ (HT.out.on HB.out)).mono ?_
      rintro r w4 ⟨rfl, hb⟩
      have fm := Hm.out.below hb (Nat.le_refl _)
      have fr := Hr.out.below hb (Nat.le_refl _)
      have fl := Hl.out.below hb
      have HB0 := Lib.hid (bel_on HB.out hb)
      clear hb Hm Hr Hl HB
      have HB := HB0
      clear HB0
      have Hm := Lib.hid fm
      clear fm
      have Hr := Lib.hid fr
      clear fr
      have Hl := Lib.hid fl
      clear fl
      go_wp2
      go_ret
      exact ⟨rfl, HB.out⟩
    | true =>
        clear hsm
        go_wp2_with fail
        refine (awake12_any _ (HT.out.on HB.out)).mono ?_
        rintro r w4 ⟨rfl, hb⟩
        have fm := Hm.out.below hb (Nat.le_refl _)
        have fr := Hr.out.below hb (Nat.le_refl _)
        have fl := Hl.out.below hb
        have HB0 := Lib.hid (bel_on HB.out hb)
        clear hb Hm Hr Hl HB
        have HB := HB0
        clear HB0
        have Hm := Lib.hid fm
        clear fm
        have Hr := Lib.hid fr
        clear fr
        have Hl := Lib.hid fl
        clear fl
        go_wp2
        go_ret
        exact ⟨rfl, HB.out⟩
  · obtain ⟨b0, o0, A0, c0, hA0, -⟩ := hA.one (i := 0) (by omega)
    subst hA0
    have hlp : 0 < ls.length := by omega
    have tl : ((ls.length : Int) == 0) = false := by rw [beq_eq_false_iff_ne]; omega
    clear hl0
    have HT := Lib.hid hT
    have Hm := Lib.hid hA
    have Hr := Lib.hid hB
    have HW := Lib.hid hw
    clear hT hA hB hw hnil
    go_enter Tryd.func5, Tryd.ntmps5
    go_wp2_with fail
    refine abs_world (F := fun W => Sg W (some ⟨b0, o0, none⟩) ls ∧ Ri W .u64 B more ∧ Blk W w.heap.size #[.int .i64 D, .int .i64 X, .int .i64 O] ∧ Below w.heap.size w W) ⟨?_, ?_, ?_, ?_⟩ ?_
    · exact (Hm.out.alloc _)
    · exact (Ri.below Hr.out ((Below.refl _ _).alloc (Nat.le_refl _) _) (Nat.le_refl _))
    · exact Blk.fresh _ _ _
    · exact ((Below.refl w.heap.size w).alloc (by first | exact Nat.le_refl _ | (simp; done) | (simp; omega)) _)
    clear Hm Hr
    rintro W1 ⟨hm, hr, hl, hb⟩
    have Hm := Lib.hid hm
    have Hr := Lib.hid hr
    have Hl := Lib.hid hl
    have HB := Lib.hid hb
    clear hb hm hr hl
    refine (awake12_any _ (HT.out.on HB.out)).mono ?_
    rintro r w2 ⟨rfl, hb⟩
    have fm := Hm.out.below hb (Nat.le_refl _)
    have fr := Hr.out.below hb (Nat.le_refl _)
    have fl := Hl.out.below hb
    have HB0 := Lib.hid (bel_on HB.out hb)
    clear hb Hm Hr Hl HB
    have HB := HB0
    clear HB0
    have Hm := Lib.hid fm
    clear fm
    have Hr := Lib.hid fr
    clear fr
    have Hl := Lib.hid fl
    clear fl
    obtain ⟨xl, yl, zl⟩ := Hl.out
    go_wp2_with fail
    clear xl yl zl
    refine (RefSmall_any (some ⟨b0, o0, none⟩) c ls D X O _ Hm.out hlm).mono ?_
    rintro r w3 ⟨rfl, hb⟩
    have fm := Hm.out.below hb (Nat.le_refl _)
    have fr := Hr.out.below hb (Nat.le_refl _)
    have fl := Hl.out.below hb
    have HB0 := Lib.hid (bel_on HB.out hb)
    clear hb Hm Hr Hl HB
    have HB := HB0
    clear HB0
    have Hm := Lib.hid fm
    clear fm
    have Hr := Lib.hid fr
    clear fr
    have Hl := Lib.hid fl
    clear fl
    cases hsm : smallB ls D X with
    | false =>
      clear hsm
      go_wp2_with fail
      refine (awake12_any _ (HT.out.on HB.out)).mono ?_
      rintro r w4 ⟨rfl, hb⟩
      have fm := Hm.out.below hb (Nat.le_refl _)
      have fr := Hr.out.below hb (Nat.le_refl _)
      have fl := Hl.out.below hb
      have HB0 := Lib.hid (bel_on HB.out hb)
      clear hb Hm Hr Hl HB
      have HB := HB0
      clear HB0
      have Hm := Lib.hid fm
      clear fm
      have Hr := Lib.hid fr
      clear fr
      have Hl := Lib.hid fl
      clear fl
      go_wp2
      go_ret
      exact ⟨rfl, HB.out⟩
    | true =>
      obtain ⟨hD, hX, hl20, hf⟩ := small_fits hsm
      have HF : Hid (∀ j, (seg ls j).length ≤ 20000000) := Lib.hid (fun j => by have := hf j; omega)
      have HF3 := Lib.hid hf
      have hm' : ls.length ≤ 40 := by omega
      clear hsm hf
      by_cases hmr : 100 < more.length
      · have tm : decide ((100 : Int) < more.length) = true := decide_eq_true (by omega)
        clear hmr
        go_wp2_with fail
        refine (awake12_any _ (HT.out.on HB.out)).mono ?_
        rintro r w4 ⟨rfl, hb⟩
        have fm := Hm.out.below hb (Nat.le_refl _)
        have fr := Hr.out.below hb (Nat.le_refl _)
        have fl := Hl.out.below hb
        have HB0 := Lib.hid (bel_on HB.out hb)
        clear hb Hm Hr Hl HB
        have HB := HB0
        clear HB0
        have Hm := Lib.hid fm
        clear fm
        have Hr := Lib.hid fr
        clear fr
        have Hl := Lib.hid fl
        clear fl
        go_wp2
        go_ret
        exact ⟨rfl, HB.out⟩
      have tm : decide ((100 : Int) < more.length) = false := by rw [decide_eq_false_iff_not]; omega
      obtain ⟨bx, ox, A0, c0, hAe, hc0, -⟩ := Hm.out.one (i := 0) hlp
      injection hAe with hAe
      injection hAe with e1 e2
      subst e1 e2
      rw [Nat.add_zero] at hc0
      by_cases hz : (seg ls 0).length = 0
      · rw [hz] at hc0
        clear hz
        go_wp2_with fail
        refine (awake12_any _ (HT.out.on HB.out)).mono ?_
        rintro r w4 ⟨rfl, hb⟩
        have fm := Hm.out.below hb (Nat.le_refl _)
        have fr := Hr.out.below hb (Nat.le_refl _)
        have fl := Hl.out.below hb
        have HB0 := Lib.hid (bel_on HB.out hb)
        clear hb Hm Hr Hl HB
        have HB := HB0
        clear HB0
        have Hm := Lib.hid fm
        clear fm
        have Hr := Lib.hid fr
        clear fr
        have Hl := Lib.hid fl
        clear fl
        go_wp2
        go_ret
        exact ⟨rfl, HB.out⟩
      have HZ := Lib.hid hz
      have tz : (((seg ls 0).length : Int) == 0) = false := by rw [beq_eq_false_iff_ne]; omega
      generalize hsl : (seg ls 0).length = s0 at hc0 tz
      clear hsl hz
      obtain ⟨⟨x, e⟩, hq⟩ : ∃ q, msgV ls D X = q := ⟨_, rfl⟩
      obtain ⟨⟨y, f⟩, hr⟩ : ∃ q, measV ls D X = q := ⟨_, rfl⟩
      have HQ := Lib.hid hq
      have HR := Lib.hid hr
      clear hq hr
      obtain ⟨xl, yl, zl⟩ := Hl.out
      go_wp2_with fail
      clear hc0
      clear xl yl zl
      refine (DMessage_is (some ⟨b0, o0, none⟩) c _ ls D X O x e _ (HT.out.on HB.out) rfl Hm.out HW.out hm' HF.out (by omega) (by omega) HQ.out).mono ?_
      rintro r w4 ⟨v, rfl, ⟨A1, c1, E1, e1, hi1, rfl, -, hno⟩, hb⟩
      have fm := Hm.out.below hb (Nat.le_refl _)
      have fr := Hr.out.below hb (Nat.le_refl _)
      have fl := Hl.out.below hb
      have HB0 := Lib.hid (bel_on HB.out hb)
      clear hb Hm Hr Hl HB
      have HB := HB0
      clear HB0
      have Hm := Lib.hid fm
      clear fm
      have Hr := Lib.hid fr
      clear fr
      have Hl := Lib.hid fl
      clear fl
      have hn := hno.nd
      clear hno
      have Hp := Lib.hid hn
      clear hn
      by_cases he : e = 0
      rotate_left
      · have t0 : (e != 0) = true := by simpa using he
        clear he
        go_wp2
        go_ret
        exact ⟨rfl, HB.out.alloc HB.out.size _⟩
      have t0 : (e != 0) = false := by rw [he]; rfl
      have HE := Lib.hid he
      clear he
      obtain ⟨xl, yl, zl⟩ := (Hl.out.alloc (.cells #[.int .i64 x.k, .int .i64 x.e, .int .i64 x.n, .slice A1 x.d.length c1, .slice E1 x.ks.length e1] 30))
      go_wp2_with fail
      refine abs_world (F := fun W => Sg W (some ⟨b0, o0, none⟩) ls ∧ Ri W .u64 B more ∧ Blk W w.heap.size #[.int .i64 D, .int .i64 X, .int .i64 O] ∧ NdR W A1 c1 E1 e1 x ∧ Blk W w4.heap.size #[.int .i64 x.k, .int .i64 x.e, .int .i64 x.n, .slice A1 x.d.length c1, .slice E1 x.ks.length e1] ∧ Below w.heap.size w W) ⟨?_, ?_, ?_, ?_, ?_, ?_⟩ ?_
      · exact (Hm.out.alloc _)
      · exact (Ri.below Hr.out ((Below.refl _ _).alloc (Nat.le_refl _) _) (Nat.le_refl _))
      · exact (Hl.out.alloc _)
      · exact (NdR.on Hp.out ((Below.refl _ _).alloc (Nat.le_refl _) _) (Nat.le_refl _))
      · exact Blk.fresh _ _ _
      · exact (HB.out.alloc (by first | exact Nat.le_refl _ | (have := HB.out.size; simp; omega) | (have := HB.out.size; omega) | (simp; done) | (simp; omega)) _)
      clear Hm Hr Hl Hp HB xl yl zl
      rintro W5 ⟨hm, hr, hl, hp, ha, hb⟩
      have Hm := Lib.hid hm
      have Hr := Lib.hid hr
      have Hl := Lib.hid hl
      have Hp := Lib.hid hp
      have Ha := Lib.hid ha
      have HB := Lib.hid hb
      clear hb hm hr hl hp ha
      refine (DMeasure_is (some ⟨b0, o0, none⟩) c _ ls D X O y f _ (HT.out.on HB.out) rfl Hm.out HW.out hm' HF.out (by omega) (by omega) HR.out).mono ?_
      rintro r w6 ⟨rfl, hb⟩
      have fm := Hm.out.below hb (Nat.le_refl _)
      have fr := Hr.out.below hb (Nat.le_refl _)
      have fl := Hl.out.below hb
      have fp := Hp.out.on hb (Nat.le_refl _)
      have fa := Ha.out.below hb
      have HB0 := Lib.hid (bel_on HB.out hb)
      clear hb Hm Hr Hl Hp Ha HB
      have HB := HB0
      clear HB0
      have Hm := Lib.hid fm
      clear fm
      have Hr := Lib.hid fr
      clear fr
      have Hl := Lib.hid fl
      clear fl
      have Hp := Lib.hid fp
      clear fp
      have Ha := Lib.hid fa
      clear fa
      have hs0 : 0 ≤ sg % ls.length := Int.emod_nonneg _ (by omega)
      have hs1 : sg % ls.length < ls.length := Int.emod_lt_of_pos _ (by omega)
      obtain ⟨S, hS⟩ := Int.eq_ofNat_of_zero_le hs0
      have hSl : S < ls.length := by omega
      have htm : sg.tmod ls.length = S := by rw [Int.tmod_eq_emod_of_nonneg s0']; exact hS
      have hS2 : (S : Int) < (ls.length : Int) := by omega
      obtain ⟨bx, ox, AS, cS, hAe, hcS, hrS, hnS, hcs1, hcs2⟩ := Hm.out.one (i := S) hSl
      injection hAe with hAe
      injection hAe with e1 e2
      subst e1 e2
      have HCS := Lib.hid hcS
      have HRS := Lib.hid hrS
      have hSf := HF3.out S
      clear hs0 hs1 hS hcS hrS hcs1 hcs2
      go_wp2_with (at_builtin; refine hold_it ?_)
      refine Lib.hid ?_
      refine wpList_appM (W := w6) rfl (.tmp 59) (.tmp 60) 22 rfl Tryd.underlying22 rfl (OwnS.made w6 (Nat.le_refl _)) rfl Hm.out (Nat.le_refl _) ((Below.refl _ _).alloc (Nat.le_refl _) _) hlp (by simp; omega) (by simp) ?_
      intro v4 u4 hg4 hb4 _
      rw [List.nil_append] at hg4
      have HB4 : Hid (Below w6.heap.size w6 u4) := Lib.hid (((Below.refl _ _).alloc (Nat.le_refl _) _).trans hb4)
      obtain ⟨g4, c4, rfl, hgl, hgh, hcl, hfz, hcu⟩ := hg4.row hlp
      have HG4 := Lib.hid hg4
      have hz4 := HB4.out.size
      have hgl' : w6.heap.size ≤ u4.heap.size := hz4
      have hcS4 : (u4.alloc (.cells #[] 43)).cell? ⟨b0, o0 + S, none⟩ = some (.slice AS (seg ls S).length cS) := cellL (HB4.out.alloc hz4 _) HCS.out
      have HRS4 := Lib.hid (HRS.out.below (HB4.out.alloc hz4 (.cells #[] 43)) (Nat.le_refl _))
      clear hg4 hb4 hfz hcu
      generalize hsz : (seg ls S).length = nS at hcS4 hSf
      go_wp2_with (at_builtin; refine hold_it ?_)
      refine Lib.hid ?_
      refine wpList_appN rfl (.tmp 69) (.tmp 73) 40 rfl Tryd.underlying40 hi0 hz0 hz1 hz2 rfl (Got.empty_made u4 43 .u64 (base := u4.heap.size) (Nat.le_refl _)) (ys := seg ls S) (by rw [hsz]; rfl) HRS4.out hnS (by rw [hsz]; unfold maxLen; simp; omega) (by rw [hsz]; simp; omega) (by simp) ?_
      intro v5 u5 hg5 hb5
      rw [List.nil_append] at hg5
      have HB5 : Hid (Below u4.heap.size u4 u5) := Lib.hid (((Below.refl _ _).alloc (Nat.le_refl _) _).trans hb5)
      have hz5 := HB5.out.size
      have HG5 := Lib.hid hg5
      have HR5 := Lib.hid ((Hr.out.below HB4.out (Nat.le_refl _)).below HB5.out (Nat.le_refl _))
      clear hg5 hb5 HRS4 hcS4
      go_wp2_with (at_builtin; refine hold_it ?_)
      refine Lib.hid ?_
      refine wpList_appN rfl (.tmp 74) (.tmp 75) 40 rfl Tryd.underlying40 hi0 hz0 hz1 hz2 rfl HG5.out rfl HR5.out hnil2 (by rw [hsz]; unfold maxLen; omega) (by rw [hsz]; omega) hz5 ?_
      intro v6 u6 hg6 hb6
      have HB6 : Hid (Below u4.heap.size u4 u6) := Lib.hid (HB5.out.trans hb6)
      have hz6 := HB6.out.size
      have HG6 := Lib.hid (hg6.lower hgl')
      obtain ⟨A6, c6, rfl, -, -, -⟩ := hg6.slice
      have hx6 := HG4.out.below HB6.out (Nat.le_refl _)
      obtain ⟨g', c', hve, -, hgh6, -, hfz, hcu⟩ := hx6.row hlp
      injection hve with hve _ hcc
      injection hve with hve
      injection hve with hve _
      subst hve hcc
      obtain ⟨u0, hcu0⟩ := hcu S hSl
      have hfz0 := hfz S
      have HX6 := Lib.hid hx6
      clear hg6 hb6 hx6 hfz hcu HG5 HR5 HB5
      go_wp2_with (at_builtin; refine hold_it ?_)
      refine Lib.hid ?_
      have hx7 := HX6.out.set hSl (u := .slice A6 (nS + more.length) c6) (l := seg ls S ++ more) (.inl (by have h := HG6.out; rwa [List.length_append, hsz] at h))
      have HB7 : Hid (Below w6.heap.size w6 (u6.setCell ⟨g4, S, none⟩ (.slice A6 (nS + more.length) c6))) := Lib.hid ((HB4.out.trans (HB6.out.mono hz4)).setCell hgl _)
      have hms : SegOK (u6.setCell ⟨g4, S, none⟩ (.slice A6 (nS + more.length) c6)) w6.heap.size (.slice B more.length d) more := SegOK.came (W := w6) ⟨B, d, rfl, Hr.out, hnil2, hbc, by unfold maxLen; omega⟩ (Nat.le_refl _) HB7.out
      have hz7 := HB7.out.size
      clear HX6 HG6 hcu0 hfz0
      generalize hW7 : u6.setCell ⟨g4, S, none⟩ (.slice A6 (nS + more.length) c6) = U7 at *
      have hs7 : u6.heap.size = U7.heap.size := by rw [← hW7]; simp [World.setCell]
      rw [hs7]
      refine wpList_app1S rfl (.tmp 78) (.tmp 80) 22 rfl Tryd.underlying22 rfl hx7 hms U7.heap.size rfl rfl (by rw [List.length_set]; omega) hz7 ?_
      intro v8 u8 hg8 hb8 _
      obtain ⟨A8, c8, rfl, -, -, hs8⟩ := hg8.slice
      have HB8 : Hid (Below w6.heap.size w6 u8) := Lib.hid (HB7.out.trans hb8)
      have HM8 : Hid (Sg u8 A8 (amL ls S more)) := Lib.hid (by unfold amL; exact hs8)
      have HL8 : Hid ((ls.set S (seg ls S ++ more) ++ [more]).length = (amL ls S more).length) := Lib.hid (by unfold amL; rfl)
      rw [HL8.out]
      have hsim := msg_sim HW.out hm' HF.out D X (ext_more ls S hSl more) (by have h := amL_nul hlp HZ.out S hSl more; unfold amL at h; exact h) D X (Nat.le_refl _) (by rw [HQ.out]; exact HE.out) (by have := (meas_bd HW.out hm' HF.out D X).2; exact this)
      have HQA : Hid (msgV (amL ls S more) D X = (x, e)) := Lib.hid (by unfold amL; rw [hsim.1]; exact HQ.out)
      have HRA : Hid (measV (amL ls S more) D X = (y, f)) := Lib.hid (by unfold amL; rw [hsim.2]; exact HR.out)
      have HWA := Lib.hid (amL_wd HW.out S hmw)
      have HFA := Lib.hid (amL_fit HF3.out S (more := more) (by omega))
      have hma : (amL ls S more).length ≤ 40 := by rw [amL_length]; omega
      clear hg8 hb8 hs8 hsim hms hx7 hW7 hs7 hsz hSf HL8
      generalize amL ls S more = am at *
      have HBf := Lib.hid (bel_on HB.out HB8.out)
      have Hl' := Lib.hid (Hl.out.below HB8.out)
      have Ha' := Lib.hid (Ha.out.below HB8.out)
      have Hp' := Lib.hid (Hp.out.on HB8.out (Nat.le_refl _))
      clear HB Hl Ha Hp Hm Hr HB4 HB6 HB7 HB8 HG4 HCS HRS
      have HB := HBf
      have Hl := Hl'
      have Ha := Ha'
      have Hp := Hp'
      have Hm := HM8
      clear HBf Hl' Ha' Hp' HM8
      obtain ⟨xl, yl, zl⟩ := Hl.out
      go_wp2_with fail
      clear xl yl zl
      refine (DMessage_is A8 c8 _ am D X O x e _ (HT.out.on HB.out) rfl Hm.out HWA.out hma HFA.out (by omega) (by omega) HQA.out).mono ?_
      rintro r w21 ⟨v, rfl, ⟨A2, c2, E2, e2, hi2, rfl, -, hno⟩, hb⟩
      have fm := Hm.out.below hb (Nat.le_refl _)
      have fl := Hl.out.below hb
      have fp := Hp.out.on hb (Nat.le_refl _)
      have fa := Ha.out.below hb
      have HB0 := Lib.hid (bel_on HB.out hb)
      clear hb Hm Hl Hp Ha HB
      have HB := HB0
      clear HB0
      have Hm := Lib.hid fm
      clear fm
      have Hl := Lib.hid fl
      clear fl
      have Hp := Lib.hid fp
      clear fp
      have Ha := Lib.hid fa
      clear fa
      have hn := hno.nd
      clear hno
      have Hq := Lib.hid hn
      clear hn
      obtain ⟨xl, yl, zl⟩ := (Hl.out.alloc (.cells #[.int .i64 x.k, .int .i64 x.e, .int .i64 x.n, .slice A2 x.d.length c2, .slice E2 x.ks.length e2] 30))
      go_wp2_with fail
      refine abs_world (F := fun W => Sg W A8 am ∧ Blk W w.heap.size #[.int .i64 D, .int .i64 X, .int .i64 O] ∧ NdR W A1 c1 E1 e1 x ∧ Blk W w4.heap.size #[.int .i64 x.k, .int .i64 x.e, .int .i64 x.n, .slice A1 x.d.length c1, .slice E1 x.ks.length e1] ∧ NdR W A2 c2 E2 e2 x ∧ Blk W w21.heap.size #[.int .i64 x.k, .int .i64 x.e, .int .i64 x.n, .slice A2 x.d.length c2, .slice E2 x.ks.length e2] ∧ Below w.heap.size w W) ⟨?_, ?_, ?_, ?_, ?_, ?_, ?_⟩ ?_
      · exact (Hm.out.alloc _)
      · exact (Hl.out.alloc _)
      · exact (NdR.on Hp.out ((Below.refl _ _).alloc (Nat.le_refl _) _) (Nat.le_refl _))
      · exact (Ha.out.alloc _)
      · exact (NdR.on Hq.out ((Below.refl _ _).alloc (Nat.le_refl _) _) (Nat.le_refl _))
      · exact Blk.fresh _ _ _
      · exact (HB.out.alloc (by first | exact Nat.le_refl _ | (have := HB.out.size; simp; omega) | (have := HB.out.size; omega) | (simp; done) | (simp; omega)) _)
      clear Hm Hl Hp Ha Hq HB xl yl zl
      rintro W22 ⟨hm, hl, hp, ha, hq, hg, hb⟩
      have Hm := Lib.hid hm
      have Hl := Lib.hid hl
      have Hp := Lib.hid hp
      have Ha := Lib.hid ha
      have Hq := Lib.hid hq
      have Hg := Lib.hid hg
      have HB := Lib.hid hb
      clear hb hm hl hp ha hq hg
      refine (DMeasure_is A8 c8 _ am D X O y f _ (HT.out.on HB.out) rfl Hm.out HWA.out hma HFA.out (by omega) (by omega) HRA.out).mono ?_
      rintro r w23 ⟨rfl, hb⟩
      have fm := Hm.out.below hb (Nat.le_refl _)
      have fl := Hl.out.below hb
      have fp := Hp.out.on hb (Nat.le_refl _)
      have fa := Ha.out.below hb
      have fq := Hq.out.on hb (Nat.le_refl _)
      have fg := Hg.out.below hb
      have HB0 := Lib.hid (bel_on HB.out hb)
      clear hb Hm Hl Hp Ha Hq Hg HB
      have HB := HB0
      clear HB0
      have Hm := Lib.hid fm
      clear fm
      have Hl := Lib.hid fl
      clear fl
      have Hp := Lib.hid fp
      clear fp
      have Ha := Lib.hid fa
      clear fa
      have Hq := Lib.hid fq
      clear fq
      have Hg := Lib.hid fg
      clear fg
      clear Hm
      clear Hl
      obtain ⟨xa, ya, za⟩ := Ha.out
      obtain ⟨xg, yg, zg⟩ := Hg.out
      have t1 : (e == 0) = true := by rw [HE.out]; rfl
      go_wp2_with fail
      clear xa ya za xg yg zg
      refine (RefEqual_12 x x A2 c2 E2 e2 A1 c1 E1 e1 true _ Hq.out Hp.out (by simp [eqN])).mono ?_
      rintro r w24 ⟨rfl, hb⟩
      have fp := Hp.out.on hb (Nat.le_refl _)
      have fa := Ha.out.below hb
      have fq := Hq.out.on hb (Nat.le_refl _)
      have fg := Hg.out.below hb
      have HB0 := Lib.hid (bel_on HB.out hb)
      clear hb Hp Ha Hq Hg HB
      have HB := HB0
      clear HB0
      have Hp := Lib.hid fp
      clear fp
      have Ha := Lib.hid fa
      clear fa
      have Hq := Lib.hid fq
      clear fq
      have Hg := Lib.hid fg
      clear fg
      go_wp2
      go_ret
      exact ⟨rfl, HB.out⟩
end Go.Proofs.YtnmanhediiooaaaDoor
