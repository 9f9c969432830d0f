/- The law of layer 4 that results do not share memory with the arguments. -/
import Derived.Test.YtmnhodbppadpdaaLaw04b
import Derived.OneCell
import Derived.StillTailTactics
namespace Go.Proofs.Ytmnhodbppadpdaa
open Go.ChangeShapes Go.WideShapes Go.ChangeAt Go.RowKit
set_option linter.unusedVariables false
set_option linter.unusedSimpArgs false

/-- a store of a number somewhere: a slice of the call's own keeps its place and its length -/
theorem Got.poke {w : World} {base : Nat} {E : TypeId} {k : IntKind} {v : Value} {zs : List Int} (h : Got w base E k v zs) (g j : Nat) (x : Int) : ∃ zs', zs'.length = zs.length ∧ Got (w.setCell ⟨g, j, none⟩ (.int k x)) base E k v zs' := by
  by_cases he : v.ownBlock = some g
  · have h0 := h
    rcases h.2 with ⟨rfl, hn⟩ | ⟨g', cap, cur, hv, r⟩
    · simp [Value.ownBlock] at he
    · subst hv
      simp [Value.ownBlock] at he
      subst he
      exact ⟨zs.set j x, by simp, h0.put j x⟩
  · exact ⟨zs, rfl, ownsRow_setCell_other h he _⟩

/-- a store into a segment of a message of the call's own: its segments keep their places and lengths -/
theorem GotS.poke {w : World} {base : Nat} {v u : Value} {ls : List (List Int)} {l : List Int} (h : GotS w base v ls) (g j : Nat) (x : Int) (hu : Got w base 43 .u64 u l) (hg : u.ownBlock = some g) :
    v.ownBlock ≠ some g ∧ ∃ ls', ls'.length = ls.length ∧ (∀ i, (seg ls' i).length = (seg ls i).length) ∧ GotS (w.setCell ⟨g, j, none⟩ (.int .u64 x)) base v ls' := by
  obtain ⟨vs, h1, h2⟩ := h
  have hne : v.ownBlock ≠ some g := by
    intro he
    rcases hu.2 with ⟨rfl, _⟩ | ⟨g1, cap1, cur1, hv1, hg1, hh1, _⟩
    · simp [Value.ownBlock] at hg
    · subst hv1
      simp [Value.ownBlock] at hg
      subst hg
      rcases h1.2 with ⟨rfl, _⟩ | ⟨g2, cap2, cur2, hv2, hg2, hh2, _⟩
      · simp [Value.ownBlock] at he
      · subst hv2
        simp [Value.ownBlock] at he
        subst he
        rw [hh1] at hh2
        injection hh2 with e2
        injection e2 with _ e3
        exact absurd e3 (by decide)
  have hall : ∀ i : Nat, ∃ zs, zs.length = (seg ls i).length ∧ (i < ls.length → ∃ u, vs[i]? = some u ∧ Got (w.setCell ⟨g, j, none⟩ (.int .u64 x)) base 43 .u64 u zs) := by
    intro i
    by_cases hi : i < ls.length
    · obtain ⟨y, hy, hgy⟩ := h2 i hi
      obtain ⟨zs, hz, hg'⟩ := hgy.poke g j x
      exact ⟨zs, hz, fun _ => ⟨y, hy, hg'⟩⟩
    · exact ⟨seg ls i, rfl, fun h => absurd h hi⟩
  obtain ⟨f, hf⟩ : ∃ f : Nat → List Int, ∀ i, (f i).length = (seg ls i).length ∧ (i < ls.length → ∃ u, vs[i]? = some u ∧ Got (w.setCell ⟨g, j, none⟩ (.int .u64 x)) base 43 .u64 u (f i)) := ⟨fun i => Classical.choose (hall i), fun i => Classical.choose_spec (hall i)⟩
  refine ⟨hne, (List.range ls.length).map f, by simp, ?_, vs, ?_, ?_⟩
  · intro i
    by_cases hi : i < ls.length
    · have e : seg ((List.range ls.length).map f) i = f i := by simp [seg, List.getD_eq_getElem?_getD, hi]
      rw [e]; exact (hf i).1
    · rw [seg_out (by simp; omega), seg_out (by omega)]
  · have := ownsRow_setCell_other h1 (a := ⟨g, j, none⟩) hne (.int .u64 x)
    simpa using this
  · intro i hi
    have hi' : i < ls.length := by simpa using hi
    have e : seg ((List.range ls.length).map f) i = f i := by simp [seg, List.getD_eq_getElem?_getD, hi']
    rw [e]
    exact (hf i).2 hi'

/-- segment i of a message of the call's own: its cell, and where it has a word k: that word's cell -/
theorem GotS.cell {w : World} {base n c : Nat} {A : Option Addr} {ls : List (List Int)} (h : GotS w base (.slice A n c) ls) {i : Nat} (hi : i < ls.length) :
    ∃ g0 u, A = some ⟨g0, 0, none⟩ ∧ w.cell? ⟨g0, i, none⟩ = some u ∧ Got w base 43 .u64 u (seg ls i) := by
  obtain ⟨vs, h1, h2⟩ := h
  obtain ⟨u, hu, hg⟩ := h2 i hi
  have h0 := h1
  rcases h1.2 with ⟨_, hn⟩ | ⟨g, cap, cur, hv, _⟩
  · omega
  · injection hv with e1 e2 e3
    subst e1
    subst e2
    subst e3
    refine ⟨g, u, rfl, ?_, hg⟩
    rw [World.ownsRow.cellAt h0 i (by omega)]
    exact hu

attribute [local irreducible] serR errS resF errF okF serL sizeI fewB

set_option maxHeartbeats 4000000 in
set_option maxRecDepth 100000 in
theorem Alias4_walk (A B : Option Addr) (c d : Nat) (b : List Int) (ls : List (List Int)) (w : World) (hA : Ri w .u8 A b) (hb : Bts b) (hnil : A = none → c = 0) (hbm0 : b.length ≤ 9223372036854775807) (hbc : b.length ≤ c) (hcm : c ≤ 9223372036854775807)
    (hB : Sg w B ls) (hw : Wd2 ls) (hnil2 : B = none → d = 0) (hlm : ls.length ≤ 9223372036854775807) (hlc : ls.length ≤ d) (hdm : d ≤ 9223372036854775807) :
    Calls Try.prog 6 #[.slice A b.length c, .slice B ls.length d] w fun e w' => e = .returned (.bool true) ∧ Below w.heap.size w w' := by
  obtain ⟨i8, hi8, hy0, hy1, hy2⟩ := info_parts int8_info
  by_cases hlong : b.length ≤ 3000
  · have hbm : b.length ≤ 140737488355328 := by omega
    go_enter Try.func6, Try.ntmps6
    go_wp2_with fail
    refine (awake_any _).mono ?_
    rintro e w1 ⟨rfl, hw1⟩
    have HS1 := Lib.hid (hB.below hw1 (Nat.le_refl _))
    go_wp2_with fail
    refine (Few_any B d ls _ HS1.out hlm).mono ?_
    rintro e w' ⟨rfl, rfl⟩
    cases hf : fewB ls with
    | false =>
      have HF := Lib.hid hf
      clear hf
      go_wp2_with fail
      refine (awake_any _).mono ?_
      rintro e w2 ⟨rfl, hw2⟩
      go_wp2
      go_ret
      exact ⟨rfl, bel_on hw1 hw2⟩
    | true =>
      have hfit := few_fits hf
      have hsl := serR_few hf
      have HFIT := Lib.hid hfit
      have HBS := Lib.hid (serR_bts hf hw)
      have hl20 := hfit.2
      have hx20 : (resF b).length ≤ 512 := by
        cases hk : okF b with
        | false => rw [res_no hk]; simp
        | true => exact (res_ok hb hk).1.le
      have hxs : ∀ j, (seg (resF b) j).length ≤ 536870911 := by
        cases hk : okF b with
        | false => intro j; rw [res_no hk, seg_out (by simp)]; simp
        | true => exact (res_ok hb hk).1.fits
      have HXS := Lib.hid hxs
      clear hf hfit hxs
      have HW1 := Lib.hid hw1
      have HA1 := Lib.hid ((hA.below hw1 (Nat.le_refl _)).alloc (.cells #[] 5))
      go_wp2_with (at_builtin; refine wpList_appN rfl (.tmp 29) (.tmp 30) 22 rfl Try.underlying22 hi8 hy0 hy1 hy2 rfl (Got.empty_made w1 5 .u8 (base := w1.heap.size) (Nat.le_refl _)) rfl HA1.out hnil (by unfold maxLen; simp; omega) (by simp; omega) (by simp) ?_; intro v2 w2 hg2 hb2)
      have hb12 : Below w1.heap.size w1 w2 := ((Below.refl _ _).alloc (Nat.le_refl _) _).trans hb2
      have hw2 := bel_on HW1.out hb12
      rw [List.nil_append] at hg2
      obtain ⟨A2, c2, rfl, hc2, hm2, hr2, hn2⟩ := hg2.full
      have HW2 := Lib.hid hw2
      have HR2 := Lib.hid hr2
      have HP := Lib.hid (FParse_any A2 c2 b w2 hr2 hb hn2 hbm hc2 (by unfold maxLen at hm2; omega))
      clear hg2 hb12 hb2 hw1 HA1 hw2 hr2 hc2 hm2 hn2
      go_wp2_with fail
      refine HP.out.mono ?_
      rintro e w3 ⟨v3, rfl, hg3, hw3⟩
      obtain ⟨A3, c3, rfl, -⟩ := hg3.slice
      have hl3 := hw3.size
      have HG3 := Lib.hid hg3
      have HW3 := Lib.hid hw3
      clear hg3 hw3
      generalize hN : (resF b).length = N at *
      have HN := Lib.hid hN
      clear hN
      go_wp2
      go_loopw [8] (fun i wr => ∃ (k : Nat) (xs : List (List Int)), k ≤ N ∧ i = .int .i64 k ∧ xs.length = N ∧ (∀ j, (seg xs j).length ≤ 536870911) ∧ GotS wr w2.heap.size (.slice A3 N c3) xs ∧ Below w2.heap.size w2 wr) (fun i _ => N - (intOf i).toNat)
      case atStart => exact ⟨0, resF b, by omega, rfl, HN.out, HXS.out, HG3.out, HW3.out⟩
      case round =>
        obtain ⟨k, xs, hk, rfl, hxl, hxf, hgx, hbx⟩ := hrel
        by_cases hlt : k < N
        · have hl : (k : Int) < (N : Int) := by omega
          obtain ⟨g0, u, rfl, hcu, hgu⟩ := hgx.cell (i := k) (by omega)
          obtain ⟨Au, cu, rfl, -⟩ := hgu.slice
          have hM := hxf k
          have HX := Lib.hid hxf
          have HGX := Lib.hid hgx
          have HBX := Lib.hid hbx
          have HGU := Lib.hid hgu
          have HXL := Lib.hid hxl
          generalize hMM : (seg xs k).length = M at *
          have HMM := Lib.hid hMM
          have HCU := Lib.hid hcu
          clear hgx hbx hgu hxf hxl hMM hcu
          go_wp2
          go_loopw [9] (fun i wr2 => ∃ (q : Nat) (ys : List (List Int)), q ≤ M ∧ i = .int .i64 q ∧ ys.length = N ∧ (∀ j, (seg ys j).length = (seg xs j).length) ∧ GotS wr2 w2.heap.size (.slice (some ⟨g0, 0, none⟩) N c3) ys ∧ wr2.cell? ⟨g0, k, none⟩ = some (.slice Au M cu) ∧ Below w2.heap.size w2 wr2) (fun i _ => M - (intOf i).toNat)
          case atStart => exact ⟨0, xs, by omega, rfl, HXL.out, fun _ => rfl, HGX.out, HCU.out, HBX.out⟩
          case round =>
            obtain ⟨q, ys, hq, rfl, hyl, hyf, hgy, hcy, hby⟩ := hrel
            have hlN : (k : Int) < (N : Int) := by omega
            by_cases hqt : q < M
            · have hqM : (q : Int) < (M : Int) := by omega
              obtain ⟨g1, u1, e1, hc1, hg1⟩ := hgy.cell (i := k) (by omega)
              injection e1 with e1
              injection e1 with e1
              subst e1
              rw [hcy] at hc1
              injection hc1 with hc1
              subst hc1
              have hyk := hyf k
              have hlen : M = (seg ys k).length := by rw [hyk, HMM.out]
              obtain ⟨g2, rfl, hg2a, hg2b, _⟩ := hg1.addr (by omega)
              have hg1' := hg1.cast (congrArg (fun n => Value.slice (some ⟨g2, 0, none⟩) n cu) hlen) rfl
              have hcq := hg1'.cell q (by omega)
              have hfq := hg1'.free q
              obtain ⟨hne0, ys2, z1, z2, z3⟩ := hgy.poke g2 q (IntKind.u64.wrap (zat (seg ys k) q + 1)) hg1 (by simp [Value.ownBlock])
              have hne : g0 ≠ g2 := by rintro rfl; exact hne0 (by simp [Value.ownBlock])
              have HZ3 := Lib.hid z3
              have HZ2 := Lib.hid z2
              have HZ1 := Lib.hid z1
              have HYF := Lib.hid hyf
              have HYL := Lib.hid hyl
              have HBY := Lib.hid hby
              have HG1 := Lib.hid hg1
              have HCY := Lib.hid hcy
              clear z1 z2 z3 hyf hyl hby hg1 hg1' hgy hyk hlen
              generalize zat (seg ys k) q = z at *
              go_wp2
              go_still_tail 14, (by kernel_rfl)
              change wpList _ _ _ _ _ wr.drew
              go_wp2
              go_roundw
              case rel =>
                refine ⟨q + 1, ys2, by omega, by go_num, by rw [HZ1.out, HYL.out], fun j => by rw [HZ2.out, HYF.out], ?_, ?_, ?_⟩
                · exact HZ3.out
                · exact (World.cell?_setCell_other (h := fun h => hne (congrArg Addr.block h).symm) ..).trans HCY.out
                · exact bel_drewN (HBY.out.setCell (p := ⟨g2, q, none⟩) hg2a _) 1
              case measure => simp [intOf]; omega
            · obtain rfl : q = M := by omega
              have HGY := Lib.hid hgy
              have HYF := Lib.hid hyf
              have HYL := Lib.hid hyl
              have HBY := Lib.hid hby
              clear hgy hyf hyl hby
              go_wp2
              go_roundw
              case rel => exact ⟨k + 1, ys, by omega, by go_num, HYL.out, fun j => by rw [HYF.out]; exact HX.out j, HGY.out, HBY.out⟩
              case measure => simp [intOf]; omega
        · obtain rfl : k = N := by omega
          have hb4 := bel_on HW2.out hbx
          have HB4 := Lib.hid hb4
          have HR4 := Lib.hid (HR2.out.below hbx (Nat.le_refl _))
          have HS4 := Lib.hid (hB.below hb4 (Nat.le_refl _))
          have HSER := Lib.hid (fun w5 (h5 : Sg w5 B ls) => FSer_any B d ls w5 h5 hw (fun j => by have := HFIT.out.1 j; omega) hnil2 hlc hdm (by omega))
          clear hgx hbx hxf hxl hb4 hk hlt hl3
          generalize hSL : (serR ls).length = SL at *
          have HSL := Lib.hid hSL
          clear hSL
          go_wp2_with fail
          refine (HSER.out wr HS4.out).mono ?_
          rintro e w5 ⟨v5, rfl, hg5, hw5⟩
          obtain ⟨A5, c5, he5, hc5, hm5, hr5, hn5⟩ := hg5.full
          rw [HSL.out] at he5 hc5
          subst he5
          have HG5 := Lib.hid hg5
          have HW5 := Lib.hid hw5
          have HR5 := Lib.hid (hr5.alloc (.cells #[] 5))
          clear hg5 hw5 hr5
          go_wp2_with (at_builtin; refine wpList_appNn SL rfl (.tmp 71) (.tmp 72) 22 rfl Try.underlying22 hi8 hy0 hy1 hy2 HSL.out.symm rfl (Got.empty_made w5 5 .u8 (base := w5.heap.size) (Nat.le_refl _)) rfl HR5.out hn5 (by unfold maxLen; simp only [List.length_nil]; omega) (by simp only [List.length_nil]; omega) (by simp) ?_; intro v6 w6 hg6 hb6; rw [List.nil_append] at hg6; obtain ⟨A6, c6, he6, -⟩ := hg6.slice; rw [HSL.out] at he6; subst he6; have HR6 := Lib.hid hg6; have HB6 := Lib.hid hb6; clear hg6 hb6)
          have hb56 : Below w5.heap.size w5 w6 := ((Below.refl _ _).alloc (Nat.le_refl _) _).trans HB6.out
          have HG6 := Lib.hid (HG5.out.below hb56 (Nat.le_refl _))
          have hsz5 := HW5.out.size
          have hsz6 := hb56.size
          have HB56 := Lib.hid (HW5.out.trans (hb56.mono (by omega)))
          have hown : ∀ g, Value.ownBlock (.slice A5 SL c5) = some g → wr.heap.size ≤ g ∧ g < w5.heap.size := fun g hg => HG5.out.lt g hg
          have HOWN := Lib.hid hown
          clear hb56 hown
          go_loopw [13] (fun i w7 => ∃ (q : Nat) (zs : List Int), q ≤ SL ∧ i = .int .i64 q ∧ zs.length = SL ∧ Got w7 wr.heap.size 5 .u8 (.slice A5 SL c5) zs ∧ Got w7 w5.heap.size 5 .u8 (.slice A6 SL c6) (serR ls) ∧ Below wr.heap.size wr w7) (fun i _ => SL - (intOf i).toNat)
          case atStart => exact ⟨0, serR ls, by omega, rfl, HSL.out, HG6.out, HR6.out, HB56.out⟩
          case round =>
            rename_i w7
            obtain ⟨q, zs, hq, rfl, hzl, hgz, hg6, hbz⟩ := hrel
            by_cases hlt : q < SL
            · obtain ⟨g, rfl, hg1, hg2, hnz⟩ := hgz.addr (by omega)
              have hgz' := hgz.cast (congrArg (fun n => Value.slice (some ⟨g, 0, none⟩) n c5) hnz) rfl
              have hcell := hgz'.cell q (by omega)
              have hfree := hgz'.free q
              have hgo := HOWN.out g rfl
              have HNZ := Lib.hid hnz
              have HGZ := Lib.hid hgz'
              have HBZ := Lib.hid hbz
              have HZL := Lib.hid hzl
              have HG := Lib.hid hg6
              clear hgz hgz' hbz hnz hzl hg6
              have hk1 : (q : Int) < (SL : Int) := by omega
              go_wp2
              go_roundw
              case rel =>
                exact ⟨q + 1, _, by omega, by go_num, by rw [List.length_set]; exact HZL.out, (HGZ.out.put q _).cast (by rw [← HNZ.out]) rfl, HG.out.far (by show g < w5.heap.size; omega) _, HBZ.out.setCell (by show _ ≤ g; omega) _⟩
              case measure => simp [intOf]; omega
            · obtain rfl : q = SL := by omega
              have hb8 := bel_on HB4.out hbz
              have HS8 := Lib.hid (HSER.out _ (hB.below hb8 (Nat.le_refl _)))
              have HG6' := Lib.hid hg6
              have HR8 := Lib.hid (HR4.out.below hbz (Nat.le_refl _))
              have HA8 := Lib.hid (hA.below hb8 (Nat.le_refl _))
              have HB8 := Lib.hid hb8
              clear hgz hg6 hbz hzl hb8 hlt hq HSER HG6
              go_wp2_with fail
              refine HS8.out.mono ?_
              rintro e w9 ⟨v9, rfl, hg9, hw9⟩
              obtain ⟨A9, c9, he9, -, -, hr9⟩ := hg9.slice
              rw [HSL.out] at he9
              subst he9
              have hb9 := bel_on HB8.out hw9
              have hr2' := HR8.out.below hw9 (Nat.le_refl _)
              obtain ⟨A6', c6', he6, -, -, hr6⟩ := HG6'.out.slice
              injection he6 with he6a he6b he6c
              subst he6a
              have hr6' := hr6.below hw9 (Nat.le_refl _)
              have HQ1 := Lib.hid (Same_any A2 A c2 c b b w9 hr2' (hA.below hb9 (Nat.le_refl _)) hbm0 hbm0)
              have HQ2 := Lib.hid (fun m => Same_any A9 A6 c9 c6 (serR ls) (serR ls) (w9.drewN m) (hr9.drewN m) (hr6'.drewN m) (by rw [HSL.out]; omega) (by rw [HSL.out]; omega))
              rw [sameB_self] at HQ1
              rw [sameB_self, HSL.out] at HQ2
              have HB9 := Lib.hid hb9
              clear hg9 hw9 hr9 hb9 hr2' hr6 hr6' he6b he6c
              go_wp2_with fail
              refine HQ1.out.mono ?_
              rintro e w' ⟨rfl, m, rfl⟩
              go_wp2_with fail
              refine (HQ2.out m).mono ?_
              rintro e w' ⟨rfl, m2, rfl⟩
              go_wp2
              go_ret
              exact ⟨rfl, bel_drewN HB9.out _⟩
  · have hgt : (3000 : Int) < (b.length : Int) := by omega
    go_enter Try.func6, Try.ntmps6
    go_wp2_with fail
    refine (awake_any _).mono ?_
    rintro e w1 ⟨rfl, hw1⟩
    go_wp2_with fail
    refine (awake_any _).mono ?_
    rintro e w2 ⟨rfl, hw2⟩
    go_wp2
    go_ret
    exact ⟨rfl, bel_on hw1 hw2⟩
end Go.Proofs.Ytmnhodbppadpdaa
