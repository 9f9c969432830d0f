/- A law of layer 8: ResolvedObjectsAreInBounds. -/
import Derived.Test.YtljkdhdkbolnjaaDoorAwake08
import Derived.Test.YtljkdhdkbolnjaaDoorRegionS
namespace Go.Proofs.YtljkdhdkbolnjaaDoor
open Go.ChangeShapes Go.WideShapes Go.ChangeAt Go.RowKit
set_option linter.unusedVariables false
set_option linter.unusedSimpArgs false

theorem ptrO_1 (sg at' d p el n cost : Int) (hp : 0 < p) : ptrO ⟨1, sg, at', d, p, el, n, cost⟩ = (at' + d, p) := if_pos ⟨rfl, hp⟩
theorem ptrO_10 (sg at' d p el n cost : Int) (hp : ¬ 0 < p) : ptrO ⟨1, sg, at', d, p, el, n, cost⟩ = (0, 0) := (if_neg (fun h => hp h.2)).trans (if_neg (fun h => by have := h.1; simp at this))
theorem ptrO_2 (sg at' d p n cost : Int) (hn : 0 < n) : ptrO ⟨2, sg, at', d, p, 6, n, cost⟩ = (at', n) := (if_neg (fun h => by have := h.1; simp at this)).trans (if_pos ⟨rfl, rfl, hn⟩)
theorem ptrO_20 (sg at' d p el n cost : Int) (hn : ¬ (el = 6 ∧ 0 < n)) : ptrO ⟨2, sg, at', d, p, el, n, cost⟩ = (0, 0) := (if_neg (fun h => by have := h.1; simp at this)).trans (if_neg (fun h => hn h.2))

attribute [local irreducible] objF fewB ptrO inB wordsI
attribute [local simp] AllK KnowsV look Is

set_option maxHeartbeats 4000000 in
set_option maxRecDepth 100000 in
theorem InB8_walk (A : Option Addr) (c : Nat) (ls : List (List Int)) (s a i : Int) (w : World) (hT : TabOK w) (hA : Sg w A ls) (hw : Wd2 ls) (hnil : A = none → c = 0) (hlm : ls.length ≤ 9223372036854775807) (hlc : ls.length ≤ c) (hcm : c ≤ 9223372036854775807)
    (s0 : -9223372036854775808 ≤ s) (s1 : s ≤ 9223372036854775807) (a0 : -9223372036854775808 ≤ a) (a1 : a ≤ 9223372036854775807) (i0 : 0 ≤ i) (i1 : i < 65536) :
    Calls Tryd.prog 4 #[.slice A ls.length c, .int .i64 s, .int .i64 a, .int .u16 i] w fun e w' => e = .returned (.bool true) ∧ Below w.heap.size w w' := by
  have HT := Lib.hid hT
  clear hT
  go_enter Tryd.func4, Tryd.ntmps4
  go_wp2_with fail
  refine (awake8_any _ HT.out).mono ?_
  rintro e w1 ⟨rfl, hw1⟩
  have HS1 := Lib.hid (hA.below hw1 (Nat.le_refl _))
  go_wp2_with fail
  refine (Few_any A c ls _ HS1.out hlm).mono ?_
  rintro e w' ⟨rfl, rfl⟩
  cases hf : fewB ls with
  | false =>
    have HF := Lib.hid hf
    clear hf
    go_wp2_with fail
    refine (awake8_any _ (HT.out.on hw1)).mono ?_
    rintro e w2 ⟨rfl, hw2⟩
    go_wp2
    go_ret
    exact ⟨rfl, bel_on hw1 hw2⟩
  | true =>
    have hfit := few_fits hf
    have hm : ls.length ≤ 140737488355328 := by omega
    have HFT : Hid (∀ j, (seg ls j).length ≤ 140737488355328) := Lib.hid (fun j => by have := hfit.1 j; omega)
    obtain ⟨⟨⟨k, sg, at', d, p, el, n, cost⟩, e0⟩, hq⟩ : ∃ q, objF ls s a = q := ⟨_, rfl⟩
    have hbd := objF_bd hw hfit.2 hfit.1 _ _ _ _ _ _ _ _ _ _ _ hq
    have hcs := objF_cases hw hm HFT.out s a
    rw [hq] at hcs
    simp only [ob0, Ob.mk.injEq] at hcs
    have HQ := Lib.hid hq
    have HW := Lib.hid hw
    have HB1 := Lib.hid hw1
    have HC := Lib.hid hcs
    clear hw1 hq hfit hf hw hA hcs
    go_wp2_with fail
    refine (RObject_is A c ls s a k sg at' d p el n cost e0 _ (HT.out.on HB1.out) HS1.out HW.out hm HFT.out s0 s1 a0 a1 HQ.out).mono ?_
    rintro e w2 ⟨rfl, hb2⟩
    have HS2 := Lib.hid (HS1.out.below hb2 (Nat.le_refl _))
    have HB2 := Lib.hid (bel_on HB1.out hb2)
    clear hb2 HS1 HB1 HQ
    rcases HC.out with ⟨⟨rfl, rfl, rfl, rfl, rfl, rfl, rfl, rfl⟩, h2⟩ | ⟨rfl, rfl, rfl, rfl, h1, h2, h3, h4, rfl, h5⟩ | ⟨rfl, rfl, h1, h2, h3, h4, rfl, rfl, hcost, h5⟩ | ⟨rfl, rfl, rfl, h1, h2, h3, h4, h5, h6, cc, h7, h8, h9, h10, hcost⟩
    · clear HC hbd
      by_cases he : e0 = 0
      · have t1 : (e0 != 0) = false := by simpa using he
        clear he h2
        go_wp2
        go_ret
        exact ⟨rfl, HB2.out.alloc HB2.out.size _⟩
      · have t1 : (e0 != 0) = true := by simpa using he
        clear he h2
        go_wp2
        go_ret
        exact ⟨rfl, HB2.out.alloc HB2.out.size _⟩
    · clear HC
      have h6 := inB_iff.1 h5
      have H5 := Lib.hid h5
      clear h5
      obtain ⟨⟨x, y⟩, hp⟩ : ∃ q, ptrO ⟨1, sg, at', d, p, 0, 0, d + p⟩ = q := ⟨_, rfl⟩
      have HP := Lib.hid hp
      clear hp
      go_wp2_with fail
      refine (RPointers_is 1 sg at' d p 0 0 (d + p) x y _ (by omega) (by omega) (by omega) (by omega) HP.out).mono ?_
      rintro e w3 ⟨rfl, hb3⟩
      have B9 := (Blk.fresh w2 _ _).below hb3
      have HB3 : Hid (Below w.heap.size w w3) := Lib.hid (bel_on (HB2.out.alloc HB2.out.size _) hb3)
      have HS3 := Lib.hid ((HS2.out.alloc _).below hb3 (Nat.le_refl _))
      clear hb3 HB2 HS2
      obtain ⟨x9, y9, z9⟩ := B9
      by_cases hp : 0 < p
      · have HX : Hid (x = at' + d) := Lib.hid (by have := HP.out; rw [ptrO_1 _ _ _ _ _ _ _ hp] at this; exact (Prod.mk.inj this).1.symm)
        obtain rfl : y = p := by have := HP.out; rw [ptrO_1 _ _ _ _ _ _ _ hp] at this; exact (Prod.mk.inj this).2.symm
        go_wp2_with fail
        refine (RefInB_is _ _ _ _ _ _ true _ HS3.out hm (inB_iff.2 (by rw [HX.out]; omega))).mono ?_
        rintro e w' ⟨rfl, rfl⟩
        go_wp2_with fail
        refine (RefInB_is _ _ _ _ _ _ true _ HS3.out hm H5.out).mono ?_
        rintro e w' ⟨rfl, rfl⟩
        go_wp2
        go_ret
        exact ⟨rfl, HB3.out⟩
      · obtain rfl : y = 0 := by have := HP.out; rw [ptrO_10 _ _ _ _ _ _ _ hp] at this; exact (Prod.mk.inj this).2.symm
        go_wp2_with fail
        refine (RefInB_is _ _ _ _ _ _ true _ HS3.out hm H5.out).mono ?_
        rintro e w' ⟨rfl, rfl⟩
        go_wp2
        go_ret
        exact ⟨rfl, HB3.out⟩
    · clear HC
      have h6 := inB_iff.1 h5
      have H5 := Lib.hid h5
      clear h5
      obtain ⟨⟨x, y⟩, hp⟩ : ∃ q, ptrO ⟨2, sg, at', 0, 0, el, n, cost⟩ = q := ⟨_, rfl⟩
      have HP := Lib.hid hp
      have HC := Lib.hid hcost
      clear hp hcost
      go_wp2_with fail
      refine (RPointers_is 2 sg at' 0 0 el n cost x y _ (by omega) (by omega) (by omega) (by omega) HP.out).mono ?_
      rintro e w3 ⟨rfl, hb3⟩
      have B9 := (Blk.fresh w2 _ _).below hb3
      have HB3 : Hid (Below w.heap.size w w3) := Lib.hid (bel_on (HB2.out.alloc HB2.out.size _) hb3)
      have HS3 := Lib.hid ((HS2.out.alloc _).below hb3 (Nat.le_refl _))
      clear hb3 HB2 HS2
      obtain ⟨x9, y9, z9⟩ := B9
      have t7 : (el != 7) = true := by simp; omega
      by_cases hp : el = 6 ∧ 0 < n
      · obtain ⟨rfl, hn⟩ := hp
        have HX : Hid (x = at') := Lib.hid (by have := HP.out; rw [ptrO_2 _ _ _ _ _ _ hn] at this; exact (Prod.mk.inj this).1.symm)
        have HY : Hid (y = n) := Lib.hid (by have := HP.out; rw [ptrO_2 _ _ _ _ _ _ hn] at this; exact (Prod.mk.inj this).2.symm)
        have HCN : Hid (cost = n) := Lib.hid (by rw [HC.out]; unfold wordsI bitsI; simp; omega)
        have hy0 : 0 < y := by rw [HY.out]; exact hn
        have HI : Hid (inB ls sg x y = true) := Lib.hid (by rw [HX.out, HY.out, ← HCN.out]; exact H5.out)
        go_wp2_with fail
        refine (RefInB_is _ _ _ sg x y true _ HS3.out hm HI.out).mono ?_
        rintro e w' ⟨rfl, rfl⟩
        go_wp2_with fail
        refine (RefInB_is _ _ _ _ _ _ true _ HS3.out hm H5.out).mono ?_
        rintro e w' ⟨rfl, rfl⟩
        go_wp2
        go_ret
        exact ⟨rfl, HB3.out⟩
      · obtain rfl : y = 0 := by have := HP.out; rw [ptrO_20 _ _ _ _ _ _ _ hp] at this; exact (Prod.mk.inj this).2.symm
        go_wp2_with fail
        refine (RefInB_is _ _ _ _ _ _ true _ HS3.out hm H5.out).mono ?_
        rintro e w' ⟨rfl, rfl⟩
        go_wp2
        go_ret
        exact ⟨rfl, HB3.out⟩
    · clear HC
      have h11 := inB_iff.1 h10
      have m0 : 0 ≤ n * (d + p) := Int.mul_nonneg (by omega) (by omega)
      have hcb : n * (d + p) + 1 ≤ cost := by
        by_cases hz : d + p = 0
        · rw [if_pos hz] at hcost; omega
        · rw [if_neg hz] at hcost; omega
      have H5 : Hid (inB ls sg at' (n * (d + p)) = true) := Lib.hid (inB_iff.2 (by omega))
      have HP := Lib.hid (ptrO_20 sg at' d p 7 n cost (fun h => by have := h.1; simp at this))
      have HLEN : Hid (at' + n * (d + p) ≤ (seg ls sg.toNat).length ∧ sg < ls.length) := Lib.hid (by omega)
      clear h10 hcost h11 h9
      go_wp2_with fail
      refine (RPointers_is 2 sg at' d p 7 n cost 0 0 _ (by omega) (by omega) (by omega) (by omega) HP.out).mono ?_
      rintro e w3 ⟨rfl, hb3⟩
      have B9 := (Blk.fresh w2 _ _).below hb3
      have HB3 : Hid (Below w.heap.size w w3) := Lib.hid (bel_on (HB2.out.alloc HB2.out.size _) hb3)
      have HS3 := Lib.hid ((HS2.out.alloc _).below hb3 (Nat.le_refl _))
      have HZ9 : Hid (w.heap.size ≤ w2.heap.size) := Lib.hid HB2.out.size
      clear hb3 HB2 HS2
      have H9 := Lib.hid B9
      obtain ⟨x9, y9, z9⟩ := B9
      go_wp2_with fail
      refine (RefInB_is _ _ _ _ _ _ true _ HS3.out hm H5.out).mono ?_
      rintro e w' ⟨rfl, rfl⟩
      by_cases hn : n = 0
      · subst hn
        go_wp2
        go_ret
        exact ⟨rfl, HB3.out⟩
      have t1 : (n == 0) = false := by simpa using hn
      go_wp2_with fail
      rename_i KK hKK
      have hj0 : 0 ≤ i % n := Int.emod_nonneg _ (by omega)
      have hj1 : i % n < n := Int.emod_lt_of_pos _ (by omega)
      have HEL := Lib.hid (fun w => RElement_any 2 sg at' d p 7 n cost (i % n) w hj0 (by omega) (by omega) (by omega) (by omega) (by omega) (by omega) (by omega))
      have hj2 : 0 ≤ i % n * (d + p) := Int.mul_nonneg hj0 (by omega)
      have hj3 : i % n * (d + p) + (d + p) ≤ n * (d + p) := by
        have := Int.mul_le_mul_of_nonneg_right (c := d + p) (by omega : i % n + 1 ≤ n) (by omega)
        rw [Int.add_mul, Int.one_mul] at this
        exact this
      refine wp_region_store (by kernel_rfl) (by kernel_rfl) ?_
      refine s_val (u := ?_) [9] rfl (by kernel_rfl) trivial (fun ρ wc hbc hcn hk => ?_) ?_; rotate_left
      · obtain ⟨hcn, hfn⟩ := hcn
        simp at hk
        obtain ⟨hcc, -⟩ := bcell hbc
        simp at hcc
        go_simp
        rfl
      refine s_val (u := ?_) [3] rfl (by kernel_rfl) trivial (fun ρ wc hbc hcn hk => ?_) ?_; rotate_left
      · obtain ⟨hcn, hfn⟩ := hcn
        simp at hk
        go_simp
        rfl
      refine s_val (u := .int .i64 i) [146] rfl (by kernel_rfl) trivial (fun ρ wc hbc hcn hk => ?_) ?_
      · obtain ⟨hcn, hfn⟩ := hcn
        simp at hk
        go_simp
        rw [IntKind.wrap_i64]
        omega
      refine s_val (u := ?_) [9] rfl (by kernel_rfl) trivial (fun ρ wc hbc hcn hk => ?_) ?_; rotate_left
      · obtain ⟨hcn, hfn⟩ := hcn
        simp at hk
        go_simp
        rfl
      refine s_val (u := ?_) [148] rfl (by kernel_rfl) trivial (fun ρ wc hbc hcn hk => ?_) ?_; rotate_left
      · obtain ⟨hcn, hfn⟩ := hcn
        simp at hk
        obtain ⟨hcc, -⟩ := bcell hbc
        simp at hcc
        go_simp
        rfl
      refine s_val (u := .int .i64 (i % n)) [147, 149] rfl (by kernel_rfl) trivial (fun ρ wc hbc hcn hk => ?_) ?_
      · obtain ⟨hcn, hfn⟩ := hcn
        simp at hk
        have hnz : (n == 0) = false := t1
        have htm : i.tmod n = i % n := Int.tmod_eq_emod_of_nonneg i0
        go_simp
      refine s_call (T := Is (.agg #[.int .i64 1, .int .i64 sg, .int .i64 (at' + i % n * (d + p)), .int .i64 d, .int .i64 p, .int .i64 0, .int .i64 0, .int .i64 0])) 14 [145, 150] rfl (by kernel_rfl) trivial (stable_is _) (stableS_is _ _) (fun ρ wc hbc hcn hk => ?_) ?_
      · obtain ⟨hcn, hfn⟩ := hcn
        simp at hk
        refine ⟨_, by go_simp; rfl, ?_⟩
        refine (HEL.out _).mono ?_
        rintro e w' ⟨rfl, hbq⟩
        refine ⟨_, rfl, ?_, hbq⟩
        unfold Is
        rfl
      refine s_new (T := PtrF w3.heap.size 8) [] rfl (by kernel_rfl) trivial (stable_ptr _ _) (stableS_ptr _ _ _) (fun ρ wc hbc hcn hk => ?_) ?_
      · have hsz2 : w3.heap.size ≤ wc.heap.size := hbc.size
        exact ⟨.pointer (some ⟨wc.heap.size, 0, none⟩), wc.alloc (.cells #[.int .i64 0, .int .i64 0, .int .i64 0, .int .i64 0, .int .i64 0, .int .i64 0, .int .i64 0, .int .i64 0] 27), by go_simp, PtrF.alloc wc _ _ hsz2 (by simp), (Below.refl _ _).alloc (Nat.le_refl _) _⟩
      refine s_store (T := VarF w3.heap.size #[.int .i64 1, .int .i64 sg, .int .i64 (at' + i % n * (d + p)), .int .i64 d, .int .i64 p, .int .i64 0, .int .i64 0, .int .i64 0]) 13 [13, 151] rfl rfl (by kernel_rfl) trivial (stable_var _ _) (fun ρ wc hbc hcn hk => ?_) ?_
      · simp at hk
        obtain ⟨⟨bb, h8, q1, q2, q3, q4⟩, h44⟩ := hk
        have hR := setsN_rel q1 wc (fun j => (#[.int .i64 1, .int .i64 sg, .int .i64 (at' + i % n * (d + p)), .int .i64 d, .int .i64 p, .int .i64 0, .int .i64 0, .int .i64 0] : Array Value).getD j undef) 8
        have hC := setsN_cell q1 wc (fun j => (#[.int .i64 1, .int .i64 sg, .int .i64 (at' + i % n * (d + p)), .int .i64 d, .int .i64 p, .int .i64 0, .int .i64 0, .int .i64 0] : Array Value).getD j undef) 8 q3
        refine ⟨_, ?_, ⟨bb, h8, q1, by rw [hR.size]; exact q2, fun j hj => ?_, fun j => by rw [hR.frozen]; exact q4 j⟩, hR⟩
        · obtain ⟨y0, e0⟩ := Option.isSome_iff_exists.1 (q3 0 (by omega))
          obtain ⟨y1, e1⟩ := Option.isSome_iff_exists.1 (q3 1 (by omega))
          obtain ⟨y2, e2⟩ := Option.isSome_iff_exists.1 (q3 2 (by omega))
          obtain ⟨y3, e3⟩ := Option.isSome_iff_exists.1 (q3 3 (by omega))
          obtain ⟨y4, e4⟩ := Option.isSome_iff_exists.1 (q3 4 (by omega))
          obtain ⟨y5, e5⟩ := Option.isSome_iff_exists.1 (q3 5 (by omega))
          obtain ⟨y6, e6⟩ := Option.isSome_iff_exists.1 (q3 6 (by omega))
          obtain ⟨y7, e7⟩ := Option.isSome_iff_exists.1 (q3 7 (by omega))
          clear hR hC q3
          go_simp
          rfl
        · have hj8 : j < 8 := by simpa using hj
          rw [hC j hj8]
          simp only [Array.getD, hj, dif_pos, Array.getElem?_eq_getElem hj]
          rfl
      refine s_end_lit 180 rfl (fun ff w5 hb5 hk => ?_)
      refine hKK _ _ ?_
      clear hKK KK
      have h13 := allN_at9 hk 13 (by omega) (by omega)
      simp [KnowsV, look] at h13
      simp [AllN] at hk
      simp only [frameL, hk]
      obtain ⟨bn, e13, g1, g2, g3, g4⟩ := h13
      rw [e13]
      have HB5 : Hid (Below w.heap.size w w5) := Lib.hid (bel_on (bel_drew HB3.out) hb5)
      have hs3d : Sg w3.drew A ls := HS3.out
      have HS5 := Lib.hid (hs3d.below hb5 (Nat.le_refl _))
      clear hs3d
      have ht : 0 ≤ at' + i % n * (d + p) ∧ at' + i % n * (d + p) ≤ 281474976710656 := by omega
      have HI1 : Hid (inB ls sg (at' + i % n * (d + p)) (d + p) = true) := Lib.hid (inB_iff.2 (by have := HLEN.out; omega))
      have HI2 : Hid (inB ls sg (at' + i % n * (d + p) + d) p = true) := Lib.hid (inB_iff.2 (by have := HLEN.out; omega))
      clear hb5 hk e13 HS3 HB3 HEL hj2 hj3 hj0 hj1 x9 y9 z9 H9
      generalize at' + i % n * (d + p) = t at *
      have c0 := g3 0 (by simp)
      have c1 := g3 1 (by simp)
      have c2 := g3 2 (by simp)
      have c3 := g3 3 (by simp)
      have c4 := g3 4 (by simp)
      have c5 := g3 5 (by simp)
      have c6 := g3 6 (by simp)
      have c7 := g3 7 (by simp)
      simp at c0 c1 c2 c3 c4 c5 c6 c7
      obtain ⟨⟨x, y⟩, hp⟩ : ∃ q, ptrO ⟨1, sg, t, d, p, 0, 0, 0⟩ = q := ⟨_, rfl⟩
      have HPP := Lib.hid hp
      clear hp
      have G3 := Lib.hid g3
      clear g3
      go_wp2_with fail
      refine (RPointers_is 1 sg t d p 0 0 0 x y _ ht.1 ht.2 (by omega) (by omega) HPP.out).mono ?_
      rintro e w6 ⟨rfl, hb6⟩
      have HB6 : Hid (Below w.heap.size w w6) := Lib.hid (bel_on HB5.out hb6)
      have HS6 := Lib.hid (HS5.out.below hb6 (Nat.le_refl _))
      have g3 := G3.out
      clear c0 c1 c2 c3 c4 c5 c6 c7
      have c0 : w6.cell? ⟨bn, 0, none⟩ = _ := (hb6.cell (p := ⟨bn, 0, none⟩) g2).trans (g3 0 (by simp))
      have c1 : w6.cell? ⟨bn, 1, none⟩ = _ := (hb6.cell (p := ⟨bn, 1, none⟩) g2).trans (g3 1 (by simp))
      have c2 : w6.cell? ⟨bn, 2, none⟩ = _ := (hb6.cell (p := ⟨bn, 2, none⟩) g2).trans (g3 2 (by simp))
      have c3 : w6.cell? ⟨bn, 3, none⟩ = _ := (hb6.cell (p := ⟨bn, 3, none⟩) g2).trans (g3 3 (by simp))
      have c4 : w6.cell? ⟨bn, 4, none⟩ = _ := (hb6.cell (p := ⟨bn, 4, none⟩) g2).trans (g3 4 (by simp))
      have c5 : w6.cell? ⟨bn, 5, none⟩ = _ := (hb6.cell (p := ⟨bn, 5, none⟩) g2).trans (g3 5 (by simp))
      have c6 : w6.cell? ⟨bn, 6, none⟩ = _ := (hb6.cell (p := ⟨bn, 6, none⟩) g2).trans (g3 6 (by simp))
      have c7 : w6.cell? ⟨bn, 7, none⟩ = _ := (hb6.cell (p := ⟨bn, 7, none⟩) g2).trans (g3 7 (by simp))
      have f6 : ∀ j, w6.frozen? ⟨bn, j, none⟩ = false := fun j => (hb6.frozen (p := ⟨bn, j, none⟩) g2).trans (g4 j)
      simp at c0 c1 c2 c3 c4 c5 c6 c7
      clear hb6 HS5 HB5 g3 G3 g4
      by_cases hpp : 0 < p
      · have HX : Hid (x = t + d) := Lib.hid (by have := HPP.out; rw [ptrO_1 _ _ _ _ _ _ _ hpp] at this; exact (Prod.mk.inj this).1.symm)
        obtain rfl : y = p := by have := HPP.out; rw [ptrO_1 _ _ _ _ _ _ _ hpp] at this; exact (Prod.mk.inj this).2.symm
        go_wp2_with fail
        refine (RefInB_is _ _ _ _ _ _ true _ HS6.out hm HI1.out).mono ?_
        rintro e w' ⟨rfl, rfl⟩
        go_wp2_with fail
        refine (RefInB_is _ _ _ sg x y true _ HS6.out hm (by rw [HX.out]; exact HI2.out)).mono ?_
        rintro e w' ⟨rfl, rfl⟩
        go_wp2
        go_ret
        exact ⟨rfl, HB6.out⟩
      · obtain rfl : y = 0 := by have := HPP.out; rw [ptrO_10 _ _ _ _ _ _ _ hpp] at this; exact (Prod.mk.inj this).2.symm
        go_wp2_with fail
        refine (RefInB_is _ _ _ _ _ _ true _ HS6.out hm HI1.out).mono ?_
        rintro e w' ⟨rfl, rfl⟩
        go_wp2
        go_ret
        exact ⟨rfl, HB6.out⟩
end Go.Proofs.YtljkdhdkbolnjaaDoor
