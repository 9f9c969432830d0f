/- A law of layer 18: FnvFindsOneChange. -/
import Derived.Test.YtekcmifgdlmljaaAwake18
import Derived.Test.YtekcmifgdlmljaaRegion
namespace Go.Proofs.Ytekcmifgdlmljaa
open Go.ChangeShapes Go.WideShapes Go.ChangeAt Go.RowKit
set_option linter.unusedVariables false
set_option linter.unusedSimpArgs false
set_option maxRecDepth 100000
attribute [local irreducible] fnvA fnvB fnvS bytesOf
attribute [local simp] AllK KnowsV look Is
theorem abs_code18 {P : Program} {c : Code} {Q : Exit → Act → World → Prop} {a : Act} {V : World} (F : World → Prop) (hF : F V) (h : ∀ W, F W → c.wp P Q a W) : c.wp P Q a V := h V hF
theorem und18 {w wc : World} (h : Below w.drew.heap.size w.drew wc) : Below w.heap.size w wc := ⟨h.os, h.tape, h.output, h.size, h.block⟩
set_option maxHeartbeats 2000000 in
theorem Chg18_walk (A : Option Addr) (c : Nat) (b : List Int) (i x : Int) (w : World) (hi0 : 0 ≤ i) (hi1 : i < 65536) (hc0 : 0 ≤ x) (hc1 : x < 256) (hrr : Ri w .u8 A b) (hbr : Bts b) (hnr : A = none → c = 0) (hcr : b.length ≤ c) (hmr : c ≤ maxLen) :
    Calls Try.prog 6 #[.slice A b.length c, .int .u16 i, .int .u8 x] w fun e w' => e = .returned (.bool true) ∧ Below w.heap.size w w' := by
  have Hr := Lib.hid hrr
  have HBr := Lib.hid hbr
  have HNr := Lib.hid hnr
  have HCr := Lib.hid hcr
  have HMr := Lib.hid hmr
  clear hrr hbr hnr hcr hmr
  have HC0 := Lib.hid (And.intro hc0 hc1)
  obtain ⟨i0, hi, hz0, hz1, hz2⟩ := info_parts int8_info
  go_enter Try.func6, Try.ntmps6
  go_wp2_with fail
  refine (awake18_any _).mono ?_
  rintro r w1 ⟨rfl, hb⟩
  have fr := Hr.out.below hb (Nat.le_refl _)
  have HB0 := Lib.hid (hb)
  clear hb Hr
  have HB := HB0
  clear HB0
  have Hr := Lib.hid fr
  clear fr
  by_cases hl0 : b.length = 0
  · have t1 : ((b.length : Int) == 0) = true := by simp [hl0]
    go_wp2_with fail
    refine (awake18_any _).mono ?_
    rintro r w2 ⟨rfl, hb⟩
    have fr := Hr.out.below hb (Nat.le_refl _)
    have HB0 := Lib.hid (bel_on HB.out hb)
    clear hb Hr HB
    have HB := HB0
    clear HB0
    have Hr := Lib.hid fr
    clear fr
    go_wp2
    go_ret
    exact ⟨rfl, HB.out⟩
  · have t1 : ((b.length : Int) == 0) = false := by rw [beq_eq_false_iff_ne]; omega
    by_cases hlb : b.length ≤ 1000
    · have t2 : ¬ ((1000 : Int) < (b.length : Int)) := by omega
      obtain ⟨k, hk⟩ : ∃ k : Nat, i % (b.length : Int) = (k : Int) := ⟨(i % (b.length : Int)).toNat, (Int.toNat_of_nonneg (Int.emod_nonneg i (fun e => hl0 (by exact_mod_cast e)))).symm⟩
      have hkl : k < b.length := by have h := Int.emod_lt_of_pos i (show (0 : Int) < (b.length : Int) by omega); rw [hk] at h; omega
      have hkl' : (k : Int) < (b.length : Int) := by omega
      obtain ⟨u1, hu1⟩ : ∃ v, fnvA fnvS b = v := ⟨_, rfl⟩
      obtain ⟨u2, hu2⟩ : ∃ v, fnvA fnvS (b.set k x) = v := ⟨_, rfl⟩
      have e2 : (u1 == u2) = (zat b k == x) := by
        have h := fnvA_set (s := fnvS) (c := x) HBr.out (by unfold fnvS; decide) (by unfold fnvS; decide) HC0.out.1 HC0.out.2 hkl
        rw [hu1, hu2] at h
        rw [Bool.eq_iff_iff, beq_iff_eq, beq_iff_eq]
        exact h
      have t6 : ((u1 == u2) == (zat b k == x)) = true := by rw [e2]; simp
      have HU1 := Lib.hid hu1
      have HU2 := Lib.hid hu2
      clear hu1 hu2 e2
      have HBS : Hid (Bts (b.set k x)) := Lib.hid (fun z hz => by
        rcases List.mem_or_eq_of_mem_set hz with h | h
        · exact HBr.out z h
        · rw [h]; exact HC0.out)
      have HLS : Hid ((b.set k x).length = b.length) := Lib.hid (List.length_set ..)
      have HE := Lib.hid (Got.empty_made w1 (base := w1.heap.size) 5 .u8 (Nat.le_refl _))
      have HR2 := Lib.hid (Hr.out.alloc (.cells #[] 5))
      go_wp2_with (first
        | (at_builtin; refine wpList_appN rfl (.tmp 22) (.tmp 23) 23 rfl Try.underlying23 hi hz0 hz1 hz2 rfl HE.out rfl HR2.out HNr.out (by unfold maxLen; simp; omega) (by simp; omega) (by simp) ?_; intro v8 w8 hg8 hb8
           have HG8 := Lib.hid hg8
           have HB8 : Hid (Below w1.heap.size w1 w8) := Lib.hid (((Below.refl _ _).alloc (Nat.le_refl _) _).trans hb8)
           clear hg8 hb8
           obtain ⟨A9, c9, rfl, hc9, hm9, -, -⟩ := HG8.out.full
           simp only [List.nil_append] at HG8 hc9 ⊢
           obtain ⟨g, rfl, hbg, hgl, -⟩ := HG8.out.addr (by omega)
           have q8 := HG8.out.cell k hkl
           have f8 := HG8.out.free k
           have HG9 : Hid (Got (w8.setCell ⟨g, k, none⟩ (.int .u8 x)) w1.heap.size 5 .u8 (.slice (some ⟨g, 0, none⟩) b.length c9) (b.set k x)) := Lib.hid (HG8.out.put k x)
           have HB9 : Hid (Below w1.heap.size w1 (w8.setCell ⟨g, k, none⟩ (.int .u8 x))) := Lib.hid (HB8.out.setCell hbg _)))
      refine abs_code18 (F := fun W => Ri W .u8 A b ∧ Ri W .u8 (some ⟨g, 0, none⟩) (b.set k x) ∧ Below w.heap.size w W) ⟨Hr.out.below HB9.out (Nat.le_refl _), HG9.out.ri.1, bel_on HB.out HB9.out⟩ ?_
      rintro W2 ⟨g1, g2, g3⟩
      have Hr2 := Lib.hid g1
      have Hy2 := Lib.hid g2
      have HB2 := Lib.hid g3
      have HC9 : Hid (b.length ≤ c9) := Lib.hid (by first | exact hc9 | simpa using hc9)
      have HM9 := Lib.hid hm9
      clear g1 g2 g3 HG9 HB9 HG8 HB8 HE HR2 Hr HB q8 f8 hbg hgl hc9 hm9
      rename_i KK hKK
      refine wp_region_chain (by kernel_rfl) (by kernel_rfl) ?_
      refine chain_val (u := ?_) [0] rfl (by kernel_rfl) trivial (fun ρ wc hbc hcn hk => ?_) ?_; rotate_left
      · obtain ⟨hcn, -⟩ := hcn
        simp at hk
        go_simp
        rfl
      refine chain_call (T := Is (.int .u64 u1)) 10 [34] rfl (by kernel_rfl) trivial (stable_is _) (fun ρ wc hbc hcn hk => ?_) ?_
      · obtain ⟨hcn, hfn⟩ := hcn
        simp at hk
        refine ⟨_, by go_simp; rfl, ?_⟩
        refine (FSum_w A c _ b u1 wc rfl HU1.out (Hr2.out.below (und18 hbc) (Nat.le_refl _)) HBr.out (by omega) HCr.out HMr.out HNr.out).mono ?_
        rintro e w' ⟨rfl, hbq⟩
        exact ⟨_, rfl, rfl, hbq⟩
      refine chain_val (u := ?_) [7] rfl (by kernel_rfl) trivial (fun ρ wc hbc hcn hk => ?_) ?_; rotate_left
      · obtain ⟨hcn, -⟩ := hcn
        simp at hk
        go_simp
        rfl
      refine chain_call (T := Is (.int .u64 u2)) 10 [36] rfl (by kernel_rfl) trivial (stable_is _) (fun ρ wc hbc hcn hk => ?_) ?_
      · obtain ⟨hcn, hfn⟩ := hcn
        simp at hk
        refine ⟨_, by go_simp; rfl, ?_⟩
        refine (FSum_w (some ⟨g, 0, none⟩) c9 _ (b.set k x) u2 wc HLS.out HU2.out (Hy2.out.below (und18 hbc) (Nat.le_refl _)) HBS.out (by omega) HC9.out HM9.out (fun h => by cases h)).mono ?_
        rintro e w' ⟨rfl, hbq⟩
        exact ⟨_, rfl, rfl, hbq⟩
      refine chain_val (u := .bool (u1 == u2)) [35, 37] rfl (by kernel_rfl) trivial (fun ρ wc hbc hcn hk => ?_) ?_
      · obtain ⟨hcn, -⟩ := hcn
        simp at hk
        go_simp
        try rfl
      refine chain_val (u := ?_) [0] rfl (by kernel_rfl) trivial (fun ρ wc hbc hcn hk => ?_) ?_; rotate_left
      · obtain ⟨hcn, -⟩ := hcn
        simp at hk
        go_simp
        rfl
      refine chain_val (u := ?_) [8] rfl (by kernel_rfl) trivial (fun ρ wc hbc hcn hk => ?_) ?_; rotate_left
      · obtain ⟨hcn, -⟩ := hcn
        simp at hk
        go_simp
        rfl
      obtain ⟨gb, off, rfl, hcb⟩ := Hr2.out.at hkl
      have HCB := Lib.hid hcb
      clear hcb
      refine chain_val (u := .pointer (some ⟨gb, off + k, none⟩)) [39, 40] rfl (by kernel_rfl) trivial (fun ρ wc hbc hcn hk => ?_) ?_
      · obtain ⟨hcn, -⟩ := hcn
        simp at hk
        go_simp
        try rfl
      refine chain_val (u := .int .u8 (zat b k)) [41] rfl (by kernel_rfl) trivial (fun ρ wc hbc hcn hk => ?_) ?_
      · obtain ⟨hcn, -⟩ := hcn
        simp at hk
        have x1 := (und18 hbc).cell (p := ⟨gb, off + k, none⟩) (World.block_lt_of_cell? W2 ⟨gb, off + k, none⟩ (HCB.out k hkl))
        rw [HCB.out k hkl] at x1
        go_simp
        try rfl
      refine chain_val (u := ?_) [2] rfl (by kernel_rfl) trivial (fun ρ wc hbc hcn hk => ?_) ?_; rotate_left
      · obtain ⟨hcn, -⟩ := hcn
        simp at hk
        go_simp
        rfl
      refine chain_val (u := .bool (zat b k == x)) [42, 43] rfl (by kernel_rfl) trivial (fun ρ wc hbc hcn hk => ?_) ?_
      · obtain ⟨hcn, -⟩ := hcn
        simp at hk
        go_simp
        try rfl
      refine chain_val (u := .bool true) [38, 44] rfl (by kernel_rfl) trivial (fun ρ wc hbc hcn hk => ?_) ?_
      · obtain ⟨hcn, -⟩ := hcn
        simp at hk
        go_simp
        try rfl
      refine chain_val (u := ?_) [45] rfl (by kernel_rfl) trivial (fun ρ wc hbc hcn hk => ?_) ?_; rotate_left
      · obtain ⟨hcn, -⟩ := hcn
        simp at hk
        go_simp
        rfl
      refine chain_end_lit 46 (by kernel_rfl) (fun ff w7 hb7 hk => ?_)
      refine hKK _ _ ?_
      simp [AllN] at hk
      simp only [frameL, hk, Nat.zero_add, Nat.reduceAdd]
      have HB7 := Lib.hid (bel_on HB2.out (und18 hb7))
      clear hb7 hk
      go_wp2
      go_ret
      exact ⟨rfl, HB7.out⟩
    · have t2 : (1000 : Int) < (b.length : Int) := by omega
      go_wp2_with fail
      refine (awake18_any _).mono ?_
      rintro r w2 ⟨rfl, hb⟩
      have fr := Hr.out.below hb (Nat.le_refl _)
      have HB0 := Lib.hid (bel_on HB.out hb)
      clear hb Hr HB
      have HB := HB0
      clear HB0
      have Hr := Lib.hid fr
      clear fr
      go_wp2
      go_ret
      exact ⟨rfl, HB.out⟩
end Go.Proofs.Ytekcmifgdlmljaa
