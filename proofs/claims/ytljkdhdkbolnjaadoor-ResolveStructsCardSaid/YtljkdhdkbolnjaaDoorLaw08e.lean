/- A law of layer 8: ResolveStructs. -/
import Derived.Test.YtljkdhdkbolnjaaDoorAwake08
import Derived.Test.YtljkdhdkbolnjaaDoorMsgMix
import Derived.Test.YtljkdhdkbolnjaaDoorFarW
namespace Go.Proofs.YtljkdhdkbolnjaaDoor
open Go.ChangeShapes Go.WideShapes Go.ChangeAt Go.RowKit
set_option linter.unusedVariables false
set_option linter.unusedSimpArgs false

/-- the word of a struct pointer -/
def strW (g d p : Int) : Int := encE ⟨0, g, d, p, 0, 0, false, 0, 0, 0⟩
theorem strW_dec {g d p : Int} (h1 : 0 ≤ g) (h2 : g < 20) (h3 : 0 ≤ d) (h4 : d < 20) (h5 : 0 ≤ p) (h6 : p < 20) : decP (strW g d p) = ⟨0, g, d, p, 0, 0, false, 0, 0, 0⟩ :=
  decP_encE (.inl ⟨rfl, by show -536870912 ≤ g; omega, by show g ≤ 536870911; omega, h3, by show d ≤ 65535; omega, h5, by show p ≤ 65535; omega, rfl, rfl, rfl, rfl, rfl, rfl⟩)
theorem strW_ne {g d p : Int} (h1 : 0 ≤ g) (h2 : g < 20) (h3 : 0 ≤ d) (h4 : d < 20) (h5 : 0 ≤ p) (h6 : p < 20) (h7 : ¬ (d + p = 0 ∧ g = 0)) : strW g d p ≠ 0 := by
  intro h
  have h8 := strW_dec h1 h2 h3 h4 h5 h6
  rw [h] at h8
  have h9 : decP 0 = ⟨0, 0, 0, 0, 0, 0, false, 0, 0, 0⟩ := by kernel_rfl
  rw [h9] at h8
  injection h8 with _ a b c
  omega
theorem strW_mod {g d p : Int} (h1 : 0 ≤ g) (h2 : g < 20) (h3 : 0 ≤ d) (h4 : d < 20) (h5 : 0 ≤ p) (h6 : p < 20) : strW g d p % 4 = 0 := by
  have h8 := congrArg Ptr.k (strW_dec h1 h2 h3 h4 h5 h6)
  rw [decP_k _ (by unfold strW; exact (encE_bd _).1)] at h8
  exact h8
theorem obj_str (zs : List Int) (f : Nat) (g d p : Int) (hf : f < zs.length) (hz : zat zs f = strW g d p) (h1 : 0 ≤ g) (h2 : g < 20) (h3 : 0 ≤ d) (h4 : d < 20) (h5 : 0 ≤ p) (h6 : p < 20) (h7 : ¬ (d + p = 0 ∧ g = 0)) :
    objF [zs] 0 f = if (f : Int) + 1 + g + (d + p) ≤ zs.length then (⟨1, 0, f + 1 + g, d, p, 0, 0, d + p⟩, 0) else (ob0, 2) := by
  have hh : hasB [zs] 0 f = true := by
    unfold hasB
    rw [decide_eq_true_iff]
    show 0 ≤ (0 : Int) ∧ (0 : Int) < 1 ∧ 0 ≤ (f : Int) ∧ (f : Int) < (zs.length : Int)
    omega
  have hv : wordV [zs] 0 f = strW g d p := by
    unfold wordV
    rw [if_pos hh, Int.toNat_natCast]
    exact hz
  have hF : followF [zs] 0 f = ⟨strW g d p, 0, f + 1, 0⟩ := by
    unfold followF
    rw [hh, hv, if_neg (by simp), if_pos (by rw [strW_mod h1 h2 h3 h4 h5 h6]; decide)]
  unfold objF
  rw [hF]
  rw [if_neg (by have := strW_ne h1 h2 h3 h4 h5 h6 h7; simp [this])]
  simp only
  rw [strW_dec h1 h2 h3 h4 h5 h6]
  unfold objP
  rw [if_neg (by show ¬ (0 : Int) = 3; decide), if_pos rfl]
  by_cases hl : (f : Int) + 1 + g + (d + p) ≤ zs.length
  · rw [if_pos hl, if_pos (inB_iff.2 ⟨by omega, by simp, by show 0 ≤ (f : Int) + 1 + g; omega, by show 0 ≤ d + p; omega, by show (f : Int) + 1 + g + (d + p) ≤ (zs.length : Int); omega⟩)]
  · rw [if_neg hl, if_neg (fun h => by have h := inB_iff.1 h; exact hl h.2.2.2.2)]

attribute [local irreducible] objF fewB ptrO inB wordsI strW encE
theorem word8Str (g d p : Int) (w : World) :
    Calls Tryd.prog 17 #[.agg #[.int .i64 0, .int .i64 g, .int .i64 d, .int .i64 p, .int .i64 0, .int .i64 0, .bool false, .int .i64 0, .int .u32 0, .int .u32 0]] w fun e w' => e = .returned (.int .u64 (strW g d p)) ∧ Below w.heap.size w w' := by
  unfold strW
  exact word8_any 0 g d p 0 0 0 0 0 false w (by decide) (by decide) (by decide)

set_option maxHeartbeats 4000000 in
set_option maxRecDepth 100000 in
theorem Str8_walk (f g d p f' g' d' p' : Int) (w : World) (hT : TabOK w) (f0 : 0 ≤ f') (f1 : f' < 256) (g0 : 0 ≤ g') (g1 : g' < 256) (d0 : 0 ≤ d') (d1 : d' < 256) (p0 : 0 ≤ p') (p1 : p' < 256) (hf : f' % 20 = f) (hg : g' % 20 = g) (hd : d' % 20 = d) (hp : p' % 20 = p) :
    Calls Tryd.prog 5 #[.int .u8 f', .int .u8 g', .int .u8 d', .int .u8 p'] w fun e w' => e = .returned (.bool true) ∧ Below w.heap.size w w' := by
  have HT := Lib.hid hT
  clear hT
  obtain ⟨i0, hi, hz0, hz1, hz2⟩ := info_parts int64_info
  have bf : 0 ≤ f ∧ f < 20 := by omega
  have bg : 0 ≤ g ∧ g < 20 := by omega
  have bd : 0 ≤ d ∧ d < 20 := by omega
  have bp : 0 ≤ p ∧ p < 20 := by omega
  go_enter Tryd.func5, Tryd.ntmps5
  go_wp2_with fail
  refine (awake8_any _ HT.out).mono ?_
  rintro e w1 ⟨rfl, hw1⟩
  have HB1 := Lib.hid hw1
  have hz1' := hw1.size
  clear hw1
  have hNN : f + 1 + g + (d + p) = ((f + 1 + g + (d + p)).toNat : Int) := by omega
  have HNN := Lib.hid hNN
  have HNB : Hid ((f + 1 + g + (d + p)).toNat ≤ 80) := Lib.hid (by omega)
  clear hNN
  go_wp2_with (at_make; refine wpList_make_full _ rfl _ _ 38 rfl w.heap.size 39 i0 (.int .u64 0) 1 Tryd.underlying38 hi hz0 hz1 .i64 .i64 _ _ ((f + 1 + g + (d + p)).toNat) rfl rfl HNN.out HNN.out (by rw [hz2]; have := HNB.out; omega) (by unfold maxLen; have := HNB.out; omega) hz1' ?_; intro w2 hown2 hgrow2)
  have hb2 : Below w.heap.size w w2 := HB1.out.grown hgrow2 (Nat.le_trans hz1' (Nat.le_refl _)) (by simp)
  have hg2 := got_made hown2
  clear hown2 hgrow2
  generalize (f + 1 + g + (d + p)).toNat = N at *
  have HG2 := Lib.hid hg2
  have HB2 := Lib.hid hb2
  clear hg2 hb2 HB1
  refine (word8Str g d p _).mono ?_
  rintro e w3 ⟨rfl, hb3⟩
  have HB3 := Lib.hid (bel_on HB2.out hb3)
  have HG3 := Lib.hid (HG2.out.below hb3 (Nat.le_refl _))
  have hz3 : w1.heap.size < w3.heap.size := (HG3.out.lt w1.heap.size rfl).2
  clear hb3 HB2 HG2
  have hfN : f < (N : Int) := by have := HNN.out; omega
  have hgr := HG3.out.cast (congrArg (fun n => Value.slice (some ⟨w1.heap.size, 0, none⟩) n N) (List.length_replicate (n := N) (a := (0 : Int))).symm) rfl
  have hcell := hgr.cell f.toNat (by rw [List.length_replicate]; omega)
  have hfree := hgr.free f.toNat
  have hput := hgr.put f.toNat (strW g d p)
  obtain ⟨zs, hzs⟩ : ∃ zs, (List.replicate N (0 : Int)).set f.toNat (strW g d p) = zs := ⟨_, rfl⟩
  have HZL : Hid (zs.length = N) := Lib.hid (by rw [← hzs]; simp)
  have HZF : Hid (zat zs f.toNat = strW g d p) := Lib.hid (by rw [← hzs]; unfold zat; rw [List.getD_eq_getElem?_getD, List.getElem?_set_self (by rw [List.length_replicate]; omega)]; rfl)
  have HZW : Hid (Wds zs) := Lib.hid (by
    rw [← hzs]
    intro z hz
    rcases List.mem_or_eq_of_mem_set hz with h | h
    · have := (List.mem_replicate.1 h).2; omega
    · rw [h]; unfold strW; exact encE_bd _)
  have HG4 : Hid (Got (w3.setCell ⟨w1.heap.size, f.toNat, none⟩ (.int .u64 (strW g d p))) w.heap.size 39 .u64 (.slice (some ⟨w1.heap.size, 0, none⟩) N N) zs) := Lib.hid (hput.cast (by rw [List.length_replicate]) hzs)
  have HB4 : Hid (Below w.heap.size w (w3.setCell ⟨w1.heap.size, f.toNat, none⟩ (.int .u64 (strW g d p)))) := Lib.hid (HB3.out.setCell hz1' _)
  clear hgr hput hzs HG3 HB3
  by_cases hz : d + p = 0 ∧ g = 0
  · have t1 : (d + p == 0) = true := by simpa using hz.1
    have t2 : (g == 0) = true := by simpa using hz.2
    clear hz
    go_wp2
    go_ret
    exact ⟨rfl, HB4.out⟩
  have HO1 : Hid (objF [zs] 0 f = (⟨1, 0, f + 1 + g, d, p, 0, 0, d + p⟩, 0)) := Lib.hid (by
    have h := obj_str zs f.toNat g d p (by rw [HZL.out]; omega) HZF.out bg.1 bg.2 bd.1 bd.2 bp.1 bp.2 hz
    rw [Int.toNat_of_nonneg bf.1, if_pos (by rw [HZL.out]; have := HNN.out; omega)] at h
    exact h)
  have HO2 : Hid (objF [zs.take (N - 1)] 0 f = (⟨0, 0, 0, 0, 0, 0, 0, 0⟩, 2)) := Lib.hid (by
    have h := obj_str (zs.take (N - 1)) f.toNat g d p (by rw [List.length_take, HZL.out]; have := HNN.out; omega) (by rw [zat_take _ _ _ (by have := HNN.out; omega)]; exact HZF.out) bg.1 bg.2 bd.1 bd.2 bp.1 bp.2 hz
    rw [Int.toNat_of_nonneg bf.1, if_neg (by rw [List.length_take, HZL.out]; have := HNN.out; omega)] at h
    exact h)
  have hor : ((d + p == 0) = false) ∨ ((d + p == 0) = true ∧ (g == 0) = false) := by
    by_cases h1 : d + p = 0
    · right; exact ⟨by simpa using h1, by simp; omega⟩
    · left; simpa using h1
  clear hz
  have hfit1 : ∀ (l : List Int), l.length ≤ 80 → ∀ j, (seg [l] j).length ≤ 140737488355328 := by
    intro l hl j
    match j with
    | 0 => show l.length ≤ _; omega
    | n + 1 => rw [seg_out (by simp)]; simp
  have HF1 : Hid (∀ j, (seg [zs] j).length ≤ 140737488355328) := Lib.hid (hfit1 zs (by rw [HZL.out]; exact HNB.out))
  have HF2 : Hid (∀ j, (seg [zs.take (N - 1)] j).length ≤ 140737488355328) := Lib.hid (hfit1 _ (by rw [List.length_take, HZL.out]; have := HNB.out; omega))
  have HW1 : Hid (Wd2 [zs]) := Lib.hid (by intro l hl; simp at hl; subst hl; exact HZW.out)
  have HW2 : Hid (Wd2 [zs.take (N - 1)]) := Lib.hid (by intro l hl; simp at hl; subst hl; exact fun z hz => HZW.out z (List.mem_of_mem_take hz))
  have HN1 : Hid (1 ≤ N) := Lib.hid (by have := HNN.out; omega)
  clear hfit1
  rcases hor with t1 | ⟨t1, t2⟩ <;>
  ( go_wp2_with fail
    have HH4 := Lib.hid HG4.out.holds
    generalize hW4 : w3.setCell ⟨w1.heap.size, f.toNat, none⟩ (.int .u64 (strW g d p)) = W4 at *
    have hs4 : w3.heap.size = W4.heap.size := by rw [← hW4]; simp [World.setCell]
    rw [hs4]
    refine (RObject_at _ _ 1 [zs] 0 f 1 0 (f + 1 + g) d p 0 0 (d + p) 0 _ ((HT.out.on HB4.out).alloc _) rfl (sg_lit1 _ _ zs _ _ rfl HH4.out) HW1.out (by simp) HF1.out (by omega) (by omega) (by omega) (by omega) HO1.out).mono ?_
    rintro e w5 ⟨rfl, hb5⟩
    have HB5 := Lib.hid (bel_on (HB4.out.alloc HB4.out.size _) hb5)
    have HG5 := Lib.hid ((HG4.out.below ((Below.refl _ _).alloc (Nat.le_refl _) _) (Nat.le_refl _)).below hb5 (Nat.le_refl _))
    clear hb5 HB4 HG4 HH4 hcell hfree hs4 hW4
    have hnn1 := HN1.out
    have hnn2 := HNB.out
    go_wp2_with fail
    clear hnn1 hnn2
    have HH5 : Hid (Holds (w5.alloc (.cells #[.int .i64 1, .int .i64 0, .int .i64 (f + 1 + g), .int .i64 d, .int .i64 p, .int .i64 0, .int .i64 0, .int .i64 (d + p)] 27)) (.slice (some ⟨w1.heap.size, 0, none⟩) (N - 1) N) (zs.take (N - 1))) := Lib.hid (by
      have hr := ((HG5.out.ri).1.alloc (.cells #[.int .i64 1, .int .i64 0, .int .i64 (f + 1 + g), .int .i64 d, .int .i64 p, .int .i64 0, .int .i64 0, .int .i64 (d + p)] 27)).take (N - 1)
      have hl : (zs.take (N - 1)).length = N - 1 := by rw [List.length_take, HZL.out]; omega
      exact ⟨_, _, by rw [hl], hr, fun h => by simp at h, by rw [hl]; omega, by unfold maxLen; have := HNB.out; omega⟩)
    refine (RObject_at _ _ 1 [zs.take (N - 1)] 0 f 0 0 0 0 0 0 0 0 2 _ (((HT.out.on HB5.out).alloc _).alloc _) rfl (sg_lit1 _ _ (zs.take (N - 1)) _ _ (by simp) HH5.out) HW2.out (by simp) HF2.out (by omega) (by omega) (by omega) (by omega) HO2.out).mono ?_
    rintro e w6 ⟨rfl, hb6⟩
    have B13 := ((Blk.fresh w5 _ _).alloc _).below hb6
    have HB6 := Lib.hid (bel_on ((HB5.out.alloc HB5.out.size _).alloc (by have := HB5.out.size; simp; omega) _) hb6)
    clear hb6 HB5 HG5
    obtain ⟨x13, y13, z13⟩ := B13
    go_wp2
    go_ret
    exact ⟨rfl, HB6.out.alloc HB6.out.size _⟩)
end Go.Proofs.YtljkdhdkbolnjaaDoor
